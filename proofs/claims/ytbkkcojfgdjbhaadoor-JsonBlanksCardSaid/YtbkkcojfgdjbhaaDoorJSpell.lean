/- A text each of whose bytes below 128 is spelled: plain. -/
import Derived.Test.YtbkkcojfgdjbhaaDoorJBackT
import Derived.Test.YtbkkcojfgdjbhaaDoorJNumP
import Derived.Test.YtbkkcojfgdjbhaaDoorJWrite
namespace Go.Proofs.YtbkkcojfgdjbhaaDoor

def upD (n : Nat) : UInt8 := if n < 10 then (48 + n).toUInt8 else (55 + n).toUInt8
/-- A byte, spelled. -/
def spW (c : UInt8) : Bs := if c.toNat < 128 then [92, 117, 48, 48, (48 + c.toNat / 16).toUInt8, upD (c.toNat % 16)] else [c]
theorem hexV_up (n : Nat) (h : n < 16) : hexV (upD n) = some n := by
  have : ∀ m : Fin 16, hexV (upD m.val) = some m.val := by decide
  exact this ⟨n, h⟩
theorem hexV_lo (n : Nat) (h : n < 8) : hexV (48 + n).toUInt8 = some n := by
  have : ∀ m : Fin 8, hexV (48 + m.val).toUInt8 = some m.val := by decide
  exact this ⟨n, h⟩
theorem sign_sp (c : UInt8) (h : c.toNat < 128) (r : Bs) : signN (spW c ++ r) = some ((c.toNat : Int), r) ∧ (spW c ++ r).head? ≠ some 34 := by
  unfold spW
  rw [if_pos h]
  refine ⟨?_, by simp⟩
  have e : signN ([92, 117, 48, 48, (48 + c.toNat / 16).toUInt8, upD (c.toNat % 16)] ++ r) = cpN (48 :: 48 :: (48 + c.toNat / 16).toUInt8 :: upD (c.toNat % 16) :: r) := rfl
  rw [e]
  have e4 : fourN (48 :: 48 :: (48 + c.toNat / 16).toUInt8 :: upD (c.toNat % 16) :: r) = some (c.toNat, r) := by
    simp only [fourN, hexV_lo (c.toNat / 16) (by omega), hexV_up (c.toNat % 16) (by omega), show hexV 48 = some 0 from rfl]
    show some (0 * 4096 + 0 * 256 + c.toNat / 16 * 16 + c.toNat % 16, r) = _
    congr 2
    omega
  unfold cpN
  rw [e4]
  simp only
  rw [if_pos (by omega)]
theorem spW_high (c : UInt8) (h : 128 ≤ c.toNat) : spW c = [c] := by unfold spW; rw [if_neg (by omega)]
theorem sp_ge (s : Bs) : s.length ≤ (s.flatMap spW).length ∧ (s.flatMap spW).length ≤ 6 * s.length := by
  induction s with
  | nil => simp
  | cons c s ih =>
    have : 1 ≤ (spW c).length ∧ (spW c).length ≤ 6 := by unfold spW; split <;> simp
    rw [List.flatMap_cons, List.length_append, List.length_cons]; omega
/-- What is read of it. -/
theorem read_spelled (s : Bs) (h : textOk s = true) : readN ([34] ++ s.flatMap spW ++ [34]) = (.mk 4 0 s [] [], 0) := by
  have e : [34] ++ s.flatMap spW ++ [34] = 34 :: (s.flatMap spW ++ 34 :: []) := by simp
  have hl := textOk_len h
  have hg := sp_ge s
  have ht : textN (34 :: (s.flatMap spW ++ 34 :: [])) = .ok s [] := by
    unfold textN
    simp only
    rw [if_pos trivial, tx_gen spW sign_sp spW_high s.length s [] [] (Nat.le_refl _) (textOk_valid h) _ (by rw [List.length_append]; omega)]
    simp only [List.nil_append]
    rw [if_neg (by omega)]
  unfold readN
  rw [e, skip_not 34 _ (by decide), val_step 6 34 _ 0 (by omega), if_pos rfl]
  unfold textV
  rw [ht]
  rfl
theorem sp_snoc (s : Bs) (k : Nat) (c : UInt8) (h : s[k]? = some c) : (s.take (k + 1)).flatMap spW = (s.take k).flatMap spW ++ spW c := by
  rw [List.take_add_one, h, List.flatMap_append]; simp
theorem text_right (s : Bs) : rightN (.mk 4 0 s [] []) = textOk s := by
  unfold rightN
  rw [fitN_leaf (by simp) (by simp [formB]) (by decide)]
  cases textOk s <;> rfl
end Go.Proofs.YtbkkcojfgdjbhaaDoor
