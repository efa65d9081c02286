/- The document's own digest, in plain numbers: the padding and the bytes of the words. -/
import Derived.Test.YtlhgpnkhfahlbaaDoorRRound
namespace Go.Proofs.YtlhgpnkhfahlbaaDoor
open Go.ChangeShapes Go.WideShapes Go.RowKit

/-- A number divided by 256 so often. -/
def dv (x : Nat) : Nat → Nat
  | 0 => x
  | j + 1 => dv x j / 256
theorem dv_le (x j : Nat) : dv x j ≤ x := by
  induction j with
  | zero => exact Nat.le_refl _
  | succ j ih => rw [dv]; omega
/-- The first k of eight bytes of a number, the highest first. -/
def ln8 (x : Nat) : Nat → List Nat
  | 0 => []
  | k + 1 => ln8 x k ++ [dv x (7 - k) % 256]
theorem ln8_len (x k : Nat) : (ln8 x k).length = k := by
  induction k with
  | zero => rfl
  | succ k ih => simp [ln8, ih]
theorem ln8_u (x k : Nat) : ∀ y ∈ ln8 x k, U8 y := by
  induction k with
  | zero => simp [ln8]
  | succ k ih =>
    intro y hy
    rcases List.mem_append.1 hy with h | h
    · exact ih y h
    · rw [List.mem_singleton.1 h]; exact Nat.mod_lt _ (by omega)
theorem ln8_all (x : Nat) : ln8 x 8 = [dv x 7 % 256, dv x 6 % 256, dv x 5 % 256, dv x 4 % 256, dv x 3 % 256, dv x 2 % 256, dv x 1 % 256, dv x 0 % 256] := rfl
theorem set_at {α : Type} (A B : List α) (n j : Nat) (h : A.length = n) (x : α) : (A ++ B).set (n + j) x = A ++ B.set j x := by
  subst h
  rw [List.set_append_right _ _ (by omega), Nat.add_sub_cancel_left]
theorem pad_eq (T : Nat) (hT : T ≤ 100000) : padL T = 128 :: zs (tlN T - 1) ++ ln8 (T * 8) 8 := by
  obtain ⟨n, hn⟩ : ∃ n, tlN T = n + 1 := ⟨tlN T - 1, by unfold tlN; omega⟩
  unfold padL
  rw [hn, Nat.add_sub_cancel]
  have e : (zs (n + 1 + 8)).set 0 128 = (128 :: zs n) ++ [0, 0, 0, 0, 0, 0, 0, 0] := by
    unfold zs
    rw [show n + 1 + 8 = (n + 8) + 1 by omega, List.replicate_succ, List.set_cons_zero, ← List.replicate_append_replicate]
    rfl
  rw [e]
  have hA : (128 :: zs n).length = n + 1 := by simp [zs]
  generalize 128 :: zs n = A at *
  unfold put4L
  simp only [show ∀ x : Nat, (A ++ [0, 0, 0, 0, 0, 0, 0, 0]).set (n + 1) x = A ++ [0, 0, 0, 0, 0, 0, 0, 0].set 0 x from fun x => set_at A _ (n + 1) 0 hA x, Nat.add_assoc (n + 1) 4, set_at A _ (n + 1) _ hA]
  rw [ln8_all]
  congr 1
  simp only [List.set_cons_zero, List.set_cons_succ, b0, b1, b2, b3, dv]
  simp only [List.cons.injEq, and_true]
  refine ⟨?_, ?_, ?_, ?_, ?_, ?_, ?_, ?_⟩ <;> omega
/-- The bytes of words, the first i of them. -/
def dgo (ws : List Nat) : Nat → List Nat
  | 0 => zs 32
  | i + 1 => (dgo ws i).set i (dv (ws[i / 4]?.getD 0) (3 - i % 4) % 256)
theorem dgo_len (ws : List Nat) (i : Nat) : (dgo ws i).length = 32 := by
  induction i with
  | zero => rfl
  | succ i ih => rw [dgo, List.length_set, ih]
theorem dgo_four (ws : List Nat) (uw : ∀ x ∈ ws, U32 x) (k : Nat) : dgo ws (4 * k) = dg ws k := by
  induction k with
  | zero => rfl
  | succ k ih =>
    have ux : (ws[k]?.getD 0) < 4294967296 := by
      cases hx : ws[k]? with
      | none => simp
      | some x => exact uw x (List.mem_of_getElem? hx)
    rw [show 4 * (k + 1) = 4 * k + 1 + 1 + 1 + 1 by omega, dgo, dgo, dgo, dgo, ih, dg]
    rw [show (4 * k) / 4 = k by omega, show (4 * k + 1) / 4 = k by omega, show (4 * k + 1 + 1) / 4 = k by omega, show (4 * k + 1 + 1 + 1) / 4 = k by omega,
      show (4 * k) % 4 = 0 by omega, show (4 * k + 1) % 4 = 1 by omega, show (4 * k + 1 + 1) % 4 = 2 by omega, show (4 * k + 1 + 1 + 1) % 4 = 3 by omega]
    generalize ws[k]?.getD 0 = x at *
    unfold put4L b0 b1 b2 b3
    simp only [dv]
    rw [show x / 256 / 256 / 256 % 256 = x / 16777216 by omega, show x / 256 / 256 % 256 = x / 65536 % 256 by omega]
    rfl
end Go.Proofs.YtlhgpnkhfahlbaaDoor
