/- The number of a text: the walk. -/
import Derived.Test.YtcljijcggnfemaaDoorWSplit
namespace Go.Proofs.YtcljijcggnfemaaDoor
open Go.ChangeShapes Go.WideShapes Go.RowKit

def numG : Nat → Bs → Option Nat
  | acc, [] => some acc
  | acc, c :: r => if 48 ≤ c.toNat ∧ c.toNat ≤ 57 then numG (acc * 10 + (c.toNat - 48)) r else none
/-- The number of a text, if it is one. -/
def numW (l : Bs) : Option Nat := if l = [] ∨ 9 < l.length ∨ (l.head? = some 48 ∧ l ≠ [48]) then none else numG 0 l
def numT (o : Option Nat) : Value := match o with
  | some n => .tuple #[.int .i64 (n : Int), .int .i64 0]
  | none => .tuple #[.int .i64 0, .int .i64 2]
theorem numG_lt (k n : Nat) (h : n < 10 ^ k) (c : Nat) (hc : c ≤ 9) : n * 10 + c < 10 ^ (k + 1) := by rw [Nat.pow_succ]; omega
set_option maxHeartbeats 3200000 in
theorem number_good (c0 : UInt8) (r : Bs) (w : World) (hl : (c0 :: r).length ≤ 9) (hz : ¬ (c0.toNat = 48 ∧ r ≠ [])) : Calls Tryd.prog 11 #[.string ⟨(c0 :: r).toArray⟩] w fun e w' => e = .returned (numT (numG 0 (c0 :: r))) ∧ w' = w := by
  have hfull := full_text c0 r
  have h0 := at_text (c0 :: r) 0 c0 rfl 0 rfl
  have hsz : (⟨(c0 :: r).toArray⟩ : ByteArray).size = (c0 :: r).length := by simp [ByteArray.size]
  have ht : ∀ (k : Nat) (c : UInt8), (c0 :: r)[k]? = some c → ∀ i : Int, i = (k : Int) → ∀ w : World, (Instr.index 9 (.string ⟨(c0 :: r).toArray⟩) (.int .i64 i)).run Tryd.prog w = .ok (.int .u8 (c.toNat : Int)) w := fun k c h i hi w => at_text _ k c h i hi w
  have h48 : c0.toNat = 48 → (⟨(c0 :: r).toArray⟩ : ByteArray).toList = [48] := fun h => by
    rw [text_list]
    have : c0 = 48 := by apply UInt8.toNat_inj.1; exact h
    rw [this]
    by_cases hr : r = []
    · rw [hr]
    · exact absurd ⟨h, hr⟩ hz
  obtain ⟨l, hL⟩ : ∃ l, l = c0 :: r := ⟨_, rfl⟩
  rw [← hL] at hl ht hsz hfull h0 h48
  rw [← hL]
  clear hL hz
  generalize hX : (⟨l.toArray⟩ : ByteArray) = X at *
  clear hX
  by_cases hc : c0.toNat = 48
  · have hs := h48 hc
    have hci : (c0.toNat : Int) = 48 := by omega
    rw [hci] at h0
    clear h48
    go_enter Tryd.func11, Tryd.ntmps11
    go_upto_region 3 with fail
    go_upto_region 4 with fail
    go_upto_region 5 with fail
    go_loopw [4, 24] (fun v i wr => ∃ (k n : Nat), k ≤ l.length ∧ i = .int .i64 (k : Int) ∧ v = .int .i64 (n : Int) ∧ n < 10 ^ k ∧ numG 0 l = numG n (l.drop k) ∧ wr = w) (fun _ i _ => l.length - (intOf i).toNat)
    case atStart => exact ⟨0, 0, by omega, rfl, rfl, by omega, rfl, rfl⟩
    case round =>
      obtain ⟨k, n, hk, rfl, rfl, hn, hg, rfl⟩ := hrel
      have HG : Unit → numG 0 l = numG n (l.drop k) := fun _ => hg
      have hnb : (n : Int) < 1000000000 := by
        have : 10 ^ k ≤ 10 ^ 9 := Nat.pow_le_pow_right (by omega) (by omega)
        omega
      have HN : Unit → n < 10 ^ k := fun _ => hn
      clear hg hn
      by_cases hlt : k < l.length
      · obtain ⟨c, hc'⟩ : ∃ c, l[k]? = some c := ⟨_, List.getElem?_eq_getElem hlt⟩
        have hix := ht k c hc' (k : Int) rfl
        have hd : l.drop k = c :: l.drop (k + 1) := by
          rw [List.drop_eq_getElem_cons hlt]
          have : l[k] = c := by rw [List.getElem?_eq_getElem hlt] at hc'; simpa using hc'
          rw [this]
        have h256 := c.toNat_lt
        rcases (show c.toNat < 48 ∨ 57 < c.toNat ∨ (48 ≤ c.toNat ∧ c.toNat ≤ 57) by omega) with h1 | h1 | h1
        · have e : numG 0 l = none := by rw [HG (), hd, numG, if_neg (by omega)]
          rw [e]
          have i1 : (c.toNat : Int) < 48 := by omega
          clear HG HN ht
          go_wp2_with fail
          go_ret2
          exact ⟨by first | rfl | (rw [e]; rfl), rfl⟩
        · have e : numG 0 l = none := by rw [HG (), hd, numG, if_neg (by omega)]
          rw [e]
          have i1 : (57 : Int) < (c.toNat : Int) := by omega
          have i2 : ¬ (c.toNat : Int) < 48 := by omega
          clear HG HN ht
          go_wp2_with fail
          go_ret2
          exact ⟨by first | rfl | (rw [e]; rfl), rfl⟩
        · have e : numG 0 l = numG (n * 10 + (c.toNat - 48)) (l.drop (k + 1)) := by rw [HG (), hd, numG, if_pos h1]
          have i1 : ¬ (57 : Int) < (c.toNat : Int) := by omega
          have i2 : ¬ (c.toNat : Int) < 48 := by omega
          have hN' := numG_lt k n (HN ()) (c.toNat - 48) (by omega)
          clear HG HN
          go_wp2_with fail
          go_roundw
          case rel => exact ⟨k + 1, n * 10 + (c.toNat - 48), by omega, by simp, by congr 1; omega, hN', e, by first | trivial | rfl⟩
          case measure => simp [intOf]; omega
      · have e : numG 0 l = some n := by rw [HG (), List.drop_eq_nil_of_le (by omega)]; rfl
        rw [e]
        clear HG HN ht
        go_wp2_with fail
        go_ret2
        exact ⟨by first | rfl | (rw [e]; rfl), rfl⟩
  · have hci : ((c0.toNat : Int) == 48) = false := by rw [beq_eq_false_iff_ne]; omega
    clear h48
    go_enter Tryd.func11, Tryd.ntmps11
    go_upto_region 3 with fail
    go_upto_region 4 with fail
    go_upto_region 5 with fail
    go_loopw [4, 24] (fun v i wr => ∃ (k n : Nat), k ≤ l.length ∧ i = .int .i64 (k : Int) ∧ v = .int .i64 (n : Int) ∧ n < 10 ^ k ∧ numG 0 l = numG n (l.drop k) ∧ wr = w) (fun _ i _ => l.length - (intOf i).toNat)
    case atStart => exact ⟨0, 0, by omega, rfl, rfl, by omega, rfl, rfl⟩
    case round =>
      obtain ⟨k, n, hk, rfl, rfl, hn, hg, rfl⟩ := hrel
      have HG : Unit → numG 0 l = numG n (l.drop k) := fun _ => hg
      have hnb : (n : Int) < 1000000000 := by
        have : 10 ^ k ≤ 10 ^ 9 := Nat.pow_le_pow_right (by omega) (by omega)
        omega
      have HN : Unit → n < 10 ^ k := fun _ => hn
      clear hg hn
      by_cases hlt : k < l.length
      · obtain ⟨c, hc'⟩ : ∃ c, l[k]? = some c := ⟨_, List.getElem?_eq_getElem hlt⟩
        have hix := ht k c hc' (k : Int) rfl
        have hd : l.drop k = c :: l.drop (k + 1) := by
          rw [List.drop_eq_getElem_cons hlt]
          have : l[k] = c := by rw [List.getElem?_eq_getElem hlt] at hc'; simpa using hc'
          rw [this]
        have h256 := c.toNat_lt
        rcases (show c.toNat < 48 ∨ 57 < c.toNat ∨ (48 ≤ c.toNat ∧ c.toNat ≤ 57) by omega) with h1 | h1 | h1
        · have e : numG 0 l = none := by rw [HG (), hd, numG, if_neg (by omega)]
          rw [e]
          have i1 : (c.toNat : Int) < 48 := by omega
          clear HG HN ht
          go_wp2_with fail
          go_ret2
          exact ⟨by first | rfl | (rw [e]; rfl), rfl⟩
        · have e : numG 0 l = none := by rw [HG (), hd, numG, if_neg (by omega)]
          rw [e]
          have i1 : (57 : Int) < (c.toNat : Int) := by omega
          have i2 : ¬ (c.toNat : Int) < 48 := by omega
          clear HG HN ht
          go_wp2_with fail
          go_ret2
          exact ⟨by first | rfl | (rw [e]; rfl), rfl⟩
        · have e : numG 0 l = numG (n * 10 + (c.toNat - 48)) (l.drop (k + 1)) := by rw [HG (), hd, numG, if_pos h1]
          have i1 : ¬ (57 : Int) < (c.toNat : Int) := by omega
          have i2 : ¬ (c.toNat : Int) < 48 := by omega
          have hN' := numG_lt k n (HN ()) (c.toNat - 48) (by omega)
          clear HG HN
          go_wp2_with fail
          go_roundw
          case rel => exact ⟨k + 1, n * 10 + (c.toNat - 48), by omega, by simp, by congr 1; omega, hN', e, by first | trivial | rfl⟩
          case measure => simp [intOf]; omega
      · have e : numG 0 l = some n := by rw [HG (), List.drop_eq_nil_of_le (by omega)]; rfl
        rw [e]
        clear HG HN ht
        go_wp2_with fail
        go_ret2
        exact ⟨by first | rfl | (rw [e]; rfl), rfl⟩
theorem number_any (l : Bs) (w : World) (hl : l.length ≤ 1000000) : Calls Tryd.prog 11 #[.string ⟨l.toArray⟩] w fun e w' => e = .returned (numT (numW l)) ∧ w' = w := by
  cases l with
  | nil => 
    have he := null_text
    have hn : numW [] = none := rfl
    rw [hn]
    generalize hX : (⟨([] : Bs).toArray⟩ : ByteArray) = X at *
    clear hX
    go_enter Tryd.func11, Tryd.ntmps11
    go_wp2_with fail
    go_ret2
    exact ⟨rfl, rfl⟩
  | cons c0 r =>
    by_cases h9 : 9 < (c0 :: r).length
    · have hn : numW (c0 :: r) = none := by unfold numW; rw [if_pos (.inr (.inl h9))]
      rw [hn]
      have hfull := full_text c0 r
      have hsz : (⟨(c0 :: r).toArray⟩ : ByteArray).size = (c0 :: r).length := by simp [ByteArray.size]
      have hbig : (9 : Int) < ((c0 :: r).length : Int) := by omega
      have hle : ((c0 :: r).length : Int) ≤ 1000000 := by omega
      generalize (c0 :: r).length = L at *
      generalize hX : (⟨(c0 :: r).toArray⟩ : ByteArray) = X at *
      clear hX
      go_enter Tryd.func11, Tryd.ntmps11
      go_wp2_with fail
      go_ret2
      exact ⟨rfl, rfl⟩
    · by_cases hz : c0.toNat = 48 ∧ r ≠ []
      · have h48 : c0 = 48 := by apply UInt8.toNat_inj.1; exact hz.1
        have hn : numW (c0 :: r) = none := by
          unfold numW
          exact if_pos (.inr (.inr ⟨by rw [h48]; rfl, fun e => hz.2 (by simp at e; exact e.2)⟩))
        rw [hn]
        have hfull := full_text c0 r
        have h0 := at_text (c0 :: r) 0 c0 rfl 0 rfl
        rw [show (c0.toNat : Int) = 48 by omega] at h0
        have hne : ((⟨(c0 :: r).toArray⟩ : ByteArray).toList == [48]) = false := by
          rw [text_list, beq_eq_false_iff_ne]
          intro e; simp at e; exact hz.2 e.2
        have hsz : (⟨(c0 :: r).toArray⟩ : ByteArray).size = (c0 :: r).length := by simp [ByteArray.size]
        have hle : ((c0 :: r).length : Int) ≤ 9 := by omega
        generalize (c0 :: r).length = L at *
        generalize hX : (⟨(c0 :: r).toArray⟩ : ByteArray) = X at *
        clear hX
        go_enter Tryd.func11, Tryd.ntmps11
        go_wp2_with fail
        go_ret2
        exact ⟨rfl, rfl⟩
      · have hn : numW (c0 :: r) = numG 0 (c0 :: r) := by
          unfold numW
          rw [if_neg]
          rintro (e | e | ⟨e1, e2⟩)
          · cases e
          · exact h9 e
          · simp at e1
            refine hz ⟨by rw [e1]; rfl, fun e => e2 (by rw [e1, e])⟩
        rw [hn]
        exact number_good c0 r w (by omega) hz
end Go.Proofs.YtcljijcggnfemaaDoor
