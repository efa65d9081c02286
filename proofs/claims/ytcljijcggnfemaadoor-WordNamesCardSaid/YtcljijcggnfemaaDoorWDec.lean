/- Numbers as digits, as plain functions. -/
import Derived.Test.YtcljijcggnfemaaDoorWLives
namespace Go.Proofs.YtcljijcggnfemaaDoor

def d8 (k : Nat) : UInt8 := (48 + k).toUInt8
def dec (k : Nat) : Bs := if _h : k < 10 then [d8 k] else dec (k / 10) ++ [d8 (k % 10)]
termination_by k
theorem dec_small {k : Nat} (h : k < 10) : dec k = [d8 k] := by rw [dec, dif_pos h]
theorem dec_big {k : Nat} (h : ¬ k < 10) : dec k = dec (k / 10) ++ [d8 (k % 10)] := by rw [dec, dif_neg h]
theorem d8_nat {k : Nat} (h : k < 10) : (d8 k).toNat = 48 + k := by
  unfold d8
  simp only [Nat.toUInt8_eq, UInt8.toNat_ofNat']
  omega
theorem dec_ne (k : Nat) : dec k ≠ [] := by
  by_cases h : k < 10
  · rw [dec_small h]; simp
  · rw [dec_big h]; simp
theorem numG_snoc (l : Bs) (a : Nat) (c : UInt8) : numG a (l ++ [c]) = match numG a l with
    | none => none
    | some x => if 48 ≤ c.toNat ∧ c.toNat ≤ 57 then some (x * 10 + (c.toNat - 48)) else none := by
  induction l generalizing a with
  | nil => simp only [List.nil_append, numG]
  | cons b l ih =>
    simp only [List.cons_append, numG]
    split
    · exact ih _
    · rfl
theorem numG_dec (n : Nat) : numG 0 (dec n) = some n := by
  induction n using Nat.strongRecOn with
  | ind n ih =>
    by_cases h : n < 10
    · rw [dec_small h, numG, if_pos (by rw [d8_nat h]; omega), d8_nat h, numG]
      congr 1; omega
    · rw [dec_big h, numG_snoc, ih (n / 10) (by omega)]
      simp only
      rw [d8_nat (by omega), if_pos (by omega)]
      congr 1; omega
theorem dec_len (k n : Nat) (h : n < 10 ^ (k + 1)) : (dec n).length ≤ k + 1 := by
  induction k generalizing n with
  | zero => rw [dec_small (by simpa using h)]; simp
  | succ k ih =>
    by_cases h1 : n < 10
    · rw [dec_small h1]; simp
    · have := ih (n / 10) (by rw [Nat.pow_succ] at h; omega)
      rw [dec_big h1, List.length_append]; simp; omega
theorem dec_head (n : Nat) (h : 0 < n) : (dec n).head? ≠ some 48 := by
  induction n using Nat.strongRecOn with
  | ind n ih =>
    by_cases h1 : n < 10
    · rw [dec_small h1]
      intro e
      simp at e
      have h2 := d8_nat h1
      rw [e] at h2
      have h3 : (48 : UInt8).toNat = 48 := rfl
      omega
    · have h2 := ih (n / 10) (by omega) (by omega)
      rw [dec_big h1, List.head?_append]
      intro e
      cases hd : (dec (n / 10)).head? with
      | none =>
        have := dec_ne (n / 10)
        cases hq : dec (n / 10) with
        | nil => exact this hq
        | cons a l => rw [hq] at hd; cases hd
      | some x => rw [hd] at e h2; simp at e; rw [e] at h2; exact h2 rfl
theorem numW_dec (n : Nat) (h : n < 1000000000) : numW (dec n) = some n := by
  unfold numW
  rw [if_neg, numG_dec]
  rintro (e | e | ⟨e1, e2⟩)
  · exact dec_ne n e
  · have := dec_len 8 n (by simpa using h); omega
  · by_cases h0 : n = 0
    · subst h0
      apply e2
      rw [dec_small (by omega)]; rfl
    · exact dec_head n (by omega) e1
theorem numW_none {l : Bs} (h : numG 0 l = none) : numW l = none := by unfold numW; split; rfl; exact h
/-- What is no number. -/
theorem odd_none (s : Bs) (hs : s ≠ []) : ∀ x ∈ [48 :: s, 45 :: s, s ++ [32], s ++ [120], [49, 48, 48, 48, 48, 48, 48, 48, 48, 48] ++ s, []], numW x = none := by
  intro x hx
  simp only [List.mem_cons, List.not_mem_nil, or_false] at hx
  rcases hx with rfl | rfl | rfl | rfl | rfl | rfl
  · unfold numW
    refine if_pos (.inr (.inr ⟨rfl, fun e => hs ?_⟩))
    simpa using e
  · exact numW_none (by rw [numG, if_neg (by decide)])
  · refine numW_none ?_
    rw [numG_snoc]
    cases numG 0 s <;> rfl
  · refine numW_none ?_
    rw [numG_snoc]
    cases numG 0 s <;> rfl
  · unfold numW
    refine if_pos (.inr (.inl ?_))
    rw [List.length_append]; simp; omega
  · rfl
/-- The signs so far, and what is left. -/
def Dg (n k : Nat) (s : Bs) : Prop := dec n = if k = 0 ∧ s ≠ [] then s else dec k ++ s
theorem Dg.start (n : Nat) : Dg n n [] := by unfold Dg; rw [if_neg (by simp)]; simp
theorem Dg.step {n k : Nat} {s : Bs} (h : Dg n k s) (hk : 0 < k ∨ s = []) : Dg n (k / 10) (d8 (k % 10) :: s) := by
  unfold Dg at *
  rw [if_neg (by rintro ⟨h1, h2⟩; rcases hk with hk | hk; omega; exact h2 hk)] at h
  rw [h]
  by_cases h1 : k < 10
  · rw [if_pos ⟨by omega, by simp⟩, dec_small h1, Nat.mod_eq_of_lt h1]; rfl
  · rw [if_neg (by omega), dec_big h1, List.append_assoc]; rfl
theorem Dg.done {n : Nat} {s : Bs} (h : Dg n 0 s) (hs : s ≠ []) : s = dec n := by unfold Dg at h; rw [if_pos ⟨rfl, hs⟩] at h; exact h.symm
end Go.Proofs.YtcljijcggnfemaaDoor
