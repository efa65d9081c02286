/- The lines of a text, as plain functions. -/
import Derived.Test.YtcljijcggnfemaaWGood
import Derived.Lib.IndexMore
import Derived.Lib.IndexBytes
namespace Go.Proofs.Ytcljijcggnfemaa

def cutC : Bs → Bs × Bs × Bool
  | [] => ([], [], false)
  | c :: r => if c = 10 then ([], r, true) else (c :: (cutC r).1, (cutC r).2.1, (cutC r).2.2)
theorem cut_hit (r : Bs) (c : UInt8) (h : c ≠ 10) (hi : 0 ≤ Lib.indexByte r 10) : Lib.indexByte (c :: r) 10 = Lib.indexByte r 10 + 1 := by
  rw [Lib.indexByte, if_neg (by simpa using h), if_neg (by simp; omega)]
theorem cut_miss (r : Bs) (c : UInt8) (h : c ≠ 10) (hi : ¬ 0 ≤ Lib.indexByte r 10) : Lib.indexByte (c :: r) 10 = -1 := by
  have := Lib.indexByte_ge r 10
  rw [Lib.indexByte, if_neg (by simpa using h), if_pos (by simp; omega)]
theorem cut_eq (l : Bs) : Lib.cut l [10] = cutC l := by
  induction l with
  | nil =>
    unfold Lib.cut
    rw [Lib.index_one]
    rfl
  | cons c r ih =>
    unfold Lib.cut at *
    rw [Lib.index_one] at *
    by_cases h : c = 10
    · subst h
      rw [show Lib.indexByte (10 :: r) 10 = 0 by simp [Lib.indexByte], if_pos (by decide), cutC, if_pos rfl]
      rfl
    · rw [cutC, if_neg h, ← ih]
      by_cases hi : 0 ≤ Lib.indexByte r 10
      · rw [cut_hit r c h hi, if_pos (by omega), if_pos hi, show (Lib.indexByte r 10 + 1).toNat = (Lib.indexByte r 10).toNat + 1 by omega]
        simp only [List.take_succ_cons]
        rw [show (Lib.indexByte r 10).toNat + 1 + [(10 : UInt8)].length = ((Lib.indexByte r 10).toNat + [(10 : UInt8)].length) + 1 by omega, List.drop_succ_cons]
      · rw [cut_miss r c h hi, if_neg (by omega), if_neg hi]
theorem cut_len (l : Bs) : (cutC l).2.1.length ≤ l.length := by
  induction l with
  | nil => exact Nat.le_refl _
  | cons c r ih =>
    rw [cutC]
    split
    · simp
    · simp only [List.length_cons]; omega
theorem cut_len1 (l : Bs) : (cutC l).1.length ≤ l.length := by
  induction l with
  | nil => exact Nat.le_refl _
  | cons c r ih =>
    rw [cutC]
    split
    · simp
    · simp only [List.length_cons]; omega
/-- The lines of a text. -/
def linesL : Bs → List Bs
  | [] => [[]]
  | c :: r => if c = 10 then [] :: linesL r else match linesL r with
    | [] => [[c]]
    | x :: xs => (c :: x) :: xs
theorem lines_ne (l : Bs) : linesL l ≠ [] := by
  cases l with
  | nil => simp [linesL]
  | cons c r =>
    rw [linesL]
    split
    · simp
    · split <;> simp
theorem lines_step {c : UInt8} {r x : Bs} {xs : List Bs} (hc : c ≠ 10) (h : linesL r = x :: xs) : linesL (c :: r) = (c :: x) :: xs := by
  rw [linesL, if_neg hc, h]
theorem lines_true (l : Bs) (h : (cutC l).2.2 = true) : linesL l = (cutC l).1 :: linesL (cutC l).2.1 ∧ (cutC l).2.1.length < l.length := by
  induction l with
  | nil => cases h
  | cons c r ih =>
    by_cases hc : c = 10
    · subst hc
      rw [cutC, if_pos rfl, linesL, if_pos rfl]
      exact ⟨rfl, by simp⟩
    · rw [cutC, if_neg hc] at h ⊢
      obtain ⟨h1, h2⟩ := ih h
      exact ⟨lines_step hc h1, by simp only [List.length_cons]; omega⟩
theorem lines_false (l : Bs) (h : (cutC l).2.2 = false) : linesL l = [(cutC l).1] := by
  induction l with
  | nil => rfl
  | cons c r ih =>
    by_cases hc : c = 10
    · subst hc
      rw [cutC, if_pos rfl] at h
      cases h
    · rw [cutC, if_neg hc] at h ⊢
      exact lines_step hc (ih h)
theorem lines_ten (r : Bs) : linesL (10 :: r) = [] :: linesL r := by rw [linesL, if_pos rfl]
theorem lines_append (a b : Bs) : linesL (a ++ 10 :: b) = linesL a ++ linesL b := by
  induction a with
  | nil => exact lines_ten b
  | cons c a ih =>
    by_cases hc : c = 10
    · subst hc
      rw [List.cons_append, lines_ten, ih, lines_ten]; rfl
    · cases hl : linesL a with
      | nil => exact absurd hl (lines_ne a)
      | cons x xs =>
        rw [hl] at ih
        rw [List.cons_append, lines_step hc ih, lines_step hc hl]; rfl
theorem lines_len (l : Bs) : (linesL l).length ≤ l.length + 1 := by
  induction l with
  | nil => simp [linesL]
  | cons c r ih =>
    by_cases hc : c = 10
    · subst hc; rw [linesL, if_pos rfl]; simp; exact ih
    · cases hl : linesL r with
      | nil => exact absurd hl (lines_ne r)
      | cons x xs => rw [lines_step hc hl]; rw [hl] at ih; simp at ih ⊢; omega
theorem line_len {l x : Bs} (h : x ∈ linesL l) : x.length ≤ l.length := by
  induction l generalizing x with
  | nil => simp [linesL] at h; simp [h]
  | cons c r ih =>
    by_cases hc : c = 10
    · subst hc
      rw [linesL, if_pos rfl] at h
      rcases List.mem_cons.1 h with h | h
      · simp [h]
      · have := ih h; simp; omega
    · cases hl : linesL r with
      | nil => exact absurd hl (lines_ne r)
      | cons y ys =>
        rw [lines_step hc hl] at h
        rcases List.mem_cons.1 h with h | h
        · have := ih (x := y) (by rw [hl]; simp)
          rw [h]; simp; omega
        · have := ih (x := x) (by rw [hl]; simp [h])
          simp; omega
/-- Lines with their numbers. -/
def numL : Nat → List Bs → List (Nat × Bs)
  | _, [] => []
  | k, x :: xs => (k, x) :: numL (k + 1) xs
theorem numL_length (k : Nat) (ls : List Bs) : (numL k ls).length = ls.length := by
  induction ls generalizing k with
  | nil => rfl
  | cons x ls ih => simp [numL, ih]
theorem numL_map (k : Nat) (ls : List Bs) : (numL k ls).map (·.2) = ls := by
  induction ls generalizing k with
  | nil => rfl
  | cons x ls ih => simp [numL, ih]
/-- All words of all lines; or the number of the first line that has none. -/
def wordsN : List Bs → Nat → List (List Bs) ⊕ Nat
  | [], _ => .inl []
  | x :: xs, k => match splitN x with
    | none => .inr k
    | some ws => match wordsN xs (k + 1) with
      | .inl wss => .inl (ws :: wss)
      | .inr j => .inr j
end Go.Proofs.Ytcljijcggnfemaa
