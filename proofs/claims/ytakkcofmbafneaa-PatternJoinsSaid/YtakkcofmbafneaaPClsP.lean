/- Patterns, plain: a class that is read has a byte, unless its end came first. -/
import Derived.Test.YtakkcofmbafneaaPElem
import Derived.Test.YtakkcofmbafneaaPEq
namespace Go.Proofs.Ytakkcofmbafneaa

theorem elem_le {s r : Bx} {f l : UInt8} (h : elemN s = some ((f, l), r)) : f ≤ l := by
  unfold elemN at h
  cases hs : signN s with
  | none => rw [hs] at h; cases h
  | some x =>
    obtain ⟨f', r'⟩ := x
    rw [hs] at h
    simp only at h
    split at h
    · rename_i x y r''
      split at h
      · cases hs2 : signN (y :: r'') with
        | none => rw [hs2] at h; cases h
        | some z =>
          obtain ⟨l', r3⟩ := z
          rw [hs2] at h
          simp only at h
          split at h
          · simp at h
            obtain ⟨⟨rfl, rfl⟩, _⟩ := h
            assumption
          · cases h
      · simp at h
        obtain ⟨⟨rfl, rfl⟩, _⟩ := h
        exact UInt8.le_refl _
    · simp at h
      obtain ⟨⟨rfl, rfl⟩, _⟩ := h
      exact UInt8.le_refl _
theorem plus_ne {p : UInt8 → Bool} {f l : UInt8} (h : f ≤ l) : (fun x => p x || (decide (f ≤ x) && decide (x ≤ l))) ≠ noSet := fun e => by
  have := congrFun e f
  simp [noSet, h] at this
theorem clsN_ne {n : Nat} {p q : UInt8 → Bool} {s r : Bx} (hp : p ≠ noSet) (h : clsN n p s = some (q, r)) : q ≠ noSet := by
  induction n generalizing p s with
  | zero => cases h
  | succ n ih => cases s with
    | nil => cases h
    | cons c s =>
      rw [clsN] at h
      split at h
      · simp at h
        rw [← h.1]
        exact hp
      · cases he : elemN (c :: s) with
        | none => rw [he] at h; cases h
        | some x =>
          obtain ⟨⟨f, l⟩, r'⟩ := x
          rw [he] at h
          exact ih (plus_ne (elem_le he)) h
/-- What class hands back of what its loop comes to. -/
def clsO : Option ((UInt8 → Bool) × Bx) → Option ((UInt8 → Bool) × Bx)
  | none => none
  | some (q, r) => if isNo q = true then none else some (q, r)
theorem isNo_ne {q : UInt8 → Bool} (h : q ≠ noSet) : isNo q = false := by
  cases e : isNo q with
  | false => rfl
  | true => exact absurd ((isNo_iff q).1 e) h
theorem cls1_eq (s : Bx) : cls1 s = clsO (clsN s.length noSet s) := by
  cases s with
  | nil => rfl
  | cons c s =>
    unfold cls1
    simp only
    by_cases hc : c = 93
    · rw [if_pos hc, List.length_cons, clsN, if_pos hc]
      simp only [clsO]
      rw [if_pos ((isNo_iff noSet).2 rfl)]
    · rw [if_neg hc, List.length_cons, clsN, if_neg hc]
      cases he : elemN (c :: s) with
      | none => rfl
      | some x =>
        obtain ⟨⟨f, l⟩, r'⟩ := x
        simp only
        cases hr : clsN s.length (fun x => noSet x || (decide (f ≤ x) && decide (x ≤ l))) r' with
        | none => rfl
        | some y =>
          obtain ⟨q, r⟩ := y
          simp only [clsO]
          rw [if_neg (by rw [isNo_ne (clsN_ne (plus_ne (elem_le he)) hr)]; decide)]
end Go.Proofs.Ytakkcofmbafneaa
