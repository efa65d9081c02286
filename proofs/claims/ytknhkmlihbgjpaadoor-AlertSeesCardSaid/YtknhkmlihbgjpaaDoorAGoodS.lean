/- Fields that Good makes stay as they are when Good takes them. -/
import Derived.Test.YtknhkmlihbgjpaaDoorAMerge
namespace Go.Proofs.YtknhkmlihbgjpaaDoor
open Go.ChangeShapes Go.WideShapes Go.RowKit

theorem ahead_ne {a b : Bs} (h : aheadB a b = true) : a ≠ b := by
  rintro rfl
  induction a with
  | nil => cases h
  | cons x a ih =>
    rw [aheadB, if_pos rfl] at h
    exact ih h
theorem with_fold (nm val : Bs) (O A : List (Bs × Bs)) (h : ∀ f ∈ O, aheadB f.1 nm = true) : O.foldl (withS nm val) (A, false) = (A ++ O, false) := by
  induction O generalizing A with
  | nil => simp
  | cons f O ih =>
    have hf := h f (by simp)
    rw [List.foldl_cons, show withS nm val (A, false) f = (A ++ [f], false) by
      unfold withS
      simp only [hf, Bool.or_true, if_true]
      rw [if_neg (ahead_ne hf)], ih _ (fun g hg => h g (by simp [hg]))]
    simp
/-- A field behind all comes behind all. -/
theorem with_behind (nm val : Bs) (O : List (Bs × Bs)) (h : ∀ f ∈ O, aheadB f.1 nm = true) : withR O nm val = O ++ [(nm, val)] := by
  unfold withR
  rw [with_fold nm val O [] h]
  simp
theorem right_front {O R : List (Bs × Bs)} (h : rightB (O ++ R) = true) : rightB O = true := by
  rw [right_iff] at *
  obtain ⟨h1, h2, h3⟩ := h
  rw [List.length_append] at h3
  exact ⟨fun f hf => h1 f (by simp [hf]), (List.pairwise_append.1 h2).1, by omega⟩
theorem good_fold (R O : List (Bs × Bs)) (h : Gd (O ++ R)) : R.foldl goodS O = O ++ R := by
  induction R generalizing O with
  | nil => simp
  | cons f R ih =>
    have h2 := ((right_iff _).1 h.1).2.1
    have hb : ∀ g ∈ O, aheadB g.1 f.1 = true := fun g hg => (List.pairwise_append.1 h2).2.2 g hg f (by simp)
    have hv : f.2.take 30 = f.2 := List.take_of_length_le (h.2 f (by simp))
    have e : O ++ f :: R = (O ++ [f]) ++ R := by simp
    have hr : rightB (O ++ [f]) = true := right_front (R := R) (by rw [← e]; exact h.1)
    have hs : goodS O f = O ++ [f] := by
      unfold goodS
      rw [hv, with_behind f.1 f.2 O hb, if_pos hr]
    rw [List.foldl_cons, hs, ih _ (by rw [← e]; exact h), e]
theorem good_same {F : List (Bs × Bs)} (h : Gd F) : goodN F = F := by
  unfold goodN
  rw [List.take_of_length_le (by have := h.len; omega), good_fold F [] h]
  rfl
theorem prom_name : nameB promB = true := by decide
theorem gS_name (s : Bs) : nameB (gS s) = true := by
  cases h : nameB s with
  | true => rw [gS_yes h]; exact h
  | false => rw [gS_no h]; exact prom_name
theorem gS_same (s : Bs) : gS (gS s) = gS s := gS_yes (gS_name s)
theorem gL_right (l : Int) : rB (gL l) = true := by
  cases h : rB l with
  | true => rw [gL_yes h]; exact h
  | false => rw [gL_no h]; decide
/-- What Good makes may be, if it has fields. -/
theorem good_right {F : List (Bs × Bs)} (h : Gd F) (hp : 0 < F.length) (s : Bs) (l p q : Int) (hq : timesB p q = true) : arB (gS s) F (gL l) p q = true := by
  unfold arB
  rw [gS_name, decide_eq_true hp, h.1, gL_right, hq]
  rfl
theorem id_len {s : Bs} {fs : List (Bs × Bs)} (hs : s.length ≤ 12) (h : ∀ f ∈ fs, f.1.length ≤ 12 ∧ f.2.length ≤ 200) : (idB s fs).length ≤ 13 + 214 * fs.length := by
  unfold idB
  have e : ∀ fs : List (Bs × Bs), (∀ f ∈ fs, f.1.length ≤ 12 ∧ f.2.length ≤ 200) → ((fs.map fun f => ((f.1 ++ [61]) ++ f.2) ++ [0]).flatten).length ≤ 214 * fs.length := by
    intro fs
    induction fs with
    | nil => intro _; simp
    | cons f fs ih =>
      intro h
      have h1 := h f (by simp)
      have h2 := ih fun g hg => h g (by simp [hg])
      rw [List.map_cons, List.flatten_cons, List.length_append, List.length_cons]
      simp only [List.length_append, List.length_cons, List.length_nil] at *
      omega
  have := e fs h
  simp only [List.length_append, List.length_cons, List.length_nil] at *
  omega
end Go.Proofs.YtknhkmlihbgjpaaDoor
