/- Fields in order, plain. -/
import Derived.Test.YteooofakpkbgoaaDoorMWithP
namespace Go.Proofs.YteooofakpkbgoaaDoor
open Go.ChangeShapes Go.WideShapes Go.RowKit

def Asc (fs : List (Bs × Bs)) : Prop := fs.Pairwise fun f g => aheadB f.1 g.1 = true
def okF (f : Bs × Bs) : Bool := nameB f.1 && decide (f.2.length ≤ 200)
theorem right_iff (fs : List (Bs × Bs)) : rightB fs = true ↔ (∀ f ∈ fs, okF f = true) ∧ Asc fs ∧ fs.length ≤ 8 := by
  unfold rightB
  rw [Bool.and_eq_true, decide_eq_true_iff, List.all_eq_true]
  constructor
  · rintro ⟨h, hl⟩
    have hk : ∀ (k : Nat) (hk : k < fs.length), okF fs[k] = true ∧ (∀ j, k = j + 1 → ∀ g, fs[j]? = some g → aheadB g.1 fs[k].1 = true) := fun k hk => by
      have h1 := h k (List.mem_range.2 hk)
      unfold fldB at h1
      rw [List.getElem?_eq_getElem hk] at h1
      simp only [Bool.and_eq_true] at h1
      refine ⟨by unfold okF; rw [Bool.and_eq_true]; exact h1.1, fun j e g hg => ?_⟩
      have h2 := h1.2
      rw [if_neg (by omega), show k - 1 = j by omega, hg] at h2
      exact h2
    refine ⟨fun f hf => ?_, ?_, hl⟩
    · obtain ⟨k, hk2, rfl⟩ := List.mem_iff_getElem.1 hf
      exact (hk k hk2).1
    · unfold Asc
      rw [List.pairwise_iff_getElem]
      intro i j hi hj hij
      induction j with
      | zero => omega
      | succ j ih =>
        have h1 := (hk (j + 1) hj).2 j rfl fs[j] (List.getElem?_eq_getElem (by omega))
        rcases Nat.lt_or_ge i j with h2 | h2
        · exact ahead_trans (ih (by omega) h2) h1
        · obtain rfl : i = j := by omega
          exact h1
  · rintro ⟨h1, h2, hl⟩
    refine ⟨fun k hk => ?_, hl⟩
    have hk := List.mem_range.1 hk
    unfold fldB
    rw [List.getElem?_eq_getElem hk]
    have h3 := h1 fs[k] (List.getElem_mem hk)
    unfold okF at h3
    simp only [h3, Bool.true_and]
    by_cases h0 : k = 0
    · rw [if_pos h0]
    · rw [if_neg h0, List.getElem?_eq_getElem (show k - 1 < fs.length by omega)]
      unfold Asc at h2
      rw [List.pairwise_iff_getElem] at h2
      exact h2 (k - 1) k (by omega) hk (by omega)
theorem drop_more {nm : Bs} {fs : List (Bs × Bs)} (h : Asc fs) {f : Bs × Bs} (hf : f ∈ fs.dropWhile (ltF nm)) : aheadB f.1 nm = false := by
  have hd : Asc (fs.dropWhile (ltF nm)) := List.Pairwise.sublist (List.dropWhile_sublist _) h
  cases hr : fs.dropWhile (ltF nm) with
  | nil => rw [hr] at hf; cases hf
  | cons g r =>
    have hg : ltF nm g = false := by
      have := List.head?_dropWhile_not (ltF nm) fs
      rw [hr] at this
      simpa using this
    rw [hr] at hf hd
    have hg2 : aheadB g.1 nm = false := by rw [← less_ahead]; exact hg
    rcases List.mem_cons.1 hf with rfl | hf
    · exact hg2
    · cases hq : aheadB f.1 nm with
      | false => rfl
      | true =>
        have := ahead_trans ((List.pairwise_cons.1 hd).1 f hf) hq
        rw [this] at hg2
        cases hg2
theorem asc_with {fs : List (Bs × Bs)} (h : Asc fs) (nm val : Bs) : Asc (withR fs nm val) := by
  rw [with_is]
  unfold Asc
  rw [List.pairwise_append, List.pairwise_cons]
  have hb : ∀ f ∈ woutF nm (fs.dropWhile (ltF nm)), aheadB nm f.1 = true := fun f hf => by
    unfold woutF at hf
    obtain ⟨h1, h2⟩ := List.mem_filter.1 hf
    exact ahead_tri (drop_more h h1) (by simpa using h2)
  have ha : ∀ f ∈ fs.takeWhile (ltF nm), aheadB f.1 nm = true := fun f hf => by
    rw [← less_ahead]
    exact List.all_eq_true.1 (List.all_takeWhile (l := fs) (p := ltF nm)) f hf
  refine ⟨List.Pairwise.sublist (List.takeWhile_sublist _) h, ⟨hb, ?_⟩, fun f hf g hg => ?_⟩
  · unfold woutF
    exact List.Pairwise.sublist (List.filter_sublist.trans (List.dropWhile_sublist _)) h
  · rcases List.mem_cons.1 hg with rfl | hg
    · exact ha f hf
    · exact ahead_trans (ha f hf) (hb g hg)
theorem with_same {fs : List (Bs × Bs)} (h : Asc fs) (nm val : Bs) : withM fs nm val = withR fs nm val := by
  rw [with_is]
  unfold withM
  congr 2
  have hd : Asc (fs.dropWhile (ltF nm)) := List.Pairwise.sublist (List.dropWhile_sublist _) h
  have hm := fun f (hf : f ∈ fs.dropWhile (ltF nm)) => drop_more h hf
  generalize fs.dropWhile (ltF nm) = l at *
  cases l with
  | nil => rfl
  | cons f r =>
    have hr : woutF nm r = r := by
      unfold woutF
      rw [List.filter_eq_self]
      intro g hg
      have h1 := (List.pairwise_cons.1 hd).1 g hg
      have h2 : g.1 ≠ nm := by
        rintro rfl
        rw [hm f (by simp)] at h1
        cases h1
      simpa using h2
    show (if f.1 == nm then r else f :: r) = woutF nm ([f] ++ r)
    rw [wout_app, hr]
    cases he : f.1 == nm <;> simp [woutF, he]
theorem right_with {fs : List (Bs × Bs)} (h : rightB fs = true) (nm val : Bs) : rightB (withR fs nm val) = (nameB nm && decide (val.length ≤ 200) && decide ((withR fs nm val).length ≤ 8)) := by
  obtain ⟨h1, h2, _⟩ := (right_iff fs).1 h
  rw [Bool.eq_iff_iff, right_iff, Bool.and_eq_true, decide_eq_true_iff]
  constructor
  · rintro ⟨h3, _, h5⟩
    exact ⟨h3 (nm, val) (by rw [with_is]; simp), h5⟩
  · rintro ⟨h3, h5⟩
    refine ⟨fun f hf => ?_, asc_with h2 nm val, h5⟩
    rcases with_mem hf with hf | rfl
    · exact h1 f hf
    · exact h3
end Go.Proofs.YteooofakpkbgoaaDoor
