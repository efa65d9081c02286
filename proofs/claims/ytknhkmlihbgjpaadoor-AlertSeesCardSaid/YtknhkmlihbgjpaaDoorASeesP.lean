/- What is cut twice is what is cut once, to the meet; who may see more is told no fewer fields: plain facts, of no program. -/
import Derived.Test.YtknhkmlihbgjpaaDoorACut
import Derived.Test.YtknhkmlihbgjpaaDoorAGoodS
namespace Go.Proofs.YtknhkmlihbgjpaaDoor
open Go

theorem sub_and (e c d : Nat) : (e &&& (c &&& d) = e) ↔ (e &&& c = e ∧ e &&& d = e) := by
  constructor
  · intro h
    constructor
    · rw [← h, Nat.and_assoc, Nat.and_assoc, Nat.and_comm d c, ← Nat.and_assoc c c, Nat.and_self]
    · rw [← h, Nat.and_assoc, Nat.and_assoc, Nat.and_self]
  · rintro ⟨h1, h2⟩
    rw [← Nat.and_assoc, h1, h2]
theorem flB_meet (l c m d n e : Int) (hl : rB l = true) (hm : rB m = true) : flB n e (mL l m) (mC l c m d) = (flB n e l c && flB n e m d) := by
  have h1 := rB_true.1 hl
  have h2 := rB_true.1 hm
  unfold mL mC
  rw [hl, hm]
  simp only [Bool.and_self, if_true]
  rw [Bool.eq_iff_iff, Bool.and_eq_true, flB_true, flB_true, flB_true, subB_true, subB_true, subB_true, Int.toNat_natCast, sub_and]
  constructor
  · rintro ⟨h4, _, h5, h6, h7⟩; exact ⟨⟨h4, h1, by omega, h6⟩, h4, h2, by omega, h7⟩
  · rintro ⟨⟨h4, _, h5, h6⟩, _, _, h8, h9⟩; exact ⟨h4, by omega, by omega, h6, h9⟩
theorem seen_meet (ns : List Nd) (l c m d m2 d2 : Int) (hm : rB m = true) (hm2 : rB m2 = true) (f : Bs × Bs) : seenB ns l c (mL m m2) (mC m d m2 d2) f = (seenB ns l c m d f && seenB ns l c m2 d2 f) := flB_meet _ _ _ _ _ _ hm hm2
theorem vis_meet (ns : List Nd) (l c m d m2 d2 : Int) (hm : rB m = true) (hm2 : rB m2 = true) (fs : List (Bs × Bs)) : visF ns l c (mL m m2) (mC m d m2 d2) fs = visF ns l c m2 d2 (visF ns l c m d fs) := by
  unfold visF
  rw [List.filter_filter]
  congr 1
  funext f
  rw [seen_meet ns l c m d m2 d2 hm hm2, Bool.and_comm]
theorem cut_meet (ns : List Nd) (l c m d m2 d2 : Int) (hm : rB m = true) (hm2 : rB m2 = true) (fs : List (Bs × Bs)) : cutB ns l c (mL m m2) (mC m d m2 d2) fs = (cutB ns l c m d fs && cutB ns l c m2 d2 (visF ns l c m d fs)) := by
  unfold cutB
  rw [flB_meet _ _ _ _ _ _ hm hm2, vis_meet ns l c m d m2 d2 hm hm2]
  cases hv : visF ns l c m d fs with
  | nil => simp [visF]
  | cons f t => cases flB l c m d <;> simp
theorem seen_up (ns : List Nd) (l c m d m2 d2 : Int) (h : flB m d m2 d2 = true) (f : Bs × Bs) (k : seenB ns l c m d f = true) : seenB ns l c m2 d2 f = true := flB_trans k h
theorem vis_up (ns : List Nd) (l c m d m2 d2 : Int) (h : flB m d m2 d2 = true) (fs : List (Bs × Bs)) : (visF ns l c m d fs).length ≤ (visF ns l c m2 d2 fs).length := by
  induction fs with
  | nil => simp [visF]
  | cons f t ih =>
    unfold visF at *
    rw [List.filter_cons, List.filter_cons]
    cases h1 : seenB ns l c m d f with
    | true =>
      rw [seen_up ns l c m d m2 d2 h f h1]
      simp only [if_true, List.length_cons]
      omega
    | false =>
      cases h2 : seenB ns l c m2 d2 f
      · simpa using ih
      · simp only [if_true, List.length_cons, Bool.false_eq_true, if_false]
        omega
theorem cut_up (ns : List Nd) (l c m d m2 d2 : Int) (h : flB m d m2 d2 = true) (fs : List (Bs × Bs)) (k : cutB ns l c m d fs = true) : cutB ns l c m2 d2 fs = true := by
  have hv := vis_up ns l c m d m2 d2 h fs
  unfold cutB at *
  rw [Bool.and_eq_true] at *
  refine ⟨flB_trans k.1 h, ?_⟩
  have h2 := k.2
  cases hA : visF ns l c m d fs with
  | nil => rw [hA] at h2; cases h2
  | cons f t =>
    rw [hA, List.length_cons] at hv
    cases hB : visF ns l c m2 d2 fs with
    | nil => rw [hB, List.length_nil] at hv; omega
    | cons g u => rfl
theorem fires_from {p q : Int} (h : timesB p q = true) : firesB p q p = true := by
  unfold timesB at h
  unfold firesB
  simp only [Bool.and_eq_true, Bool.or_eq_true, decide_eq_true_eq] at *
  exact ⟨Int.le_refl p, h.2.2.imp id fun h => h.1⟩
theorem gd_len (F : List (Bs × Bs)) : (goodN F).length ≤ 8 := (good_gd F).len
end Go.Proofs.YtknhkmlihbgjpaaDoor
