/- What is plain about the join of all labels of a list. -/
import Derived.Test.YtkmbllnnaljepaaDoorAbove
import Derived.Test.YtkmbllnnaljepaaDoorMixed
namespace Go.Proofs.YtkmbllnnaljepaaDoor
open Go.ChangeShapes Go.WideShapes Go.RowKit

/-- The first k are valid. -/
def rtB (xs : List (Int × Int)) (k : Nat) : Bool := (xs.take k).all fun x => rB x.1
/-- The label l, c is valid, and the first k flow to it. -/
def upB (l c : Int) (xs : List (Int × Int)) (k : Nat) : Bool := rB l && (xs.take k).all fun x => flB x.1 x.2 l c
theorem rtB_step {xs : List (Int × Int)} {k : Nat} {x : Int × Int} (h : xs[k]? = some x) : rtB xs (k + 1) = (rtB xs k && rB x.1) := by
  unfold rtB; rw [List.take_add_one, h]; simp [List.all_append]
theorem upB_step {l c : Int} {xs : List (Int × Int)} {k : Nat} {x : Int × Int} (h : xs[k]? = some x) : upB l c xs (k + 1) = (upB l c xs k && flB x.1 x.2 l c) := by
  unfold upB; rw [List.take_add_one, h]; simp [List.all_append, Bool.and_assoc]
theorem flB_low (l c : Int) : flB 0 0 l c = rB l := by
  unfold flB subB
  cases h : rB l
  · simp
  · have := rB_true.1 h
    simp [show rB 0 = true by decide]
    omega
theorem jP_right {l c m d : Int} (hl : rB l = true) (hm : rB m = true) : jL l m = max l m ∧ jC l c m d = ((c.toNat ||| d.toNat : Nat) : Int) := by
  unfold jL jC; rw [hl, hm]; exact ⟨rfl, rfl⟩
theorem all_right (xs : List (Int × Int)) (k : Nat) (h : rtB xs k = true) :
    rB (allP (xs.take k)).1 = true ∧ (∀ x ∈ xs.take k, flB x.1 x.2 (allP (xs.take k)).1 (allP (xs.take k)).2 = true) ∧ ∀ l c, flB (allP (xs.take k)).1 (allP (xs.take k)).2 l c = upB l c xs k := by
  induction k with
  | zero => exact ⟨show rB 0 = true by decide, fun x hx => by simp at hx, fun l c => by rw [show allP (xs.take 0) = (0, 0) from rfl, flB_low]; simp [upB]⟩
  | succ k ih =>
    cases hx : xs[k]? with
    | none =>
      have e : xs.take (k + 1) = xs.take k := by rw [List.take_add_one, hx]; simp
      have e2 : ∀ l c, upB l c xs (k + 1) = upB l c xs k := fun l c => by unfold upB; rw [e]
      have e3 : rtB xs (k + 1) = rtB xs k := by unfold rtB; rw [e]
      rw [e3] at h
      rw [e]
      exact ⟨(ih h).1, (ih h).2.1, fun l c => by rw [e2]; exact (ih h).2.2 l c⟩
    | some x =>
      rw [rtB_step hx, Bool.and_eq_true] at h
      obtain ⟨i1, i2, i3⟩ := ih h.1
      have hj := jP_right (l := (allP (xs.take k)).1) (c := (allP (xs.take k)).2) (m := x.1) (d := x.2) i1 h.2
      rw [allP_step hx]
      simp only [hj.1, hj.2]
      have hup := flB_up (allP (xs.take k)).1 (allP (xs.take k)).2 x.1 x.2 i1 h.2
      refine ⟨rB_max i1 h.2, fun y hy => ?_, fun l c => ?_⟩
      · rw [List.take_add_one, hx] at hy
        rcases List.mem_append.1 hy with hy | hy
        · exact flB_trans (i2 y hy) hup.1
        · simp at hy; subst hy; exact hup.2
      · rw [flB_join _ _ _ _ _ _ i1 h.2, i3, upB_step hx]
theorem or_full (d : Int) (hd0 : 0 ≤ d) (hd1 : d < 4294967296) : (((4294967295 : Int).toNat ||| d.toNat : Nat) : Int) = 4294967295 := by
  have h1 : (4294967295 : Int).toNat = 4294967295 := rfl
  have h2 : 4294967295 ≤ 4294967295 ||| d.toNat := Nat.left_le_or
  have h3 : 4294967295 ||| d.toNat < 2 ^ 32 := Nat.or_lt_two_pow (by decide) (by omega)
  rw [h1]
  omega
theorem all_top (xs : List (Int × Int)) (hr : ∀ x ∈ xs, 0 ≤ x.2 ∧ x.2 < 4294967296) (k : Nat) (h : rtB xs k = false) : allP (xs.take k) = (7, 4294967295) := by
  induction k with
  | zero => simp [rtB] at h
  | succ k ih =>
    cases hx : xs[k]? with
    | none =>
      have e : xs.take (k + 1) = xs.take k := by rw [List.take_add_one, hx]; simp
      have e3 : rtB xs (k + 1) = rtB xs k := by unfold rtB; rw [e]
      rw [e3] at h
      rw [e]
      exact ih h
    | some x =>
      have hr1 := hr x (List.mem_of_getElem? hx)
      rw [allP_step hx]
      cases hv : rB x.1
      · unfold jL jC; simp [hv]
      · rw [rtB_step hx, hv, Bool.and_true] at h
        rw [ih h]
        have h7 : rB 7 = true := by decide
        have hv' := rB_true.1 hv
        obtain ⟨e1, e2⟩ := jP_right (c := 4294967295) (d := x.2) h7 hv
        simp only [e1, e2]
        rw [or_full _ hr1.1 hr1.2]
        refine Prod.ext ?_ rfl
        show max 7 x.1 = 7
        omega
end Go.Proofs.YtkmbllnnaljepaaDoor
