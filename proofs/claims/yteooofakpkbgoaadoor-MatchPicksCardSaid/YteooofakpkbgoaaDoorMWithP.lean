/- Fields with one more, plain. -/
import Derived.Test.YteooofakpkbgoaaDoorMWithM
namespace Go.Proofs.YteooofakpkbgoaaDoor
open Go.ChangeShapes Go.WideShapes Go.RowKit

theorem less_ahead (a b : Bs) : Op.bytesLess a b = aheadB a b := by
  induction a generalizing b with
  | nil => cases b <;> rfl
  | cons c a ih =>
    cases b with
    | nil => rfl
    | cons d b =>
      rw [Op.bytesLess, aheadB, ih]
      by_cases h : c = d
      · subst h
        rw [if_pos rfl]
        simp
      · rw [if_neg h]
        simp [h, UInt8.lt_iff_toNat_lt]
theorem ahead_irr (a : Bs) : aheadB a a = false := by
  induction a with
  | nil => rfl
  | cons c a ih => rw [aheadB, if_pos rfl, ih]
theorem ahead_trans {a b c : Bs} (h : aheadB a b = true) (h2 : aheadB b c = true) : aheadB a c = true := by
  induction a generalizing b c with
  | nil =>
    cases b with
    | nil => cases h
    | cons d b => cases c <;> first | rfl | cases h2
  | cons x a ih =>
    cases b with
    | nil => cases h
    | cons y b =>
      cases c with
      | nil => cases h2
      | cons z c =>
        rw [aheadB] at h h2 ⊢
        by_cases e1 : x = y
        · subst e1
          rw [if_pos rfl] at h
          by_cases e2 : x = z
          · subst e2
            rw [if_pos rfl] at h2 ⊢
            exact ih h h2
          · rw [if_neg e2] at h2 ⊢
            exact h2
        · rw [if_neg e1] at h
          by_cases e2 : y = z
          · subst e2
            rw [if_neg e1]
            exact h
          · rw [if_neg e2] at h2
            have h3 := of_decide_eq_true h
            have h4 := of_decide_eq_true h2
            rw [if_neg (fun e => by subst e; omega)]
            exact decide_eq_true (by omega)
theorem ahead_tri {a b : Bs} (h : aheadB a b = false) (hne : a ≠ b) : aheadB b a = true := by
  induction a generalizing b with
  | nil => cases b with
    | nil => exact absurd rfl hne
    | cons d b => cases h
  | cons x a ih =>
    cases b with
    | nil => rfl
    | cons y b =>
      rw [aheadB] at h ⊢
      by_cases e : x = y
      · subst e
        rw [if_pos rfl] at h ⊢
        exact ih h (fun e2 => hne (by rw [e2]))
      · rw [if_neg e] at h
        rw [if_neg (fun e2 => e e2.symm)]
        have h2 := of_decide_eq_false h
        have : x.toNat ≠ y.toNat := fun e2 => e (UInt8.toNat_inj.1 e2)
        exact decide_eq_true (by omega)
theorem lt_not {nm : Bs} {f : Bs × Bs} (h : ltF nm f = true) : f.1 ≠ nm := by
  rintro rfl
  unfold ltF at h
  rw [less_ahead, ahead_irr] at h
  cases h
theorem fold_done (nm val : Bs) (fs O : List (Bs × Bs)) : fs.foldl (withS nm val) (O, true) = (O ++ woutF nm fs, true) := by
  induction fs generalizing O with
  | nil => simp [woutF]
  | cons f fs ih =>
    have e : withS nm val (O, true) f = (if f.1 = nm then O else O ++ [f], true) := by unfold withS; simp
    rw [List.foldl_cons, e, ih]
    unfold woutF
    by_cases h : f.1 = nm <;> simp [h]
theorem fold_go (nm val : Bs) (fs O : List (Bs × Bs)) : fs.foldl (withS nm val) (O, false) = if fs.dropWhile (ltF nm) = [] then (O ++ fs.takeWhile (ltF nm), false) else (O ++ fs.takeWhile (ltF nm) ++ (nm, val) :: woutF nm (fs.dropWhile (ltF nm)), true) := by
  induction fs generalizing O with
  | nil => simp
  | cons f fs ih =>
    rw [List.foldl_cons]
    cases hb : ltF nm f with
    | true =>
      have hne := lt_not hb
      have hb2 : aheadB f.1 nm = true := by rw [← less_ahead]; exact hb
      have e : withS nm val (O, false) f = (O ++ [f], false) := by unfold withS; simp [hb2, hne]
      rw [e, ih, List.takeWhile_cons, List.dropWhile_cons, hb]
      simp
    | false =>
      have hb2 : aheadB f.1 nm = false := by rw [← less_ahead]; exact hb
      have e : withS nm val (O, false) f = (if f.1 = nm then O ++ [(nm, val)] else O ++ [(nm, val)] ++ [f], true) := by unfold withS; simp [hb2]
      rw [e, fold_done, List.takeWhile_cons, List.dropWhile_cons, hb]
      unfold woutF
      by_cases h : f.1 = nm <;> simp [h]
theorem with_is (fs : List (Bs × Bs)) (nm val : Bs) : withR fs nm val = fs.takeWhile (ltF nm) ++ (nm, val) :: woutF nm (fs.dropWhile (ltF nm)) := by
  unfold withR
  rw [fold_go]
  by_cases h : fs.dropWhile (ltF nm) = []
  · rw [h]
    simp [woutF]
  · simp [h]
theorem wout_less (nm : Bs) (fs : List (Bs × Bs)) : woutF nm (fs.takeWhile (ltF nm)) = fs.takeWhile (ltF nm) := by
  unfold woutF
  rw [List.filter_eq_self]
  intro f hf
  have := lt_not (List.all_eq_true.1 (List.all_takeWhile (l := fs) (p := ltF nm)) f hf)
  simpa using this
theorem wout_app (nm : Bs) (a b : List (Bs × Bs)) : woutF nm (a ++ b) = woutF nm a ++ woutF nm b := by unfold woutF; exact List.filter_append ..
theorem wout_idem (nm : Bs) (a : List (Bs × Bs)) : woutF nm (woutF nm a) = woutF nm a := by unfold woutF; simp
theorem wout_with (fs : List (Bs × Bs)) (nm val : Bs) : woutF nm (withR fs nm val) = woutF nm fs := by
  have e : fs = fs.takeWhile (ltF nm) ++ fs.dropWhile (ltF nm) := List.takeWhile_append_dropWhile.symm
  conv => rhs; rw [e, wout_app]
  rw [with_is, wout_app]
  congr 1
  show woutF nm ([(nm, val)] ++ woutF nm (fs.dropWhile (ltF nm))) = _
  rw [wout_app, wout_idem]
  simp [woutF]
theorem with_count (fs : List (Bs × Bs)) (nm val : Bs) : (withR fs nm val).length = (woutF nm (withR fs nm val)).length + 1 := by
  rw [wout_with]
  have e : fs = fs.takeWhile (ltF nm) ++ fs.dropWhile (ltF nm) := List.takeWhile_append_dropWhile.symm
  conv => rhs; rw [e, wout_app, wout_less]
  rw [with_is]
  simp; omega
theorem value_less (nm : Bs) (l r : List (Bs × Bs)) (h : ∀ f ∈ l, f.1 ≠ nm) : valueF (l ++ r) nm = valueF r nm := by
  induction l with
  | nil => rfl
  | cons f l ih =>
    rw [List.cons_append, valueF, if_neg (h f (by simp)), ih (fun g hg => h g (by simp [hg]))]
theorem value_with (fs : List (Bs × Bs)) (nm val : Bs) : valueF (withR fs nm val) nm = val := by
  rw [with_is, value_less nm _ _ (fun f hf => lt_not (List.all_eq_true.1 (List.all_takeWhile (l := fs) (p := ltF nm)) f hf)), valueF, if_pos rfl]
theorem value_wout (fs : List (Bs × Bs)) (nm : Bs) : valueF (woutF nm fs) nm = [] := by
  have := value_less nm (woutF nm fs) [] (fun f hf => by
    unfold woutF at hf
    have := (List.mem_filter.1 hf).2
    simpa using this)
  rw [List.append_nil] at this
  rw [this]
  rfl
end Go.Proofs.YteooofakpkbgoaaDoor
