/- A map of numbers that serves as a set: it is emptied; how many numbers it lacks. -/
import Derived.Test.YtakkcofmbafneaaPRun
import Derived.Test.YtakkcofmbafneaaPBase
import Derived.Maps.OwnSet
import Derived.Maps.RangeWalk
namespace Go.Proofs.Ytakkcofmbafneaa
open Go.ChangeShapes Go.WideShapes Go.RowKit Go.Maps

theorem law_int : Keyed Try.prog 3 := int_keyed Try.underlying3
theorem zero_unit (w : World) : (zeroValue 67).run Try.prog w = .ok (.agg #[]) w := by kernel_rfl
theorem key_int {x : Int} (h0 : 0 ≤ x) (h1 : x ≤ 1000000) : keyOf Try.prog 3 (.int .i64 x) = some (.int .i64 x) := by
  refine keyOf_int_mk Try.underlying3 ?_
  simp only [Lit.wf, Bool.and_eq_true, decide_eq_true_eq]
  exact ⟨by have : IntKind.i64.min = -9223372036854775808 := by decide
            omega, by have : IntKind.i64.max = 9223372036854775807 := by decide
                      omega⟩
section
variable {H : Type} {P : Program} {k : TypeId} {R : Value → Option (DataW H × List MemPlace)} {w : World} {b n : Nat} {D : DataW H}
/-- All entries of a map that one owns are struck. -/
theorem run_clear_own {t e : TypeId} (h : w.ownsMap P k R b n D) (ht : P.underlying t = some (.map k e)) (ty : TypeId) : ∃ w', (Builtin.clear_ #[t] ty #[.map (some b)]).run P w = .ok (.tuple #[]) w' ∧ w'.ownsMap P k R b 0 (.map []) ∧ w.grownBy w' (some b) := by
  obtain ⟨es, clock, hb, F, hs, hD⟩ := h
  refine ⟨{ w with heap := w.heap.setIfInBounds b (.map #[] clock) }, ?_, ?_, ?_⟩
  · simp [Builtin.clear_, run_underlying ht, MapKept.run_getObj_map hb, MapKept.run_setObj_map _ hb, Result.andThen]
  · exact ⟨#[], clock, (MapKept.heap_set hb).1, ⟨by simp, MapKept.stamped_empty clock, by simp⟩, Nat.le_refl _, rfl⟩
  · exact ⟨rfl, rfl, rfl, by simp, fun i hi hne => (MapKept.heap_set hb).2 i (fun e => hne (by rw [e]))⟩
theorem wpList_clear_own (w : World) {ops : Array Oper} {rest : List Oper} {o : Oper} {a : Act} {Q : Exit → Act → World → Prop} (hg : o.guard = none) (m : Operand) (t : TypeId) (hop : o.op = Op.call { callee := Callee.builtin Builtin.clear, args := #[m], argTypes := #[t] })
    (k e : TypeId) (ht : P.underlying t = some (.map k e)) (R : Value → Option (DataW H × List MemPlace)) (b n : Nat) (D : DataW H) (hm : a.eval m = .map (some b)) (hown : w.ownsMap P k R b n D)
    (hK : ∀ w', w'.ownsMap P k R b 0 (.map []) → w.grownBy w' (some b) → wpList P ops Q rest (a.put o.dst (.tuple #[])) w') :
    wpList P ops Q (o :: rest) a w := by
  refine wpList_plain hg fun K' hK' => ?_
  obtain ⟨w', hrun, r1, r2⟩ := run_clear_own hown ht o.type
  unfold Oper.wp
  simp [execOp, hop, resolve, invoke, builtin, hm, hrun, Result.andThen]
  exact hK' _ _ (hK w' r1 r2)
end
/-- What the map holds. -/
def InM (D : DataW Unit) (j : Nat) : Prop := Maps.has D (.int .i64 (j : Int)) = true
/-- Only numbers up to N. -/
def UpM (D : DataW Unit) (N : Nat) : Prop := ∀ x : Int, Maps.has D (.int .i64 x) = true → ∃ k : Nat, x = (k : Int) ∧ k ≤ N
/-- How many numbers up to N it lacks. -/
def lackM (D : DataW Unit) (N : Nat) : Nat := (List.range (N + 1)).countP fun j : Nat => !Maps.has D (.int .i64 (j : Int))
theorem countP_one {f g : Nat → Bool} {k : Nat} (hf : f k = true) (hg : g k = false) (h : ∀ j, j ≠ k → g j = f j) : ∀ N, k < N → (List.range N).countP g + 1 = (List.range N).countP f := by
  have low : ∀ N, N ≤ k → (List.range N).countP g = (List.range N).countP f := fun N => by
    induction N with
    | zero => intro _; rfl
    | succ N ih =>
      intro hN
      rw [List.range_succ, List.countP_append, List.countP_append, ih (by omega)]
      simp only [List.countP_cons, List.countP_nil, h N (by omega)]
  intro N
  induction N with
  | zero => intro h; omega
  | succ N ih =>
    intro hk
    rw [List.range_succ, List.countP_append, List.countP_append]
    simp only [List.countP_cons, List.countP_nil]
    by_cases e : k = N
    · subst e
      rw [low k (Nat.le_refl _), hf, hg]
      simp
    · have := ih (by omega)
      rw [h N (fun e' => e e'.symm)]
      omega
theorem in_put {D : DataW Unit} (hD : IsMap D) (k : Nat) (u : DataW Unit) (j : Nat) : InM (D.put (.int .i64 (k : Int)) u) j ↔ InM D j ∨ j = k := by
  unfold InM
  by_cases e : j = k
  · subst e
    rw [has_put_same (k := .int .i64 (j : Int)) hD trivial]
    simp
  · rw [has_put_other (k := .int .i64 (k : Int)) (k' := .int .i64 (j : Int)) (fun e' => e (by injection e' with _ e'; omega))]
    simp [e]
theorem up_put {D : DataW Unit} {k N : Nat} (hk : k ≤ N) (u : DataW Unit) (h : UpM D N) : UpM (D.put (.int .i64 (k : Int)) u) N := fun x hx => by
  by_cases e : x = (k : Int)
  · exact ⟨k, e, hk⟩
  · rw [has_put_other (k := .int .i64 (k : Int)) (k' := .int .i64 x) (fun e' => e (by injection e' with _ e'))] at hx
    exact h x hx
theorem lack_put {D : DataW Unit} (hD : IsMap D) {k N : Nat} (hk : k ≤ N) (u : DataW Unit) (h : Maps.has D (.int .i64 (k : Int)) = false) : lackM (D.put (.int .i64 (k : Int)) u) N + 1 = lackM D N := by
  unfold lackM
  refine countP_one (f := fun j : Nat => !Maps.has D (.int .i64 (j : Int))) (g := fun j : Nat => !Maps.has (D.put (.int .i64 (k : Int)) u) (.int .i64 (j : Int))) (k := k) (by simp only [h]; rfl) (by simp only [has_put_same (k := .int .i64 (k : Int)) hD trivial]; rfl) (fun j hj => ?_) (N + 1) (by omega)
  rw [has_put_other (k := .int .i64 (k : Int)) (k' := .int .i64 (j : Int)) (fun e' => hj (by injection e' with _ e'; omega))]
theorem lack_nil (N : Nat) : lackM (.map []) N = N + 1 := by
  unfold lackM
  exact (List.countP_eq_length.2 (fun j _ => rfl)).trans List.length_range
end Go.Proofs.Ytakkcofmbafneaa
