/- Two labels, two numbers, a label among the arguments. -/
import Derived.Test.YtknhkmlihbgjpaaDoorAFrame
namespace Go.Proofs.YtknhkmlihbgjpaaDoor
open Go.ChangeShapes Go.WideShapes Go.ChangeAt Go.RowKit Go.Joins
section
variable {H : Type} {enc : TypeId × Value → H} {w : World} {base : Nat} {spare : Nat → Bool} {held : Bool}
theorem cellsCC : Tryd.prog.cellsOf 66 = 4 := by kernel_rfl
set_option maxRecDepth 100000 in
theorem open_two_labs {r : Reach} {b0 : Nat} {v : Value} {d : DataW H} {p : List MemPlace} (hv : Value.okWide Tryd.prog w r b0 66 v) (h : DataW.Trod enc Tryd.prog w base spare held 66 v d p) :
    ∃ l c m d : Int, v = .agg #[.int .i64 l, .int .u32 c, .int .i64 m, .int .u32 d] ∧ U32 c ∧ U32 d := by
  unfold Value.okWide at hv
  rw [Tryd.underlying66] at hv
  obtain ⟨cs, rfl, hsz, _⟩ := hv
  rw [cellsCC] at hsz
  obtain ⟨cs⟩ := cs
  match cs, hsz with
  | [c0, c1, c2, c3], _ =>
  obtain ⟨fuel, hf⟩ := h
  obtain ⟨xs, m, _, _, _, hlen, hx⟩ := DataW.trod_array Tryd.underlying66 hf
  have h0 := hx 0 (by omega)
  have h1 := hx 1 (by omega)
  rw [cellsL, List.getElem?_eq_getElem (by omega)] at h0 h1
  simp [Value.cells] at h0 h1
  obtain ⟨l, c, e0, hc⟩ := open_lcells _ _ _ h0
  obtain ⟨m1, d1, e1, hd⟩ := open_lcells _ _ _ h1
  simp only [List.cons.injEq, and_true] at e0 e1
  obtain ⟨rfl, rfl⟩ := e0
  obtain ⟨rfl, rfl⟩ := e1
  exact ⟨l, c, m1, d1, rfl, hc, hd⟩
set_option maxRecDepth 100000 in
/-- A label. -/
theorem open_lab {r : Reach} {b0 : Nat} {v : Value} {d : DataW H} {p : List MemPlace} (hv : Value.okWide Tryd.prog w r b0 25 v) (h : DataW.Trod enc Tryd.prog w base spare held 25 v d p) :
    ∃ l c : Int, v = .agg #[.int .i64 l, .int .u32 c] ∧ U32 c := by
  obtain ⟨cs, rfl, hsz⟩ := okWide_struct Tryd.underlying25 hv
  obtain ⟨cs⟩ := cs
  obtain ⟨fuel, hf⟩ := h
  obtain ⟨l, c, e, h1⟩ := open_lcells fuel _ _ hf
  exact ⟨l, c, by rw [← e]; simp [Value.cells], h1⟩
end
end Go.Proofs.YtknhkmlihbgjpaaDoor
