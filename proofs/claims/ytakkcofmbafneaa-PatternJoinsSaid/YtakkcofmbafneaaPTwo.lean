/- An argument that is two texts. -/
import Derived.Test.YtakkcofmbafneaaPStrs
import Derived.Test.YtakkcofmbafneaaWFrame
import Derived.Deep.Slices
import Derived.OpenShut
namespace Go.Proofs.Ytakkcofmbafneaa
open Go.ChangeShapes Go.WideShapes Go.ChangeAt Go.RowKit Go.Joins

theorem cellsS2 : Try.prog.cellsOf 9 = 1 := by kernel_rfl
theorem cellsQ2 : Try.prog.cellsOf 43 = 2 := by kernel_rfl
theorem two_of {cs : Array Value} (h : cs.size = 2) : ∃ a b, cs = #[a, b] := by
  obtain ⟨l⟩ := cs
  match l, h with
  | [a, b], _ => exact ⟨a, b, rfl⟩
theorem open_two {H : Type} {enc : TypeId × Value → H} {w : World} {r : Reach} {b0 : Nat} {v : Value} {d : DataW H} {p : List MemPlace} (hv : Value.okWide Try.prog w r b0 43 v) (h : DataW.Trod enc Try.prog w 0 (fun _ => true) true 43 v d p) :
    ∃ s t : ByteArray, v = .agg #[.string s, .string t] ∧ s.size ≤ maxLen ∧ t.size ≤ maxLen := by
  unfold Value.okWide at hv
  rw [Try.underlying43] at hv
  obtain ⟨cs, rfl, hsz, he⟩ := hv
  obtain ⟨c0, c1, rfl⟩ := two_of (hsz.trans cellsQ2)
  obtain ⟨fuel, hf⟩ := h
  obtain ⟨xs, m, _, _, _, hlen, hx⟩ := DataW.trod_array Try.underlying43 hf
  have h0 := hx 0 (by omega)
  have h1 := hx 1 (by omega)
  rw [cellsS2, List.getElem?_eq_getElem (by omega)] at h0 h1
  simp [Value.cells] at h0 h1
  obtain ⟨s, e0, _, hs⟩ := DataW.trod_string Try.underlying9 h0
  obtain ⟨t, e1, _, ht⟩ := DataW.trod_string Try.underlying9 h1
  simp at e0 e1
  exact ⟨s, t, by rw [e0, e1], hs, ht⟩
end Go.Proofs.Ytakkcofmbafneaa
