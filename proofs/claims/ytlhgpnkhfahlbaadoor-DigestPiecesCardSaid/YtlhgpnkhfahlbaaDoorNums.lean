/- Numbers among the arguments. -/
import Derived.Test.YtlhgpnkhfahlbaaDoorFrame
import Derived.Test.YtlhgpnkhfahlbaaDoorPieces
namespace Go.Proofs.YtlhgpnkhfahlbaaDoor
open Go.ChangeShapes Go.WideShapes Go.ChangeAt Go.RowKit Go.Joins
theorem cellsInt : Tryd.prog.cellsOf 3 = 1 := by kernel_rfl
theorem open_nums {H : Type} {enc : TypeId × Value → H} {w : World} {r : Reach} {b0 : Nat} {v : Value} {d : DataW H} {p : List MemPlace} (hv : Value.okWide Tryd.prog w r b0 33 v) (h : DataW.Trod enc Tryd.prog w 0 (fun _ => true) true 33 v d p) :
    ∃ n : Nat, NumsAt w v n ∧ True ∧ True := by
  obtain ⟨aa, n, cap, rfl⟩ := okWide_slice Tryd.underlying33 hv
  obtain ⟨fuel, hf⟩ := h
  rcases open_ints Tryd.underlying33 Tryd.underlying3 cellsInt hf with ⟨e, _⟩ | ⟨ad, len, cap', zs', e, _, hl, hm, hz, _, hc, hw⟩
  · simp [Value.cells] at e
    obtain ⟨rfl, rfl, rfl⟩ := e
    exact ⟨0, ⟨none, 0, rfl, fun i hi => absurd hi (by omega)⟩, trivial, trivial⟩
  · simp [Value.cells] at e
    obtain ⟨rfl, rfl, rfl⟩ := e
    simp at hz
    refine ⟨n, ⟨_, cap, rfl, fun i hi => ?_⟩, trivial, trivial⟩
    obtain ⟨b, o, sp⟩ := ad
    have hsp : sp = none := by have := World.cell?_spot (hc 0 (by omega)); simpa [Addr.add] using this
    subst hsp
    have h2 := hc i (by omega)
    rw [add_any] at h2
    exact ⟨b, o, _, rfl, h2⟩
end Go.Proofs.YtlhgpnkhfahlbaaDoor
