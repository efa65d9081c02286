/- A slice of texts that comes in. -/
import Derived.Test.YtknhkmlihbgjpaaDoorPBase
import Derived.Deep.Strs
import Derived.Laws.StructEq
namespace Go.Proofs.YtknhkmlihbgjpaaDoor
open Go.ChangeShapes Go.WideShapes Go.RowKit

theorem add_at (g o j : Nat) : (⟨g, o, none⟩ : Addr).add j = ⟨g, o + j, none⟩ := by unfold Addr.add; split <;> simp_all
theorem StrsAt.stay {P : Nat → Prop} {w w' : World} {v : Value} {ss : List Bs} (h : StrsAt P w v ss) (k : Below w.heap.size w w') : StrsAt P w' v ss := h.keepN (S := fun _ => False) (Asd.of_below k) (fun _ _ _ e => e)
theorem StrsAt.shape {P : Nat → Prop} {w : World} {v : Value} {ss : List Bs} (h : StrsAt P w v ss) : ∃ a c, v = .slice a ss.length c := by
  rcases h with ⟨rfl, a, c, rfl⟩ | ⟨g, o, c, rfl, _⟩
  · exact ⟨a, c, rfl⟩
  · exact ⟨_, _, rfl⟩
theorem StrsAt.text {P : Nat → Prop} {w : World} {a : Option Addr} {n c : Nat} {ss : List Bs} (h : StrsAt P w (.slice a n c) ss) {q : Nat} {s : Bs} (hq : ss[q]? = some s) : ∃ g o, a = some ⟨g, o, none⟩ ∧ g < w.heap.size ∧ w.cell? ⟨g, o + q, none⟩ = some (.string ⟨s.toArray⟩) := by
  rcases h with ⟨rfl, _⟩ | ⟨g, o, c, e, _, _, hg, hc⟩
  · cases hq
  · injection e with e1 _ _
    exact ⟨g, o, e1, hg, hc q s hq⟩
set_option maxRecDepth 100000 in
/-- Texts that come in. -/
theorem open_strs {H : Type} {enc : TypeId × Value → H} {w : World} {r : Reach} {b0 : Nat} {v : Value} {d : DataW H} {p : List MemPlace} (hv : Value.okWide Tryd.prog w r b0 99 v) (h : DataW.Trod enc Tryd.prog w 0 (fun _ => true) true 99 v d p) :
    ∃ ss : List Bs, StrsAt (fun _ => True) w v ss ∧ (∀ s ∈ ss, s.length ≤ 9223372036854775807) ∧ ss.length ≤ 9223372036854775807 := by
  obtain ⟨aa, n, cap, rfl⟩ := okWide_slice Tryd.underlying99 hv
  obtain ⟨fuel, hf⟩ := h
  rcases Go.Deep.open_strs Tryd.underlying99 Tryd.underlying9 (by kernel_rfl) hf with ⟨e, _⟩ | ⟨ad, len, cap', m, Sx, e, _, hl, hm, hmm, _, hc⟩
  · simp [Value.cells] at e
    obtain ⟨rfl, rfl, rfl⟩ := e
    exact ⟨[], .inl ⟨rfl, _, _, rfl⟩, by simp, by simp⟩
  · simp [Value.cells] at e
    obtain ⟨rfl, rfl, rfl⟩ := e
    simp at hmm
    have hml : maxLen = 9223372036854775807 := rfl
    refine ⟨(List.range n).map fun i => (Sx i).data.toList, ?_, fun s hs => ?_, by simp; omega⟩
    · cases n with
      | zero => exact .inl ⟨rfl, _, _, rfl⟩
      | succ n =>
        obtain ⟨bb, off, spot⟩ := ad
        have hspot : spot = none := by have h0 := (hc 0 (by omega)).1; have := World.cell?_spot h0; simpa [Addr.add] using this
        subst hspot
        have hlt : bb < w.heap.size := by have h0 := (hc 0 (by omega)).1; have := World.block_lt_of_cell? w _ h0; simpa [Addr.add] using this
        refine .inr ⟨bb, off, cap, by simp, by simpa using hl, trivial, hlt, fun j s hs => ?_⟩
        have hj : j < n + 1 := by have := (List.getElem?_eq_some_iff.1 hs).1; simpa using this
        have h1 := (hc j (by omega)).1
        rw [show (⟨bb, off, none⟩ : Addr).add j = ⟨bb, off + j, none⟩ from add_at bb off j] at h1
        rw [h1]
        rw [List.getElem?_map, List.getElem?_range hj] at hs
        injection hs with hs
        rw [← hs]
    · obtain ⟨i, hi, rfl⟩ := List.mem_map.1 hs
      have := (hc i (by have := List.mem_range.1 hi; omega)).2
      rw [Array.length_toList]
      exact this
end Go.Proofs.YtknhkmlihbgjpaaDoor
