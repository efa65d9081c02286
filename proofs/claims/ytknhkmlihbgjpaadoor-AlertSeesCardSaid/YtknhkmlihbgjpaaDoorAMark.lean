/- Bytes made of a string, and what is added to them: the row's mark lies behind all its cells. -/
import Derived.Test.YtknhkmlihbgjpaaDoorATimes
import Derived.Test.YtknhkmlihbgjpaaDoorDG
import Derived.Laws.IdiomStrings
namespace Go.Proofs.YtknhkmlihbgjpaaDoor
open Go.ChangeShapes Go.WideShapes Go.RowKit

theorem storeB (P : Program) (g o : Nat) (t : TypeId) (fz : Nat × Nat) (vs : List Value) : ∀ (i : Nat) (cur : Array Value) (w : World), w.heap[g]? = some (.cells cur t fz) → (fz.2 = 0 ∨ o + i + vs.length ≤ fz.1) → o + i + vs.length ≤ cur.size → (∀ v ∈ vs, v.oneCell' = true) →
    (storeCells ⟨g, o, none⟩ vs i).run P w = .ok () (w.setRow g (cur.toList.take (o + i) ++ vs ++ cur.toList.drop (o + i + vs.length)).toArray) := by
  induction vs with
  | nil =>
    intro i cur w hg _ _ _
    rw [List.append_nil, List.length_nil, Nat.add_zero, List.take_append_drop, Array.toArray_toList, setRow_self w g cur t fz hg]
    rfl
  | cons v vs ih =>
    intro i cur w hg hz hl h1
    have hlen : o + i + (vs.length + 1) ≤ cur.size := hl
    have hz2 : fz.2 = 0 ∨ o + i + (vs.length + 1) ≤ fz.1 := hz
    have hc : w.cell? ⟨g, o + i, none⟩ = some (cur[o + i]'(by omega)) := by
      rw [cell_of_row w g (o + i) cur t fz hg]
      exact Array.getElem?_eq_getElem (by omega)
    have hf : w.frozen? ⟨g, o + i, none⟩ = false := by
      obtain ⟨lo, hi⟩ := fz
      simp only at hz2
      simp only [World.frozen?, hg, Bool.and_eq_false_iff, decide_eq_false_iff_not]
      omega
    have hs : (store ((⟨g, o, none⟩ : Addr).add i) v).run P w = .ok () (w.setRow g (cur.setIfInBounds (o + i) v)) := by
      rw [add_at, run_store P w _ v _ (h1 v (List.mem_cons_self ..)), hc]
      simp only [hf]
      rw [setCell_eq_setRow w g (o + i) cur t fz v hg]
      rfl
    have k := ih (i + 1) (cur.setIfInBounds (o + i) v) (w.setRow g (cur.setIfInBounds (o + i) v)) (setRow_heap w g cur _ t _ hg) (by omega) (by rw [Array.size_setIfInBounds]; omega) (fun x hx => h1 x (List.mem_cons_of_mem _ hx))
    have e := list_seg_step cur.toList (o + i) v vs (by rw [Array.length_toList]; omega)
    unfold storeCells
    rw [Sem.run_bind, hs, Result.andThen_ok, k, setRow_setRow]
    congr 3
    simpa [Array.toList_setIfInBounds, Nat.add_assoc] using e
/-- Bytes in a row of one's own, whose mark, if any, lies behind its cells. -/
def OwnB (w : World) (base : Nat) (v : Value) (l : Bs) : Prop :=
  ∃ g cap cur fz, v = .slice (some ⟨g, 0, none⟩) l.length cap ∧ base ≤ g ∧ w.heap[g]? = some (.cells cur 5 fz) ∧ (fz.2 = 0 ∨ cap ≤ fz.1) ∧ l.length ≤ cap ∧ cap ≤ maxLen ∧ cur.size = cap ∧ cur.toList.take l.length = Lib.byteCells l
theorem OwnB.shape {w : World} {base : Nat} {v : Value} {l : Bs} (h : OwnB w base v l) : ∃ g c, v = .slice (some ⟨g, 0, none⟩) l.length c ∧ base ≤ g ∧ g < w.heap.size := by
  obtain ⟨g, cap, cur, fz, rfl, hb, hg, _⟩ := h
  exact ⟨g, cap, rfl, hb, (Array.getElem?_eq_some_iff.1 hg).1⟩
theorem OwnB.stay {w w' : World} {base : Nat} {v : Value} {l : Bs} (h : OwnB w base v l) (k : Below w.heap.size w w') : OwnB w' base v l := by
  obtain ⟨g, cap, cur, fz, e, hb, hg, r⟩ := h
  exact ⟨g, cap, cur, fz, e, hb, (k.block g (Array.getElem?_eq_some_iff.1 hg).1).trans hg, r⟩
theorem OwnB.cells {w : World} {base g n c : Nat} {l : Bs} (h : OwnB w base (.slice (some ⟨g, 0, none⟩) n c) l) (j : Nat) (u : Value) (hu : (Lib.byteCells l)[j]? = some u) : w.cell? ⟨g, j, none⟩ = some u := by
  obtain ⟨g', cap, cur, fz, e, hb, hg, hz, hle, hm, hs, ht⟩ := h
  injection e with e1 _ _
  injection e1 with e1
  injection e1 with e1 _ _
  subst e1
  rw [cell_of_row w g j cur _ fz hg, ← Array.getElem?_toList]
  rw [← ht, List.getElem?_take] at hu
  split at hu
  · exact hu
  · cases hu
theorem OwnB.nums {w : World} {base : Nat} {v : Value} {l : Bs} (h : OwnB w base v l) : Dg.BytesAt w v (l.map UInt8.toNat) := by
  obtain ⟨g, c, e, _, _⟩ := h.shape
  subst e
  have hc := OwnB.cells h
  obtain ⟨g', cap, cur, fz, e, hb, hg, hz, hle, hm, hs, ht⟩ := h
  injection e with e1 e2 e3
  subst e3
  refine ⟨some ⟨g, 0, none⟩, c, by rw [List.length_map], by rw [List.length_map]; exact hle, fun _ => ⟨g, 0, rfl, fun j u hu => ?_⟩⟩
  rw [Nat.zero_add]
  refine hc j u ?_
  rw [← hu, List.map_map]
  rfl
end Go.Proofs.YtknhkmlihbgjpaaDoor
