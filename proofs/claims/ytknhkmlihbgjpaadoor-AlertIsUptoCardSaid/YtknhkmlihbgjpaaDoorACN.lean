/- A region that draws its order, with new memory in it: cells that are told, and what was made since (XAMergesL has its own copy). -/
import Derived.Test.YtknhkmlihbgjpaaDoorAKit
namespace Go.Proofs.YtknhkmlihbgjpaaDoor
open Go.ChangeShapes Go.WideShapes Go.RowKit

/-- Cells that are told, and what was made since. -/
def CN (W : World) (X : List (Addr × Value)) (t : TypeId) (zs : List Value) (L : Marks) (w : World) : Prop :=
  CL W X w ∧ (∀ i v, L i = some v → ∃ g, v = .pointer (some ⟨g, 0, none⟩) ∧ W.heap.size ≤ g ∧ Rw w g t zs) ∧ (∀ i j v, L i = some v → L j = some v → i = j)
section
variable {W w w' : World} {X : List (Addr × Value)} {t : TypeId} {zs : List Value} {L : Marks}
theorem CN.start (h : CL W X w) : CN W X t zs (fun _ => none) w := ⟨h, fun _ _ e => (by cases e), fun _ _ _ e => (by cases e)⟩
theorem CN.go (h : CN W X t zs L w) (k : Below w.heap.size w w') : CN W X t zs L w' := by
  obtain ⟨h1, h2, h3⟩ := h
  refine ⟨h1.go k, fun i v e => ?_, h3⟩
  obtain ⟨g, e2, hg, hr⟩ := h2 i v e
  exact ⟨g, e2, hg, hr.stay k⟩
theorem CN.new (i : Nat) (h : CN W X t zs L w) : CN W X t zs (upd L i (.pointer (some ⟨w.heap.size, 0, none⟩))) (w.alloc (.cells zs.toArray t)) := by
  obtain ⟨h1, h2, h3⟩ := h
  have hal := (Below.refl w.heap.size w).alloc (Nat.le_refl _) (.cells zs.toArray t)
  have hno : ∀ k, L k ≠ some (.pointer (some ⟨w.heap.size, 0, none⟩)) := fun k e => by
    obtain ⟨g, e2, _, hr⟩ := h2 k _ e
    injection e2 with e2
    injection e2 with e2
    injection e2 with e2
    have := hr.lt
    omega
  refine ⟨h1.go hal, fun k v e => ?_, fun k j v e e' => ?_⟩
  · unfold upd at e
    split at e
    · injection e with e
      subst e
      exact ⟨_, rfl, h1.1.size, Rw.new w t zs⟩
    · obtain ⟨g, e2, hg, hr⟩ := h2 k v e
      exact ⟨g, e2, hg, hr.stay hal⟩
  · unfold upd at e e'
    split at e <;> split at e'
    · omega
    · injection e with e
      subst e
      exact absurd e' (hno j)
    · injection e' with e'
      subst e'
      exact absurd e (hno k)
    · exact h3 k j v e e'
theorem CN.pair {i j : Nat} {u v : Value} (h : CN W X t zs (upd (upd (fun _ => none) i u) j v) w) (hij : i ≠ j) : ∃ g k : Nat, u = .pointer (some ⟨g, 0, none⟩) ∧ v = .pointer (some ⟨k, 0, none⟩) ∧ g ≠ k ∧ W.heap.size ≤ g ∧ W.heap.size ≤ k ∧ Rw w g t zs ∧ Rw w k t zs ∧ Below W.heap.size W w := by
  obtain ⟨h1, h2, h3⟩ := h
  obtain ⟨g, rfl, hg, rg⟩ := h2 i u (by simp [upd, hij])
  obtain ⟨k, rfl, hk, rk⟩ := h2 j v (by simp [upd])
  refine ⟨g, k, rfl, rfl, fun e => ?_, hg, hk, rg, rk, h1.1⟩
  subst e
  exact hij (h3 i j (.pointer (some ⟨g, 0, none⟩)) (by simp [upd, hij]) (by simp [upd]))
theorem CN.single {i : Nat} {u : Value} (h : CN W X t zs (upd (fun _ => none) i u) w) : ∃ g : Nat, u = .pointer (some ⟨g, 0, none⟩) ∧ W.heap.size ≤ g ∧ Rw w g t zs ∧ Below W.heap.size W w := by
  obtain ⟨h1, h2, _⟩ := h
  obtain ⟨g, rfl, hg, rg⟩ := h2 i u (by simp [upd])
  exact ⟨g, rfl, hg, rg, h1.1⟩
end
end Go.Proofs.YtknhkmlihbgjpaaDoor
