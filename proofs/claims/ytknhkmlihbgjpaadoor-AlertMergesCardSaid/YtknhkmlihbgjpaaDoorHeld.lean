/- A region that draws its order, in which only operations that look are free: they may be taken first, in every world of a class; the others come up one by one. -/
import Derived.OrdersHeld
import Derived.Test.YtknhkmlihbgjpaaDoorLoose
namespace Go.Proofs.YtknhkmlihbgjpaaDoor
open Go

theorem at_drop {l : List Oper} {i : Nat} {o : Oper} {tl : List Oper} (h : l.drop i = o :: tl) : l.toArray[i]? = some o := by
  rw [List.getElem?_toArray, ← List.head?_drop, h]; rfl
section
variable {P : Program} {md : Region.Mode} {l tl : List Oper} {Q : Exit → Act → World → Prop} {S : World → Prop} {fuel : Nat} {listed : Array Bool} {a : Act} {w : World}
/-- A narrower class from here on. -/
theorem held_mono {ops : Array Oper} {S1 : World → Prop} (hm : ∀ w, S1 w → S w) : ∀ {fuel : Nat} {listed : Array Bool} {a : Act} {w : World}, wpAnyH P md ops Q S1 fuel listed a w → wpAnyH P md ops Q S fuel listed a w
  | 0, _, _, _, h => h
  | _ + 1, _, _, _, h => ⟨h.1, fun i hi => wpOp_mono (fun _ _ h' => ⟨hm _ h'.1, held_mono hm h'.2⟩) (h.2 i hi)⟩
/-- One that looks, and is wanted. -/
theorem held_val (i : Nat) {o : Oper} (hi : l.drop i = o :: tl) (hs : Region.noSelect l.toArray = true) (hf : Region.free md l.toArray listed i = true) (hr : (Region.ready md l.toArray listed).contains i = true)
    (hQ : ∀ c v a w, Q (.panic c) (a.put o.dst v) w → Q (.panic c) a w) (hw : Region.wanted o (yielded l.toArray a.tmps) = true) (hS : S w)
    (h : ∃ v, (∀ w, S w → (execOp a.eval o).run P w = .ok (.value v) w) ∧ wpAnyH P md l.toArray Q S fuel (listed.setIfInBounds i true) (a.put o.dst v) w) : wpAnyH P md l.toArray Q S (fuel + 1) listed a w := by
  obtain ⟨v, h1, h2⟩ := h
  exact wpAnyH_take (at_drop hi) hs hf hr (fun c a w => hQ c v a w) (.inl ⟨hw, h1⟩) hS h2
/-- One that isn't wanted. -/
theorem held_skip (i : Nat) {o : Oper} (hi : l.drop i = o :: tl) (hs : Region.noSelect l.toArray = true) (hf : Region.free md l.toArray listed i = true) (hr : (Region.ready md l.toArray listed).contains i = true)
    (hQ : ∀ c v a w, Q (.panic c) (a.put o.dst v) w → Q (.panic c) a w) (hw : Region.wanted o (yielded l.toArray a.tmps) = false) (hS : S w)
    (h : wpAnyH P md l.toArray Q S fuel (listed.setIfInBounds i true) (a.put o.dst undef) w) : wpAnyH P md l.toArray Q S (fuel + 1) listed a w :=
  wpAnyH_take (at_drop hi) hs hf hr (fun c a w => hQ c undef a w) (.inr ⟨hw, rfl⟩) hS h
/-- The only one that may come up now. -/
theorem held_one (i : Nat) {o : Oper} (hr : Region.ready md l.toArray listed = [i]) (hi : l.drop i = o :: tl) (hw : Region.wanted o (yielded l.toArray a.tmps) = true)
    (h : o.wp P a w (fun a' w' => S w' ∧ wpAnyH P md l.toArray Q S fuel (listed.setIfInBounds i true) a' w') Q) : wpAnyH P md l.toArray Q S (fuel + 1) listed a w := by
  refine wpAnyH_all hr (by simp) fun j hj => ?_
  obtain rfl := List.mem_singleton.1 hj
  unfold wpOp
  simp only [at_drop hi, hw, if_true]
  exact .inl h
/-- The same, one that looks. -/
theorem held_now (i : Nat) {o : Oper} (hr : Region.ready md l.toArray listed = [i]) (hi : l.drop i = o :: tl) (hw : Region.wanted o (yielded l.toArray a.tmps) = true) (hS : S w)
    (h : ∃ v, (execOp a.eval o).run P w = .ok (.value v) w ∧ wpAnyH P md l.toArray Q S fuel (listed.setIfInBounds i true) (a.put o.dst v) w) : wpAnyH P md l.toArray Q S (fuel + 1) listed a w := by
  obtain ⟨v, h1, h2⟩ := h
  refine held_one i hr hi hw ?_
  unfold Oper.wp
  rw [h1]
  exact ⟨hS, h2⟩
/-- The same, a call. -/
theorem held_call (i : Nat) {o : Oper} (hr : Region.ready md l.toArray listed = [i]) (hi : l.drop i = o :: tl) (hw : Region.wanted o (yielded l.toArray a.tmps) = true)
    (h : ∃ f args, (execOp a.eval o).run P w = .ok (.enter f args) w ∧ Calls P f args w fun e w' => ∃ v, e = .returned v ∧ S w' ∧ wpAnyH P md l.toArray Q S fuel (listed.setIfInBounds i true) (a.put o.dst v) w') : wpAnyH P md l.toArray Q S (fuel + 1) listed a w := by
  obtain ⟨f, args, h1, h2⟩ := h
  refine held_one i hr hi hw ?_
  unfold Oper.wp
  rw [h1]
  simp only [Oper.upon]
  exact h2.mono fun e w' ⟨v, he, h3⟩ => by subst he; exact h3
theorem held_two (i j : Nat) {o o2 : Oper} {tl2 : List Oper} (hr : Region.ready md l.toArray listed = [i, j]) (hi : l.drop i = o :: tl) (hj : l.drop j = o2 :: tl2) (hw : Region.wanted o (yielded l.toArray a.tmps) = true) (hw2 : Region.wanted o2 (yielded l.toArray a.tmps) = true)
    (h : o.wp P a w (fun a' w' => S w' ∧ wpAnyH P md l.toArray Q S fuel (listed.setIfInBounds i true) a' w') Q) (h2 : o2.wp P a w (fun a' w' => S w' ∧ wpAnyH P md l.toArray Q S fuel (listed.setIfInBounds j true) a' w') Q) : wpAnyH P md l.toArray Q S (fuel + 1) listed a w := by
  refine wpAnyH_all hr (by simp) fun k hk => ?_
  simp at hk
  rcases hk with rfl | rfl
  · unfold wpOp
    simp only [at_drop hi, hw, if_true]
    exact .inl h
  · unfold wpOp
    simp only [at_drop hj, hw2, if_true]
    exact .inl h2
end
end Go.Proofs.YtknhkmlihbgjpaaDoor
