/- A region that draws its order and whose last operation, number z, writes what an earlier one reads: those that look are taken first, in every world of a class that need not hold behind z, which waits for them. -/
import Derived.Test.YteooofakpkbgoaaDoorQNode
namespace Go.Proofs.YteooofakpkbgoaaDoor.Dn
open Go

section
variable {P : Program} {ops : Array Oper} {Q : Exit → Act → World → Prop} {md : Region.Mode} {S : World → Prop} {z : Nat}
/-- Whatever comes up, S holds behind it, but for number z. -/
def anyZ (P : Program) (md : Region.Mode) (ops : Array Oper) (Q : Exit → Act → World → Prop) (S : World → Prop) (z : Nat) : Nat → Array Bool → Act → World → Prop
  | 0, L, a, w => Region.ready md ops L = [] ∧ Q .normal a w
  | n + 1, L, a, w => (Region.ready md ops L = [] → Q .normal a w) ∧
    ∀ i ∈ Region.ready md ops L, wpOp P ops Q i (fun a' w' => (i ≠ z → S w') ∧ anyZ P md ops Q S z n (L.setIfInBounds i true) a' w') a w
theorem any_of_z : ∀ (n : Nat) (L : Array Bool) (a : Act) (w : World), anyZ P md ops Q S z n L a w → wpAny P md ops Q n L a w
  | 0, _, _, _, h => h
  | n + 1, _, _, _, h => ⟨h.1, fun i hi => wpOp_mono (fun a' w' q => any_of_z n _ a' w' q.2) (h.2 i hi)⟩
theorem z_begin {id : Nat} {a : Act} {w : World} (z : Nat) (S : World → Prop) (hm : P.follows .mixedOrders = true) (h : anyZ P .any ops Q S z ops.size (Array.replicate ops.size false) a { w with drawn := w.drawn + 1 }) : (Code.region id ops true).wp P Q a w :=
  wp_region_any hm (any_of_z _ _ _ _ h)
/-- z waits for number i. -/
def waitsB (md : Region.Mode) (ops : Array Oper) (z i : Nat) : Bool := match ops[z]? with
  | some o => o.after.any fun e => Region.binds md e && e.on == i
  | none => true
theorem z_first {i : Nat} {oi : Oper} {v : Value} (hi : ops[i]? = some oi) (hs : Region.noSelect ops = true) (hQ : ∀ c a w, Q (.panic c) (a.put oi.dst v) w → Q (.panic c) a w) (hz : waitsB md ops z i = true) :
    ∀ (n : Nat) (L : Array Bool) (a : Act) (w : World), (∀ j oj, ops[j]? = some oj → j ≠ i → L.getD j true = false → (∀ e ∈ oj.after, Region.binds md e = true → e.on ≠ i) → oi.apart ops oj = true) →
      i ∈ Region.ready md ops L → YieldsIf P ops S oi v a → S w → anyZ P md ops Q S z n (L.setIfInBounds i true) (a.put oi.dst v) w → anyZ P md ops Q S z (n + 1) L a w := by
  intro n
  induction n with
  | zero =>
    intro L a w _ hr hy hS H
    refine ⟨fun h => (by rw [h] at hr; cases hr), fun j hj => ?_⟩
    by_cases hji : j = i
    · subst hji; exact hy.wpOp hi hS ⟨fun _ => hS, H⟩
    · have := ready_mono hj hji
      rw [H.1] at this
      cases this
  | succ n ih =>
    intro L a w hf hr hy hS H
    refine ⟨fun h => (by rw [h] at hr; cases hr), fun j hj => ?_⟩
    by_cases hji : j = i
    · subst hji; exact hy.wpOp hi hS ⟨fun _ => hS, H⟩
    · have h1 := H.2 j (ready_mono hj hji)
      obtain ⟨hjun, oj, hoj, hall⟩ := mem_ready.1 hj
      have hnot : ∀ e ∈ oj.after, Region.binds md e = true → e.on ≠ i := fun e he hb q => by
        have h1 := hall e he hb
        have h0 := (mem_ready.1 hr).1
        rw [q] at h1
        rcases Nat.lt_or_ge i L.size with h' | h'
        · simp [h'] at h0 h1; rw [h0] at h1; cases h1
        · simp [Array.getElem?_eq_none h'] at h1
      have hjz : j ≠ z := by
        rintro rfl
        unfold waitsB at hz
        rw [hoj] at hz
        obtain ⟨e, he, hb⟩ := Array.any_eq_true'.1 hz
        simp only [Bool.and_eq_true, beq_iff_eq] at hb
        exact hnot e he hb.1 hb.2
      have h2 := wpOp_putIf hoj (hf j oj hoj hji hjun hnot) (fun cs b => Region.noSelect_spec hs i oi cs b hi) (fun cs b => Region.noSelect_spec hs j oj cs b hoj) hQ hy h1
      have hf' : ∀ k ok, ops[k]? = some ok → k ≠ i → (L.setIfInBounds j true).getD k true = false → (∀ e ∈ ok.after, Region.binds md e = true → e.on ≠ i) → oi.apart ops ok = true := fun k ok hk hki hun hno => by
        refine hf k ok hk hki ?_ hno
        by_cases hjk : j = k
        · subst hjk; exact hjun
        · rw [getD_set_ne true hjk] at hun; exact hun
      refine wpOp_mono (fun a' w' q => ⟨q.2.1, ih (L.setIfInBounds j true) a' w' hf' (ready_mono hr (Ne.symm hji)) q.1 (q.2.1 hjz) ?_⟩) h2
      rw [Array.setIfInBounds_comm _ _ hji]
      exact q.2.2
end
section
variable {P : Program} {md : Region.Mode} {l tl : List Oper} {Q : Exit → Act → World → Prop} {S : World → Prop} {z n : Nat} {L : Array Bool} {a : Act} {w : World}
/-- One that looks. -/
theorem z_val (i : Nat) {o : Oper} (hi : l.drop i = o :: tl) (hs : Region.noSelect l.toArray = true) (hf : Region.free md l.toArray L i = true) (hr : (Region.ready md l.toArray L).contains i = true) (hz : waitsB md l.toArray z i = true)
    (hQ : ∀ c v a w, Q (.panic c) (a.put o.dst v) w → Q (.panic c) a w) (hw : Region.wanted o (yielded l.toArray a.tmps) = true) (hS : S w)
    (h : ∃ v, (∀ w, S w → (execOp a.eval o).run P w = .ok (.value v) w) ∧ anyZ P md l.toArray Q S z n (L.setIfInBounds i true) (a.put o.dst v) w) : anyZ P md l.toArray Q S z (n + 1) L a w := by
  obtain ⟨v, h1, h2⟩ := h
  exact z_first (at_drop hi) hs (fun c a w => hQ c v a w) hz n L a w (Region.free_spec (at_drop hi) hf) (by simpa using hr) (.inl ⟨hw, h1⟩) hS h2
/-- The only one that may come up now. -/
theorem z_one (i : Nat) {o : Oper} (hr : Region.ready md l.toArray L = [i]) (hi : l.drop i = o :: tl) (hw : Region.wanted o (yielded l.toArray a.tmps) = true)
    (h : o.wp P a w (fun a' w' => (i ≠ z → S w') ∧ anyZ P md l.toArray Q S z n (L.setIfInBounds i true) a' w') Q) : anyZ P md l.toArray Q S z (n + 1) L a w := by
  refine ⟨fun h0 => (by rw [h0] at hr; cases hr), fun j hj => ?_⟩
  rw [hr] at hj
  obtain rfl := List.mem_singleton.1 hj
  unfold wpOp
  simp only [at_drop hi, hw, if_true]
  exact .inl h
/-- The same, one that looks. -/
theorem z_now (i : Nat) {o : Oper} (hr : Region.ready md l.toArray L = [i]) (hi : l.drop i = o :: tl) (hw : Region.wanted o (yielded l.toArray a.tmps) = true) (hS : S w)
    (h : ∃ v, (execOp a.eval o).run P w = .ok (.value v) w ∧ anyZ P md l.toArray Q S z n (L.setIfInBounds i true) (a.put o.dst v) w) : anyZ P md l.toArray Q S z (n + 1) L a w := by
  obtain ⟨v, h1, h2⟩ := h
  refine z_one i hr hi hw ?_
  unfold Oper.wp
  rw [h1]
  exact ⟨fun _ => hS, h2⟩
/-- The same, a call. -/
theorem z_call (i : Nat) {o : Oper} (hr : Region.ready md l.toArray L = [i]) (hi : l.drop i = o :: tl) (hw : Region.wanted o (yielded l.toArray a.tmps) = true)
    (h : ∃ f args, (execOp a.eval o).run P w = .ok (.enter f args) w ∧ Calls P f args w fun e w' => ∃ v, e = .returned v ∧ S w' ∧ anyZ P md l.toArray Q S z n (L.setIfInBounds i true) (a.put o.dst v) w') : anyZ P md l.toArray Q S z (n + 1) L a w := by
  obtain ⟨f, args, h1, h2⟩ := h
  refine z_one i hr hi hw ?_
  unfold Oper.wp
  rw [h1]
  simp only [Oper.upon]
  exact h2.mono fun e w' ⟨v, he, h3, h4⟩ => by subst he; exact ⟨fun _ => h3, h4⟩
/-- The same, one that writes. -/
theorem z_store (i : Nat) {o : Oper} (hr : Region.ready md l.toArray L = [i]) (hi : l.drop i = o :: tl) (hw : Region.wanted o (yielded l.toArray a.tmps) = true)
    (h : ∃ w', (execOp a.eval o).run P w = .ok .skip w' ∧ (i ≠ z → S w') ∧ anyZ P md l.toArray Q S z n (L.setIfInBounds i true) (a.put o.dst undef) w') : anyZ P md l.toArray Q S z (n + 1) L a w := by
  obtain ⟨w', h1, h2⟩ := h
  refine z_one i hr hi hw ?_
  unfold Oper.wp
  rw [h1]
  exact h2
theorem z_done (hr : Region.ready md l.toArray L = []) (h : Q .normal a w) : ∀ n, anyZ P md l.toArray Q S z n L a w
  | 0 => ⟨hr, h⟩
  | _ + 1 => ⟨fun _ => h, by rw [hr]; simp⟩
end
end Go.Proofs.YteooofakpkbgoaaDoor.Dn
