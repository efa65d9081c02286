/- Slices of slices of one's own: what is appended to them. -/
import Derived.Test.YtidiallphmocdaaDoorSRChain
namespace Go.Proofs.YtidiallphmocdaaDoor
open Go.ChangeShapes Go.WideShapes Go.RowKit

theorem info_y : (Tryd.prog.info? 22).map (fun i => (i.zero, i.size, i.bytes)) = some (some (.slice none 0 0), 1, 24) := by kernel_rfl
/-- The values ys lie behind one another. -/
def ValsAt (w : World) (u : Value) (ys : List Value) : Prop :=
  ∃ a cap, u = .slice a ys.length cap ∧ (ys ≠ [] → ∃ g o, a = some ⟨g, o, none⟩ ∧ Cls w g o ys) ∧ ∀ x ∈ ys, x.oneCell' = true
theorem ValsAt.keep {w w' : World} {u : Value} {ys : List Value} (h : ValsAt w u ys) (hb : Below w.heap.size w w') : ValsAt w' u ys := by
  obtain ⟨a, cap, e, hk, h1⟩ := h
  refine ⟨a, cap, e, fun hn => ?_, h1⟩
  obtain ⟨g, o, e, hc⟩ := hk hn
  exact ⟨g, o, e, hc.keep hb⟩
theorem vals_of_own {w : World} {base n : Nat} {v : Value} {xs : List Value} (h : w.ownsRow base 22 1 v n xs) (hn : xs.length = n) (h1 : ∀ x ∈ xs, x.oneCell' = true) : ValsAt w v xs := by
  subst hn
  have hc := h
  rcases h.2 with ⟨rfl, h0⟩ | ⟨g, cap, cur, rfl, _, _, _⟩
  · have : xs = [] := List.eq_nil_of_length_eq_zero h0
    subst this
    exact ⟨none, 0, rfl, fun h => absurd rfl h, h1⟩
  · exact ⟨_, cap, rfl, fun _ => ⟨g, 0, rfl, fun j u hu => by have := hc.cells (g := g) rfl j u hu; rw [add_any] at this; exact this⟩, h1⟩
theorem parts_of_vals {w : World} {v : Value} {xs : List Value} {ls : List (List Nat)} (h : ValsAt w v xs) (hl : xs.length = ls.length) (hk : ∀ (j : Nat) p, ls[j]? = some p → ∃ u, xs[j]? = some u ∧ BytesAt w u p) : PartsAt w v ls := by
  obtain ⟨a, cap, rfl, hc, _⟩ := h
  refine ⟨a, cap, by rw [hl], fun j p hp => ?_⟩
  obtain ⟨u, hu, hb⟩ := hk j p hp
  obtain ⟨g, o, e, hcl⟩ := hc (by intro e; subst e; simp at hu)
  exact ⟨g, o, u, e, hcl j u hu, hb⟩
theorem run_append_zeroY (w : World) (ty : TypeId) (b au : Option Addr) (n cap cu : Nat) (h : n ≤ cap) :
    (Builtin.append_ #[50, 50] ty #[.slice b n cap, .slice au 0 cu]).run Tryd.prog w = .ok (.slice b n cap) w := by
  obtain ⟨i0, hi, hz0, hz1, hz2⟩ := info_parts info_y
  have hfs : ∀ w', (Builtin.firstCells i0.size 0 (.slice au 0 cu)).run Tryd.prog w' = .ok #[] w' := fun w' => by
    cases au with
    | none => simp [Builtin.firstCells]
    | some ad => simp [Builtin.firstCells, loadCells, loadCellsFrom]
  cases b with
  | none => simp [Builtin.append_, run_underlying Tryd.underlying50, sizeOf, typeInfo, hi, Builtin.lenOf, hfs, h]
  | some ad => simp [Builtin.append_, run_underlying Tryd.underlying50, sizeOf, typeInfo, hi, Builtin.lenOf, hfs, h, storeCells]
theorem own_sliceY {w : World} {base n : Nat} {v : Value} {xs : List Value} (h : w.ownsRow base 22 1 v n xs) : ∃ b cap, v = .slice b n cap ∧ n ≤ cap := by
  rcases h.2 with ⟨rfl, h0⟩ | ⟨g, cap, cur, rfl, _, _, hn, _⟩
  · exact ⟨none, 0, by rw [h0], by omega⟩
  · exact ⟨_, cap, rfl, hn⟩
section
variable {ops : Array Oper} {rest : List Oper} {o : Oper} {a : Act} {w : World} {K : Act → World → Prop} {Q : Exit → Act → World → Prop}
/-- Slices are appended to a slice of one's own, be they none. -/
theorem wp_own_vals (base : Nat) (v u : Value) (n : Nat) (xs ys : List Value) (hn : xs.length = n) (hown : w.ownsRow base 22 1 v n xs) (hu : ValsAt w u ys) (hl : n + ys.length ≤ 100000) (hb : base ≤ w.heap.size)
    (s x : Operand) (ho : o.op = .call { callee := .builtin .append, args := #[s, x], argTypes := #[50, 50] }) (hs : a.eval s = v) (hx : a.eval x = u)
    (h : ∀ v' w', w'.ownsRow base 22 1 v' (n + ys.length) (xs ++ ys) → w.grownBy w' v.ownBlock → K (a.put o.dst v') w') : o.wp Tryd.prog a w K Q := by
  subst hn
  obtain ⟨au, cu, rfl, hk, h1⟩ := hu
  rcases Nat.eq_zero_or_pos ys.length with h0 | h0
  · have hy : ys = [] := List.eq_nil_of_length_eq_zero h0
    subst hy
    obtain ⟨b, cap, rfl, hn⟩ := own_sliceY hown
    have hrun := run_append_zeroY w o.type b au xs.length cap cu hn
    unfold Oper.wp
    simp only [execOp, ho, resolve, invoke, builtin, List.map_toArray, List.map_cons, List.map_nil, hs, hx, List.length_nil]
    simp [hrun, Result.andThen]
    exact h _ _ (by rw [List.append_nil, List.length_nil, Nat.add_zero]; exact hown) ⟨rfl, rfl, rfl, Nat.le_refl _, fun _ _ _ => rfl⟩
  · obtain ⟨i0, hi, hz0, hz1, hz2⟩ := info_parts info_y
    obtain ⟨g, k, rfl, hcl⟩ := hk (by intro e; subst e; simp at h0)
    exact wp_append_own w s x 50 ho base 22 i0 (.slice none 0 0) 1 24 Tryd.underlying50 hi hz0 hz1 hz2 rfl (by decide) v xs.length xs hs hown ⟨g, k, none⟩ ys.length cu ys hx (by simp) (fun j u' hu' => by rw [add_any]; exact hcl j u' hu') h1 (by unfold maxLen; omega) (by omega) hb (fun v' w' h1 h2 _ => h v' w' h1 h2)
theorem list_own_vals (base : Nat) (v u : Value) (n : Nat) (xs ys : List Value) (hn : xs.length = n) (hown : w.ownsRow base 22 1 v n xs) (hu : ValsAt w u ys) (hl : n + ys.length ≤ 100000) (hb : base ≤ w.heap.size)
    (s x : Operand) (hgd : o.guard = none) (ho : o.op = .call { callee := .builtin .append, args := #[s, x], argTypes := #[50, 50] }) (hs : a.eval s = v) (hx : a.eval x = u)
    (h : ∀ v' w', w'.ownsRow base 22 1 v' (n + ys.length) (xs ++ ys) → w.grownBy w' v.ownBlock → wpList Tryd.prog ops Q rest (a.put o.dst v') w') : wpList Tryd.prog ops Q (o :: rest) a w :=
  wpList_plain hgd fun _ hK => wp_own_vals base v u n xs ys hn hown hu hl hb s x ho hs hx fun v' w' h1 h2 => hK _ _ (h v' w' h1 h2)
end
theorem vals_one (w : World) (u : Value) (h1 : u.oneCell' = true) : ValsAt (w.alloc (.cells #[u] 22)) (.slice (some ⟨w.heap.size, 0, none⟩) 1 1) [u] :=
  ⟨_, 1, rfl, fun _ => ⟨_, 0, rfl, fun j v hv => by rw [cell_of_row _ _ _ _ _ _ (heap_alloc_last w _), Nat.zero_add, show (#[u] : Array Value) = [u].toArray from rfl, List.getElem?_toArray]; exact hv⟩, fun x hx => by rw [List.mem_singleton.1 hx]; exact h1⟩
theorem below_appY {N base : Nat} {w0 w w' : World} {v : Value} {n : Nat} {cs : List Value} (hb : Below N w0 w) (hown : w.ownsRow base 22 1 v n cs) (hN : N ≤ base) (hNw : N ≤ w.heap.size) (hg : w.grownBy w' v.ownBlock) : Below N w0 w' :=
  hb.grown hg hNw (fun j e => by have := (hown.lt j e).1; omega)
/-- Two that may come up now. -/
theorem held_two {P : Program} {md : Region.Mode} {l tl tl' : List Oper} {Q : Exit → Act → World → Prop} {S : World → Prop} {fuel : Nat} {listed : Array Bool} {a : Act} {w : World} (i j : Nat) {o p : Oper} (hr : Region.ready md l.toArray listed = [i, j]) (hi : l.drop i = o :: tl) (hj : l.drop j = p :: tl') (hw : Region.wanted o (yielded l.toArray a.tmps) = true) (hw' : Region.wanted p (yielded l.toArray a.tmps) = true)
    (h : o.wp P a w (fun a' w' => S w' ∧ wpAnyH P md l.toArray Q S fuel (listed.setIfInBounds i true) a' w') Q) (h' : p.wp P a w (fun a' w' => S w' ∧ wpAnyH P md l.toArray Q S fuel (listed.setIfInBounds j true) a' w') Q) : wpAnyH P md l.toArray Q S (fuel + 1) listed a w := by
  refine wpAnyH_all hr (by simp) fun k hk => ?_
  rcases List.mem_cons.1 hk with rfl | hk
  · unfold wpOp
    simp only [at_drop hi, hw, if_true]
    exact .inl h
  · obtain rfl := List.mem_singleton.1 hk
    unfold wpOp
    simp only [at_drop hj, hw', if_true]
    exact .inl h'
end Go.Proofs.YtidiallphmocdaaDoor
