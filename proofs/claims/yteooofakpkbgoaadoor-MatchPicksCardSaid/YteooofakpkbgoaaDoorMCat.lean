/- Matchers behind others: append(a, b...). -/
import Derived.Test.YteooofakpkbgoaaDoorMGoods
namespace Go.Proofs.YteooofakpkbgoaaDoor
open Go.ChangeShapes Go.WideShapes Go.RowKit

theorem append_nothing (a : Option Addr) (n c c' : Nat) (hn : n ≤ c) (ty : TypeId) (w : World) : (Builtin.append_ #[23, 23] ty #[.slice a n c, .slice none 0 c']).run Tryd.prog w = .ok (.slice a n c) w := by
  have hu := run_underlying Tryd.underlying23
  have hs : ∀ w, (sizeOf 31).run Tryd.prog w = .ok 3 w := fun w => by kernel_rfl
  cases a with
  | none => simp [Builtin.append_, Sem.run_bind, hu, hs, Builtin.lenOf, Builtin.firstCells, Result.andThen, hn]
  | some a => simp [Builtin.append_, Sem.run_bind, hu, hs, Builtin.lenOf, Builtin.firstCells, storeCells, Result.andThen, hn]
theorem flat_inv {k : Nat} (hk : 0 < k) {css : List (List Value)} (h : ∀ cs ∈ css, cs.length = k) {j : Nat} {u : Value} (hj : css.flatten[j]? = some u) : ∃ cs, css[j / k]? = some cs ∧ cs[j % k]? = some u := by
  induction css generalizing j with
  | nil => simp at hj
  | cons c css ih =>
    have hc := h c (by simp)
    rw [List.flatten_cons] at hj
    by_cases hlt : j < k
    · rw [List.getElem?_append_left (by omega)] at hj
      exact ⟨c, by rw [Nat.div_eq_of_lt hlt]; rfl, by rw [Nat.mod_eq_of_lt hlt]; exact hj⟩
    · rw [List.getElem?_append_right (by omega), hc] at hj
      obtain ⟨cs, h1, h2⟩ := ih (fun x hx => h x (by simp [hx])) hj
      have e1 : j / k = (j - k) / k + 1 := by rw [← Nat.sub_add_cancel (show k ≤ j by omega), Nat.add_div_right _ hk]; simp
      have e2 : j % k = (j - k) % k := by rw [← Nat.sub_add_cancel (show k ≤ j by omega), Nat.add_mod_right]; simp
      exact ⟨cs, by rw [e1]; simpa using h1, by rw [e2]; exact h2⟩
theorem encM_all (ms : List Mt) : ∀ u ∈ (ms.map encM).flatten, u.oneCell' = true := by
  intro u hu
  obtain ⟨cs, hcs, hu⟩ := List.mem_flatten.1 hu
  obtain ⟨m, _, rfl⟩ := List.mem_map.1 hcs
  exact encM_one m u hu
theorem flat_len (ms : List Mt) : ((ms.map encM).flatten).length = ms.length * 3 := by
  induction ms with
  | nil => rfl
  | cons m ms ih => rw [List.map_cons, List.flatten_cons, List.length_append, ih, List.length_cons, Nat.succ_mul]; show 3 + _ = _; omega
theorem run_cat_mt {w : World} {base : Nat} {v x : Value} {ms ms' : List Mt} {P : Nat → Prop} (ty : TypeId) (hown : w.ownsRow base 31 3 v ms.length (ms.map encM).flatten) (hx : MtsAt P w x ms') (hn : ms.length + ms'.length ≤ 100000) (hbase : base ≤ w.heap.size) :
    ∃ v' w', (Builtin.append_ #[23, 23] ty #[v, x]).run Tryd.prog w = .ok v' w' ∧ w'.ownsRow base 31 3 v' (ms ++ ms').length ((ms ++ ms').map encM).flatten ∧ w.grownBy w' v.ownBlock := by
  obtain ⟨i0, hi, hz0, hz1, hz2⟩ := info_parts0 info_mt
  rw [List.length_append, List.map_append, List.flatten_append]
  rcases hx with ⟨e, a, c, rfl⟩ | ⟨g, o, c, rfl, _, _, hg, hc⟩
  · have e2 : ms' = [] := by simpa using e
    subst e2
    cases a with
    | none =>
      obtain ⟨aO, cO, rfl, hle⟩ := own_slice hown
      exact ⟨_, w, append_nothing aO ms.length cO c hle ty w, by simpa using hown, ⟨rfl, rfl, rfl, Nat.le_refl _, fun _ _ _ => rfl⟩⟩
    | some a =>
      obtain ⟨v', w', h1, h2, h3, _⟩ := run_append_own_at (P := Tryd.prog) w base 23 ty 31 i0 _ 3 40 Tryd.underlying23 hi hz0 hz1 hz2 rfl (by decide) v ms.length _ hown a 0 c [] rfl (fun j u hu => by simp at hu) (fun u hu => by simp at hu) (by unfold maxLen; simp at hn; omega) (by simp at hn; omega) hbase
      exact ⟨v', w', h1, by simpa using h2, h3⟩
  · rw [List.length_map] at *
    obtain ⟨v', w', h1, h2, h3, _⟩ := run_append_own_at (P := Tryd.prog) w base 23 ty 31 i0 _ 3 40 Tryd.underlying23 hi hz0 hz1 hz2 rfl (by decide) v ms.length _ hown ⟨g, o, none⟩ ms'.length c (ms'.map encM).flatten (flat_len ms') (fun j u hu => by
      obtain ⟨cs, h1, h2⟩ := flat_inv (k := 3) (by decide) (encM_len ms') hu
      have h3 := hc (j / 3) cs h1 (j % 3) u h2
      rw [add_at]
      rw [show o + j / 3 * 3 + j % 3 = o + j by omega] at h3
      exact h3) (encM_all ms') (by unfold maxLen; omega) (by omega) hbase
    exact ⟨v', w', h1, h2, h3⟩
section
variable {ops : Array Oper} {rest : List Oper} {o : Oper} {a : Act} {w : World} {Q : Exit → Act → World → Prop}
theorem wpList_cat_mt (s x : Operand) (hg : o.guard = none) (ho : o.op = .call { callee := .builtin .append, args := #[s, x], argTypes := #[23, 23] })
    (base : Nat) (v y : Value) (ms ms' : List Mt) (P : Nat → Prop) (hs : a.eval s = v) (hxx : a.eval x = y) (hown : w.ownsRow base 31 3 v ms.length (ms.map encM).flatten) (hx : MtsAt P w y ms') (hn : ms.length + ms'.length ≤ 100000) (hbase : base ≤ w.heap.size)
    (h : ∀ v' w', w'.ownsRow base 31 3 v' (ms ++ ms').length ((ms ++ ms').map encM).flatten → w.grownBy w' v.ownBlock → wpList Tryd.prog ops Q rest (a.put o.dst v') w') : wpList Tryd.prog ops Q (o :: rest) a w := by
  obtain ⟨v', w', hr, h2, h3⟩ := run_cat_mt o.type hown hx hn hbase
  refine wpList_plain hg fun _ hK => ?_
  unfold Oper.wp execOp
  simp only [ho, resolve, invoke, builtin, Sem.run_bind, Sem.run_pure, Result.andThen_ok, List.map_toArray, List.map_cons, List.map_nil, hs, hxx, hr]
  exact hK _ _ (h v' w' h2 h3)
end
end Go.Proofs.YteooofakpkbgoaaDoor
