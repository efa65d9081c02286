/- slices.Clone of fields; the later one of two ends. -/
import Derived.Test.YtknhkmlihbgjpaaDoorAGood9
import Derived.Lib.SliceRun
namespace Go.Proofs.YtknhkmlihbgjpaaDoor
open Go.ChangeShapes Go.WideShapes Go.RowKit

theorem flat_inv {k : Nat} (hk : 0 < k) {css : List (List Value)} (h : ∀ cs ∈ css, cs.length = k) {j : Nat} {u : Value} (hj : css.flatten[j]? = some u) : ∃ cs, css[j / k]? = some cs ∧ cs[j % k]? = some u := by
  induction css generalizing j with
  | nil => simp at hj
  | cons c css ih =>
    have hc := h c (by simp)
    rw [List.flatten_cons] at hj
    by_cases hlt : j < k
    · rw [List.getElem?_append_left (by omega)] at hj
      exact ⟨c, by rw [Nat.div_eq_of_lt hlt]; rfl, by rw [Nat.mod_eq_of_lt hlt]; exact hj⟩
    · rw [List.getElem?_append_right (by omega), hc] at hj
      obtain ⟨cs, h1, h2⟩ := ih (fun x hx => h x (by simp [hx])) hj
      have e1 : j / k = (j - k) / k + 1 := by rw [← Nat.sub_add_cancel (show k ≤ j by omega), Nat.add_div_right _ hk]; simp
      have e2 : j % k = (j - k) % k := by rw [← Nat.sub_add_cancel (show k ≤ j by omega), Nat.add_mod_right]; simp
      exact ⟨cs, by rw [e1]; simpa using h1, by rw [e2]; exact h2⟩
theorem append_nothingF (a : Option Addr) (n c c' : Nat) (hn : n ≤ c) (ty : TypeId) (w : World) : (Builtin.append_ #[22, 22] ty #[.slice a n c, .slice none 0 c']).run Tryd.prog w = .ok (.slice a n c) w := by
  have hu := run_underlying Tryd.underlying22
  have hs : ∀ w, (sizeOf 64).run Tryd.prog w = .ok 2 w := fun w => by kernel_rfl
  cases a with
  | none => simp [Builtin.append_, Sem.run_bind, hu, hs, Builtin.lenOf, Builtin.firstCells, Result.andThen, hn]
  | some a => simp [Builtin.append_, Sem.run_bind, hu, hs, Builtin.lenOf, Builtin.firstCells, storeCells, Result.andThen, hn]
theorem encF_all (ms : List (Bs × Bs)) : ∀ u ∈ (ms.map encF).flatten, u.oneCell' = true := by
  intro u hu
  obtain ⟨cs, hcs, hu⟩ := List.mem_flatten.1 hu
  obtain ⟨m, _, rfl⟩ := List.mem_map.1 hcs
  exact encF_one m u hu
theorem flat_lenF (ms : List (Bs × Bs)) : ((ms.map encF).flatten).length = ms.length * 2 := by
  induction ms with
  | nil => rfl
  | cons m ms ih => rw [List.map_cons, List.flatten_cons, List.length_append, ih, List.length_cons, Nat.succ_mul]; show 2 + _ = _; omega
theorem run_cat_fld {w : World} {base : Nat} {v x : Value} {ms ms' : List (Bs × Bs)} {P : Nat → Prop} (ty : TypeId) (hown : w.ownsRow base 64 2 v ms.length (ms.map encF).flatten) (hx : FldsAt P w x ms') (hn : ms.length + ms'.length ≤ 100000) (hbase : base ≤ w.heap.size) :
    ∃ v' w', (Builtin.append_ #[22, 22] ty #[v, x]).run Tryd.prog w = .ok v' w' ∧ w'.ownsRow base 64 2 v' (ms ++ ms').length ((ms ++ ms').map encF).flatten ∧ w.grownBy w' v.ownBlock := by
  obtain ⟨i0, hi, hz0, hz1, hz2⟩ := info_parts0 info_fld
  rw [List.length_append, List.map_append, List.flatten_append]
  rcases hx with ⟨e, a, c, rfl⟩ | ⟨g, o, c, rfl, _, _, hg, hc⟩
  · have e2 : ms' = [] := by simpa using e
    subst e2
    cases a with
    | none =>
      obtain ⟨aO, cO, rfl, hle⟩ := own_slice hown
      exact ⟨_, w, append_nothingF aO ms.length cO c hle ty w, by simpa using hown, ⟨rfl, rfl, rfl, Nat.le_refl _, fun _ _ _ => rfl⟩⟩
    | some a =>
      obtain ⟨v', w', h1, h2, h3, _⟩ := run_append_own_at (P := Tryd.prog) w base 22 ty 64 i0 _ 2 32 Tryd.underlying22 hi hz0 hz1 hz2 rfl (by decide) v ms.length _ hown a 0 c [] rfl (fun j u hu => by simp at hu) (fun u hu => by simp at hu) (by unfold maxLen; simp at hn; omega) (by simp at hn; omega) hbase
      exact ⟨v', w', h1, by simpa using h2, h3⟩
  · rw [List.length_map] at *
    obtain ⟨v', w', h1, h2, h3, _⟩ := run_append_own_at (P := Tryd.prog) w base 22 ty 64 i0 _ 2 32 Tryd.underlying22 hi hz0 hz1 hz2 rfl (by decide) v ms.length _ hown ⟨g, o, none⟩ ms'.length c (ms'.map encF).flatten (flat_lenF ms') (fun j u hu => by
      obtain ⟨cs, h1, h2⟩ := flat_inv (k := 2) (by decide) (encF_len ms') hu
      have h3 := hc (j / 2) cs h1 (j % 2) u h2
      rw [add_at]
      rw [show o + j / 2 * 2 + j % 2 = o + j by omega] at h3
      exact h3) (encF_all ms') (by unfold maxLen; omega) (by omega) hbase
    exact ⟨v', w', h1, h2, h3⟩
section
variable {ops : Array Oper} {rest : List Oper} {o : Oper} {a : Act} {w : World} {Q : Exit → Act → World → Prop}
theorem wpList_cat_fld (s x : Operand) (hg : o.guard = none) (ho : o.op = .call { callee := .builtin .append, args := #[s, x], argTypes := #[22, 22] })
    (base : Nat) (v y : Value) (ms ms' : List (Bs × Bs)) (P : Nat → Prop) (hs : a.eval s = v) (hxx : a.eval x = y) (hown : w.ownsRow base 64 2 v ms.length (ms.map encF).flatten) (hx : FldsAt P w y ms') (hn : ms.length + ms'.length ≤ 100000) (hbase : base ≤ w.heap.size)
    (h : ∀ v' w', w'.ownsRow base 64 2 v' (ms ++ ms').length ((ms ++ ms').map encF).flatten → w.grownBy w' v.ownBlock → wpList Tryd.prog ops Q rest (a.put o.dst v') w') : wpList Tryd.prog ops Q (o :: rest) a w := by
  obtain ⟨v', w', hr, h2, h3⟩ := run_cat_fld o.type hown hx hn hbase
  refine wpList_plain hg fun _ hK => ?_
  unfold Oper.wp execOp
  simp only [ho, resolve, invoke, builtin, Sem.run_bind, Sem.run_pure, Result.andThen_ok, List.map_toArray, List.map_cons, List.map_nil, hs, hxx, hr]
  exact hK _ _ (h v' w' h2 h3)
end

set_option maxHeartbeats 1600000 in
set_option maxRecDepth 100000 in
theorem clone_any (P : Nat → Prop) (v : Value) (fs : List (Bs × Bs)) (w : World) (h : FldsAt P w v fs) (hl : fs.length ≤ 100000) :
    Calls Tryd.prog 37 #[v] w fun e w' => ∃ z : Sl, e = .returned z.v ∧ FldsAt (fun k => w.heap.size ≤ k) w' z.v fs ∧ Below w.heap.size w w' := by
  have hnil : ∀ (a : Option Addr) (l c : Nat) (w : World), (binOp .eql 22 (.slice a l c) (.slice none 0 0)).run Tryd.prog w = .ok (.bool a.isNone) w := fun a l c w => Lib.run_eql_slice_nil w _ _ a l c 0 0 Tryd.underlying22
  have hown0 : ∀ w : World, (w.alloc (.cells #[] 64)).ownsRow w.heap.size 64 2 (.slice (some ⟨w.heap.size, 0, none⟩) 0 0) ([] : List (Bs × Bs)).length (([] : List (Bs × Bs)).map encF).flatten := fun w => ⟨rfl, .inr ⟨w.heap.size, 0, #[], rfl, Nat.le_refl _, heap_alloc_last w _, Nat.le_refl _, by simp, rfl, rfl⟩⟩
  obtain ⟨a, c, rfl⟩ := FldsAt.shape h
  cases a with
  | none =>
    have hnn : fs = [] := by
      rcases h with ⟨e, _⟩ | ⟨g, o, c', e, _⟩
      · simpa using e
      · cases e
    subst hnn
    clear h
    go_enter Tryd.func37, Tryd.ntmps37
    go_wp2_with fail
    go_ret
    exact ⟨⟨none, 0, 0⟩, rfl, .inl ⟨rfl, none, 0, rfl⟩, Below.refl _ _⟩
  | some ad =>
    have hx : FldsAt P (w.alloc (.cells #[] 64)) (.slice (some ad) fs.length c) fs := h.stay ((Below.refl _ _).alloc (Nat.le_refl _) _)
    clear h
    go_enter Tryd.func37, Tryd.ntmps37
    go_wp2_with (at_builtin; refine wpList_cat_fld _ _ rfl rfl w.heap.size _ _ [] fs P rfl rfl (hown0 w) hx (by simpa using hl) (by simp) ?_)
    intro v' w' h1 h2
    have hbb : Below w.heap.size w w' := ((Below.refl _ _).alloc (Nat.le_refl _) _).grown h2 (by simp) (fun k e => ((hown0 w).lt k e).1)
    obtain ⟨a', c', rfl, _⟩ := own_slice h1
    go_wp2_with fail
    go_ret
    refine ⟨⟨a', fs.length, c'⟩, rfl, ?_, hbb⟩
    exact (own_flds h1).imp (fun e => e) fun ⟨g, o, k, e, h3, h4, h5⟩ => ⟨g, o, k, e, h3, (h1.lt g h4).1, h5⟩
/-- The later end: 0 is that of none. -/
def laterN (p q : Int) : Int := if p = 0 ∨ q = 0 then 0 else max p q
set_option maxHeartbeats 1600000 in
theorem later_any (p q : Int) (w : World) : Calls Tryd.prog 39 #[.int .i64 p, .int .i64 q] w fun e w' => e = .returned (.int .i64 (laterN p q)) ∧ w' = w := by
  obtain ⟨O, hO⟩ : ∃ O, laterN p q = O := ⟨_, rfl⟩
  rw [hO]
  unfold laterN at hO
  go_enter Tryd.func39, Tryd.ntmps39
  by_cases h1 : p = 0
  · subst h1
    have e : O = 0 := by rw [← hO]; simp
    subst e
    clear hO
    go_wp2_with fail
    go_ret
    exact ⟨rfl, rfl⟩
  have hp : (p == 0) = false := beq_false_of_ne h1
  by_cases h2 : q = 0
  · subst h2
    have e : O = 0 := by rw [← hO]; simp
    subst e
    clear hO
    go_wp2_with fail
    go_ret
    exact ⟨rfl, rfl⟩
  have hq : (q == 0) = false := beq_false_of_ne h2
  have e : O = max p q := by rw [← hO, if_neg (by omega)]
  subst e
  clear hO
  go_wp2_with fail
  go_ret
  exact ⟨rfl, rfl⟩
end Go.Proofs.YtknhkmlihbgjpaaDoor
