/- Fields put together: append(a, b...), slices.Concat. -/
import Derived.Test.YteooofakpkbgoaaDoorMGrow
import Derived.Test.YteooofakpkbgoaaDoorMCat
namespace Go.Proofs.YteooofakpkbgoaaDoor
open Go.ChangeShapes Go.WideShapes Go.RowKit

theorem append_nothingF (a : Option Addr) (n c c' : Nat) (hn : n ≤ c) (ty : TypeId) (w : World) : (Builtin.append_ #[22, 22] ty #[.slice a n c, .slice none 0 c']).run Tryd.prog w = .ok (.slice a n c) w := by
  have hu := run_underlying Tryd.underlying22
  have hs : ∀ w, (sizeOf 28).run Tryd.prog w = .ok 2 w := fun w => by kernel_rfl
  cases a with
  | none => simp [Builtin.append_, Sem.run_bind, hu, hs, Builtin.lenOf, Builtin.firstCells, Result.andThen, hn]
  | some a => simp [Builtin.append_, Sem.run_bind, hu, hs, Builtin.lenOf, Builtin.firstCells, storeCells, Result.andThen, hn]
theorem encF_all (ms : List (Bs × Bs)) : ∀ u ∈ (ms.map encF).flatten, u.oneCell' = true := by
  intro u hu
  obtain ⟨cs, hcs, hu⟩ := List.mem_flatten.1 hu
  obtain ⟨m, _, rfl⟩ := List.mem_map.1 hcs
  exact encF_one m u hu
theorem flat_lenF (ms : List (Bs × Bs)) : ((ms.map encF).flatten).length = ms.length * 2 := by
  induction ms with
  | nil => rfl
  | cons m ms ih => rw [List.map_cons, List.flatten_cons, List.length_append, ih, List.length_cons, Nat.succ_mul]; show 2 + _ = _; omega
theorem run_cat_fld {w : World} {base : Nat} {v x : Value} {ms ms' : List (Bs × Bs)} {P : Nat → Prop} (ty : TypeId) (hown : w.ownsRow base 28 2 v ms.length (ms.map encF).flatten) (hx : FldsAt P w x ms') (hn : ms.length + ms'.length ≤ 100000) (hbase : base ≤ w.heap.size) :
    ∃ v' w', (Builtin.append_ #[22, 22] ty #[v, x]).run Tryd.prog w = .ok v' w' ∧ w'.ownsRow base 28 2 v' (ms ++ ms').length ((ms ++ ms').map encF).flatten ∧ w.grownBy w' v.ownBlock := by
  obtain ⟨i0, hi, hz0, hz1, hz2⟩ := info_parts0 info_fld
  rw [List.length_append, List.map_append, List.flatten_append]
  rcases hx with ⟨e, a, c, rfl⟩ | ⟨g, o, c, rfl, _, _, hg, hc⟩
  · have e2 : ms' = [] := by simpa using e
    subst e2
    cases a with
    | none =>
      obtain ⟨aO, cO, rfl, hle⟩ := own_slice hown
      exact ⟨_, w, append_nothingF aO ms.length cO c hle ty w, by simpa using hown, ⟨rfl, rfl, rfl, Nat.le_refl _, fun _ _ _ => rfl⟩⟩
    | some a =>
      obtain ⟨v', w', h1, h2, h3, _⟩ := run_append_own_at (P := Tryd.prog) w base 22 ty 28 i0 _ 2 32 Tryd.underlying22 hi hz0 hz1 hz2 rfl (by decide) v ms.length _ hown a 0 c [] rfl (fun j u hu => by simp at hu) (fun u hu => by simp at hu) (by unfold maxLen; simp at hn; omega) (by simp at hn; omega) hbase
      exact ⟨v', w', h1, by simpa using h2, h3⟩
  · rw [List.length_map] at *
    obtain ⟨v', w', h1, h2, h3, _⟩ := run_append_own_at (P := Tryd.prog) w base 22 ty 28 i0 _ 2 32 Tryd.underlying22 hi hz0 hz1 hz2 rfl (by decide) v ms.length _ hown ⟨g, o, none⟩ ms'.length c (ms'.map encF).flatten (flat_lenF ms') (fun j u hu => by
      obtain ⟨cs, h1, h2⟩ := flat_inv (k := 2) (by decide) (encF_len ms') hu
      have h3 := hc (j / 2) cs h1 (j % 2) u h2
      rw [add_at]
      rw [show o + j / 2 * 2 + j % 2 = o + j by omega] at h3
      exact h3) (encF_all ms') (by unfold maxLen; omega) (by omega) hbase
    exact ⟨v', w', h1, h2, h3⟩
section
variable {ops : Array Oper} {rest : List Oper} {o : Oper} {a : Act} {w : World} {Q : Exit → Act → World → Prop}
theorem wpList_cat_fld (s x : Operand) (hg : o.guard = none) (ho : o.op = .call { callee := .builtin .append, args := #[s, x], argTypes := #[22, 22] })
    (base : Nat) (v y : Value) (ms ms' : List (Bs × Bs)) (P : Nat → Prop) (hs : a.eval s = v) (hxx : a.eval x = y) (hown : w.ownsRow base 28 2 v ms.length (ms.map encF).flatten) (hx : FldsAt P w y ms') (hn : ms.length + ms'.length ≤ 100000) (hbase : base ≤ w.heap.size)
    (h : ∀ v' w', w'.ownsRow base 28 2 v' (ms ++ ms').length ((ms ++ ms').map encF).flatten → w.grownBy w' v.ownBlock → wpList Tryd.prog ops Q rest (a.put o.dst v') w') : wpList Tryd.prog ops Q (o :: rest) a w := by
  obtain ⟨v', w', hr, h2, h3⟩ := run_cat_fld o.type hown hx hn hbase
  refine wpList_plain hg fun _ hK => ?_
  unfold Oper.wp execOp
  simp only [ho, resolve, invoke, builtin, Sem.run_bind, Sem.run_pure, Result.andThen_ok, List.map_toArray, List.map_cons, List.map_nil, hs, hxx, hr]
  exact hK _ _ (h v' w' h2 h3)
end
theorem cat_take {ls : List (List (Bs × Bs))} {k : Nat} {l : List (Bs × Bs)} (h : ls[k]? = some l) : (ls.take (k + 1)).flatten = (ls.take k).flatten ++ l := by rw [List.take_add_one, h]; simp
theorem cat_part {ls : List (List (Bs × Bs))} (k : Nat) : (ls.take k).flatten.length ≤ ls.flatten.length := by
  conv => rhs; rw [← List.take_append_drop k ls, List.flatten_append, List.length_append]
  omega
set_option maxHeartbeats 500000 in
set_option maxRecDepth 100000 in
theorem concat_any (Y : Nat) (vs : List Value) (ls : List (List (Bs × Bs))) (w : World) (hY : Rw w Y 22 vs) (hlen : vs.length = ls.length) (hp : ∀ (k : Nat) v l, vs[k]? = some v → ls[k]? = some l → FldsAt (fun _ => True) w v l) (hn : ls.flatten.length ≤ 1000) (h0 : 0 < ls.flatten.length) (hl3 : ls.length ≤ 3) :
    Calls Tryd.prog 49 #[.slice (some ⟨Y, 0, none⟩) ls.length ls.length] w fun e w' => ∃ v', e = .returned v' ∧ w'.ownsRow w.heap.size 28 2 v' ls.flatten.length (ls.flatten.map encF).flatten ∧ Below w.heap.size w w' := by
  obtain ⟨n, hln⟩ : ∃ n, ls.length = n := ⟨_, rfl⟩
  rw [hln] at hlen hl3 ⊢
  have HN : Unit → ls.length = n := fun _ => hln
  have HV : Unit → vs.length = n := fun _ => hlen
  have HP : Unit → ∀ (k : Nat) v l, vs[k]? = some v → ls[k]? = some l → FldsAt (fun _ => True) w v l := fun _ => hp
  obtain ⟨F, hF⟩ : ∃ F, ls.flatten = F := ⟨_, rfl⟩
  rw [hF] at hn h0 ⊢
  have HF : Unit → ls.flatten = F := fun _ => hF
  have HT : Unit → ∀ k, (ls.take k).flatten.length ≤ F.length := fun _ k => by rw [← hF]; exact cat_part k
  clear hln hlen hp hF
  go_enter Tryd.func49, Tryd.ntmps49
  go_upto_region 3 with fail
  go_loopw [3, 11] (fun u3 u11 wr => ∃ k S : Nat, u11 = .int .i64 (k : Int) ∧ k ≤ n ∧ S = (ls.take k).flatten.length ∧ u3 = .int .i64 (S : Int) ∧ wr = w) (fun _ u11 _ => n - (intOf u11).toNat)
  case atStart => exact ⟨0, 0, rfl, Nat.zero_le _, rfl, rfl, rfl⟩
  case round =>
    obtain ⟨k, S, rfl, hk, hS, rfl, hw⟩ := hrel
    obtain rfl : w = wr := hw.symm
    have hS1 : S ≤ 1000 := by rw [hS]; exact Nat.le_trans (HT () k) hn
    have HS : Unit → S = (ls.take k).flatten.length := fun _ => hS
    clear hS
    by_cases hlt : k < n
    · have hki : (k : Int) < (n : Int) := by omega
      obtain ⟨l, hl⟩ : ∃ l, ls[k]? = some l := ⟨_, List.getElem?_eq_getElem (by have := HN (); omega)⟩
      obtain ⟨v, hv⟩ : ∃ v, vs[k]? = some v := ⟨_, List.getElem?_eq_getElem (by have := HV (); omega)⟩
      obtain ⟨a, c, rfl⟩ := (HP () k v l hv hl).shape
      have d0 := Rw.cell hY k
      rw [hv] at d0
      have HNX : Unit → S + l.length = (ls.take (k + 1)).flatten.length := fun _ => by rw [cat_take hl, List.length_append, HS ()]
      have hS2 : S + l.length ≤ 1000 := by rw [HNX ()]; exact Nat.le_trans (HT () _) hn
      clear hl hv
      generalize l.length = L at *
      have hs3 : ¬ ((S : Int) + (L : Int)) < 0 := by omega
      have hs4 : IntKind.i64.wrap ((S : Int) + (L : Int)) = (S : Int) + (L : Int) := by rw [IntKind.wrap_i64]; omega
      go_wp2_with fail
      go_roundw
      case rel => exact ⟨k + 1, S + L, by go_num, by omega, HNX (), by go_num, trivial⟩
      case measure => simp [intOf]; omega
    · have hki : ¬ (k : Int) < (n : Int) := by omega
      have hSF : S = F.length := by rw [HS (), List.take_of_length_le (by have := HN (); omega), HF ()]
      subst hSF
      clear HS
      have KG := Lib.hid (grow_nil F.length w h0 (by omega))
      have HFl : Unit → F.length ≤ 1000 := fun _ => hn
      clear hn h0 hS1
      go_wp2_with fail
      refine KG.out.mono ?_
      rintro e wg ⟨vG, rfl, hown0, hbG⟩
      clear KG
      obtain ⟨aG, cG, rfl, _⟩ := own_slice hown0
      go_upto_region 11 with fail
      go_loopw [6, 27] (fun u6 u27 wz => ∃ (k : Nat) (O : List (Bs × Bs)), u27 = .int .i64 (k : Int) ∧ k ≤ n ∧ O = (ls.take k).flatten ∧ wz.ownsRow w.heap.size 28 2 u6 O.length (O.map encF).flatten ∧ Below w.heap.size w wz) (fun _ u27 _ => n - (intOf u27).toNat)
      case atStart => exact ⟨0, [], rfl, Nat.zero_le _, rfl, hown0, hbG⟩
      case round =>
        clear hown0 hbG
        obtain ⟨k, O, rfl, hk, hO, hown, hB⟩ := hrel
        have HO : Unit → O = (ls.take k).flatten := fun _ => hO
        have hOl : O.length ≤ 1000 := by rw [hO]; exact Nat.le_trans (HT () k) (HFl ())
        clear hO
        obtain ⟨aO, cO, rfl, _⟩ := own_slice hown
        by_cases hlt : k < n
        · have hki : (k : Int) < (n : Int) := by omega
          obtain ⟨l, hl⟩ : ∃ l, ls[k]? = some l := ⟨_, List.getElem?_eq_getElem (by have := HN (); omega)⟩
          obtain ⟨v, hv⟩ : ∃ v, vs[k]? = some v := ⟨_, List.getElem?_eq_getElem (by have := HV (); omega)⟩
          have hx := (HP () k v l hv hl).stay hB
          obtain ⟨a, c, rfl⟩ := hx.shape
          have d0 := Rw.cell (hY.stay hB) k
          rw [hv] at d0
          have HNX : Unit → O ++ l = (ls.take (k + 1)).flatten := fun _ => by rw [cat_take hl, HO ()]
          have hS2 : O.length + l.length ≤ 1000 := by rw [← List.length_append, HNX ()]; exact Nat.le_trans (HT () _) (HFl ())
          clear hl hv
          go_wp2_with (refine wpList_cat_fld _ _ rfl rfl w.heap.size _ _ O l _ rfl rfl hown hx (by omega) hB.size ?_)
          intro v5 w5 hO5 hg5
          have hB5 := hB.grown hg5 hB.size (fun j e => (hown.lt j e).1)
          obtain ⟨Q, hQ⟩ : ∃ Q, O ++ l = Q := ⟨_, rfl⟩
          replace hO5 : w5.ownsRow w.heap.size 28 2 v5 Q.length (Q.map encF).flatten := by rw [← hQ, List.length_append, List.map_append, List.flatten_append]; exact hO5
          have HNY : Unit → Q = (ls.take (k + 1)).flatten := fun _ => hQ ▸ HNX ()
          obtain ⟨a5, c5, rfl, _⟩ := own_slice hO5
          clear hown hx hg5 d0 hQ HNX
          go_wp2_with fail
          go_roundw
          case rel => exact ⟨k + 1, Q, by go_num, by omega, HNY (), hO5, hB5⟩
          case measure => simp [intOf]; omega
        · have hki : ¬ (k : Int) < (n : Int) := by omega
          have hOF : O = F := by rw [HO (), List.take_of_length_le (by have := HN (); omega), HF ()]
          subst hOF
          have HOW : Unit → _ := fun _ => hown
          clear hown
          go_wp2_with fail
          go_ret
          exact ⟨_, rfl, HOW (), hB⟩
end Go.Proofs.YteooofakpkbgoaaDoor
