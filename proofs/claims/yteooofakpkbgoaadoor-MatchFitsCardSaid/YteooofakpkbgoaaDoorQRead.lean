/- The document's Read of a pattern (written by wip/tools/genqread.py). -/
import Derived.Test.YteooofakpkbgoaaDoorQEither
namespace Go.Proofs.YteooofakpkbgoaaDoor.Dn
open Go.ChangeShapes Go.WideShapes Go.RowKit

/-- The pattern of a text, and what stands in the way of one. -/
def readR (s : Bx) : Option Al := if 100 < s.length then none else match altR 0 s with
  | .ok a [] => some a
  | _ => none
def readE (s : Bx) : Int := if 100 < s.length then 4 else match altR 0 s with
  | .er x => errN x
  | .ok _ [] => 0
  | .ok _ (_ :: _) => 2
theorem readE_ok (s : Bx) : readE s = 0 ↔ (readR s).isSome = true := by
  unfold readE readR
  split
  · simp
  · cases altR 0 s with
    | er x => simp [errN_ne x]
    | ok a r => cases r <;> simp
theorem asd_below {w w' : World} (h : Asd (fun _ => False) w w') : Below w.heap.size w w' := ⟨h.os, h.tape, h.output, h.size, fun k hk => h.block k hk (fun e => e)⟩
theorem results_row_tmp {P : Program} {fn : Func} {p q : Tmp} {ty : TypeId} (h : fn.results = #[.cell p ty, .tmp q]) (tmps : Array Value) (w : World) (g : Nat) (t : TypeId) (cs : Array Value) (fr : Nat × Nat) (d : TypeDesc) (u : Value)
    (hp : tmps.getD p undef = .pointer (some ⟨g, 0, none⟩)) (hg : w.heap[g]? = some (.cells cs t fr)) (hu : P.underlying ty = some d) (hd : (match d with | .struct _ | .array _ _ => true | _ => false) = true) (hi : (P.info? ty).map (·.size) = some cs.size)
    (hq : tmps.getD q undef = u) : (results fn tmps).run P w = .ok (.tuple #[.agg cs, u]) w := by
  have hp' : tmps[p]?.getD undef = .pointer (some ⟨g, 0, none⟩) := by simpa using hp
  have hq' : tmps[q]?.getD undef = u := by simpa using hq
  simp [results, h, hp', hq', asAddr, run_loadVar_row w g t ty cs fr d hg hu hd hi]
theorem ret_node2 {a : Act} {w : World} {fn : Func} {p q : Tmp} {R : Ending → World → Prop} (g : Nat) (cs : List Value) (u : Value) (hr : Rw w g 61 cs) (hn : cs.length = 258)
    (hf : fn.results = #[.cell p 61, .tmp q]) (hd : a.defers = []) (hp : a.tmps.getD p undef = .pointer (some ⟨g, 0, none⟩)) (hq : a.tmps.getD q undef = u) (h : R (.returned (.tuple #[.agg cs.toArray, u])) w) : bodyPost Tryd.prog fn R .ret a w :=
  bodyPost_ret (v := .tuple #[.agg cs.toArray, u]) (results_row_tmp hf a.tmps w g 61 cs.toArray (0, 0) _ u hp hr Tryd.underlying61 rfl (by rw [size_node]; simp [hn]) hq) hd h
theorem wp_store_node {o : Oper} {a : Act} {w : World} {K : Act → World → Prop} {Q : Exit → Act → World → Prop} (g : Nat) (old : List Value) (hr : Rw w g 61 old) (ho' : old.length = 258) (cs : List Value) (hn : cs.length = 258) (h1 : ∀ v ∈ cs, v.oneCell' = true) (x y : Operand) (ho : o.op = .store 61 x y)
    (hx : a.eval x = .pointer (some ⟨g, 0, none⟩)) (hy : a.eval y = .agg cs.toArray) (h : K (a.put o.dst undef) (w.setRow g cs.toArray)) : o.wp Tryd.prog a w K Q :=
  wp_store_row 61 x y ho g cs.toArray hx hy 61 old.toArray hr (by rw [size_node]; simp [hn]) (by simp [hn, ho']) (by rw [Array.all_eq_true_iff_forall_mem]; intro v hv; exact h1 v (by simpa using hv)) h
/-- What Read hands back. -/
def ReadQ (s : Bs) (B : Nat) (e : Ending) (w' : World) : Prop :=
  ∃ cs : List Value, e = .returned (.tuple #[.agg cs.toArray, .int .i64 (readE s)]) ∧ cs.length = 258 ∧ (∀ u ∈ cs, u.oneCell' = true) ∧ ∀ a, readR s = some a → TAt (fun j => B ≤ j) w' (dT 0 + 3) cs (treeA a)
set_option maxHeartbeats 6400000 in
set_option maxRecDepth 100000 in
theorem dread_any (s : Bs) (hsl : s.length ≤ 9223372036854775807) (w : World) : Calls Tryd.prog 41 #[.string ⟨s.toArray⟩] w fun e w' => ReadQ s w.heap.size e w' ∧ Below w.heap.size w w' := by
  have hzc := zero_node
  obtain ⟨Z, eZ⟩ : ∃ Z, nodeC 0 noSet nilS = Z := ⟨_, rfl⟩
  have hlZ := nodeC_len 0 noSet nilS
  have hoZ := nodeC_one 0 noSet nil_one
  rw [eZ] at hzc hlZ hoZ
  clear eZ
  have hss : (⟨s.toArray⟩ : ByteArray).size = s.length := by simp [ByteArray.size]
  have rA := Rw.new w 61 Z
  have hb0 := (Below.refl w.heap.size w).alloc (Nat.le_refl _) (.cells Z.toArray 61)
  by_cases hs : 100 < s.length
  · have hRE : Unit → readE s = 4 ∧ readR s = none := fun _ => by unfold readE readR; rw [if_pos hs, if_pos hs]; exact ⟨rfl, rfl⟩
    have hsi : (100 : Int) < (s.length : Int) := by omega
    generalize (⟨s.toArray⟩ : ByteArray) = X at *
    go_enter Tryd.func41, Tryd.ntmps41
    go_upto_region 1 with fail
    go_wp2_with (first | refine wpList_exec (exec_build0 Z hzc rfl _) rfl ?_ | refine store_node _ _ rA hlZ Z hlZ hoZ _ _ rfl rfl rfl rfl ?_)
    refine ret_node2 _ _ (.int .i64 4) (rw_setRow rA) hlZ rfl rfl rfl rfl ?_
    exact ⟨⟨Z, by rw [(hRE ()).1], hlZ, hoZ, fun a h => by rw [(hRE ()).2] at h; cases h⟩, asd_below (asd_setRow (Asd.of_below hb0) (.inr (Nat.le_refl _)))⟩
  · have hs100 : s.length ≤ 100 := by omega
    have hsi : ¬ (100 : Int) < (s.length : Int) := by omega
    have hRE : Unit → readE s = _ := fun _ => by unfold readE; rw [if_neg hs]
    have hRR : Unit → readR s = _ := fun _ => by unfold readR; rw [if_neg hs]
    have E1 := Lib.hid fun R w' (h : Rd w' R s 0 0) => (deep_any 8 (Nat.le_refl 8)) R 0 s w' h hs100 (Nat.zero_le _)
    have HR0 : Unit → s.drop 0 = s := fun _ => rfl
    go_enter Tryd.func41, Tryd.ntmps41
    go_upto_region 1 with fail
    have A := Asd.of_below (S := fun _ => False) hb0
    generalize w.alloc (.cells Z.toArray 61) = w1 at *
    obtain ⟨bA, hbA, hA0⟩ : ∃ bA, w.heap.size ≤ bA ∧ w.heap.size = bA := ⟨_, Nat.le_refl _, rfl⟩
    rw [hA0] at rA
    simp only [hA0]
    clear hb0
    have h := Rw.new w1 82 [sv s, .int .i64 0, .int .i64 0]
    have hb1 := (Below.refl w1.heap.size w1).alloc (Nat.le_refl _) (.cells [sv s, .int .i64 0, .int .i64 0].toArray 82)
    have hAB := Rw.lt rA
    have hsz := A.size
    go_upto_region 4 with fail
    replace rA := rA.stay hb1
    replace A := A.below hb1
    have e2 : w1.alloc (.cells [sv s, .int .i64 0, .int .i64 0].toArray 82) = w1.alloc (.cells #[sv s, .int .i64 0, .int .i64 0] 82) := rfl
    rw [e2] at h hb1 rA A
    change Rd _ _ s 0 0 at h
    unfold sv at h hb1 rA A
    generalize World.alloc w1 _ = w2 at *
    obtain ⟨bR, hR0⟩ : ∃ bR, w1.heap.size = bR := ⟨_, rfl⟩
    rw [hR0] at h hAB hsz
    simp only [hR0]
    have hbR : w.heap.size ≤ bR := hsz
    have hAR : bA ≠ bR := by omega
    clear hb1 e2 hR0 hsz hAB
    have E2 := Lib.hid (E1.out bR)
    clear E1
    go_wp2_with fail
    refine (E2.out _ h).mono ?_
    rintro e v90 ⟨hQ, A'⟩
    obtain ⟨cs, rfl, hcl, hc1, hQ⟩ := out_val hQ
    change OutQ treeA (dT 0 + 3) bR s 0 (altR 0 s) w2.heap.size cs v90 at hQ
    have hsz2 := A.size
    have hlA := Rw.lt rA
    have hlR := Rw.lt h
    clear h E2
    replace rA := rA.keep A' hAR
    replace A := A.trans A' (fun i e hl => by omega)
    have hszB := A'.size
    clear A'
    have rC0 := Rw.new v90 61 Z
    cases hO2 : altR 0 s with
    | er x =>
      rw [hO2] at hQ hRE hRR
      obtain ⟨K5, hK5, h⟩ := hQ
      simp only at hRE hRR
      have hE := errN_ne x
      obtain ⟨E, hEE⟩ : ∃ E, errN x = E := ⟨_, rfl⟩
      rw [hEE] at hE h
      rw [hEE] at hRE
      have he2 : (E == 0) = false := by rw [beq_eq_false_iff_ne]; exact hE
      have he3 : (E != 0) = true := by simp [bne, he2]
      clear hEE hO2
      have hb2 := (Below.refl v90.heap.size v90).alloc (Nat.le_refl _) (.cells cs.toArray 61)
      go_upto_region 5 with (refine store_node _ _ rC0 hlZ cs hcl hc1 _ _ rfl rfl rfl rfl ?_)
      rw [World.setRow_alloc_new]
      simp only [Act.put]
      have rC := Rw.new v90 61 cs
      replace h := h.stay hb2
      replace rA := rA.stay hb2
      replace A := A.below hb2
      generalize v90.alloc (.cells cs.toArray 61) = v91 at *
      obtain ⟨bC, hbC⟩ : ∃ bC, v90.heap.size = bC := ⟨_, rfl⟩
      rw [hbC] at rC
      simp only [hbC]
      have hCA : bC ≠ bA := by omega
      clear hb2 rC0
      have c0 := h.text
      have c1 := h.pos
      have c2 := h.err
      generalize (⟨s.toArray⟩ : ByteArray) = X at *
      try simp only [List.append_eq, List.cons_append, List.nil_append]
      refine region_class (fun w' => Below v91.heap.size v91 w' ∧ w'.cell? ⟨bR, 0, none⟩ = some (.string X) ∧ w'.cell? ⟨bR, 1, none⟩ = some (.int .i64 (K5 : Int)) ∧ w'.cell? ⟨bR, 2, none⟩ = some (.int .i64 E)) (by kernel_rfl) (by kernel_rfl) (⟨(Below.refl _ _).drew, c0, c1, c2⟩) ?_
      repeat
        first
        | go_big_quiet_skip
        | (go_big_quiet_want
           refine quiet_val ?_
           apply Exists.intro
           refine ⟨fun w' hw' => ?_, ?_⟩
           · obtain ⟨_, e0, e1, e2⟩ := hw'
             go_simp
             first | done | rfl | exact ⟨rfl, rfl⟩
           simp only [Act.put, List.setIfInBounds_toArray, List.set_cons_zero, List.set_cons_succ]
           go_big_quiet_on)
        | (go_big_quiet_want
           refine quiet_call ?_
           apply Exists.intro
           apply Exists.intro
           refine ⟨fun w' => ?_, ?_⟩
           · go_simp
             first | done | rfl | exact ⟨rfl, rfl⟩
           apply Exists.intro
           refine ⟨fun w' hw' => ?_, ?_⟩
           · first
             | fail
           simp only [Act.put, List.setIfInBounds_toArray, List.set_cons_zero, List.set_cons_succ]
           go_big_quiet_on)
      refine wpQuiet_nil ?_
      intro w5 hw5
      have hb5 := hw5.1
      clear hw5 c0 c1 c2
      replace h := h.stay hb5
      replace rA := rA.stay hb5
      replace rC := rC.stay hb5
      replace A := A.below hb5
      clear hb5
      have c2 := h.err
      go_upto_region 8 with fail
      refine wp_region_held (S := fun w' => w'.cell? ⟨bR, 2, none⟩ = some (.int .i64 E)) (by kernel_rfl) ?_
      have hD : Below w5.heap.size w5 { w5 with drawn := w5.drawn + 1 } := (Below.refl _ _).drew
      replace h := h.stay hD
      replace rA := rA.stay hD
      replace A := A.below hD
      clear hD c2
      generalize { w5 with drawn := w5.drawn + 1 } = D1 at *
      have hS := h.err
      refine held_val 0 rfl (by kernel_rfl) (by kernel_rfl) (by kernel_rfl) (fun _ _ _ _ h => h) (by rfl) hS ⟨_, fun w' hw' => exec_build0 Z hzc rfl w', ?_⟩
      simp only [Act.put, List.setIfInBounds_toArray, List.set_cons_zero, List.set_cons_succ]
      refine held_val 1 rfl (by kernel_rfl) (by kernel_rfl) (by kernel_rfl) (fun _ _ _ _ h => h) (by rfl) hS ?_
      apply Exists.intro
      refine ⟨fun w' hw' => ?_, ?_⟩
      · skip
        go_simp
        first | done | rfl | exact ⟨rfl, rfl⟩
      simp only [Act.put, List.setIfInBounds_toArray, List.set_cons_zero, List.set_cons_succ]
      refine held_val 2 rfl (by kernel_rfl) (by kernel_rfl) (by kernel_rfl) (fun _ _ _ _ h => h) (by rfl) hS ?_
      apply Exists.intro
      refine ⟨fun w' hw' => ?_, ?_⟩
      · skip
        go_simp
        first | done | rfl | exact ⟨rfl, rfl⟩
      simp only [Act.put, List.setIfInBounds_toArray, List.set_cons_zero, List.set_cons_succ]
      refine held_val 3 rfl (by kernel_rfl) (by kernel_rfl) (by kernel_rfl) (fun _ _ _ _ h => h) (by rfl) hS ?_
      apply Exists.intro
      refine ⟨fun w' hw' => ?_, ?_⟩
      · skip
        go_simp
        first | done | rfl | exact ⟨rfl, rfl⟩
      simp only [Act.put, List.setIfInBounds_toArray, List.set_cons_zero, List.set_cons_succ]
      refine held_val 4 rfl (by kernel_rfl) (by kernel_rfl) (by kernel_rfl) (fun _ _ _ _ h => h) (by rfl) hS ?_
      apply Exists.intro
      refine ⟨fun w' hw' => ?_, ?_⟩
      · have e1 : w'.cell? ⟨bR, 2, none⟩ = some (.int .i64 E) := hw'
        go_simp
        first | done | rfl | exact ⟨rfl, rfl⟩
      simp only [Act.put, List.setIfInBounds_toArray, List.set_cons_zero, List.set_cons_succ]
      replace h := rw_setRow_ne h (ds := Z.toArray) (k := bA) hAR.symm
      change Rd _ bR s _ E at h
      replace hS := h.err
      refine held_one 5 (by kernel_rfl) rfl (by rfl) ?_
      refine wp_store_node bA Z rA hlZ Z hlZ hoZ _ _ rfl rfl rfl ⟨hS, ?_⟩
      simp only [Act.put]
      refine held_now 6 (by kernel_rfl) rfl (by rfl) hS ?_
      apply Exists.intro
      refine ⟨?_, ?_⟩
      · skip
        go_simp
        first | done | rfl | exact ⟨rfl, rfl⟩
      simp only [Act.put, List.setIfInBounds_toArray, List.set_cons_zero, List.set_cons_succ]
      refine wpAnyH_done (by kernel_rfl) ?_ _
      go_wp2_with fail
      refine ret_node2 _ _ (.int .i64 E) (rw_setRow rA) hlZ rfl rfl rfl rfl ?_
      exact ⟨⟨Z, by rw [hRE ()], hlZ, hoZ, fun a h => by rw [hRR ()] at h; cases h⟩, asd_below (asd_setRow A (.inr hbA))⟩
    | ok a r =>
      rw [hO2] at hQ hRE hRR
      obtain ⟨hT, K5, hr5, hK5, h⟩ := hQ
      have hlr := congrArg List.length hr5
      rw [List.length_drop] at hlr
      cases r with
      | nil =>
        simp only at hRE hRR
        have hge : ¬ ((K5 : Int) < (s.length : Int)) := by simp only [List.length_nil] at hlr; omega
        have hgd : (decide ((K5 : Int) < (s.length : Int))) = false := by simp only [decide_eq_false_iff_not]; exact hge
        replace hT := hT.mono (P' := fun j => w.heap.size ≤ j ∧ j ≠ bA) (fun j hj _ => ⟨by omega, by omega⟩)
        clear hO2 hr5 hlr
        have hb2 := (Below.refl v90.heap.size v90).alloc (Nat.le_refl _) (.cells cs.toArray 61)
        go_upto_region 5 with (refine store_node _ _ rC0 hlZ cs hcl hc1 _ _ rfl rfl rfl rfl ?_)
        rw [World.setRow_alloc_new]
        simp only [Act.put]
        have rC := Rw.new v90 61 cs
        replace h := h.stay hb2
        replace rA := rA.stay hb2
        replace hT := hT.stay hb2
        replace A := A.below hb2
        generalize v90.alloc (.cells cs.toArray 61) = v91 at *
        obtain ⟨bC, hbC⟩ : ∃ bC, v90.heap.size = bC := ⟨_, rfl⟩
        rw [hbC] at rC
        simp only [hbC]
        have hCA : bC ≠ bA := by omega
        clear hb2 rC0
        have c0 := h.text
        have c1 := h.pos
        have c2 := h.err
        generalize (⟨s.toArray⟩ : ByteArray) = X at *
        try simp only [List.append_eq, List.cons_append, List.nil_append]
        refine region_class (fun w' => Below v91.heap.size v91 w' ∧ w'.cell? ⟨bR, 0, none⟩ = some (.string X) ∧ w'.cell? ⟨bR, 1, none⟩ = some (.int .i64 (K5 : Int)) ∧ w'.cell? ⟨bR, 2, none⟩ = some (.int .i64 0)) (by kernel_rfl) (by kernel_rfl) (⟨(Below.refl _ _).drew, c0, c1, c2⟩) ?_
        repeat
          first
          | go_big_quiet_skip
          | (go_big_quiet_want
             refine quiet_val ?_
             apply Exists.intro
             refine ⟨fun w' hw' => ?_, ?_⟩
             · obtain ⟨_, e0, e1, e2⟩ := hw'
               go_simp
               first | done | rfl | exact ⟨rfl, rfl⟩
             simp only [Act.put, List.setIfInBounds_toArray, List.set_cons_zero, List.set_cons_succ]
             go_big_quiet_on)
          | (go_big_quiet_want
             refine quiet_call ?_
             apply Exists.intro
             apply Exists.intro
             refine ⟨fun w' => ?_, ?_⟩
             · go_simp
               first | done | rfl | exact ⟨rfl, rfl⟩
             apply Exists.intro
             refine ⟨fun w' hw' => ?_, ?_⟩
             · first
               | fail
             simp only [Act.put, List.setIfInBounds_toArray, List.set_cons_zero, List.set_cons_succ]
             go_big_quiet_on)
        refine wpQuiet_nil ?_
        intro w5 hw5
        have hb5 := hw5.1
        clear hw5 c0 c1 c2
        replace h := h.stay hb5
        replace rA := rA.stay hb5
        replace rC := rC.stay hb5
        replace hT := hT.stay hb5
        replace A := A.below hb5
        clear hb5
        have c2 := h.err
        go_wp2_with (first | refine load_node _ _ rC hcl _ rfl rfl rfl ?_ | refine store_node _ _ rA hlZ cs hcl hc1 _ _ rfl rfl rfl rfl ?_)
        refine ret_node2 _ _ (.int .i64 0) (rw_setRow rA) hcl rfl rfl rfl rfl ?_
        exact ⟨⟨cs, by rw [hRE ()], hcl, hc1, fun b hb => by
          rw [hRR ()] at hb
          injection hb with hb
          subst hb
          exact (hT.keep (asd_setRow (ds := cs.toArray) (Asd.refl (fun k => k = bA) _) (.inl rfl)) (fun i hp _ e => hp.2 e)).mono (fun j hj _ => hj.1)⟩, asd_below (asd_setRow A (.inr hbA))⟩
      | cons c r =>
        simp only at hRE hRR
        have hge : ((K5 : Int) < (s.length : Int)) := by simp only [List.length_cons] at hlr; omega
        have hgd : (decide ((K5 : Int) < (s.length : Int))) = true := by simp only [decide_eq_true_eq]; exact hge
        have F := Lib.hid fun w' h => fail_new (R := bR) (K := K5) (s := s) 2 w' h
        clear hO2 hr5 hlr hT
        have hb2 := (Below.refl v90.heap.size v90).alloc (Nat.le_refl _) (.cells cs.toArray 61)
        go_upto_region 5 with (refine store_node _ _ rC0 hlZ cs hcl hc1 _ _ rfl rfl rfl rfl ?_)
        rw [World.setRow_alloc_new]
        simp only [Act.put]
        have rC := Rw.new v90 61 cs
        replace h := h.stay hb2
        replace rA := rA.stay hb2
        replace A := A.below hb2
        generalize v90.alloc (.cells cs.toArray 61) = v91 at *
        obtain ⟨bC, hbC⟩ : ∃ bC, v90.heap.size = bC := ⟨_, rfl⟩
        rw [hbC] at rC
        simp only [hbC]
        have hCA : bC ≠ bA := by omega
        clear hb2 rC0
        have c0 := h.text
        have c1 := h.pos
        have c2 := h.err
        generalize (⟨s.toArray⟩ : ByteArray) = X at *
        try simp only [List.append_eq, List.cons_append, List.nil_append]
        refine region_class (fun w' => Below v91.heap.size v91 w' ∧ w'.cell? ⟨bR, 0, none⟩ = some (.string X) ∧ w'.cell? ⟨bR, 1, none⟩ = some (.int .i64 (K5 : Int)) ∧ w'.cell? ⟨bR, 2, none⟩ = some (.int .i64 0)) (by kernel_rfl) (by kernel_rfl) (⟨(Below.refl _ _).drew, c0, c1, c2⟩) ?_
        repeat
          first
          | go_big_quiet_skip
          | (go_big_quiet_want
             refine quiet_val ?_
             apply Exists.intro
             refine ⟨fun w' hw' => ?_, ?_⟩
             · obtain ⟨_, e0, e1, e2⟩ := hw'
               go_simp
               first | done | rfl | exact ⟨rfl, rfl⟩
             simp only [Act.put, List.setIfInBounds_toArray, List.set_cons_zero, List.set_cons_succ]
             go_big_quiet_on)
          | (go_big_quiet_want
             refine quiet_call ?_
             apply Exists.intro
             apply Exists.intro
             refine ⟨fun w' => ?_, ?_⟩
             · go_simp
               first | done | rfl | exact ⟨rfl, rfl⟩
             apply Exists.intro
             refine ⟨fun w' hw' => ?_, ?_⟩
             · first
               | fail
             simp only [Act.put, List.setIfInBounds_toArray, List.set_cons_zero, List.set_cons_succ]
             go_big_quiet_on)
        refine wpQuiet_nil ?_
        intro w5 hw5
        have hb5 := hw5.1
        clear hw5 c0 c1 c2
        replace h := h.stay hb5
        replace rA := rA.stay hb5
        replace rC := rC.stay hb5
        replace A := A.below hb5
        clear hb5
        go_wp2_with fail
        refine (F.out _ h).mono ?_
        rintro e v94 ⟨rfl, h', A'⟩
        replace h := h'
        replace rA := rA.keep A' hAR
        replace A := A.trans A' (fun i e hl => by omega)
        clear h' A' F
        have c2 := h.err
        go_upto_region 8 with fail
        refine wp_region_held (S := fun w' => w'.cell? ⟨bR, 2, none⟩ = some (.int .i64 2)) (by kernel_rfl) ?_
        have hD : Below v94.heap.size v94 { v94 with drawn := v94.drawn + 1 } := (Below.refl _ _).drew
        replace h := h.stay hD
        replace rA := rA.stay hD
        replace A := A.below hD
        clear hD c2
        generalize { v94 with drawn := v94.drawn + 1 } = D1 at *
        have hS := h.err
        refine held_val 0 rfl (by kernel_rfl) (by kernel_rfl) (by kernel_rfl) (fun _ _ _ _ h => h) (by rfl) hS ⟨_, fun w' hw' => exec_build0 Z hzc rfl w', ?_⟩
        simp only [Act.put, List.setIfInBounds_toArray, List.set_cons_zero, List.set_cons_succ]
        refine held_val 1 rfl (by kernel_rfl) (by kernel_rfl) (by kernel_rfl) (fun _ _ _ _ h => h) (by rfl) hS ?_
        apply Exists.intro
        refine ⟨fun w' hw' => ?_, ?_⟩
        · skip
          go_simp
          first | done | rfl | exact ⟨rfl, rfl⟩
        simp only [Act.put, List.setIfInBounds_toArray, List.set_cons_zero, List.set_cons_succ]
        refine held_val 2 rfl (by kernel_rfl) (by kernel_rfl) (by kernel_rfl) (fun _ _ _ _ h => h) (by rfl) hS ?_
        apply Exists.intro
        refine ⟨fun w' hw' => ?_, ?_⟩
        · skip
          go_simp
          first | done | rfl | exact ⟨rfl, rfl⟩
        simp only [Act.put, List.setIfInBounds_toArray, List.set_cons_zero, List.set_cons_succ]
        refine held_val 3 rfl (by kernel_rfl) (by kernel_rfl) (by kernel_rfl) (fun _ _ _ _ h => h) (by rfl) hS ?_
        apply Exists.intro
        refine ⟨fun w' hw' => ?_, ?_⟩
        · skip
          go_simp
          first | done | rfl | exact ⟨rfl, rfl⟩
        simp only [Act.put, List.setIfInBounds_toArray, List.set_cons_zero, List.set_cons_succ]
        refine held_val 4 rfl (by kernel_rfl) (by kernel_rfl) (by kernel_rfl) (fun _ _ _ _ h => h) (by rfl) hS ?_
        apply Exists.intro
        refine ⟨fun w' hw' => ?_, ?_⟩
        · have e1 : w'.cell? ⟨bR, 2, none⟩ = some (.int .i64 2) := hw'
          go_simp
          first | done | rfl | exact ⟨rfl, rfl⟩
        simp only [Act.put, List.setIfInBounds_toArray, List.set_cons_zero, List.set_cons_succ]
        replace h := rw_setRow_ne h (ds := Z.toArray) (k := bA) hAR.symm
        change Rd _ bR s _ 2 at h
        replace hS := h.err
        refine held_one 5 (by kernel_rfl) rfl (by rfl) ?_
        refine wp_store_node bA Z rA hlZ Z hlZ hoZ _ _ rfl rfl rfl ⟨hS, ?_⟩
        simp only [Act.put]
        refine held_now 6 (by kernel_rfl) rfl (by rfl) hS ?_
        apply Exists.intro
        refine ⟨?_, ?_⟩
        · skip
          go_simp
          first | done | rfl | exact ⟨rfl, rfl⟩
        simp only [Act.put, List.setIfInBounds_toArray, List.set_cons_zero, List.set_cons_succ]
        refine wpAnyH_done (by kernel_rfl) ?_ _
        go_wp2_with fail
        refine ret_node2 _ _ (.int .i64 2) (rw_setRow rA) hlZ rfl rfl rfl rfl ?_
        exact ⟨⟨Z, by rw [hRE ()], hlZ, hoZ, fun a h => by rw [hRR ()] at h; cases h⟩, asd_below (asd_setRow A (.inr hbA))⟩
end Go.Proofs.YteooofakpkbgoaaDoor.Dn
