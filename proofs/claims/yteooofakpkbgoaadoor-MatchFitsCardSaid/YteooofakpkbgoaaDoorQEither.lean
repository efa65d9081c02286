/- The document's pattern reader: either, and atom, row, either together (written by wip/tools/geneither.py). -/
import Derived.Test.YteooofakpkbgoaaDoorQRow
import Derived.Test.YteooofakpkbgoaaDoorQAtom
namespace Go.Proofs.YteooofakpkbgoaaDoor.Dn
open Go.ChangeShapes Go.WideShapes Go.RowKit

set_option maxHeartbeats 6400000 in
set_option maxRecDepth 100000 in
theorem either_any (d : Nat) (HR : RowC d) : EitherC d := by
  intro R K s w h hs hK
  obtain ⟨O, hO⟩ : ∃ O, altR d (s.drop K) = O := ⟨_, rfl⟩
  rw [hO]
  have A := Asd.refl (fun k => k = R) w
  have hzc := zero_node
  obtain ⟨Z, eZ⟩ : ∃ Z, nodeC 0 noSet nilS = Z := ⟨_, rfl⟩
  have hlZ := nodeC_len 0 noSet nilS
  rw [eZ] at hzc hlZ
  clear eZ
  obtain ⟨Y, eY⟩ : ∃ Y, nodeC 1 noSet nilS = Y := ⟨_, rfl⟩
  have hlY := nodeC_len 1 noSet nilS
  have hoY := nodeC_one 1 noSet nil_one
  rw [eY] at hlY hoY
  have hR := Rw.lt h
  go_enter Tryd.func52, Tryd.ntmps52
  go_upto_region 1 with fail
  have rA := Rw.new w 61 Z
  have hb0 := (Below.refl w.heap.size w).alloc (Nat.le_refl _) (.cells Z.toArray 61)
  replace h := h.stay hb0
  replace A := A.below hb0
  generalize w.alloc (.cells Z.toArray 61) = w1 at *
  obtain ⟨bA, hbA, hA0⟩ : ∃ bA, w.heap.size ≤ bA ∧ w.heap.size = bA := ⟨_, Nat.le_refl _, rfl⟩
  obtain ⟨B0, hB00, hB01⟩ : ∃ B0, w.heap.size = B0 ∧ B0 = bA := ⟨_, rfl, hA0⟩
  rw [hA0] at rA
  simp only [hA0]
  have hAR : bA ≠ R := by omega
  have rB := Rw.new w1 61 Z
  have hb1 := (Below.refl w1.heap.size w1).alloc (Nat.le_refl _) (.cells Y.toArray 61)
  have hAB := Rw.lt rA
  have hsz := A.size
  have rY := Rw.new w1 61 Y
  clear hb0
  have EB := fun (o : Oper) (a : Act) => exec_b1 (o := o) (a := a) 1 eY
  go_upto_region 2 with (first | refine wpList_exec (EB _ _ _ rfl rfl _) rfl ?_ | refine store_node _ _ rB hlZ Y hlY hoY _ _ rfl rfl rfl rfl ?_)
  rw [World.setRow_alloc_new]
  replace h := h.stay hb1
  replace rA := rA.stay hb1
  replace A := A.below hb1
  generalize w1.alloc (.cells Y.toArray 61) = v0 at *
  obtain ⟨bB, hB0⟩ : ∃ bB, w1.heap.size = bB := ⟨_, rfl⟩
  rw [hB0] at rY hAB hsz
  simp only [hB0]
  have hbB : w.heap.size ≤ bB := hsz
  have hBR : bB ≠ R := by omega
  have hBA : bA ≠ bB := by omega
  have hBA1 : bA < bB := hAB
  rw [← eY] at rY
  have KC := Kc.start rY
  have KT := Kt.start (bA + 1) bB (dT d + 2) v0
  clear hb1 hB0 hAB hsz rB rY eY hlY hoY EB
  simp only [Act.put]
  go_loopw [] (fun wr => ∃ (v : Value) (css : List (List Value)) (K : Nat) (qs : List Sq), Rd wr R s K 0 ∧ Kc bB 1 v css wr ∧ Rw wr bA 61 Z ∧ Asd (fun k => k = R) w wr ∧ K ≤ s.length ∧ css.length ≤ K ∧ Kt (bA + 1) bB (dT d + 2) v css (qs.map treeS) wr ∧ preA qs (altR d (s.drop K)) = O) (fun wr => left wr R s.length)
  case atStart => exact ⟨nilS, [], K, [], h, KC, rA, A, hK, by simp, KT, by rw [hO]; cases O <;> rfl⟩
  case round =>
    clear h KC rA A KT hO hK K
    have hNA : ∀ i, bA + 1 ≤ i → i ≠ bA := fun i hi e => by omega
    obtain ⟨v, css, K, qs, h, KC, rA, A, hK, hck, KT, hO⟩ := hrel
    have hKb : K ≤ 100 := by omega
    have hL := h.left0 (n := s.length)
    have R1 := Lib.hid fun w' h => HR R K s w' h hs hK
    obtain ⟨v1, c1, vn, hv1⟩ : ∃ a c n, v = .slice a n c := by rcases KC.own.2 with ⟨e, _⟩ | ⟨g, cap, cur, e, _⟩ <;> exact ⟨_, _, _, e⟩
    subst hv1
    go_upto_region 2 with fail
    refine z_begin 8 (fun w' => w'.cell? ⟨bB, 257, none⟩ = some (.slice v1 vn c1)) (by kernel_rfl) ?_
    have hD : Below wr.heap.size wr { wr with drawn := wr.drawn + 1 } := (Below.refl _ _).drew
    replace h := h.stay hD
    replace rA := rA.stay hD
    replace KC := KC.stay hD
    replace KT := KT.stay hD
    replace A := A.below hD
    clear hD
    generalize { wr with drawn := wr.drawn + 1 } = D1 at *
    have hS : D1.cell? ⟨bB, 257, none⟩ = some (.slice v1 vn c1) := (KC.row.cell 257).trans (nodeC_kids 1 noSet _)
    refine z_val 0 rfl (by kernel_rfl) (by kernel_rfl) (by kernel_rfl) (by kernel_rfl) (fun _ _ _ _ h => h) (by rfl) hS ?_
    apply Exists.intro
    refine ⟨fun w' hw' => ?_, ?_⟩
    · skip
      go_simp
      first | done | rfl | exact ⟨rfl, rfl⟩
    simp only [Act.put, List.setIfInBounds_toArray, List.set_cons_zero, List.set_cons_succ]
    refine z_val 1 rfl (by kernel_rfl) (by kernel_rfl) (by kernel_rfl) (by kernel_rfl) (fun _ _ _ _ h => h) (by rfl) hS ?_
    apply Exists.intro
    refine ⟨fun w' hw' => ?_, ?_⟩
    · skip
      go_simp
      first | done | rfl | exact ⟨rfl, rfl⟩
    simp only [Act.put, List.setIfInBounds_toArray, List.set_cons_zero, List.set_cons_succ]
    refine z_val 2 rfl (by kernel_rfl) (by kernel_rfl) (by kernel_rfl) (by kernel_rfl) (fun _ _ _ _ h => h) (by rfl) hS ?_
    apply Exists.intro
    refine ⟨fun w' hw' => ?_, ?_⟩
    · skip
      go_simp
      first | done | rfl | exact ⟨rfl, rfl⟩
    simp only [Act.put, List.setIfInBounds_toArray, List.set_cons_zero, List.set_cons_succ]
    refine z_val 3 rfl (by kernel_rfl) (by kernel_rfl) (by kernel_rfl) (by kernel_rfl) (fun _ _ _ _ h => h) (by rfl) hS ?_
    apply Exists.intro
    refine ⟨fun w' hw' => ?_, ?_⟩
    · skip
      go_simp
      first | done | rfl | exact ⟨rfl, rfl⟩
    simp only [Act.put, List.setIfInBounds_toArray, List.set_cons_zero, List.set_cons_succ]
    refine z_call 4 (by kernel_rfl) rfl (by rfl) ?_
    apply Exists.intro
    apply Exists.intro
    refine ⟨?_, ?_⟩
    · go_simp
      first | done | rfl | exact ⟨rfl, rfl⟩
    refine (R1.out _ h).mono ?_
    rintro e v90 ⟨hQ, A'⟩
    obtain ⟨cs, rfl, hcl, hc1, hQ⟩ := out_val hQ
    have hltB := Rw.lt KC.row
    have hltv := fun i e => (KC.own.lt i e).2
    have hszA := A.size
    have hszC := A'.size
    clear h R1 hS
    replace rA := rA.keep A' hAR
    replace KC := KC.keep A' (fun i e => by omega)
    replace KT := KT.keep A' (fun i e => by omega)
    replace A := A.andThen A'
    clear A'
    have hS : v90.cell? ⟨bB, 257, none⟩ = some (.slice v1 vn c1) := (KC.row.cell 257).trans (nodeC_kids 1 noSet _)
    refine ⟨_, rfl, hS, ?_⟩
    simp only [Act.put, List.setIfInBounds_toArray, List.set_cons_zero, List.set_cons_succ]
    have rX := Rw.new v90 61 cs
    have hbx := (Below.refl v90.heap.size v90).alloc (Nat.le_refl _) (.cells cs.toArray 61)
    have KC2 := KC.stay hbx
    have KT2 := KT.stay hbx
    have hbz : bB + 1 ≤ (v90.alloc (.cells cs.toArray 61)).heap.size := by have := hbx.size; have := Rw.lt KC.row; omega
    have hS2 : (v90.alloc (.cells cs.toArray 61)).cell? ⟨bB, 257, none⟩ = some (.slice v1 vn c1) := (KC2.row.cell 257).trans (nodeC_kids 1 noSet _)
    refine z_one 5 (by kernel_rfl) rfl (by rfl) ?_
    refine wp_row_node cs hcl _ rfl rfl ⟨fun _ => hS2, ?_⟩
    simp only [Act.put, List.setIfInBounds_toArray, List.set_cons_zero, List.set_cons_succ]
    refine z_one 6 (by kernel_rfl) rfl (by rfl) ?_
    refine wp_own_node _ _ rfl (bB + 1) (.slice v1 vn c1) css rfl KC2.own v90.heap.size cs rfl hcl rX hc1 (by omega) hbz ?_
    intro u7 w7 hO7 hg7 hv7
    rw [List.length_append, List.length_singleton, List.flatten_append, List.flatten_singleton] at hO7
    obtain ⟨g7, c7, rfl⟩ := own_succ hO7
    have KC7 := KC2.add hg7 hO7 hcl (own_one hO7)
    have r7 := KC2.row.grown hg7 (fun e => by have := (KC2.own.lt _ e).1; omega)
    have f7 := r7.frozen 257
    have d7 : w7.cell? ⟨bB, 257, none⟩ = some (.slice v1 vn c1) := (r7.cell 257).trans (nodeC_kids 1 noSet _)
    have hS := d7
    refine ⟨fun _ => d7, ?_⟩
    simp only [Act.put, List.setIfInBounds_toArray, List.set_cons_zero, List.set_cons_succ]
    refine z_now 7 (by kernel_rfl) rfl (by rfl) d7 ?_
    apply Exists.intro
    refine ⟨?_, ?_⟩
    · go_simp
      first | done | rfl | exact ⟨rfl, rfl⟩
    simp only [Act.put, List.setIfInBounds_toArray, List.set_cons_zero, List.set_cons_succ]
    refine z_store 8 (by kernel_rfl) rfl (by rfl) ⟨w7.setCell ⟨bB, 257, none⟩ (.slice (some ⟨g7, 0, none⟩) (css.length + 1) c7), ?_, fun e => absurd rfl e, ?_⟩
    · go_simp
      first | done | rfl | exact ⟨rfl, rfl⟩
    simp only [Act.put]
    refine z_done (by kernel_rfl) ?_ _
    have hvA : (Value.slice (some ⟨g7, 0, none⟩) (css.length + 1) c7).ownBlock = (Value.slice v1 vn c1).ownBlock ∨ (Value.slice (some ⟨g7, 0, none⟩) (css.length + 1) c7).ownBlock = some (v90.alloc (.cells cs.toArray 61)).heap.size := hv7.imp id (fun e => by rw [e])
    replace rA := (Rw.grown (rA.stay hbx) hg7 (fun e => by have := (KC2.own.lt _ e).1; omega)).other hBA 257 (.slice (some ⟨g7, 0, none⟩) (css.length + 1) c7)
    have A7 := (A.below hbx).grown hg7 (fun k e => .inr (by have := (KC2.own.lt _ e).1; omega))
    replace A := A7.setCell (p := ⟨bB, 257, none⟩) (.inr hbB) (.slice (some ⟨g7, 0, none⟩) (css.length + 1) c7)
    have hRgo : ∀ K E, Rd v90 R s K E → Rd (w7.setCell ⟨bB, 257, none⟩ (.slice (some ⟨g7, 0, none⟩) (css.length + 1) c7)) R s K E := fun K E h => by
      have h7 : Rd w7 R s K E := Rw.grown (h.stay hbx) hg7 (fun e => by have := (KC2.own.lt _ e).1; omega)
      exact Rw.other h7 hBR.symm 257 _
    have hTgo : ∀ t, TAt (fun j => D1.heap.size ≤ j) v90 (dT d + 2) cs t → Kt (bA + 1) bB (dT d + 2) (.slice (some ⟨g7, 0, none⟩) (css.length + 1) c7) (css ++ [cs]) (qs.map treeS ++ [t]) (w7.setCell ⟨bB, 257, none⟩ (.slice (some ⟨g7, 0, none⟩) (css.length + 1) c7)) := fun t a =>
      KT2.add ((a.mono (P' := fun j => bA + 1 ≤ j ∧ j ≠ bB ∧ (Value.slice v1 vn c1).ownBlock ≠ some j) (fun j hj _ => ⟨by omega, by omega, fun e => by have := hltv j e; omega⟩)).stay hbx) hg7 hvA
    clear f7 d7 r7 A7 hvA hS hS2 KC2 KT2 rX hbx KC KT hg7 hO7 hv7
    generalize w7.setCell ⟨bB, 257, none⟩ (.slice (some ⟨g7, 0, none⟩) (css.length + 1) c7) = W8 at *
    have KC := KC7
    clear KC7
    generalize (Value.slice (some ⟨g7, 0, none⟩) (css.length + 1) c7) = v7 at *
    have hl7 : (css ++ [cs]).length = css.length + 1 := by simp
    generalize css ++ [cs] = css7 at *
    cases hO2 : seqR d (s.drop K) with
    | er x =>
      rw [hO2] at hQ
      obtain ⟨K5, hK5, h⟩ := hQ
      replace h := hRgo _ _ h
      have HO : Unit → O = .er x := fun _ => by rw [← hO, alt_eq, hO2]; rfl
      have hE := errN_ne x
      obtain ⟨E, hEE⟩ : ∃ E, errN x = E := ⟨_, rfl⟩
      rw [hEE] at hE h
      have HEE : Unit → errN x = E := fun _ => hEE
      clear hO hO2 hEE hTgo hRgo
      have N2 := Lib.hid fun w' h => next_err (R := R) (K := K5) (s := s) hE w' h
      go_wp2_with fail
      refine (N2.out _ h).mono ?_
      rintro e v1 ⟨rfl, hb⟩
      replace h := h.stay hb
      replace rA := rA.stay hb
      replace KC := KC.stay hb
      replace A := A.below hb
      clear hb N2
      rw [← HEE ()] at h
      have hl8 := nodeC_len 1 noSet v7
      have ho8 := nodeC_one 1 noSet (own_one KC.own)
      obtain ⟨X8, e8⟩ : ∃ X, nodeC 1 noSet v7 = X := ⟨_, rfl⟩
      have rB := KC.row
      rw [e8] at hl8 ho8 rB
      have E8 : Unit → nodeC 1 noSet v7 = X8 := fun _ => e8
      clear e8
      go_wp2_with (first | refine load_node _ _ rB hl8 _ rfl rfl rfl ?_ | refine store_node _ _ rA hlZ X8 hl8 ho8 _ _ rfl rfl rfl rfl ?_)
      refine ret_node _ _ (rw_setRow rA) hl8 rfl rfl rfl ?_
      exact ⟨by rw [HO ()]; exact ⟨X8, rfl, hl8, ho8, K5, hK5, rw_setRow_ne h hAR.symm⟩, asd_setRow A (.inr hbA)⟩
    | ok q r =>
      rw [hO2] at hQ
      obtain ⟨hT, K5, hr5, hK5, h⟩ := hQ
      replace h := hRgo _ _ h
      have KT := hTgo _ hT
      have hK5l := congrArg List.length hr5
      rw [List.length_drop] at hK5l
      have hq := (reads_good _).2.1 _ _ _ _ hO2
      rw [List.length_drop] at hq
      have hKK : K ≤ K5 := by omega
      rw [alt_eq, hO2] at hO
      rw [show qs.map treeS ++ [treeS q] = (qs ++ [q]).map treeS by rw [List.map_append]; rfl] at KT
      clear hO2 hTgo hRgo hT hq
      cases r with
      | nil =>
        have HO : Unit → O = .ok (preL qs (.one q)) [] := fun _ => hO.symm
        have N2 := Lib.hid fun w' h => next_end (R := R) hr5 w' h
        clear hO
        go_wp2_with fail
        refine (N2.out _ h).mono ?_
        rintro e v2 ⟨rfl, hb⟩
        replace h := h.stay hb
        replace rA := rA.stay hb
        replace KC := KC.stay hb
        replace KT := KT.stay hb
        replace A := A.below hb
        clear hb N2
        have hl8 := nodeC_len 1 noSet v7
        have ho8 := nodeC_one 1 noSet (own_one KC.own)
        obtain ⟨X8, e8⟩ : ∃ X, nodeC 1 noSet v7 = X := ⟨_, rfl⟩
        have rB := KC.row
        rw [e8] at hl8 ho8 rB
        have E8 : Unit → nodeC 1 noSet v7 = X8 := fun _ => e8
        clear e8
        go_wp2_with (first | refine load_node _ _ rB hl8 _ rfl rfl rfl ?_ | refine store_node _ _ rA hlZ X8 hl8 ho8 _ _ rfl rfl rfl rfl ?_)
        refine ret_node _ _ (rw_setRow rA) hl8 rfl rfl rfl ?_
        exact ⟨by
          rw [HO ()]
          refine ⟨X8, rfl, ?_, K5, hr5, hK5, rw_setRow_ne h hAR.symm⟩
          rw [tree_preL, ← E8 ()]
          have q := KT.whole (by omega) KC
          exact (q.keep (asd_setRow (Asd.refl (fun j => j = bA) _) (.inl rfl)) (fun i hp _ e => hNA i hp e)).mono (fun j hj _ => by omega), asd_setRow A (.inr hbA)⟩
      | cons c r =>
        obtain ⟨hy0, hr6, hk6, hn6⟩ := drop_cons hr5
        have N2 := Lib.hid fun w' h => next_hit (R := R) hr5 w' h
        clear hy0
        simp only at hO
        by_cases h124 : c = 124
        · subst h124
          rw [if_pos rfl] at hO
          obtain ⟨K6, hKb6, eK6⟩ : ∃ K6, K6 ≤ 101 ∧ (Unit → K6 = K5 + 1) := ⟨_, by omega, fun _ => rfl⟩
          have hKb5 : K5 ≤ 100 := by omega
          rw [← eK6 ()] at hr6
          have HO : Unit → preA (qs ++ [q]) (altR d (s.drop K6)) = O := fun _ => by rw [hr6, ← hO]; exact (preA_step qs q _).symm
          have hK56 : K5 + 1 ≤ K6 ∧ K6 ≤ s.length := by have := eK6 (); omega
          clear hO hr5
          go_wp2_with fail
          refine (N2.out _ h).mono ?_
          rintro e v3 ⟨rfl, hb⟩
          replace h := h.stay hb
          replace rA := rA.stay hb
          replace KC := KC.stay hb
          replace KT := KT.stay hb
          replace A := A.below hb
          clear hb N2
          have c1 := h.pos
          have f1 := Rw.frozen h 1
          go_wp2_with fail
          go_roundw
          case rel => exact ⟨v7, css7, K6, qs ++ [q], h.inc (eK6 ()), KC.keep ((Asd.refl (fun k => k = R) v3).set1 1 (.int .i64 ((K5 : Int) + 1))) (fun i e => by omega), rA.other hAR 1 (.int .i64 ((K5 : Int) + 1)), A.set1 1 (.int .i64 ((K5 : Int) + 1)), by omega, by omega, KT.keep ((Asd.refl (fun k => k = R) v3).set1 1 (.int .i64 ((K5 : Int) + 1))) (fun i e => by omega), HO ()⟩
          case measure =>
            rw [hL, (h.inc (eK6 ())).left0]
            omega
        · rw [if_neg h124] at hO
          have n124 : ((c.toNat : Int) == 124) = false := u8_ne (n := 124) h124 (by decide)
          have m124 : ((c.toNat : Int) != 124) = true := by simp only [bne, n124, Bool.not_false]
          have HO : Unit → O = .ok (preL qs (.one q)) (c :: r) := fun _ => hO.symm
          clear hO
          go_wp2_with fail
          refine (N2.out _ h).mono ?_
          rintro e v5 ⟨rfl, hb⟩
          replace h := h.stay hb
          replace rA := rA.stay hb
          replace KC := KC.stay hb
          replace KT := KT.stay hb
          replace A := A.below hb
          clear hb N2
          have hl8 := nodeC_len 1 noSet v7
          have ho8 := nodeC_one 1 noSet (own_one KC.own)
          obtain ⟨X8, e8⟩ : ∃ X, nodeC 1 noSet v7 = X := ⟨_, rfl⟩
          have rB := KC.row
          rw [e8] at hl8 ho8 rB
          have E8 : Unit → nodeC 1 noSet v7 = X8 := fun _ => e8
          clear e8
          go_wp2_with (first | refine load_node _ _ rB hl8 _ rfl rfl rfl ?_ | refine store_node _ _ rA hlZ X8 hl8 ho8 _ _ rfl rfl rfl rfl ?_)
          refine ret_node _ _ (rw_setRow rA) hl8 rfl rfl rfl ?_
          exact ⟨by
            rw [HO ()]
            refine ⟨X8, rfl, ?_, K5, hr5, hK5, rw_setRow_ne h hAR.symm⟩
            rw [tree_preL, ← E8 ()]
            have q := KT.whole (by omega) KC
            exact (q.keep (asd_setRow (Asd.refl (fun j => j = bA) _) (.inl rfl)) (fun i hp _ e => hNA i hp e)).mono (fun j hj _ => by omega), asd_setRow A (.inr hbA)⟩
/-- All of them, however deep. -/
theorem deep_any (j : Nat) : j ≤ 8 → EitherC (8 - j) := by
  induction j with
  | zero => exact fun _ => either_any 8 (row_any 8 (atom_any 8 (Nat.le_refl 8) (fun h => absurd h (by decide))))
  | succ j ih => exact fun hj => either_any _ (row_any _ (atom_any _ (by omega) (fun _ => by
      have := ih (by omega)
      rwa [show 8 - j = 8 - (j + 1) + 1 by omega] at this)))
end Go.Proofs.YteooofakpkbgoaaDoor.Dn
