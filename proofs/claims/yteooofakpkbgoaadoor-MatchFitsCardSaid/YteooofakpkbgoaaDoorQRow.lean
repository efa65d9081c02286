/- The document's pattern reader: row (written by wip/tools/genrow.py). -/
import Derived.Test.YteooofakpkbgoaaDoorQPlain
namespace Go.Proofs.YteooofakpkbgoaaDoor.Dn
open Go.ChangeShapes Go.WideShapes Go.RowKit

set_option maxHeartbeats 6400000 in
set_option maxRecDepth 100000 in
theorem row_any (d : Nat) (HA : AtomC d) : RowC d := by
  intro R K s w h hs hK
  obtain ⟨O, hO⟩ : ∃ O, seqR d (s.drop K) = O := ⟨_, rfl⟩
  rw [hO]
  have A := Asd.refl (fun k => k = R) w
  have hzc := zero_node
  obtain ⟨Z, eZ⟩ : ∃ Z, nodeC 0 noSet nilS = Z := ⟨_, rfl⟩
  have hlZ := nodeC_len 0 noSet nilS
  rw [eZ] at hzc hlZ
  clear eZ
  obtain ⟨Y, eY⟩ : ∃ Y, nodeC 2 noSet nilS = Y := ⟨_, rfl⟩
  have hlY := nodeC_len 2 noSet nilS
  have hoY := nodeC_one 2 noSet nil_one
  rw [eY] at hlY hoY
  have hR := Rw.lt h
  go_enter Tryd.func70, Tryd.ntmps70
  go_upto_region 1 with fail
  have rA := Rw.new w 61 Z
  have hb0 := (Below.refl w.heap.size w).alloc (Nat.le_refl _) (.cells Z.toArray 61)
  replace h := h.stay hb0
  replace A := A.below hb0
  generalize w.alloc (.cells Z.toArray 61) = w1 at *
  obtain ⟨bA, hbA, hA0⟩ : ∃ bA, w.heap.size ≤ bA ∧ w.heap.size = bA := ⟨_, Nat.le_refl _, rfl⟩
  obtain ⟨B0, hB00, hB01⟩ : ∃ B0, w.heap.size = B0 ∧ B0 = bA := ⟨_, rfl, hA0⟩
  rw [hA0] at rA
  simp only [hA0]
  have hAR : bA ≠ R := by omega
  have rB := Rw.new w1 61 Z
  have hb1 := (Below.refl w1.heap.size w1).alloc (Nat.le_refl _) (.cells Y.toArray 61)
  have hAB := Rw.lt rA
  have hsz := A.size
  have rY := Rw.new w1 61 Y
  clear hb0
  have EB := fun (o : Oper) (a : Act) => exec_b1 (o := o) (a := a) 2 eY
  go_upto_region 2 with (first | refine wpList_exec (EB _ _ _ rfl rfl _) rfl ?_ | refine store_node _ _ rB hlZ Y hlY hoY _ _ rfl rfl rfl rfl ?_)
  rw [World.setRow_alloc_new]
  replace h := h.stay hb1
  replace rA := rA.stay hb1
  replace A := A.below hb1
  generalize w1.alloc (.cells Y.toArray 61) = v0 at *
  obtain ⟨bB, hB0⟩ : ∃ bB, w1.heap.size = bB := ⟨_, rfl⟩
  rw [hB0] at rY hAB hsz
  simp only [hB0]
  have hbB : w.heap.size ≤ bB := hsz
  have hBR : bB ≠ R := by omega
  have hBA : bA ≠ bB := by omega
  have hBA1 : bA < bB := hAB
  rw [← eY] at rY
  have KC := Kc.start rY
  have KT := Kt.start (bA + 1) bB (dT d + 1) v0
  clear hb1 hB0 hAB hsz rB rY eY hlY hoY EB
  simp only [Act.put]
  go_loopw [] (fun wr => ∃ v css E K, Rd wr R s K E ∧ Kc bB 2 v css wr ∧ Rw wr bA 61 Z ∧ Asd (fun k => k = R) w wr ∧ ((E = 0 ∧ K ≤ s.length ∧ css.length ≤ K ∧ ∃ qs : List Re, Kt (bA + 1) bB (dT d + 1) v css (qs.map treeR) wr ∧ preS qs (seqR d (s.drop K)) = O) ∨ (∃ x, E = errN x ∧ O = .er x ∧ K + d ≤ s.length + 20))) (fun wr => left wr R s.length)
  case atStart => exact ⟨nilS, [], 0, K, h, KC, rA, A, .inl ⟨rfl, hK, by simp, [], KT, by rw [hO]; cases O <;> rfl⟩⟩
  case round =>
    clear h KC rA A KT hO hK K
    have hNA : ∀ i, bA + 1 ≤ i → i ≠ bA := fun i hi e => by omega
    obtain ⟨v, css, E, K, h, KC, rA, A, hE⟩ := hrel
    rcases hE with ⟨rfl, hK, hck, qs, KT, hO⟩ | ⟨x, rfl, hO, hKd⟩
    case inr =>
      have HO : Unit → O = .er x := fun _ => hO
      have hE := errN_ne x
      obtain ⟨E, hEE⟩ : ∃ E, errN x = E := ⟨_, rfl⟩
      rw [hEE] at hE h
      have HEE : Unit → errN x = E := fun _ => hEE
      clear hEE hO
      have N2 := Lib.hid fun w' h => next_err (R := R) (K := K) (s := s) hE w' h
      go_wp2_with fail
      refine (N2.out _ h).mono ?_
      rintro e v1 ⟨rfl, hb⟩
      replace h := h.stay hb
      replace rA := rA.stay hb
      replace KC := KC.stay hb
      replace A := A.below hb
      clear hb N2
      rw [← HEE ()] at h
      have hl8 := nodeC_len 2 noSet v
      have ho8 := nodeC_one 2 noSet (own_one KC.own)
      obtain ⟨X8, e8⟩ : ∃ X, nodeC 2 noSet v = X := ⟨_, rfl⟩
      have rB := KC.row
      rw [e8] at hl8 ho8 rB
      have E8 : Unit → nodeC 2 noSet v = X8 := fun _ => e8
      clear e8
      go_wp2_with (first | refine load_node _ _ rB hl8 _ rfl rfl rfl ?_ | refine store_node _ _ rA hlZ X8 hl8 ho8 _ _ rfl rfl rfl rfl ?_)
      refine ret_node _ _ (rw_setRow rA) hl8 rfl rfl rfl ?_
      exact ⟨by rw [HO ()]; exact ⟨X8, rfl, hl8, ho8, K, hKd, rw_setRow_ne h hAR.symm⟩, asd_setRow A (.inr hbA)⟩
    case inl =>
      have hKb : K ≤ 100 := by omega
      have hL := h.left0 (n := s.length)
      cases hl : s.drop K with
      | nil =>
        rw [hl, seq_nil] at hO
        have HO : Unit → O = .ok (preQ qs .nil) [] := fun _ => hO.symm
        have N1 := Lib.hid fun w' h => next_end (R := R) hl w' h
        clear hO
        go_wp2_with fail
        refine (N1.out _ h).mono ?_
        rintro e v2 ⟨rfl, hb⟩
        replace h := h.stay hb
        replace rA := rA.stay hb
        replace KC := KC.stay hb
        replace KT := KT.stay hb
        replace A := A.below hb
        clear hb N1
        have hl8 := nodeC_len 2 noSet v
        have ho8 := nodeC_one 2 noSet (own_one KC.own)
        obtain ⟨X8, e8⟩ : ∃ X, nodeC 2 noSet v = X := ⟨_, rfl⟩
        have rB := KC.row
        rw [e8] at hl8 ho8 rB
        have E8 : Unit → nodeC 2 noSet v = X8 := fun _ => e8
        clear e8
        go_wp2_with (first | refine load_node _ _ rB hl8 _ rfl rfl rfl ?_ | refine store_node _ _ rA hlZ X8 hl8 ho8 _ _ rfl rfl rfl rfl ?_)
        refine ret_node _ _ (rw_setRow rA) hl8 rfl rfl rfl ?_
        exact ⟨by
          rw [HO ()]
          refine ⟨X8, rfl, ?_, K, hl, hK, rw_setRow_ne h hAR.symm⟩
          rw [tree_pre, ← E8 ()]
          have q := KT.whole (by omega) KC
          exact (q.keep (asd_setRow (Asd.refl (fun j => j = bA) _) (.inl rfl)) (fun i hp _ e => hNA i hp e)).mono (fun j hj _ => by omega), asd_setRow A (.inr hbA)⟩
      | cons c l =>
        rw [hl, seq_eq] at hO
        by_cases hstop : c = 124 ∨ c = 41
        · rw [if_pos hstop] at hO
          have HO : Unit → O = .ok (preQ qs .nil) (c :: l) := fun _ => hO.symm
          have N1 := Lib.hid fun w' h => next_hit (R := R) hl w' h
          clear hO
          rcases hstop with rfl | rfl
          · skip
            go_wp2_with fail
            refine (N1.out _ h).mono ?_
            rintro e v3 ⟨rfl, hb⟩
            replace h := h.stay hb
            replace rA := rA.stay hb
            replace KC := KC.stay hb
            replace KT := KT.stay hb
            replace A := A.below hb
            clear hb N1
            have hl8 := nodeC_len 2 noSet v
            have ho8 := nodeC_one 2 noSet (own_one KC.own)
            obtain ⟨X8, e8⟩ : ∃ X, nodeC 2 noSet v = X := ⟨_, rfl⟩
            have rB := KC.row
            rw [e8] at hl8 ho8 rB
            have E8 : Unit → nodeC 2 noSet v = X8 := fun _ => e8
            clear e8
            go_wp2_with (first | refine load_node _ _ rB hl8 _ rfl rfl rfl ?_ | refine store_node _ _ rA hlZ X8 hl8 ho8 _ _ rfl rfl rfl rfl ?_)
            refine ret_node _ _ (rw_setRow rA) hl8 rfl rfl rfl ?_
            exact ⟨by
              rw [HO ()]
              refine ⟨X8, rfl, ?_, K, hl, hK, rw_setRow_ne h hAR.symm⟩
              rw [tree_pre, ← E8 ()]
              have q := KT.whole (by omega) KC
              exact (q.keep (asd_setRow (Asd.refl (fun j => j = bA) _) (.inl rfl)) (fun i hp _ e => hNA i hp e)).mono (fun j hj _ => by omega), asd_setRow A (.inr hbA)⟩
          · skip
            go_wp2_with fail
            refine (N1.out _ h).mono ?_
            rintro e v4 ⟨rfl, hb⟩
            replace h := h.stay hb
            replace rA := rA.stay hb
            replace KC := KC.stay hb
            replace KT := KT.stay hb
            replace A := A.below hb
            clear hb N1
            have hl8 := nodeC_len 2 noSet v
            have ho8 := nodeC_one 2 noSet (own_one KC.own)
            obtain ⟨X8, e8⟩ : ∃ X, nodeC 2 noSet v = X := ⟨_, rfl⟩
            have rB := KC.row
            rw [e8] at hl8 ho8 rB
            have E8 : Unit → nodeC 2 noSet v = X8 := fun _ => e8
            clear e8
            go_wp2_with (first | refine load_node _ _ rB hl8 _ rfl rfl rfl ?_ | refine store_node _ _ rA hlZ X8 hl8 ho8 _ _ rfl rfl rfl rfl ?_)
            refine ret_node _ _ (rw_setRow rA) hl8 rfl rfl rfl ?_
            exact ⟨by
              rw [HO ()]
              refine ⟨X8, rfl, ?_, K, hl, hK, rw_setRow_ne h hAR.symm⟩
              rw [tree_pre, ← E8 ()]
              have q := KT.whole (by omega) KC
              exact (q.keep (asd_setRow (Asd.refl (fun j => j = bA) _) (.inl rfl)) (fun i hp _ e => hNA i hp e)).mono (fun j hj _ => by omega), asd_setRow A (.inr hbA)⟩
        · rw [if_neg hstop] at hO
          have h124 : ¬ c = 124 := fun e => hstop (.inl e)
          have h41 : ¬ c = 41 := fun e => hstop (.inr e)
          have n124 : ((c.toNat : Int) == 124) = false := u8_ne (n := 124) h124 (by decide)
          have n41 : ((c.toNat : Int) == 41) = false := u8_ne (n := 41) h41 (by decide)
          have N1 := Lib.hid fun w' h => next_hit (R := R) hl w' h
          have HA1 := Lib.hid fun w' h => HA R K s l c w' h hs hl h124 h41
          have HO0 : Unit → preS qs (match atomR' d (c :: l) with
            | .er e => .er e
            | .ok x r => match seqR d (often x r).2 with
              | .er e => .er e
              | .ok q r' => .ok (.cons (often x r).1 q) r') = O := fun _ => hO
          have hll := congrArg List.length hl
          rw [List.length_drop, List.length_cons] at hll
          clear hO hl hstop
          go_wp2_with fail
          refine (N1.out _ h).mono ?_
          rintro e v5 ⟨rfl, hb⟩
          replace h := h.stay hb
          replace rA := rA.stay hb
          replace KC := KC.stay hb
          replace KT := KT.stay hb
          replace A := A.below hb
          clear hb N1
          go_wp2_with fail
          refine (HA1.out _ h).mono ?_
          rintro e v90 ⟨hS, A'⟩
          have hltA := Rw.lt rA
          have hltB := Rw.lt KC.row
          have hltv := fun i e => (KC.own.lt i e).2
          clear h HA1
          replace rA := rA.keep A' hAR
          replace KC := KC.keep A' (fun i e => by omega)
          replace KT := KT.keep A' (fun i e => by omega)
          have hszA := A.size
          have hszC := A'.size
          replace A := A.andThen A'
          have hszB := A.size
          clear A'
          have rC := Rw.new v90 61 Z
          cases hO2 : atomR' d (c :: l) with
          | er x =>
            rw [hO2] at hS HO0
            obtain ⟨cs, rfl, hcl, hc1, K5, hK5, h⟩ := hS
            have HO : Unit → O = .er x := fun _ => by rw [← HO0 ()]; rfl
            have hE := errN_ne x
            obtain ⟨E, hEE⟩ : ∃ E, errN x = E := ⟨_, rfl⟩
            rw [hEE] at hE h
            have HEE : Unit → errN x = E := fun _ => hEE
            clear HO0 hO2 hEE KT
            have hb2 := (Below.refl v90.heap.size v90).alloc (Nat.le_refl _) (.cells cs.toArray 61)
            have A9 := Asd.of_below (S := (fun k => k = R)) hb2
            go_upto_region 6 with (refine store_node _ _ rC hlZ cs hcl hc1 _ _ rfl rfl rfl rfl ?_)
            rw [World.setRow_alloc_new]
            replace rC := Rw.new v90 61 cs
            replace h := h.stay hb2
            replace rA := rA.stay hb2
            replace A := A.below hb2
            generalize v90.alloc (.cells cs.toArray 61) = v91 at *
            obtain ⟨bC, hbC⟩ : ∃ bC, v90.heap.size = bC := ⟨_, rfl⟩
            rw [hbC] at rC
            simp only [hbC]
            clear hb2
            have N2 := Lib.hid fun w' h => next_err (R := R) (K := K5) (s := s) hE w' h
            go_wp2_with fail
            refine (N2.out _ h).mono ?_
            rintro e v6 ⟨rfl, hb⟩
            replace h := h.stay hb
            replace rA := rA.stay hb
            replace rC := rC.stay hb
            replace A9 := A9.below hb
            replace A := A.below hb
            clear hb N2
            go_upto_region 15 with fail
            replace KC := KC.keep A9 (fun i e => by omega)
            clear A9
            have cK := (KC.row.cell 257).trans (nodeC_kids 2 noSet v)
            have rX := Rw.new v6 61 cs
            have hbx := (Below.refl v6.heap.size v6).alloc (Nat.le_refl _) (.cells cs.toArray 61)
            have KC2 := KC.stay hbx
            have hBx := Rw.lt KC.row
            have hbz : bB + 1 ≤ (v6.alloc (.cells cs.toArray 61)).heap.size := by have := hbx.size; omega
            go_wp2_with (first | refine load_node _ _ rC hcl _ rfl rfl rfl ?_ | refine wpList_row_node cs hcl _ rfl rfl rfl ?_ | refine wpList_own_node _ _ rfl rfl (bB + 1) v css rfl KC2.own v6.heap.size cs rfl hcl rX hc1 (by omega) hbz ?_)
            intro u7 v7 hO7 hg7 hv7
            obtain ⟨g7, c7, rfl⟩ := own_succ hO7
            have hv71 := own_one hO7
            have KC7 := KC2.add hg7 hO7 hcl hv71
            have r7 := KC2.row.grown hg7 (fun e => by have := (KC2.own.lt _ e).1; omega)
            have f7 := r7.frozen 257
            have d7 := (r7.cell 257).trans (nodeC_kids 2 noSet v)
            have h7 : Rd v7 R s K5 E := Rw.grown (h.stay hbx) hg7 (fun e => by have := (KC2.own.lt _ e).1; omega)
            have a7 := Rw.grown (rA.stay hbx) hg7 (fun e => by have := (KC2.own.lt _ e).1; omega)
            have A7 := (A.below hbx).grown hg7 (fun k e => .inr (by have := (KC2.own.lt _ e).1; omega))
            replace h := Rw.other h7 hBR.symm 257 (.slice (some ⟨g7, 0, none⟩) (css.length + 1) c7)
            replace rA := a7.other hBA 257 (.slice (some ⟨g7, 0, none⟩) (css.length + 1) c7)
            replace A := A7.setCell (p := ⟨bB, 257, none⟩) (.inr hbB) (.slice (some ⟨g7, 0, none⟩) (css.length + 1) c7)
            clear h7 a7 A7 r7 KC2 rX hbx cK KC hO7 hg7
            go_wp2_with fail
            go_roundw
            case rel => exact ⟨(.slice (some ⟨g7, 0, none⟩) (css.length + 1) c7), css ++ [cs], E, K5, h, KC7, rA, A, .inr ⟨x, (HEE ()).symm, HO (), hK5⟩⟩
            case measure =>
              rw [hL, Rd.left2 hE (h : Rd _ R s _ _)]
              omega
          | ok x r =>
            have hxl := atom_len hO2
            rw [List.length_cons] at hxl
            rw [hO2] at hS HO0
            obtain ⟨cs, rfl, hT, K5, hr5, hK5, h⟩ := hS
            obtain ⟨hcl, hc1⟩ := hT.node
            replace HO0 : Unit → preS (qs ++ [(often x r).1]) (seqR d (often x r).2) = O := fun _ => by rw [← HO0 ()]; exact (preS_step qs _ _).symm
            replace hT := hT.mono (P' := fun j => bA + 1 ≤ j ∧ j ≠ bB ∧ v.ownBlock ≠ some j ∧ j ≠ v90.heap.size) (fun j hj hq => ⟨by omega, by omega, fun e => by have := hltv j e; omega, by omega⟩)
            have hK5b : K5 ≤ 100 := by omega
            have hK5l := congrArg List.length hr5
            rw [List.length_drop] at hK5l
            have hKK : K < K5 := by omega
            clear hO2
            have hb2 := (Below.refl v90.heap.size v90).alloc (Nat.le_refl _) (.cells cs.toArray 61)
            have A9 := Asd.of_below (S := (fun k => k = R)) hb2
            go_upto_region 6 with (refine store_node _ _ rC hlZ cs hcl hc1 _ _ rfl rfl rfl rfl ?_)
            rw [World.setRow_alloc_new]
            replace rC := Rw.new v90 61 cs
            replace h := h.stay hb2
            replace rA := rA.stay hb2
            replace A := A.below hb2
            generalize v90.alloc (.cells cs.toArray 61) = v91 at *
            obtain ⟨bC, hbC⟩ : ∃ bC, v90.heap.size = bC := ⟨_, rfl⟩
            rw [hbC] at rC
            simp only [hbC]
            clear hb2
            cases r with
            | nil =>
              have HO : Unit → preS (qs ++ [x]) (seqR d (s.drop K5)) = O := fun _ => by rw [hr5, ← HO0 ()]; rfl
              have N2 := Lib.hid fun w' h => next_end (R := R) hr5 w' h
              clear HO0
              go_wp2_with fail
              refine (N2.out _ h).mono ?_
              rintro e v9 ⟨rfl, hb⟩
              replace h := h.stay hb
              replace rA := rA.stay hb
              replace rC := rC.stay hb
              replace A9 := A9.below hb
              replace A := A.below hb
              clear hb N2
              replace hT := hT.up
              go_upto_region 15 with fail
              replace KC := KC.keep A9 (fun i e => by omega)
              replace KT := KT.keep A9 (fun i e => by omega)
              replace hT := hT.keep A9 (fun i hp _ e => by have := hp.1; omega)
              replace hT := hT.mono (P' := fun j => bA + 1 ≤ j ∧ j ≠ bB ∧ v.ownBlock ≠ some j) (fun j hj _ => ⟨hj.1, hj.2.1, hj.2.2.1⟩)
              clear A9
              have cK := (KC.row.cell 257).trans (nodeC_kids 2 noSet v)
              have rX := Rw.new v9 61 cs
              have hbx := (Below.refl v9.heap.size v9).alloc (Nat.le_refl _) (.cells cs.toArray 61)
              have KC2 := KC.stay hbx
              have KT2 := KT.stay hbx
              have hT2 := hT.stay hbx
              have hBx := Rw.lt KC.row
              have hbz : bB + 1 ≤ (v9.alloc (.cells cs.toArray 61)).heap.size := by have := hbx.size; omega
              go_wp2_with (first | refine load_node _ _ rC hcl _ rfl rfl rfl ?_ | refine wpList_row_node cs hcl _ rfl rfl rfl ?_ | refine wpList_own_node _ _ rfl rfl (bB + 1) v css rfl KC2.own v9.heap.size cs rfl hcl rX hc1 (by omega) hbz ?_)
              intro u7 v10 hO7 hg7 hv7
              obtain ⟨g7, c7, rfl⟩ := own_succ hO7
              have hv71 := own_one hO7
              have KC7 := KC2.add hg7 hO7 hcl hv71
              have KT7 := KT2.add hT2 hg7 (hv7.imp id (fun e => by rw [e]; simp))
              have r7 := KC2.row.grown hg7 (fun e => by have := (KC2.own.lt _ e).1; omega)
              have f7 := r7.frozen 257
              have d7 := (r7.cell 257).trans (nodeC_kids 2 noSet v)
              have h7 : Rd v10 R s K5 0 := Rw.grown (h.stay hbx) hg7 (fun e => by have := (KC2.own.lt _ e).1; omega)
              have a7 := Rw.grown (rA.stay hbx) hg7 (fun e => by have := (KC2.own.lt _ e).1; omega)
              have A7 := (A.below hbx).grown hg7 (fun k e => .inr (by have := (KC2.own.lt _ e).1; omega))
              replace h := Rw.other h7 hBR.symm 257 (.slice (some ⟨g7, 0, none⟩) (css.length + 1) c7)
              replace rA := a7.other hBA 257 (.slice (some ⟨g7, 0, none⟩) (css.length + 1) c7)
              replace A := A7.setCell (p := ⟨bB, 257, none⟩) (.inr hbB) (.slice (some ⟨g7, 0, none⟩) (css.length + 1) c7)
              clear h7 a7 A7 r7 KC2 rX hbx cK KC hO7 hg7 KT2 hT2 KT hT
              go_wp2_with fail
              go_roundw
              case rel => exact ⟨(.slice (some ⟨g7, 0, none⟩) (css.length + 1) c7), css ++ [cs], 0, K5, h, KC7, rA, A, .inl ⟨rfl, by omega, by rw [List.length_append, List.length_singleton]; omega, qs ++ [x], by rw [List.map_append]; exact KT7, HO ()⟩⟩
              case measure =>
                rw [hL, Rd.left0 (h : Rd _ R s _ 0)]
                omega
            | cons y r =>
              obtain ⟨hy0, hr6, hk6, hn6⟩ := drop_cons hr5
              have N2 := Lib.hid fun w' h => next_hit (R := R) hr5 w' h
              clear hy0
              by_cases h42 : y = 42
              · subst h42
                obtain ⟨K6, hKb6, eK6⟩ : ∃ K6, K6 ≤ 101 ∧ (Unit → K6 = K5 + 1) := ⟨_, by omega, fun _ => rfl⟩
                rw [← eK6 ()] at hr6
                have HO : Unit → preS (qs ++ [.star x]) (seqR d (s.drop K6)) = O := fun _ => by rw [hr6, ← HO0 ()]; rfl
                have hK56 : K5 ≤ K6 ∧ K6 ≤ s.length := by have := eK6 (); omega
                clear HO0 hr5
                go_wp2_with fail
                refine (N2.out _ h).mono ?_
                rintro e v12 ⟨rfl, hb⟩
                replace h := h.stay hb
                replace rA := rA.stay hb
                replace rC := rC.stay hb
                replace A9 := A9.below hb
                replace A := A.below hb
                clear hb N2
                have c1 := h.pos
                have f1 := Rw.frozen h 1
                go_upto_region 9 with fail
                replace h := h.inc (eK6 ())
                replace rA := rA.other hAR 1 (.int .i64 ((K5 : Int) + 1))
                have hbCR : bC ≠ R := by omega
                replace rC := rC.other hbCR 1 (.int .i64 ((K5 : Int) + 1))
                replace A := A.set1 1 (.int .i64 ((K5 : Int) + 1))
                replace A9 := A9.set1 1 (.int .i64 ((K5 : Int) + 1))
                generalize v12.setCell ⟨R, 1, none⟩ (.int .i64 ((K5 : Int) + 1)) = v13 at *
                clear c1 f1
                replace hT := hT.keep A9 (fun i hp _ e => by have := hp.1; omega)
                have rD := Rw.new v13 61 cs
                have hb3 := (Below.refl v13.heap.size v13).alloc (Nat.le_refl _) (.cells cs.toArray 61)
                have rC3 := rC.stay hb3
                have hszy := A9.size
                have hltC := Rw.lt rC
                obtain ⟨Y, eY⟩ : ∃ Y, nodeC 3 noSet (.slice (some ⟨v13.heap.size, 0, none⟩) 1 1) = Y := ⟨_, rfl⟩
                have hlY := nodeC_len 3 noSet (.slice (some ⟨v13.heap.size, 0, none⟩) 1 1)
                have hoY := nodeC_one 3 noSet (v := .slice (some ⟨v13.heap.size, 0, none⟩) 1 1) rfl
                replace hT := (hT.stay hb3).over rD ⟨by omega, by omega, fun e => by have := hltv _ e; omega, by omega⟩ 3
                have EB := fun (o : Oper) (a : Act) => exec_b2 (o := o) (a := a) 3 eY rfl
                rw [eY] at hlY hoY hT
                clear eY rD
                have hbCA : bC ≠ bA := by omega
                go_upto_region 15 with (first | refine load_node _ _ rC hcl _ rfl rfl rfl ?_ | refine wpList_row_node cs hcl _ rfl rfl rfl ?_ | refine wpList_exec (EB _ _ _ _ rfl rfl rfl _) rfl ?_ | refine store_node _ _ rC3 hcl Y hlY hoY _ _ rfl rfl rfl rfl ?_)
                clear EB
                replace h := h.stay hb3
                replace rA := rA.stay hb3
                replace A := A.below hb3
                replace A9 := A9.below hb3
                clear hb3 rC
                generalize v13.alloc (.cells cs.toArray 61) = v14 at *
                replace hT := hT.keep (asd_setRow (ds := Y.toArray) (Asd.refl (fun j => j = bC) v14) (.inl rfl)) (fun i hp _ e => hp.2.2.2 (by omega))
                replace h := rw_setRow_ne h (ds := Y.toArray) (k := bC) hbCR.symm
                replace rA := rw_setRow_ne rA (ds := Y.toArray) (k := bC) hbCA.symm
                have rC : Rw (v14.setRow bC Y.toArray) bC 61 Y := rw_setRow rC3
                replace A := asd_setRow (ds := Y.toArray) A (g := bC) (.inr (by omega))
                replace A9 := asd_setRow (ds := Y.toArray) A9 (g := bC) (.inr (by omega))
                generalize v14.setRow bC Y.toArray = v15 at *
                change Rd v15 R s _ _ at h
                clear rC3
                replace KC := KC.keep A9 (fun i e => by omega)
                replace KT := KT.keep A9 (fun i e => by omega)
                replace hT := hT.mono (P' := fun j => bA + 1 ≤ j ∧ j ≠ bB ∧ v.ownBlock ≠ some j) (fun j hj _ => ⟨hj.1, hj.2.1, hj.2.2.1⟩)
                clear A9
                have cK := (KC.row.cell 257).trans (nodeC_kids 2 noSet v)
                have rX := Rw.new v15 61 Y
                have hbx := (Below.refl v15.heap.size v15).alloc (Nat.le_refl _) (.cells Y.toArray 61)
                have KC2 := KC.stay hbx
                have KT2 := KT.stay hbx
                have hT2 := hT.stay hbx
                have hBx := Rw.lt KC.row
                have hbz : bB + 1 ≤ (v15.alloc (.cells Y.toArray 61)).heap.size := by have := hbx.size; omega
                go_wp2_with (first | refine load_node _ _ rC hlY _ rfl rfl rfl ?_ | refine wpList_row_node Y hlY _ rfl rfl rfl ?_ | refine wpList_own_node _ _ rfl rfl (bB + 1) v css rfl KC2.own v15.heap.size Y rfl hlY rX hoY (by omega) hbz ?_)
                intro u7 v16 hO7 hg7 hv7
                obtain ⟨g7, c7, rfl⟩ := own_succ hO7
                have hv71 := own_one hO7
                have KC7 := KC2.add hg7 hO7 hlY hv71
                have KT7 := KT2.add hT2 hg7 (hv7.imp id (fun e => by rw [e]; simp))
                have r7 := KC2.row.grown hg7 (fun e => by have := (KC2.own.lt _ e).1; omega)
                have f7 := r7.frozen 257
                have d7 := (r7.cell 257).trans (nodeC_kids 2 noSet v)
                have h7 : Rd v16 R s K6 0 := Rw.grown (h.stay hbx) hg7 (fun e => by have := (KC2.own.lt _ e).1; omega)
                have a7 := Rw.grown (rA.stay hbx) hg7 (fun e => by have := (KC2.own.lt _ e).1; omega)
                have A7 := (A.below hbx).grown hg7 (fun k e => .inr (by have := (KC2.own.lt _ e).1; omega))
                replace h := Rw.other h7 hBR.symm 257 (.slice (some ⟨g7, 0, none⟩) (css.length + 1) c7)
                replace rA := a7.other hBA 257 (.slice (some ⟨g7, 0, none⟩) (css.length + 1) c7)
                replace A := A7.setCell (p := ⟨bB, 257, none⟩) (.inr hbB) (.slice (some ⟨g7, 0, none⟩) (css.length + 1) c7)
                clear h7 a7 A7 r7 KC2 rX hbx cK KC hO7 hg7 KT2 hT2 KT hT
                go_wp2_with fail
                go_roundw
                case rel => exact ⟨(.slice (some ⟨g7, 0, none⟩) (css.length + 1) c7), css ++ [Y], 0, K6, h, KC7, rA, A, .inl ⟨rfl, by omega, by rw [List.length_append, List.length_singleton]; omega, qs ++ [.star x], by rw [List.map_append]; exact KT7, HO ()⟩⟩
                case measure =>
                  rw [hL, Rd.left0 (h : Rd _ R s _ 0)]
                  omega
              have n42 : ((y.toNat : Int) == 42) = false := u8_ne (n := 42) h42 (by decide)
              by_cases h43 : y = 43
              · subst h43
                obtain ⟨K6, hKb6, eK6⟩ : ∃ K6, K6 ≤ 101 ∧ (Unit → K6 = K5 + 1) := ⟨_, by omega, fun _ => rfl⟩
                rw [← eK6 ()] at hr6
                have HO : Unit → preS (qs ++ [.plus x]) (seqR d (s.drop K6)) = O := fun _ => by rw [hr6, ← HO0 ()]; rfl
                have hK56 : K5 ≤ K6 ∧ K6 ≤ s.length := by have := eK6 (); omega
                clear HO0 hr5
                go_wp2_with fail
                refine (N2.out _ h).mono ?_
                rintro e v18 ⟨rfl, hb⟩
                replace h := h.stay hb
                replace rA := rA.stay hb
                replace rC := rC.stay hb
                replace A9 := A9.below hb
                replace A := A.below hb
                clear hb N2
                have c1 := h.pos
                have f1 := Rw.frozen h 1
                go_upto_region 9 with fail
                replace h := h.inc (eK6 ())
                replace rA := rA.other hAR 1 (.int .i64 ((K5 : Int) + 1))
                have hbCR : bC ≠ R := by omega
                replace rC := rC.other hbCR 1 (.int .i64 ((K5 : Int) + 1))
                replace A := A.set1 1 (.int .i64 ((K5 : Int) + 1))
                replace A9 := A9.set1 1 (.int .i64 ((K5 : Int) + 1))
                generalize v18.setCell ⟨R, 1, none⟩ (.int .i64 ((K5 : Int) + 1)) = v19 at *
                clear c1 f1
                replace hT := hT.keep A9 (fun i hp _ e => by have := hp.1; omega)
                have rD := Rw.new v19 61 cs
                have hb3 := (Below.refl v19.heap.size v19).alloc (Nat.le_refl _) (.cells cs.toArray 61)
                have rC3 := rC.stay hb3
                have hszy := A9.size
                have hltC := Rw.lt rC
                obtain ⟨Y, eY⟩ : ∃ Y, nodeC 4 noSet (.slice (some ⟨v19.heap.size, 0, none⟩) 1 1) = Y := ⟨_, rfl⟩
                have hlY := nodeC_len 4 noSet (.slice (some ⟨v19.heap.size, 0, none⟩) 1 1)
                have hoY := nodeC_one 4 noSet (v := .slice (some ⟨v19.heap.size, 0, none⟩) 1 1) rfl
                replace hT := (hT.stay hb3).over rD ⟨by omega, by omega, fun e => by have := hltv _ e; omega, by omega⟩ 4
                have EB := fun (o : Oper) (a : Act) => exec_b2 (o := o) (a := a) 4 eY rfl
                rw [eY] at hlY hoY hT
                clear eY rD
                have hbCA : bC ≠ bA := by omega
                go_upto_region 15 with (first | refine load_node _ _ rC hcl _ rfl rfl rfl ?_ | refine wpList_row_node cs hcl _ rfl rfl rfl ?_ | refine wpList_exec (EB _ _ _ _ rfl rfl rfl _) rfl ?_ | refine store_node _ _ rC3 hcl Y hlY hoY _ _ rfl rfl rfl rfl ?_)
                clear EB
                replace h := h.stay hb3
                replace rA := rA.stay hb3
                replace A := A.below hb3
                replace A9 := A9.below hb3
                clear hb3 rC
                generalize v19.alloc (.cells cs.toArray 61) = v20 at *
                replace hT := hT.keep (asd_setRow (ds := Y.toArray) (Asd.refl (fun j => j = bC) v20) (.inl rfl)) (fun i hp _ e => hp.2.2.2 (by omega))
                replace h := rw_setRow_ne h (ds := Y.toArray) (k := bC) hbCR.symm
                replace rA := rw_setRow_ne rA (ds := Y.toArray) (k := bC) hbCA.symm
                have rC : Rw (v20.setRow bC Y.toArray) bC 61 Y := rw_setRow rC3
                replace A := asd_setRow (ds := Y.toArray) A (g := bC) (.inr (by omega))
                replace A9 := asd_setRow (ds := Y.toArray) A9 (g := bC) (.inr (by omega))
                generalize v20.setRow bC Y.toArray = v21 at *
                change Rd v21 R s _ _ at h
                clear rC3
                replace KC := KC.keep A9 (fun i e => by omega)
                replace KT := KT.keep A9 (fun i e => by omega)
                replace hT := hT.mono (P' := fun j => bA + 1 ≤ j ∧ j ≠ bB ∧ v.ownBlock ≠ some j) (fun j hj _ => ⟨hj.1, hj.2.1, hj.2.2.1⟩)
                clear A9
                have cK := (KC.row.cell 257).trans (nodeC_kids 2 noSet v)
                have rX := Rw.new v21 61 Y
                have hbx := (Below.refl v21.heap.size v21).alloc (Nat.le_refl _) (.cells Y.toArray 61)
                have KC2 := KC.stay hbx
                have KT2 := KT.stay hbx
                have hT2 := hT.stay hbx
                have hBx := Rw.lt KC.row
                have hbz : bB + 1 ≤ (v21.alloc (.cells Y.toArray 61)).heap.size := by have := hbx.size; omega
                go_wp2_with (first | refine load_node _ _ rC hlY _ rfl rfl rfl ?_ | refine wpList_row_node Y hlY _ rfl rfl rfl ?_ | refine wpList_own_node _ _ rfl rfl (bB + 1) v css rfl KC2.own v21.heap.size Y rfl hlY rX hoY (by omega) hbz ?_)
                intro u7 v22 hO7 hg7 hv7
                obtain ⟨g7, c7, rfl⟩ := own_succ hO7
                have hv71 := own_one hO7
                have KC7 := KC2.add hg7 hO7 hlY hv71
                have KT7 := KT2.add hT2 hg7 (hv7.imp id (fun e => by rw [e]; simp))
                have r7 := KC2.row.grown hg7 (fun e => by have := (KC2.own.lt _ e).1; omega)
                have f7 := r7.frozen 257
                have d7 := (r7.cell 257).trans (nodeC_kids 2 noSet v)
                have h7 : Rd v22 R s K6 0 := Rw.grown (h.stay hbx) hg7 (fun e => by have := (KC2.own.lt _ e).1; omega)
                have a7 := Rw.grown (rA.stay hbx) hg7 (fun e => by have := (KC2.own.lt _ e).1; omega)
                have A7 := (A.below hbx).grown hg7 (fun k e => .inr (by have := (KC2.own.lt _ e).1; omega))
                replace h := Rw.other h7 hBR.symm 257 (.slice (some ⟨g7, 0, none⟩) (css.length + 1) c7)
                replace rA := a7.other hBA 257 (.slice (some ⟨g7, 0, none⟩) (css.length + 1) c7)
                replace A := A7.setCell (p := ⟨bB, 257, none⟩) (.inr hbB) (.slice (some ⟨g7, 0, none⟩) (css.length + 1) c7)
                clear h7 a7 A7 r7 KC2 rX hbx cK KC hO7 hg7 KT2 hT2 KT hT
                go_wp2_with fail
                go_roundw
                case rel => exact ⟨(.slice (some ⟨g7, 0, none⟩) (css.length + 1) c7), css ++ [Y], 0, K6, h, KC7, rA, A, .inl ⟨rfl, by omega, by rw [List.length_append, List.length_singleton]; omega, qs ++ [.plus x], by rw [List.map_append]; exact KT7, HO ()⟩⟩
                case measure =>
                  rw [hL, Rd.left0 (h : Rd _ R s _ 0)]
                  omega
              have n43 : ((y.toNat : Int) == 43) = false := u8_ne (n := 43) h43 (by decide)
              by_cases h63 : y = 63
              · subst h63
                obtain ⟨K6, hKb6, eK6⟩ : ∃ K6, K6 ≤ 101 ∧ (Unit → K6 = K5 + 1) := ⟨_, by omega, fun _ => rfl⟩
                rw [← eK6 ()] at hr6
                have HO : Unit → preS (qs ++ [.opt x]) (seqR d (s.drop K6)) = O := fun _ => by rw [hr6, ← HO0 ()]; rfl
                have hK56 : K5 ≤ K6 ∧ K6 ≤ s.length := by have := eK6 (); omega
                clear HO0 hr5
                go_wp2_with fail
                refine (N2.out _ h).mono ?_
                rintro e v24 ⟨rfl, hb⟩
                replace h := h.stay hb
                replace rA := rA.stay hb
                replace rC := rC.stay hb
                replace A9 := A9.below hb
                replace A := A.below hb
                clear hb N2
                have c1 := h.pos
                have f1 := Rw.frozen h 1
                go_upto_region 9 with fail
                replace h := h.inc (eK6 ())
                replace rA := rA.other hAR 1 (.int .i64 ((K5 : Int) + 1))
                have hbCR : bC ≠ R := by omega
                replace rC := rC.other hbCR 1 (.int .i64 ((K5 : Int) + 1))
                replace A := A.set1 1 (.int .i64 ((K5 : Int) + 1))
                replace A9 := A9.set1 1 (.int .i64 ((K5 : Int) + 1))
                generalize v24.setCell ⟨R, 1, none⟩ (.int .i64 ((K5 : Int) + 1)) = v25 at *
                clear c1 f1
                replace hT := hT.keep A9 (fun i hp _ e => by have := hp.1; omega)
                have rD := Rw.new v25 61 cs
                have hb3 := (Below.refl v25.heap.size v25).alloc (Nat.le_refl _) (.cells cs.toArray 61)
                have rC3 := rC.stay hb3
                have hszy := A9.size
                have hltC := Rw.lt rC
                obtain ⟨Y, eY⟩ : ∃ Y, nodeC 5 noSet (.slice (some ⟨v25.heap.size, 0, none⟩) 1 1) = Y := ⟨_, rfl⟩
                have hlY := nodeC_len 5 noSet (.slice (some ⟨v25.heap.size, 0, none⟩) 1 1)
                have hoY := nodeC_one 5 noSet (v := .slice (some ⟨v25.heap.size, 0, none⟩) 1 1) rfl
                replace hT := (hT.stay hb3).over rD ⟨by omega, by omega, fun e => by have := hltv _ e; omega, by omega⟩ 5
                have EB := fun (o : Oper) (a : Act) => exec_b2 (o := o) (a := a) 5 eY rfl
                rw [eY] at hlY hoY hT
                clear eY rD
                have hbCA : bC ≠ bA := by omega
                go_upto_region 15 with (first | refine load_node _ _ rC hcl _ rfl rfl rfl ?_ | refine wpList_row_node cs hcl _ rfl rfl rfl ?_ | refine wpList_exec (EB _ _ _ _ rfl rfl rfl _) rfl ?_ | refine store_node _ _ rC3 hcl Y hlY hoY _ _ rfl rfl rfl rfl ?_)
                clear EB
                replace h := h.stay hb3
                replace rA := rA.stay hb3
                replace A := A.below hb3
                replace A9 := A9.below hb3
                clear hb3 rC
                generalize v25.alloc (.cells cs.toArray 61) = v26 at *
                replace hT := hT.keep (asd_setRow (ds := Y.toArray) (Asd.refl (fun j => j = bC) v26) (.inl rfl)) (fun i hp _ e => hp.2.2.2 (by omega))
                replace h := rw_setRow_ne h (ds := Y.toArray) (k := bC) hbCR.symm
                replace rA := rw_setRow_ne rA (ds := Y.toArray) (k := bC) hbCA.symm
                have rC : Rw (v26.setRow bC Y.toArray) bC 61 Y := rw_setRow rC3
                replace A := asd_setRow (ds := Y.toArray) A (g := bC) (.inr (by omega))
                replace A9 := asd_setRow (ds := Y.toArray) A9 (g := bC) (.inr (by omega))
                generalize v26.setRow bC Y.toArray = v27 at *
                change Rd v27 R s _ _ at h
                clear rC3
                replace KC := KC.keep A9 (fun i e => by omega)
                replace KT := KT.keep A9 (fun i e => by omega)
                replace hT := hT.mono (P' := fun j => bA + 1 ≤ j ∧ j ≠ bB ∧ v.ownBlock ≠ some j) (fun j hj _ => ⟨hj.1, hj.2.1, hj.2.2.1⟩)
                clear A9
                have cK := (KC.row.cell 257).trans (nodeC_kids 2 noSet v)
                have rX := Rw.new v27 61 Y
                have hbx := (Below.refl v27.heap.size v27).alloc (Nat.le_refl _) (.cells Y.toArray 61)
                have KC2 := KC.stay hbx
                have KT2 := KT.stay hbx
                have hT2 := hT.stay hbx
                have hBx := Rw.lt KC.row
                have hbz : bB + 1 ≤ (v27.alloc (.cells Y.toArray 61)).heap.size := by have := hbx.size; omega
                go_wp2_with (first | refine load_node _ _ rC hlY _ rfl rfl rfl ?_ | refine wpList_row_node Y hlY _ rfl rfl rfl ?_ | refine wpList_own_node _ _ rfl rfl (bB + 1) v css rfl KC2.own v27.heap.size Y rfl hlY rX hoY (by omega) hbz ?_)
                intro u7 v28 hO7 hg7 hv7
                obtain ⟨g7, c7, rfl⟩ := own_succ hO7
                have hv71 := own_one hO7
                have KC7 := KC2.add hg7 hO7 hlY hv71
                have KT7 := KT2.add hT2 hg7 (hv7.imp id (fun e => by rw [e]; simp))
                have r7 := KC2.row.grown hg7 (fun e => by have := (KC2.own.lt _ e).1; omega)
                have f7 := r7.frozen 257
                have d7 := (r7.cell 257).trans (nodeC_kids 2 noSet v)
                have h7 : Rd v28 R s K6 0 := Rw.grown (h.stay hbx) hg7 (fun e => by have := (KC2.own.lt _ e).1; omega)
                have a7 := Rw.grown (rA.stay hbx) hg7 (fun e => by have := (KC2.own.lt _ e).1; omega)
                have A7 := (A.below hbx).grown hg7 (fun k e => .inr (by have := (KC2.own.lt _ e).1; omega))
                replace h := Rw.other h7 hBR.symm 257 (.slice (some ⟨g7, 0, none⟩) (css.length + 1) c7)
                replace rA := a7.other hBA 257 (.slice (some ⟨g7, 0, none⟩) (css.length + 1) c7)
                replace A := A7.setCell (p := ⟨bB, 257, none⟩) (.inr hbB) (.slice (some ⟨g7, 0, none⟩) (css.length + 1) c7)
                clear h7 a7 A7 r7 KC2 rX hbx cK KC hO7 hg7 KT2 hT2 KT hT
                go_wp2_with fail
                go_roundw
                case rel => exact ⟨(.slice (some ⟨g7, 0, none⟩) (css.length + 1) c7), css ++ [Y], 0, K6, h, KC7, rA, A, .inl ⟨rfl, by omega, by rw [List.length_append, List.length_singleton]; omega, qs ++ [.opt x], by rw [List.map_append]; exact KT7, HO ()⟩⟩
                case measure =>
                  rw [hL, Rd.left0 (h : Rd _ R s _ 0)]
                  omega
              have n63 : ((y.toNat : Int) == 63) = false := u8_ne (n := 63) h63 (by decide)
              have HO : Unit → preS (qs ++ [x]) (seqR d (s.drop K5)) = O := fun _ => by rw [hr5, ← HO0 ()]; simp [often, h42, h43, h63]
              clear HO0 hr6 hr5
              go_wp2_with fail
              refine (N2.out _ h).mono ?_
              rintro e v30 ⟨rfl, hb⟩
              replace h := h.stay hb
              replace rA := rA.stay hb
              replace rC := rC.stay hb
              replace A9 := A9.below hb
              replace A := A.below hb
              clear hb N2
              replace hT := hT.up
              go_upto_region 15 with fail
              replace KC := KC.keep A9 (fun i e => by omega)
              replace KT := KT.keep A9 (fun i e => by omega)
              replace hT := hT.keep A9 (fun i hp _ e => by have := hp.1; omega)
              replace hT := hT.mono (P' := fun j => bA + 1 ≤ j ∧ j ≠ bB ∧ v.ownBlock ≠ some j) (fun j hj _ => ⟨hj.1, hj.2.1, hj.2.2.1⟩)
              clear A9
              have cK := (KC.row.cell 257).trans (nodeC_kids 2 noSet v)
              have rX := Rw.new v30 61 cs
              have hbx := (Below.refl v30.heap.size v30).alloc (Nat.le_refl _) (.cells cs.toArray 61)
              have KC2 := KC.stay hbx
              have KT2 := KT.stay hbx
              have hT2 := hT.stay hbx
              have hBx := Rw.lt KC.row
              have hbz : bB + 1 ≤ (v30.alloc (.cells cs.toArray 61)).heap.size := by have := hbx.size; omega
              go_wp2_with (first | refine load_node _ _ rC hcl _ rfl rfl rfl ?_ | refine wpList_row_node cs hcl _ rfl rfl rfl ?_ | refine wpList_own_node _ _ rfl rfl (bB + 1) v css rfl KC2.own v30.heap.size cs rfl hcl rX hc1 (by omega) hbz ?_)
              intro u7 v31 hO7 hg7 hv7
              obtain ⟨g7, c7, rfl⟩ := own_succ hO7
              have hv71 := own_one hO7
              have KC7 := KC2.add hg7 hO7 hcl hv71
              have KT7 := KT2.add hT2 hg7 (hv7.imp id (fun e => by rw [e]; simp))
              have r7 := KC2.row.grown hg7 (fun e => by have := (KC2.own.lt _ e).1; omega)
              have f7 := r7.frozen 257
              have d7 := (r7.cell 257).trans (nodeC_kids 2 noSet v)
              have h7 : Rd v31 R s K5 0 := Rw.grown (h.stay hbx) hg7 (fun e => by have := (KC2.own.lt _ e).1; omega)
              have a7 := Rw.grown (rA.stay hbx) hg7 (fun e => by have := (KC2.own.lt _ e).1; omega)
              have A7 := (A.below hbx).grown hg7 (fun k e => .inr (by have := (KC2.own.lt _ e).1; omega))
              replace h := Rw.other h7 hBR.symm 257 (.slice (some ⟨g7, 0, none⟩) (css.length + 1) c7)
              replace rA := a7.other hBA 257 (.slice (some ⟨g7, 0, none⟩) (css.length + 1) c7)
              replace A := A7.setCell (p := ⟨bB, 257, none⟩) (.inr hbB) (.slice (some ⟨g7, 0, none⟩) (css.length + 1) c7)
              clear h7 a7 A7 r7 KC2 rX hbx cK KC hO7 hg7 KT2 hT2 KT hT
              go_wp2_with fail
              go_roundw
              case rel => exact ⟨(.slice (some ⟨g7, 0, none⟩) (css.length + 1) c7), css ++ [cs], 0, K5, h, KC7, rA, A, .inl ⟨rfl, by omega, by rw [List.length_append, List.length_singleton]; omega, qs ++ [x], by rw [List.map_append]; exact KT7, HO ()⟩⟩
              case measure =>
                rw [hL, Rd.left0 (h : Rd _ R s _ 0)]
                omega
end Go.Proofs.YteooofakpkbgoaaDoor.Dn
