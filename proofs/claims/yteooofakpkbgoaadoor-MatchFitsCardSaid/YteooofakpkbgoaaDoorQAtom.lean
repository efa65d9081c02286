/- The document's pattern reader: atom (written by wip/tools/genatom.py). -/
import Derived.Test.YteooofakpkbgoaaDoorQPlain
namespace Go.Proofs.YteooofakpkbgoaaDoor.Dn
open Go.ChangeShapes Go.WideShapes Go.RowKit

set_option maxHeartbeats 6400000 in
set_option maxRecDepth 100000 in
theorem atom_any (d : Nat) (hd : d ≤ 8) (HE : d < 8 → EitherC (d + 1)) : AtomC d := by
  intro R K s l c w h hs hl h124 h41
  obtain ⟨hc0, hr, hk, hn⟩ := drop_cons hl
  have hKb : K ≤ 100 := by omega
  obtain ⟨K1, hKb1, eK⟩ : ∃ K1, K1 ≤ 101 ∧ (Unit → K1 = K + 1) := ⟨_, by omega, fun _ => rfl⟩
  rw [← eK ()] at hr
  have hK1s : K1 ≤ s.length := by have := eK (); omega
  have N1 := Lib.hid fun w' h => next_hit (R := R) hl w' h
  obtain ⟨O, hO⟩ : ∃ O, atomR' d (c :: l) = O := ⟨_, rfl⟩
  rw [hO]
  have HO0 : Unit → atomR' d (c :: l) = O := fun _ => hO
  clear hO hc0 hl hn hk
  have A := Asd.refl (fun k => k = R) w
  have hzc := zero_node
  obtain ⟨Z, eZ⟩ : ∃ Z, nodeC 0 noSet nilS = Z := ⟨_, rfl⟩
  have hlZ := nodeC_len 0 noSet nilS
  have hoZ := nodeC_one 0 noSet nil_one
  rw [eZ] at hzc hlZ hoZ
  have EZ : Unit → nodeC 0 noSet nilS = Z := fun _ => eZ
  clear eZ
  have hR := Rw.lt h
  have hcb := c.toNat_lt
  go_enter Tryd.func86, Tryd.ntmps86
  go_upto_region 1 with fail
  have rA := Rw.new w 61 Z
  have hb0 := (Below.refl w.heap.size w).alloc (Nat.le_refl _) (.cells Z.toArray 61)
  replace h := h.stay hb0
  replace A := A.below hb0
  generalize w.alloc (.cells Z.toArray 61) = w1 at *
  obtain ⟨bA, hbA, hA0⟩ : ∃ bA, w.heap.size ≤ bA ∧ w.heap.size = bA := ⟨_, Nat.le_refl _, rfl⟩
  obtain ⟨B0, hB00⟩ : ∃ B0, w.heap.size = B0 := ⟨_, rfl⟩
  rw [hA0] at rA
  simp only [hA0]
  have hAR : bA ≠ R := by omega
  clear hb0
  go_wp2_with fail
  refine (N1.out _ h).mono ?_
  rintro e v1 ⟨rfl, hb⟩
  replace h := h.stay hb
  replace rA := rA.stay hb
  replace A := A.below hb
  clear hb N1
  have c1 := h.pos
  have f1 := Rw.frozen h 1
  go_upto_region 3 with fail
  replace h := h.inc (eK ())
  replace rA := rA.other hAR 1 (.int .i64 ((K : Int) + 1))
  replace A := A.set1 1 (.int .i64 ((K : Int) + 1))
  generalize v1.setCell ⟨R, 1, none⟩ (.int .i64 ((K : Int) + 1)) = v2 at *
  clear c1 f1
  have rB := Rw.new v2 61 Z
  have hb1 := (Below.refl v2.heap.size v2).alloc (Nat.le_refl _) (.cells Z.toArray 61)
  have hAB := Rw.lt rA
  have hsz := A.size
  go_upto_region 4 with (first | refine wpList_exec (exec_build0 Z hzc rfl _) rfl ?_ | refine store_node _ _ rB hlZ Z hlZ hoZ _ _ rfl rfl rfl rfl ?_)
  rw [World.setRow_alloc_new]
  replace h := h.stay hb1
  replace rA := rA.stay hb1
  replace A := A.below hb1
  generalize v2.alloc (.cells Z.toArray 61) = v0 at *
  obtain ⟨bB, hB0⟩ : ∃ bB, v2.heap.size = bB := ⟨_, rfl⟩
  rw [hB0] at rB hAB hsz
  simp only [hB0]
  have hbB : w.heap.size ≤ bB := hsz
  have hBR : bB ≠ R := by omega
  have hBA : bA ≠ bB := by omega
  clear hb1 hB0 hAB hsz
  rw [atom_eq] at HO0
  by_cases h40 : c = 40
  · subst h40
    rw [if_pos rfl] at HO0
    by_cases hd8 : d = 8
    · subst hd8
      have HO : Unit → O = .er .deep := fun _ => by rw [← HO0 (), if_pos rfl]
      clear HO0
      have F := Lib.hid fun w' h => fail_new (R := R) (K := K1) (s := s) 3 w' h
      go_wp2_with fail
      refine (F.out _ h).mono ?_
      rintro e v3 ⟨rfl, h', A'⟩
      replace h := h'
      replace rA := rA.keep A' hAR
      replace rB := rB.keep A' hBR
      replace A := A.andThen A'
      clear h' A' F
      go_wp2_with (first | refine load_node _ _ rB hlZ _ rfl rfl rfl ?_ | refine store_node _ _ rA hlZ Z hlZ hoZ _ _ rfl rfl rfl rfl ?_)
      refine ret_node _ _ (rw_setRow rA) hlZ rfl rfl rfl ?_
      exact ⟨by rw [HO ()]; exact ⟨Z, rfl, hlZ, hoZ, K1, by omega, rw_setRow_ne h hAR.symm⟩, asd_setRow A (.inr hbA)⟩
    · have hlt8 : d < 8 := by omega
      rw [if_neg hd8] at HO0
      have hdi : ¬ ((8 : Int) ≤ (d : Int)) := by omega
      have E1 := Lib.hid fun w' h => HE hlt8 R K1 s w' h hs hK1s
      rw [show ((d + 1 : Nat) : Int) = (d : Int) + 1 from by push_cast; rfl, hr] at E1
      go_wp2_with fail
      refine (E1.out _ h).mono ?_
      rintro e v90 ⟨hS, A'⟩
      have hltA := Rw.lt rA
      have hltB := Rw.lt rB
      clear h E1
      replace rA := rA.keep A' hAR
      replace rB := rB.keep A' hBR
      have hszA := A.size
      replace A := A.andThen A'
      clear A'
      cases hO2 : altR (d + 1) l with
      | er x =>
        rw [hO2] at hS HO0
        obtain ⟨cs, rfl, hcl, hc1, K5, hK5, h⟩ := hS
        have HO : Unit → O = .er x := fun _ => by rw [← HO0 ()]
        have hE := errN_ne x
        obtain ⟨E, hEE⟩ : ∃ E, errN x = E := ⟨_, rfl⟩
        rw [hEE] at hE h
        have HEE : Unit → errN x = E := fun _ => hEE
        clear hEE
        clear HO0 hO2
        obtain ⟨K6, hKb6, eK6⟩ : ∃ K6, K6 ≤ 130 ∧ (Unit → K6 = K5 + 1) := ⟨_, by omega, fun _ => rfl⟩
        have hKb5 : K5 ≤ 125 := by omega
        have N2 := Lib.hid fun w' h => next_err (R := R) (K := K5) (s := s) hE w' h
        have F := Lib.hid fun w' h => fail_old (R := R) (K := K5) (s := s) hE 2 w' h
        go_wp2_with (refine store_node _ _ rB hlZ cs hcl hc1 _ _ rfl rfl rfl rfl ?_)
        replace h := rw_setRow_ne h (ds := cs.toArray) hBR.symm
        replace rA := rw_setRow_ne rA (ds := cs.toArray) hBA
        replace rB := rw_setRow (ds := cs) rB
        replace A := asd_setRow (ds := cs.toArray) A (.inr hbB)
        generalize v90.setRow bB cs.toArray = v91 at *
        change Rd v91 R s _ _ at h
        refine (N2.out _ h).mono ?_
        rintro e v4 ⟨rfl, hb⟩
        replace h := h.stay hb
        replace rA := rA.stay hb
        replace rB := rB.stay hb
        replace A := A.below hb
        clear hb N2
        go_wp2_with fail
        refine (F.out _ h).mono ?_
        rintro e v5 ⟨rfl, h', A'⟩
        replace h := h'
        replace rA := rA.keep A' hAR
        replace rB := rB.keep A' hBR
        replace A := A.andThen A'
        clear h' A' F
        have c1 := h.pos
        have f1 := Rw.frozen h 1
        go_upto_region 14 with fail
        replace h := h.inc (eK6 ())
        replace rA := rA.other hAR 1 (.int .i64 ((K5 : Int) + 1))
        replace rB := rB.other hBR 1 (.int .i64 ((K5 : Int) + 1))
        replace A := A.set1 1 (.int .i64 ((K5 : Int) + 1))
        generalize v5.setCell ⟨R, 1, none⟩ (.int .i64 ((K5 : Int) + 1)) = v6 at *
        clear c1 f1
        rw [← HEE ()] at h
        go_wp2_with (first | refine load_node _ _ rB hcl _ rfl rfl rfl ?_ | refine store_node _ _ rA hlZ cs hcl hc1 _ _ rfl rfl rfl rfl ?_)
        refine ret_node _ _ (rw_setRow rA) hcl rfl rfl rfl ?_
        exact ⟨by rw [HO ()]; exact ⟨cs, rfl, hcl, hc1, K6, by have := eK6 (); omega, rw_setRow_ne h hAR.symm⟩, asd_setRow A (.inr hbA)⟩
      | ok a r =>
        rw [hO2] at hS HO0
        obtain ⟨cs, rfl, hT, K5, hr5, hK5, h⟩ := hS
        obtain ⟨hcl, hc1⟩ := hT.node
        replace hT := hT.mono (P' := fun j => w.heap.size ≤ j ∧ j ≠ bA ∧ j ≠ bB) (fun j hj _ => ⟨by omega, by omega, by omega⟩)
        simp only at HO0
        obtain ⟨K6, hKb6, eK6⟩ : ∃ K6, K6 ≤ 101 ∧ (Unit → K6 = K5 + 1) := ⟨_, by omega, fun _ => rfl⟩
        have hKb5 : K5 ≤ 100 := by omega
        cases r with
        | nil =>
          have HO : Unit → O = .er .form := fun _ => by rw [← HO0 ()]
          clear HO0 hO2 hT
          have N2 := Lib.hid fun w' h => next_end (R := R) hr5 w' h
          have F := Lib.hid fun w' h => fail_new (R := R) (K := K5) (s := s) 2 w' h
          go_wp2_with (refine store_node _ _ rB hlZ cs hcl hc1 _ _ rfl rfl rfl rfl ?_)
          replace h := rw_setRow_ne h (ds := cs.toArray) hBR.symm
          replace rA := rw_setRow_ne rA (ds := cs.toArray) hBA
          replace rB := rw_setRow (ds := cs) rB
          replace A := asd_setRow (ds := cs.toArray) A (.inr hbB)
          generalize v90.setRow bB cs.toArray = v91 at *
          change Rd v91 R s _ _ at h
          refine (N2.out _ h).mono ?_
          rintro e v7 ⟨rfl, hb⟩
          replace h := h.stay hb
          replace rA := rA.stay hb
          replace rB := rB.stay hb
          replace A := A.below hb
          clear hb N2
          go_wp2_with fail
          refine (F.out _ h).mono ?_
          rintro e v8 ⟨rfl, h', A'⟩
          replace h := h'
          replace rA := rA.keep A' hAR
          replace rB := rB.keep A' hBR
          replace A := A.andThen A'
          clear h' A' F
          have c1 := h.pos
          have f1 := Rw.frozen h 1
          go_upto_region 14 with fail
          replace h := h.inc (eK6 ())
          replace rA := rA.other hAR 1 (.int .i64 ((K5 : Int) + 1))
          replace rB := rB.other hBR 1 (.int .i64 ((K5 : Int) + 1))
          replace A := A.set1 1 (.int .i64 ((K5 : Int) + 1))
          generalize v8.setCell ⟨R, 1, none⟩ (.int .i64 ((K5 : Int) + 1)) = v9 at *
          clear c1 f1
          go_wp2_with (first | refine load_node _ _ rB hcl _ rfl rfl rfl ?_ | refine store_node _ _ rA hlZ cs hcl hc1 _ _ rfl rfl rfl rfl ?_)
          refine ret_node _ _ (rw_setRow rA) hcl rfl rfl rfl ?_
          exact ⟨by rw [HO ()]; exact ⟨cs, rfl, hcl, hc1, K6, by have := eK6 (); omega, rw_setRow_ne h hAR.symm⟩, asd_setRow A (.inr hbA)⟩
        | cons x r =>
          obtain ⟨hx0, hr6, hk6, hn6⟩ := drop_cons hr5
          rw [← eK6 ()] at hr6
          have N2 := Lib.hid fun w' h => next_hit (R := R) hr5 w' h
          clear hx0 hr5
          simp only at HO0
          by_cases h41x : x = 41
          · subst h41x
            have HO : Unit → O = .ok (.grp a) r := fun _ => by rw [← HO0 (), if_pos rfl]
            clear HO0 hO2
            go_wp2_with (refine store_node _ _ rB hlZ cs hcl hc1 _ _ rfl rfl rfl rfl ?_)
            replace h := rw_setRow_ne h (ds := cs.toArray) hBR.symm
            replace rA := rw_setRow_ne rA (ds := cs.toArray) hBA
            replace rB := rw_setRow (ds := cs) rB
            replace hT := hT.keep (asd_setRow (ds := cs.toArray) (Asd.refl (fun k => k = bB) v90) (.inl rfl)) (fun i hp _ e => hp.2.2 e)
            replace A := asd_setRow (ds := cs.toArray) A (.inr hbB)
            generalize v90.setRow bB cs.toArray = v91 at *
            change Rd v91 R s _ _ at h
            refine (N2.out _ h).mono ?_
            rintro e v10 ⟨rfl, hb⟩
            replace h := h.stay hb
            replace rA := rA.stay hb
            replace rB := rB.stay hb
            replace hT := hT.stay hb
            replace A := A.below hb
            clear hb N2
            have c1 := h.pos
            have f1 := Rw.frozen h 1
            go_upto_region 14 with fail
            replace h := h.inc (eK6 ())
            replace rA := rA.other hAR 1 (.int .i64 ((K5 : Int) + 1))
            replace rB := rB.other hBR 1 (.int .i64 ((K5 : Int) + 1))
            replace hT := hT.keep ((Asd.refl (fun k => k = R) v10).set1 1 (.int .i64 ((K5 : Int) + 1))) (fun i hp _ e => by have := hp.1; omega)
            replace A := A.set1 1 (.int .i64 ((K5 : Int) + 1))
            generalize v10.setCell ⟨R, 1, none⟩ (.int .i64 ((K5 : Int) + 1)) = v11 at *
            clear c1 f1
            go_wp2_with (first | refine load_node _ _ rB hcl _ rfl rfl rfl ?_ | refine store_node _ _ rA hlZ cs hcl hc1 _ _ rfl rfl rfl rfl ?_)
            refine ret_node _ _ (rw_setRow rA) hcl rfl rfl rfl ?_
            exact ⟨by
              rw [HO ()]
              refine ⟨cs, rfl, ?_, K6, hr6, by have := eK6 (); omega, rw_setRow_ne h hAR.symm⟩
              rw [treeR]
              have q := (hT.keep (asd_setRow (ds := cs.toArray) (Asd.refl (fun k => k = bA) _) (.inl rfl)) (fun i hp _ e => hp.2.1 e)).mono (P' := fun j => w.heap.size ≤ j) (fun j hj _ => hj.1)
              exact q.le (by have := dT_up hlt8; omega), asd_setRow A (.inr hbA)⟩
          · have hxn : ((x.toNat : Int) == 41) = false := u8_ne (n := 41) h41x (by decide)
            have hxm : ((x.toNat : Int) != 41) = true := by simp only [bne, hxn, Bool.not_false]
            have HO : Unit → O = .er .form := fun _ => by rw [← HO0 (), if_neg h41x]
            clear HO0 hO2 hT
            have F := Lib.hid fun w' h => fail_new (R := R) (K := K5) (s := s) 2 w' h
            go_wp2_with (refine store_node _ _ rB hlZ cs hcl hc1 _ _ rfl rfl rfl rfl ?_)
            replace h := rw_setRow_ne h (ds := cs.toArray) hBR.symm
            replace rA := rw_setRow_ne rA (ds := cs.toArray) hBA
            replace rB := rw_setRow (ds := cs) rB
            replace A := asd_setRow (ds := cs.toArray) A (.inr hbB)
            generalize v90.setRow bB cs.toArray = v91 at *
            change Rd v91 R s _ _ at h
            refine (N2.out _ h).mono ?_
            rintro e v12 ⟨rfl, hb⟩
            replace h := h.stay hb
            replace rA := rA.stay hb
            replace rB := rB.stay hb
            replace A := A.below hb
            clear hb N2
            go_wp2_with fail
            refine (F.out _ h).mono ?_
            rintro e v13 ⟨rfl, h', A'⟩
            replace h := h'
            replace rA := rA.keep A' hAR
            replace rB := rB.keep A' hBR
            replace A := A.andThen A'
            clear h' A' F
            have c1 := h.pos
            have f1 := Rw.frozen h 1
            go_upto_region 14 with fail
            replace h := h.inc (eK6 ())
            replace rA := rA.other hAR 1 (.int .i64 ((K5 : Int) + 1))
            replace rB := rB.other hBR 1 (.int .i64 ((K5 : Int) + 1))
            replace A := A.set1 1 (.int .i64 ((K5 : Int) + 1))
            generalize v13.setCell ⟨R, 1, none⟩ (.int .i64 ((K5 : Int) + 1)) = v14 at *
            clear c1 f1
            go_wp2_with (first | refine load_node _ _ rB hcl _ rfl rfl rfl ?_ | refine store_node _ _ rA hlZ cs hcl hc1 _ _ rfl rfl rfl rfl ?_)
            refine ret_node _ _ (rw_setRow rA) hcl rfl rfl rfl ?_
            exact ⟨by rw [HO ()]; exact ⟨cs, rfl, hcl, hc1, K6, by have := eK6 (); omega, rw_setRow_ne h hAR.symm⟩, asd_setRow A (.inr hbA)⟩
  rw [if_neg h40] at HO0
  clear HE
  have n40 : ((c.toNat : Int) == 40) = false := u8_ne (n := 40) h40 (by decide)
  by_cases h46 : c = 46
  · subst h46
    have HO : Unit → O = .ok (.set fun _ => true) l := fun _ => by rw [← HO0 ()]; rfl
    clear HO0
    rw [← EZ (), ← upto_start noSet 0] at rB
    go_wp2_with fail
    go_loopw [10] (fun i wr => ∃ kk : Nat, kk ≤ 256 ∧ i = .int .i64 (kk : Int) ∧ Rd wr R s K1 0 ∧ Rw wr bB 61 (nodeC 0 (upto noSet 0 kk) nilS) ∧ Rw wr bA 61 Z ∧ Asd (fun k => k = R) w wr) (fun i _ => 256 - (intOf i).toNat)
    case atStart => exact ⟨0, by omega, rfl, h, rB, rA, A⟩
    case round =>
      clear h rB rA A
      obtain ⟨kk, hkk, rfl, h, rB, rA, A⟩ := hrel
      by_cases hlt : (kk : Int) < 256
      · have hkn : kk < 256 := by omega
        have hc := (rB.cell (1 + kk)).trans (nodeC_bit 0 (upto noSet 0 kk) nilS (by omega))
        have hfz := rB.frozen (1 + kk)
        go_wp2_with fail
        go_roundw
        case rel =>
          refine ⟨kk + 1, by omega, by go_num, Rw.other h hBR.symm _ _, ?_, rA.other hBA _ _, A.setCell (p := ⟨bB, 1 + kk, none⟩) (.inr hbB) _⟩
          have := rB.setCell (1 + kk) (.bool true)
          rw [nodeC_putBit _ _ _ (by omega), upto_step noSet 0 (Nat.zero_le _) (by omega)] at this
          exact this
        case measure => simp [intOf]; omega
      · have e7 : upto noSet 0 kk = fun _ => true := by rw [show kk = 256 by omega]; exact upto_all
        rw [e7] at rB
        have hl8 := nodeC_len 0 (fun _ => true) nilS
        have ho8 := nodeC_one 0 (fun _ => true) nil_one
        obtain ⟨X8, e8⟩ : ∃ X, nodeC 0 (fun _ => true) nilS = X := ⟨_, rfl⟩
        rw [e8] at hl8 ho8 rB
        have E8 : Unit → nodeC 0 (fun _ => true) nilS = X8 := fun _ => e8
        clear e8
        go_wp2_with (first | refine load_node _ _ rB hl8 _ rfl rfl rfl ?_ | refine store_node _ _ rA hlZ X8 hl8 ho8 _ _ rfl rfl rfl rfl ?_)
        refine ret_node _ _ (rw_setRow rA) hl8 rfl rfl rfl ?_
        exact ⟨by
          rw [HO ()]
          obtain ⟨dd, hdd⟩ := dT_pos d
          refine ⟨X8, rfl, ?_, K1, hr, hK1s, rw_setRow_ne h hAR.symm⟩
          rw [hdd, ← E8 ()]
          exact TAt.leaf _ _ dd 0 _, asd_setRow A (.inr hbA)⟩
  have n46 : ((c.toNat : Int) == 46) = false := u8_ne (n := 46) h46 (by decide)
  by_cases h91 : c = 91
  · subst h91
    rw [if_pos rfl] at HO0
    have CC := Lib.hid fun w' h => class_any R K1 s w' h hs hK1s
    rw [hr] at CC
    go_wp2_with fail
    refine (CC.out _ h).mono ?_
    rintro e v92 ⟨hS, A'⟩
    clear h CC
    replace rA := rA.keep A' hAR
    replace A := A.andThen A'
    clear A' rB
    cases hg : classN l with
    | none =>
      rw [hg] at hS HO0
      obtain ⟨⟨p, rfl⟩, K5, hK5, h⟩ := hS
      have HO : Unit → O = .er .form := fun _ => by rw [← HO0 ()]
      clear HO0 hg
      have hl8 := nodeC_len 0 p nilS
      have ho8 := nodeC_one 0 p nil_one
      generalize nodeC 0 p nilS = X8 at *
      go_wp2_with (refine store_node _ _ rA hlZ X8 hl8 ho8 _ _ rfl rfl rfl rfl ?_)
      refine ret_node _ _ (rw_setRow rA) hl8 rfl rfl rfl ?_
      exact ⟨by rw [HO ()]; exact ⟨X8, rfl, hl8, ho8, K5, by omega, rw_setRow_ne h hAR.symm⟩, asd_setRow A (.inr hbA)⟩
    | some pr =>
      obtain ⟨p, r⟩ := pr
      rw [hg] at hS HO0
      obtain ⟨rfl, K5, hr5, hK5, h⟩ := hS
      have HO : Unit → O = .ok (.set p) r := fun _ => by rw [← HO0 ()]
      clear HO0 hg
      have hl8 := nodeC_len 0 p nilS
      have ho8 := nodeC_one 0 p nil_one
      obtain ⟨X8, e8⟩ : ∃ X, nodeC 0 p nilS = X := ⟨_, rfl⟩
      rw [e8] at hl8 ho8
      simp only [e8]
      have E8 : Unit → nodeC 0 p nilS = X8 := fun _ => e8
      clear e8
      go_wp2_with (refine store_node _ _ rA hlZ X8 hl8 ho8 _ _ rfl rfl rfl rfl ?_)
      refine ret_node _ _ (rw_setRow rA) hl8 rfl rfl rfl ?_
      exact ⟨by
        rw [HO ()]
        obtain ⟨dd, hdd⟩ := dT_pos d
        refine ⟨X8, rfl, ?_, K5, hr5, hK5, rw_setRow_ne h hAR.symm⟩
        rw [hdd, ← E8 ()]
        exact TAt.leaf _ _ dd 0 _, asd_setRow A (.inr hbA)⟩
  have n91 : ((c.toNat : Int) == 91) = false := u8_ne (n := 91) h91 (by decide)
  rw [if_neg h91, if_neg h46] at HO0
  by_cases h92 : c = 92
  · subst h92
    rw [if_neg (by simp)] at HO0
    obtain ⟨K2, hKb2, eK2⟩ : ∃ K2, K2 ≤ 102 ∧ (Unit → K2 = K1 + 1) := ⟨_, by omega, fun _ => rfl⟩
    cases l with
    | nil =>
      have HO : Unit → O = .er .form := fun _ => by rw [← HO0 ()]; rfl
      clear HO0
      have N2 := Lib.hid fun w' h => next_end (R := R) hr w' h
      have F := Lib.hid fun w' h => fail_new (R := R) (K := K1) (s := s) 2 w' h
      go_wp2_with fail
      refine (N2.out _ h).mono ?_
      rintro e v15 ⟨rfl, hb⟩
      replace h := h.stay hb
      replace rA := rA.stay hb
      replace rB := rB.stay hb
      replace A := A.below hb
      clear hb N2
      go_wp2_with fail
      refine (F.out _ h).mono ?_
      rintro e v16 ⟨rfl, h', A'⟩
      replace h := h'
      replace rA := rA.keep A' hAR
      replace rB := rB.keep A' hBR
      replace A := A.andThen A'
      clear h' A' F
      have c1 := h.pos
      have f1 := Rw.frozen h 1
      go_upto_region 28 with fail
      replace h := h.inc (eK2 ())
      replace rA := rA.other hAR 1 (.int .i64 ((K1 : Int) + 1))
      replace rB := rB.other hBR 1 (.int .i64 ((K1 : Int) + 1))
      replace A := A.set1 1 (.int .i64 ((K1 : Int) + 1))
      generalize v16.setCell ⟨R, 1, none⟩ (.int .i64 ((K1 : Int) + 1)) = v17 at *
      clear c1 f1
      rw [← EZ ()] at rB
      have hfz := rB.frozen 1
      have hcz := (rB.cell (1 + 0)).trans (nodeC_bit 0 noSet nilS (by omega))
      go_upto_region 29 with fail
      replace h := Rw.other h hBR.symm 1 (.bool true)
      replace rA := rA.other hBA 1 (.bool true)
      replace A := A.setCell (p := ⟨bB, 1, none⟩) (.inr hbB) (.bool true)
      replace rB := rB.setCell (1 + 0) (.bool true)
      rw [nodeC_putBit _ _ _ (by omega)] at rB
      generalize World.setCell _ ⟨bB, 1, none⟩ (.bool true) = v93 at *
      clear hfz hcz
      have hl8 := nodeC_len 0 (fun x => if x = UInt8.ofNat 0 then true else noSet x) nilS
      have ho8 := nodeC_one 0 (fun x => if x = UInt8.ofNat 0 then true else noSet x) nil_one
      obtain ⟨X8, e8⟩ : ∃ X, nodeC 0 (fun x => if x = UInt8.ofNat 0 then true else noSet x) nilS = X := ⟨_, rfl⟩
      rw [e8] at hl8 ho8 rB
      have E8 : Unit → nodeC 0 (fun x => if x = UInt8.ofNat 0 then true else noSet x) nilS = X8 := fun _ => e8
      clear e8
      go_wp2_with (first | refine load_node _ _ rB hl8 _ rfl rfl rfl ?_ | refine store_node _ _ rA hlZ X8 hl8 ho8 _ _ rfl rfl rfl rfl ?_)
      refine ret_node _ _ (rw_setRow rA) hl8 rfl rfl rfl ?_
      exact ⟨by rw [HO ()]; exact ⟨X8, rfl, hl8, ho8, K2, by have := eK2 (); omega, rw_setRow_ne h hAR.symm⟩, asd_setRow A (.inr hbA)⟩
    | cons b l =>
      obtain ⟨hb0, hr2, hk2, hn2⟩ := drop_cons hr
      rw [← eK2 ()] at hr2
      have HO : Unit → O = .ok (.set fun x => x == b) l := fun _ => by rw [← HO0 ()]; simp [signN]
      clear HO0
      have N2 := Lib.hid fun w' h => next_hit (R := R) hr w' h
      have hbb := b.toNat_lt
      clear hb0 hr
      go_wp2_with fail
      refine (N2.out _ h).mono ?_
      rintro e v18 ⟨rfl, hb⟩
      replace h := h.stay hb
      replace rA := rA.stay hb
      replace rB := rB.stay hb
      replace A := A.below hb
      clear hb N2
      have c1 := h.pos
      have f1 := Rw.frozen h 1
      go_upto_region 28 with fail
      replace h := h.inc (eK2 ())
      replace rA := rA.other hAR 1 (.int .i64 ((K1 : Int) + 1))
      replace rB := rB.other hBR 1 (.int .i64 ((K1 : Int) + 1))
      replace A := A.set1 1 (.int .i64 ((K1 : Int) + 1))
      generalize v18.setCell ⟨R, 1, none⟩ (.int .i64 ((K1 : Int) + 1)) = v19 at *
      clear c1 f1
      rw [← EZ ()] at rB
      have hcb : b.toNat < 256 := b.toNat_lt
      have hfz := rB.frozen (1 + b.toNat)
      have hcz := (rB.cell (1 + b.toNat)).trans (nodeC_bit 0 noSet nilS hcb)
      go_upto_region 29 with fail
      replace h := Rw.other h hBR.symm (1 + b.toNat) (.bool true)
      replace rA := rA.other hBA (1 + b.toNat) (.bool true)
      replace A := A.setCell (p := ⟨bB, 1 + b.toNat, none⟩) (.inr hbB) (.bool true)
      replace rB := rB.setCell (1 + b.toNat) (.bool true)
      rw [nodeC_putBit _ _ _ hcb, bit_one] at rB
      generalize World.setCell _ ⟨bB, 1 + b.toNat, none⟩ (.bool true) = v20 at *
      clear hfz hcz
      have hl8 := nodeC_len 0 (fun x => x == b) nilS
      have ho8 := nodeC_one 0 (fun x => x == b) nil_one
      obtain ⟨X8, e8⟩ : ∃ X, nodeC 0 (fun x => x == b) nilS = X := ⟨_, rfl⟩
      rw [e8] at hl8 ho8 rB
      have E8 : Unit → nodeC 0 (fun x => x == b) nilS = X8 := fun _ => e8
      clear e8
      go_wp2_with (first | refine load_node _ _ rB hl8 _ rfl rfl rfl ?_ | refine store_node _ _ rA hlZ X8 hl8 ho8 _ _ rfl rfl rfl rfl ?_)
      refine ret_node _ _ (rw_setRow rA) hl8 rfl rfl rfl ?_
      exact ⟨by
        rw [HO ()]
        obtain ⟨dd, hdd⟩ := dT_pos d
        refine ⟨X8, rfl, ?_, K2, hr2, by have := eK2 (); omega, rw_setRow_ne h hAR.symm⟩
        rw [hdd, ← E8 ()]
        exact TAt.leaf _ _ dd 0 _, asd_setRow A (.inr hbA)⟩
  have n92 : ((c.toNat : Int) == 92) = false := u8_ne (n := 92) h92 (by decide)
  by_cases h42 : c = 42
  · subst h42
    have HO : Unit → O = .er .form := fun _ => by rw [← HO0 ()]; rfl
    clear HO0
    have F := Lib.hid fun w' h => fail_new (R := R) (K := K1) (s := s) 2 w' h
    go_wp2_with fail
    refine (F.out _ h).mono ?_
    rintro e v21 ⟨rfl, h', A'⟩
    replace h := h'
    replace rA := rA.keep A' hAR
    replace rB := rB.keep A' hBR
    replace A := A.andThen A'
    clear h' A' F
    rw [← EZ ()] at rB
    have hfz := rB.frozen 43
    have hcz := (rB.cell (1 + 42)).trans (nodeC_bit 0 noSet nilS (by omega))
    go_upto_region 36 with fail
    replace h := Rw.other h hBR.symm 43 (.bool true)
    replace rA := rA.other hBA 43 (.bool true)
    replace A := A.setCell (p := ⟨bB, 43, none⟩) (.inr hbB) (.bool true)
    replace rB := rB.setCell (1 + 42) (.bool true)
    rw [nodeC_putBit _ _ _ (by omega)] at rB
    generalize World.setCell _ ⟨bB, 43, none⟩ (.bool true) = v942 at *
    clear hfz hcz
    have hl8 := nodeC_len 0 (fun x => if x = UInt8.ofNat 42 then true else noSet x) nilS
    have ho8 := nodeC_one 0 (fun x => if x = UInt8.ofNat 42 then true else noSet x) nil_one
    obtain ⟨X8, e8⟩ : ∃ X, nodeC 0 (fun x => if x = UInt8.ofNat 42 then true else noSet x) nilS = X := ⟨_, rfl⟩
    rw [e8] at hl8 ho8 rB
    have E8 : Unit → nodeC 0 (fun x => if x = UInt8.ofNat 42 then true else noSet x) nilS = X8 := fun _ => e8
    clear e8
    go_wp2_with (first | refine load_node _ _ rB hl8 _ rfl rfl rfl ?_ | refine store_node _ _ rA hlZ X8 hl8 ho8 _ _ rfl rfl rfl rfl ?_)
    refine ret_node _ _ (rw_setRow rA) hl8 rfl rfl rfl ?_
    exact ⟨by rw [HO ()]; exact ⟨X8, rfl, hl8, ho8, K1, by omega, rw_setRow_ne h hAR.symm⟩, asd_setRow A (.inr hbA)⟩
  have n42 : ((c.toNat : Int) == 42) = false := u8_ne (n := 42) h42 (by decide)
  by_cases h43 : c = 43
  · subst h43
    have HO : Unit → O = .er .form := fun _ => by rw [← HO0 ()]; rfl
    clear HO0
    have F := Lib.hid fun w' h => fail_new (R := R) (K := K1) (s := s) 2 w' h
    go_wp2_with fail
    refine (F.out _ h).mono ?_
    rintro e v22 ⟨rfl, h', A'⟩
    replace h := h'
    replace rA := rA.keep A' hAR
    replace rB := rB.keep A' hBR
    replace A := A.andThen A'
    clear h' A' F
    rw [← EZ ()] at rB
    have hfz := rB.frozen 44
    have hcz := (rB.cell (1 + 43)).trans (nodeC_bit 0 noSet nilS (by omega))
    go_upto_region 36 with fail
    replace h := Rw.other h hBR.symm 44 (.bool true)
    replace rA := rA.other hBA 44 (.bool true)
    replace A := A.setCell (p := ⟨bB, 44, none⟩) (.inr hbB) (.bool true)
    replace rB := rB.setCell (1 + 43) (.bool true)
    rw [nodeC_putBit _ _ _ (by omega)] at rB
    generalize World.setCell _ ⟨bB, 44, none⟩ (.bool true) = v943 at *
    clear hfz hcz
    have hl8 := nodeC_len 0 (fun x => if x = UInt8.ofNat 43 then true else noSet x) nilS
    have ho8 := nodeC_one 0 (fun x => if x = UInt8.ofNat 43 then true else noSet x) nil_one
    obtain ⟨X8, e8⟩ : ∃ X, nodeC 0 (fun x => if x = UInt8.ofNat 43 then true else noSet x) nilS = X := ⟨_, rfl⟩
    rw [e8] at hl8 ho8 rB
    have E8 : Unit → nodeC 0 (fun x => if x = UInt8.ofNat 43 then true else noSet x) nilS = X8 := fun _ => e8
    clear e8
    go_wp2_with (first | refine load_node _ _ rB hl8 _ rfl rfl rfl ?_ | refine store_node _ _ rA hlZ X8 hl8 ho8 _ _ rfl rfl rfl rfl ?_)
    refine ret_node _ _ (rw_setRow rA) hl8 rfl rfl rfl ?_
    exact ⟨by rw [HO ()]; exact ⟨X8, rfl, hl8, ho8, K1, by omega, rw_setRow_ne h hAR.symm⟩, asd_setRow A (.inr hbA)⟩
  have n43 : ((c.toNat : Int) == 43) = false := u8_ne (n := 43) h43 (by decide)
  by_cases h63 : c = 63
  · subst h63
    have HO : Unit → O = .er .form := fun _ => by rw [← HO0 ()]; rfl
    clear HO0
    have F := Lib.hid fun w' h => fail_new (R := R) (K := K1) (s := s) 2 w' h
    go_wp2_with fail
    refine (F.out _ h).mono ?_
    rintro e v23 ⟨rfl, h', A'⟩
    replace h := h'
    replace rA := rA.keep A' hAR
    replace rB := rB.keep A' hBR
    replace A := A.andThen A'
    clear h' A' F
    rw [← EZ ()] at rB
    have hfz := rB.frozen 64
    have hcz := (rB.cell (1 + 63)).trans (nodeC_bit 0 noSet nilS (by omega))
    go_upto_region 36 with fail
    replace h := Rw.other h hBR.symm 64 (.bool true)
    replace rA := rA.other hBA 64 (.bool true)
    replace A := A.setCell (p := ⟨bB, 64, none⟩) (.inr hbB) (.bool true)
    replace rB := rB.setCell (1 + 63) (.bool true)
    rw [nodeC_putBit _ _ _ (by omega)] at rB
    generalize World.setCell _ ⟨bB, 64, none⟩ (.bool true) = v963 at *
    clear hfz hcz
    have hl8 := nodeC_len 0 (fun x => if x = UInt8.ofNat 63 then true else noSet x) nilS
    have ho8 := nodeC_one 0 (fun x => if x = UInt8.ofNat 63 then true else noSet x) nil_one
    obtain ⟨X8, e8⟩ : ∃ X, nodeC 0 (fun x => if x = UInt8.ofNat 63 then true else noSet x) nilS = X := ⟨_, rfl⟩
    rw [e8] at hl8 ho8 rB
    have E8 : Unit → nodeC 0 (fun x => if x = UInt8.ofNat 63 then true else noSet x) nilS = X8 := fun _ => e8
    clear e8
    go_wp2_with (first | refine load_node _ _ rB hl8 _ rfl rfl rfl ?_ | refine store_node _ _ rA hlZ X8 hl8 ho8 _ _ rfl rfl rfl rfl ?_)
    refine ret_node _ _ (rw_setRow rA) hl8 rfl rfl rfl ?_
    exact ⟨by rw [HO ()]; exact ⟨X8, rfl, hl8, ho8, K1, by omega, rw_setRow_ne h hAR.symm⟩, asd_setRow A (.inr hbA)⟩
  have n63 : ((c.toNat : Int) == 63) = false := u8_ne (n := 63) h63 (by decide)
  by_cases h93 : c = 93
  · subst h93
    have HO : Unit → O = .er .form := fun _ => by rw [← HO0 ()]; rfl
    clear HO0
    have F := Lib.hid fun w' h => fail_new (R := R) (K := K1) (s := s) 2 w' h
    go_wp2_with fail
    refine (F.out _ h).mono ?_
    rintro e v24 ⟨rfl, h', A'⟩
    replace h := h'
    replace rA := rA.keep A' hAR
    replace rB := rB.keep A' hBR
    replace A := A.andThen A'
    clear h' A' F
    rw [← EZ ()] at rB
    have hfz := rB.frozen 94
    have hcz := (rB.cell (1 + 93)).trans (nodeC_bit 0 noSet nilS (by omega))
    go_upto_region 36 with fail
    replace h := Rw.other h hBR.symm 94 (.bool true)
    replace rA := rA.other hBA 94 (.bool true)
    replace A := A.setCell (p := ⟨bB, 94, none⟩) (.inr hbB) (.bool true)
    replace rB := rB.setCell (1 + 93) (.bool true)
    rw [nodeC_putBit _ _ _ (by omega)] at rB
    generalize World.setCell _ ⟨bB, 94, none⟩ (.bool true) = v993 at *
    clear hfz hcz
    have hl8 := nodeC_len 0 (fun x => if x = UInt8.ofNat 93 then true else noSet x) nilS
    have ho8 := nodeC_one 0 (fun x => if x = UInt8.ofNat 93 then true else noSet x) nil_one
    obtain ⟨X8, e8⟩ : ∃ X, nodeC 0 (fun x => if x = UInt8.ofNat 93 then true else noSet x) nilS = X := ⟨_, rfl⟩
    rw [e8] at hl8 ho8 rB
    have E8 : Unit → nodeC 0 (fun x => if x = UInt8.ofNat 93 then true else noSet x) nilS = X8 := fun _ => e8
    clear e8
    go_wp2_with (first | refine load_node _ _ rB hl8 _ rfl rfl rfl ?_ | refine store_node _ _ rA hlZ X8 hl8 ho8 _ _ rfl rfl rfl rfl ?_)
    refine ret_node _ _ (rw_setRow rA) hl8 rfl rfl rfl ?_
    exact ⟨by rw [HO ()]; exact ⟨X8, rfl, hl8, ho8, K1, by omega, rw_setRow_ne h hAR.symm⟩, asd_setRow A (.inr hbA)⟩
  have n93 : ((c.toNat : Int) == 93) = false := u8_ne (n := 93) h93 (by decide)
  have HO : Unit → O = .ok (.set fun x => x == c) l := fun _ => by
    rw [← HO0 (), if_neg (by simp [spcB, h42, h43, h63, h124, h40, h41, h91, h93, h92, h46])]
    simp [signN, h92]
  clear HO0
  rw [← EZ ()] at rB
  have hfz := rB.frozen (1 + c.toNat)
  have hcz := (rB.cell (1 + c.toNat)).trans (nodeC_bit 0 noSet nilS hcb)
  go_upto_region 36 with fail
  replace h := Rw.other h hBR.symm (1 + c.toNat) (.bool true)
  replace rA := rA.other hBA (1 + c.toNat) (.bool true)
  replace A := A.setCell (p := ⟨bB, 1 + c.toNat, none⟩) (.inr hbB) (.bool true)
  replace rB := rB.setCell (1 + c.toNat) (.bool true)
  rw [nodeC_putBit _ _ _ hcb, bit_one] at rB
  generalize World.setCell _ ⟨bB, 1 + c.toNat, none⟩ (.bool true) = v25 at *
  clear hfz hcz
  have hl8 := nodeC_len 0 (fun x => x == c) nilS
  have ho8 := nodeC_one 0 (fun x => x == c) nil_one
  obtain ⟨X8, e8⟩ : ∃ X, nodeC 0 (fun x => x == c) nilS = X := ⟨_, rfl⟩
  rw [e8] at hl8 ho8 rB
  have E8 : Unit → nodeC 0 (fun x => x == c) nilS = X8 := fun _ => e8
  clear e8
  go_wp2_with (first | refine load_node _ _ rB hl8 _ rfl rfl rfl ?_ | refine store_node _ _ rA hlZ X8 hl8 ho8 _ _ rfl rfl rfl rfl ?_)
  refine ret_node _ _ (rw_setRow rA) hl8 rfl rfl rfl ?_
  exact ⟨by
    rw [HO ()]
    obtain ⟨dd, hdd⟩ := dT_pos d
    refine ⟨X8, rfl, ?_, K1, hr, hK1s, rw_setRow_ne h hAR.symm⟩
    rw [hdd, ← E8 ()]
    exact TAt.leaf _ _ dd 0 _, asd_setRow A (.inr hbA)⟩
end Go.Proofs.YteooofakpkbgoaaDoor.Dn
