/- The document's own Join and Meet: what each call returns. -/
import Derived.Test.YtkmbllnnaljepaaDoorROf
import Derived.Test.YtkmbllnnaljepaaDoorTeamsLaw
namespace Go.Proofs.YtkmbllnnaljepaaDoor
open Go.ChangeShapes Go.WideShapes Go.RowKit

/-- Two labels, and a third that is the result's own. -/
abbrev SJ (N : Nat) (w : World) (la ca lb cb : Int) (w' : World) : Prop :=
  S2 N w la ca lb cb w' ∧ w'.cell? ⟨N + 1 + 1, 0, none⟩ = some (.int .i64 0) ∧ w'.cell? ⟨N + 1 + 1, 1, none⟩ = some (.int .u32 0) ∧ w'.frozen? ⟨N + 1 + 1, 0, none⟩ = false ∧ w'.frozen? ⟨N + 1 + 1, 1, none⟩ = false
theorem SJ.keep {N : Nat} {w w1 w2 : World} {la ca lb cb : Int} (h : SJ N w la ca lb cb w1) (hb : Below w1.heap.size w1 w2) : SJ N w la ca lb cb w2 := ⟨h.1.keep hb, LabU.keep (w := w1) h.2 hb⟩
theorem SJ.start (w : World) (la ca lb cb : Int) : SJ w.heap.size w la ca lb cb (((w.alloc (.cells #[.int .i64 la, .int .u32 ca] 24)).alloc (.cells #[.int .i64 lb, .int .u32 cb] 24)).alloc (.cells #[.int .i64 0, .int .u32 0] 24)) := by
  have h1 := (S2.start w la ca lb cb).keep ((Below.refl _ _).alloc (Nat.le_refl _) (.cells #[.int .i64 0, .int .u32 0] 24))
  have h2 := LabU.one ((w.alloc (.cells #[.int .i64 la, .int .u32 ca] 24)).alloc (.cells #[.int .i64 lb, .int .u32 cb] 24)) 0 0
  simp only [World.size_alloc] at h2
  exact ⟨h1, h2⟩
theorem sj_round {ys : List Nat} {k N : Nat} {la ca lb cb : Int} {w w2 w1 : World} {v v' : Value} {x : Obj} (hS : SJ N w la ca lb cb w2)
    (hown : w2.ownsRow (N + 1 + 1 + 1) 3 1 v ys.length (ys.map intV))
    (hown' : w1.ownsRow (N + 1 + 1 + 1) 3 1 v' (ys.length + 1) (ys.map intV ++ [.int .i64 k])) (hgrow : (w2.alloc x).grownBy w1 v.ownBlock) :
    w1.ownsRow (N + 1 + 1 + 1) 3 1 v' (ys ++ [k]).length ((ys ++ [k]).map intV) ∧ SJ N w la ca lb cb w1 := by
  have hlt := hown.lt
  have hs := hgrow.size
  simp at hs
  have S := hS.keep ((Below.refl _ w2).alloc (Nat.le_refl _) x)
  have hne : ∀ B, B < N + 1 + 1 + 1 → (some B) ≠ v.ownBlock := fun B h e => by have := (hlt B e.symm).1; omega
  have hsz := hS.1.2.1
  have hsz2 : N + 1 + 1 < w2.heap.size := World.block_lt_of_cell? _ _ hS.2.1
  refine ⟨by simpa [intV] using hown', ⟨?_, by omega, ?_, ?_, ?_, ?_⟩, ?_, ?_, ?_, ?_⟩
  · exact S.1.1.grown hgrow (by simp; omega) (fun j e => by have := (hlt j e).1; omega)
  · exact hgrow.cell S.1.2.2.1 (hne N (by omega))
  · exact hgrow.cell S.1.2.2.2.1 (hne N (by omega))
  · exact hgrow.cell S.1.2.2.2.2.1 (hne (N + 1) (by omega))
  · exact hgrow.cell S.1.2.2.2.2.2 (hne (N + 1) (by omega))
  · exact hgrow.cell S.2.1 (hne (N + 1 + 1) (by omega))
  · exact hgrow.cell S.2.2.1 (hne (N + 1 + 1) (by omega))
  · exact (World.frozen?_of_block (w := w2.alloc x) (hgrow.block _ (by simp; omega) (hne (N + 1 + 1) (by omega)))).trans S.2.2.2.1
  · exact (World.frozen?_of_block (w := w2.alloc x) (hgrow.block _ (by simp; omega) (hne (N + 1 + 1) (by omega)))).trans S.2.2.2.2

set_option maxHeartbeats 1000000 in
set_option maxRecDepth 100000 in
theorem rjoin_yes (la ca lb cb : Int) (ha0 : 0 ≤ ca) (ha1 : ca < 4294967296) (hb0 : 0 ≤ cb) (hb1 : cb < 4294967296) (hra : rB la = true) (hrb : rB lb = true) (w : World) :
    Calls Tryd.prog 17 #[.agg #[.int .i64 la, .int .u32 ca], .agg #[.int .i64 lb, .int .u32 cb]] w fun e w' => e = .returned (.agg #[.int .i64 (max la lb), .int .u32 ((ca.toNat ||| cb.toNat : Nat) : Int)]) ∧ Below w.heap.size w w' := by
  obtain ⟨i0, hi, hz0, hz1, hz2⟩ := info_parts info3
  have hS := SJ.start w la ca lb cb
  go_enter Tryd.func17, Tryd.ntmps17
  go_wp2_with fail
  refine (rright_any _ _ _).mono ?_
  rintro e w1 ⟨rfl, hb⟩
  replace hS := hS.keep hb
  clear hb
  generalize hN : w.heap.size = N at *
  have HN := Lib.hid hN
  clear hN
  go_wp2_with (go_at_call 13; refine (rright_any _ _ _).mono ?_; rintro e w' ⟨rfl, hb⟩; replace hS := hS.keep hb; clear hb)
  go_loopw [5, 6] (fun v i wr => ∃ k : Nat, k ≤ 32 ∧ i = .int .i64 k ∧ wr.ownsRow (N + 1 + 1 + 1) 3 1 v (tms ((ca.toNat ||| cb.toNat : Nat) : Int) k).length ((tms ((ca.toNat ||| cb.toNat : Nat) : Int) k).map intV) ∧ SJ N w la ca lb cb wr)
    (fun _ i _ => 32 - (intOf i).toNat)
  case atStart => exact ⟨0, by omega, rfl, World.ownsRow_nil _ _ _ _, hS⟩
  case round =>
    clear hS
    obtain ⟨k, hk, rfl, hown, hS⟩ := hrel
    have hle := tms_le ((ca.toNat ||| cb.toNat : Nat) : Int) k
    by_cases hlt : k < 32
    · have hk32 : (k : Int) < 32 := by omega
      cases ta : ca.toNat.testBit k
      · cases tb : cb.toNat.testBit k
        · go_wp2_with fail
          refine (rteams_ints la ca ha0 ha1 _).mono ?_
          rintro e w6 ⟨va, rfl, hI, hb⟩
          replace hown := own_keep hown hb
          replace hS := hS.keep hb
          clear hb
          go_wp2_with fail
          refine (rhas_any va (tms ca 32) k (by have := tms_le ca 32; omega) _ hI).mono ?_
          rintro e w8 ⟨rfl, rfl⟩
          rw [has_bit _ _ hlt, ta]
          clear hI
          go_wp2_with fail
          refine (rteams_ints lb cb hb0 hb1 _).mono ?_
          rintro e w7 ⟨vb, rfl, hI, hb⟩
          replace hown := own_keep hown hb
          replace hS := hS.keep hb
          clear hb
          go_wp2_with fail
          refine (rhas_any vb (tms cb 32) k (by have := tms_le cb 32; omega) _ hI).mono ?_
          rintro e w8 ⟨rfl, rfl⟩
          rw [has_bit _ _ hlt, tb]
          clear hI
          have Hm := Lib.hid (tms_miss ((ca.toNat ||| cb.toNat : Nat) : Int) k (by rw [Int.toNat_natCast, Nat.testBit_or, ta, tb]; rfl))
          go_wp2
          go_roundw
          case rel => exact ⟨k + 1, hlt, by go_num, by rw [Hm.out]; exact hown, hS⟩
          case measure => simp [intOf]; omega
        · go_wp2_with fail
          refine (rteams_ints la ca ha0 ha1 _).mono ?_
          rintro e w6 ⟨va, rfl, hI, hb⟩
          replace hown := own_keep hown hb
          replace hS := hS.keep hb
          clear hb
          go_wp2_with fail
          refine (rhas_any va (tms ca 32) k (by have := tms_le ca 32; omega) _ hI).mono ?_
          rintro e w8 ⟨rfl, rfl⟩
          rw [has_bit _ _ hlt, ta]
          clear hI
          go_wp2_with fail
          refine (rteams_ints lb cb hb0 hb1 _).mono ?_
          rintro e w7 ⟨vb, rfl, hI, hb⟩
          replace hown := own_keep hown hb
          replace hS := hS.keep hb
          clear hb
          go_wp2_with fail
          refine (rhas_any vb (tms cb 32) k (by have := tms_le cb 32; omega) _ hI).mono ?_
          rintro e w8 ⟨rfl, rfl⟩
          rw [has_bit _ _ hlt, tb]
          clear hI
          have Hm := Lib.hid (tms_hit ((ca.toNat ||| cb.toNat : Nat) : Int) k (by rw [Int.toNat_natCast, Nat.testBit_or, ta, tb]; rfl))
          go_wp2_with (at_builtin; refine wpList_append_lies _ rfl _ _ 30 rfl (N + 1 + 1 + 1) 3 i0 (.int .i64 0) 1 8 Tryd.underlying30 hi hz0 hz1 hz2 rfl (by decide) _ _ _ rfl (World.ownsRow.alloc (w := w7) hown _) ⟨w7.heap.size, 0, none⟩ 1 1 [.int .i64 k] rfl rfl ?c1 ?c2 (by omega) ?c3 ?c4 ?c5 (w7.heap.size + 1) (by simp) ?_)
          case c1 =>
            intro j u hj
            match j, hj with
            | 0, hj => simp at hj; subst hj; exact (World.cell?_alloc_at (w := w7) _ _ _ _ rfl).trans rfl
          case c2 => intro u hu; simp at hu; subst hu; rfl
          case c3 => unfold maxLen; omega
          case c4 => omega
          case c5 => simp; omega
          intro g cap w9 hown' hgrow hat hlt'
          have R := sj_round hS hown hown' hgrow
          clear hown' hgrow hown hS hat hlt'
          go_wp2
          go_roundw
          case rel => exact ⟨k + 1, hlt, by go_num, by rw [Hm.out]; exact R.1, R.2⟩
          case measure => simp [intOf]; omega
      · go_wp2_with fail
        refine (rteams_ints la ca ha0 ha1 _).mono ?_
        rintro e w6 ⟨va, rfl, hI, hb⟩
        replace hown := own_keep hown hb
        replace hS := hS.keep hb
        clear hb
        go_wp2_with fail
        refine (rhas_any va (tms ca 32) k (by have := tms_le ca 32; omega) _ hI).mono ?_
        rintro e w8 ⟨rfl, rfl⟩
        rw [has_bit _ _ hlt, ta]
        clear hI
        have Hm := Lib.hid (tms_hit ((ca.toNat ||| cb.toNat : Nat) : Int) k (by rw [Int.toNat_natCast, Nat.testBit_or, ta]; simp))
        go_wp2_with (at_builtin; refine wpList_append_lies _ rfl _ _ 30 rfl (N + 1 + 1 + 1) 3 i0 (.int .i64 0) 1 8 Tryd.underlying30 hi hz0 hz1 hz2 rfl (by decide) _ _ _ rfl (World.ownsRow.alloc (w := w6) hown _) ⟨w6.heap.size, 0, none⟩ 1 1 [.int .i64 k] rfl rfl ?c1 ?c2 (by omega) ?c3 ?c4 ?c5 (w6.heap.size + 1) (by simp) ?_)
        case c1 =>
          intro j u hj
          match j, hj with
          | 0, hj => simp at hj; subst hj; exact (World.cell?_alloc_at (w := w6) _ _ _ _ rfl).trans rfl
        case c2 => intro u hu; simp at hu; subst hu; rfl
        case c3 => unfold maxLen; omega
        case c4 => omega
        case c5 => simp; omega
        intro g cap w9 hown' hgrow hat hlt'
        have R := sj_round hS hown hown' hgrow
        clear hown' hgrow hown hS hat hlt'
        go_wp2
        go_roundw
        case rel => exact ⟨k + 1, hlt, by go_num, by rw [Hm.out]; exact R.1, R.2⟩
        case measure => simp [intOf]; omega
    · obtain rfl : k = 32 := by omega
      have hI := IntsAt.of_own hown
      have hr := or_range ca cb ha1 hb1
      have hc := Lib.hid (catsOf_all ((ca.toNat ||| cb.toNat : Nat) : Int) hr.1 hr.2)
      have hcl : catsOf (tms ((ca.toNat ||| cb.toNat : Nat) : Int) 32) < 4294967296 := by have := hc.out; omega
      clear hown
      go_wp2_with fail
      refine (of_any (max la lb) _ (tms ((ca.toNat ||| cb.toNat : Nat) : Int) 32) (fun x hx => ((tms_mem _ 32 x).1 hx).1) hcl (tms_le _ 32) _ hI).mono ?_
      rintro e w9 ⟨rfl, hb⟩
      rw [hc.out]
      have hS2 := hS.keep hb
      clear hb hS hI hcl hr
      obtain ⟨⟨hB, hsz, _⟩, v0, v1, v2, v3⟩ := hS2
      have hP := LabU.put (⟨v0, v1, v2, v3⟩ : LabU w9 (N + 1 + 1) 0 0) (max la lb) ((ca.toNat ||| cb.toNat : Nat) : Int)
      go_wp2
      obtain ⟨p0, p1, _, _⟩ := hP
      exact bodyPost_ret (v := .agg #[.int .i64 (max la lb), .int .u32 ((ca.toNat ||| cb.toNat : Nat) : Int)]) (by simp [results, Tryd.results17, go_sem, p0, p1]) rfl ⟨rfl, by rw [HN.out]; exact (hB.setCell (p := ⟨N + 1 + 1, 0, none⟩) (by simp; omega) _).setCell (p := ⟨N + 1 + 1, 1, none⟩) (by simp; omega) _⟩

set_option maxHeartbeats 1000000 in
set_option maxRecDepth 100000 in
theorem rjoin_no1 (la ca lb cb : Int) (hra : rB la = false) (w : World) :
    Calls Tryd.prog 17 #[.agg #[.int .i64 la, .int .u32 ca], .agg #[.int .i64 lb, .int .u32 cb]] w fun e w' => e = .returned (.agg #[.int .i64 7, .int .u32 4294967295]) ∧ Below w.heap.size w w' := by
  have hS := SJ.start w la ca lb cb
  go_enter Tryd.func17, Tryd.ntmps17
  go_wp2_with fail
  refine (rright_any _ _ _).mono ?_
  rintro e w1 ⟨rfl, hb⟩
  replace hS := hS.keep hb
  clear hb
  generalize hN : w.heap.size = N at *
  have HN := Lib.hid hN
  clear hN
  have hP := LabU.put (show LabU _ (N + 1 + 1) 0 0 from hS.2) 7 4294967295
  have hB := (hS.1.1.setCell (p := ⟨N + 1 + 1, 0, none⟩) (by simp; omega) (.int .i64 7)).setCell (p := ⟨N + 1 + 1, 1, none⟩) (by simp; omega) (.int .u32 4294967295)
  go_wp2
  obtain ⟨p0, p1, _, _⟩ := hP
  exact bodyPost_ret (v := .agg #[.int .i64 7, .int .u32 4294967295]) (by simp [results, Tryd.results17, go_sem, p0, p1]) rfl ⟨rfl, by rw [HN.out]; exact hB⟩

set_option maxHeartbeats 1000000 in
set_option maxRecDepth 100000 in
theorem rjoin_no2 (la ca lb cb : Int) (hra : rB la = true) (hrb : rB lb = false) (w : World) :
    Calls Tryd.prog 17 #[.agg #[.int .i64 la, .int .u32 ca], .agg #[.int .i64 lb, .int .u32 cb]] w fun e w' => e = .returned (.agg #[.int .i64 7, .int .u32 4294967295]) ∧ Below w.heap.size w w' := by
  have hS := SJ.start w la ca lb cb
  go_enter Tryd.func17, Tryd.ntmps17
  go_wp2_with fail
  refine (rright_any _ _ _).mono ?_
  rintro e w1 ⟨rfl, hb⟩
  replace hS := hS.keep hb
  clear hb
  generalize hN : w.heap.size = N at *
  have HN := Lib.hid hN
  clear hN
  go_wp2_with fail
  refine (rright_any _ _ _).mono ?_
  rintro e w2 ⟨rfl, hb⟩
  replace hS := hS.keep hb
  clear hb
  have hP := LabU.put (show LabU _ (N + 1 + 1) 0 0 from hS.2) 7 4294967295
  have hB := (hS.1.1.setCell (p := ⟨N + 1 + 1, 0, none⟩) (by simp; omega) (.int .i64 7)).setCell (p := ⟨N + 1 + 1, 1, none⟩) (by simp; omega) (.int .u32 4294967295)
  go_wp2
  obtain ⟨p0, p1, _, _⟩ := hP
  exact bodyPost_ret (v := .agg #[.int .i64 7, .int .u32 4294967295]) (by simp [results, Tryd.results17, go_sem, p0, p1]) rfl ⟨rfl, by rw [HN.out]; exact hB⟩

theorem rjoin_any (la ca lb cb : Int) (ha0 : 0 ≤ ca) (ha1 : ca < 4294967296) (hb0 : 0 ≤ cb) (hb1 : cb < 4294967296) (w : World) :
    Calls Tryd.prog 17 #[.agg #[.int .i64 la, .int .u32 ca], .agg #[.int .i64 lb, .int .u32 cb]] w fun e w' => e = .returned (.agg #[.int .i64 (jL la lb), .int .u32 (jC la ca lb cb)]) ∧ Below w.heap.size w w' := by
  cases hl : rB la
  · have h1 : jL la lb = 7 := by unfold jL; rw [hl]; rfl
    have h2 : jC la ca lb cb = 4294967295 := by unfold jC; rw [hl]; rfl
    rw [h1, h2]
    exact rjoin_no1 la ca lb cb hl w
  · cases hm : rB lb
    · have h1 : jL la lb = 7 := by unfold jL; rw [hl, hm]; rfl
      have h2 : jC la ca lb cb = 4294967295 := by unfold jC; rw [hl, hm]; rfl
      rw [h1, h2]
      exact rjoin_no2 la ca lb cb hl hm w
    · have h1 : jL la lb = max la lb := by unfold jL; rw [hl, hm]; rfl
      have h2 : jC la ca lb cb = ((ca.toNat ||| cb.toNat : Nat) : Int) := by unfold jC; rw [hl, hm]; rfl
      rw [h1, h2]
      exact rjoin_yes la ca lb cb ha0 ha1 hb0 hb1 hl hm w

set_option maxHeartbeats 1000000 in
set_option maxRecDepth 100000 in
theorem rmeet_yes (la ca lb cb : Int) (ha0 : 0 ≤ ca) (ha1 : ca < 4294967296) (hb0 : 0 ≤ cb) (hb1 : cb < 4294967296) (hra : rB la = true) (hrb : rB lb = true) (w : World) :
    Calls Tryd.prog 19 #[.agg #[.int .i64 la, .int .u32 ca], .agg #[.int .i64 lb, .int .u32 cb]] w fun e w' => e = .returned (.agg #[.int .i64 (min la lb), .int .u32 ((ca.toNat &&& cb.toNat : Nat) : Int)]) ∧ Below w.heap.size w w' := by
  obtain ⟨i0, hi, hz0, hz1, hz2⟩ := info_parts info3
  have hS := SJ.start w la ca lb cb
  go_enter Tryd.func19, Tryd.ntmps19
  go_wp2_with fail
  refine (rright_any _ _ _).mono ?_
  rintro e w1 ⟨rfl, hb⟩
  replace hS := hS.keep hb
  clear hb
  generalize hN : w.heap.size = N at *
  have HN := Lib.hid hN
  clear hN
  go_wp2_with (go_at_call 13; refine (rright_any _ _ _).mono ?_; rintro e w' ⟨rfl, hb⟩; replace hS := hS.keep hb; clear hb)
  go_loopw [5, 6] (fun v i wr => ∃ k : Nat, k ≤ 32 ∧ i = .int .i64 k ∧ wr.ownsRow (N + 1 + 1 + 1) 3 1 v (tms ((ca.toNat &&& cb.toNat : Nat) : Int) k).length ((tms ((ca.toNat &&& cb.toNat : Nat) : Int) k).map intV) ∧ SJ N w la ca lb cb wr)
    (fun _ i _ => 32 - (intOf i).toNat)
  case atStart => exact ⟨0, by omega, rfl, World.ownsRow_nil _ _ _ _, hS⟩
  case round =>
    clear hS
    obtain ⟨k, hk, rfl, hown, hS⟩ := hrel
    have hle := tms_le ((ca.toNat &&& cb.toNat : Nat) : Int) k
    by_cases hlt : k < 32
    · have hk32 : (k : Int) < 32 := by omega
      cases ta : ca.toNat.testBit k
      · go_wp2_with fail
        refine (rteams_ints la ca ha0 ha1 _).mono ?_
        rintro e w6 ⟨va, rfl, hI, hb⟩
        replace hown := own_keep hown hb
        replace hS := hS.keep hb
        clear hb
        go_wp2_with fail
        refine (rhas_any va (tms ca 32) k (by have := tms_le ca 32; omega) _ hI).mono ?_
        rintro e w8 ⟨rfl, rfl⟩
        rw [has_bit _ _ hlt, ta]
        clear hI
        have Hm := Lib.hid (tms_miss ((ca.toNat &&& cb.toNat : Nat) : Int) k (by rw [Int.toNat_natCast, Nat.testBit_and, ta]; simp))
        go_wp2
        go_roundw
        case rel => exact ⟨k + 1, hlt, by go_num, by rw [Hm.out]; exact hown, hS⟩
        case measure => simp [intOf]; omega
      · cases tb : cb.toNat.testBit k
        · go_wp2_with fail
          refine (rteams_ints la ca ha0 ha1 _).mono ?_
          rintro e w6 ⟨va, rfl, hI, hb⟩
          replace hown := own_keep hown hb
          replace hS := hS.keep hb
          clear hb
          go_wp2_with fail
          refine (rhas_any va (tms ca 32) k (by have := tms_le ca 32; omega) _ hI).mono ?_
          rintro e w8 ⟨rfl, rfl⟩
          rw [has_bit _ _ hlt, ta]
          clear hI
          go_wp2_with fail
          refine (rteams_ints lb cb hb0 hb1 _).mono ?_
          rintro e w7 ⟨vb, rfl, hI, hb⟩
          replace hown := own_keep hown hb
          replace hS := hS.keep hb
          clear hb
          go_wp2_with fail
          refine (rhas_any vb (tms cb 32) k (by have := tms_le cb 32; omega) _ hI).mono ?_
          rintro e w8 ⟨rfl, rfl⟩
          rw [has_bit _ _ hlt, tb]
          clear hI
          have Hm := Lib.hid (tms_miss ((ca.toNat &&& cb.toNat : Nat) : Int) k (by rw [Int.toNat_natCast, Nat.testBit_and, ta, tb]; rfl))
          go_wp2
          go_roundw
          case rel => exact ⟨k + 1, hlt, by go_num, by rw [Hm.out]; exact hown, hS⟩
          case measure => simp [intOf]; omega
        · go_wp2_with fail
          refine (rteams_ints la ca ha0 ha1 _).mono ?_
          rintro e w6 ⟨va, rfl, hI, hb⟩
          replace hown := own_keep hown hb
          replace hS := hS.keep hb
          clear hb
          go_wp2_with fail
          refine (rhas_any va (tms ca 32) k (by have := tms_le ca 32; omega) _ hI).mono ?_
          rintro e w8 ⟨rfl, rfl⟩
          rw [has_bit _ _ hlt, ta]
          clear hI
          go_wp2_with fail
          refine (rteams_ints lb cb hb0 hb1 _).mono ?_
          rintro e w7 ⟨vb, rfl, hI, hb⟩
          replace hown := own_keep hown hb
          replace hS := hS.keep hb
          clear hb
          go_wp2_with fail
          refine (rhas_any vb (tms cb 32) k (by have := tms_le cb 32; omega) _ hI).mono ?_
          rintro e w8 ⟨rfl, rfl⟩
          rw [has_bit _ _ hlt, tb]
          clear hI
          have Hm := Lib.hid (tms_hit ((ca.toNat &&& cb.toNat : Nat) : Int) k (by rw [Int.toNat_natCast, Nat.testBit_and, ta, tb]; rfl))
          go_wp2_with (at_builtin; refine wpList_append_lies _ rfl _ _ 30 rfl (N + 1 + 1 + 1) 3 i0 (.int .i64 0) 1 8 Tryd.underlying30 hi hz0 hz1 hz2 rfl (by decide) _ _ _ rfl (World.ownsRow.alloc (w := w7) hown _) ⟨w7.heap.size, 0, none⟩ 1 1 [.int .i64 k] rfl rfl ?c1 ?c2 (by omega) ?c3 ?c4 ?c5 (w7.heap.size + 1) (by simp) ?_)
          case c1 =>
            intro j u hj
            match j, hj with
            | 0, hj => simp at hj; subst hj; exact (World.cell?_alloc_at (w := w7) _ _ _ _ rfl).trans rfl
          case c2 => intro u hu; simp at hu; subst hu; rfl
          case c3 => unfold maxLen; omega
          case c4 => omega
          case c5 => simp; omega
          intro g cap w9 hown' hgrow hat hlt'
          have R := sj_round hS hown hown' hgrow
          clear hown' hgrow hown hS hat hlt'
          go_wp2
          go_roundw
          case rel => exact ⟨k + 1, hlt, by go_num, by rw [Hm.out]; exact R.1, R.2⟩
          case measure => simp [intOf]; omega
    · obtain rfl : k = 32 := by omega
      have hI := IntsAt.of_own hown
      have hr := and_range ca cb ha1
      have hc := Lib.hid (catsOf_all ((ca.toNat &&& cb.toNat : Nat) : Int) hr.1 hr.2)
      have hcl : catsOf (tms ((ca.toNat &&& cb.toNat : Nat) : Int) 32) < 4294967296 := by have := hc.out; omega
      clear hown
      go_wp2_with fail
      refine (of_any (min la lb) _ (tms ((ca.toNat &&& cb.toNat : Nat) : Int) 32) (fun x hx => ((tms_mem _ 32 x).1 hx).1) hcl (tms_le _ 32) _ hI).mono ?_
      rintro e w9 ⟨rfl, hb⟩
      rw [hc.out]
      have hS2 := hS.keep hb
      clear hb hS hI hcl hr
      obtain ⟨⟨hB, hsz, _⟩, v0, v1, v2, v3⟩ := hS2
      have hP := LabU.put (⟨v0, v1, v2, v3⟩ : LabU w9 (N + 1 + 1) 0 0) (min la lb) ((ca.toNat &&& cb.toNat : Nat) : Int)
      go_wp2
      obtain ⟨p0, p1, _, _⟩ := hP
      exact bodyPost_ret (v := .agg #[.int .i64 (min la lb), .int .u32 ((ca.toNat &&& cb.toNat : Nat) : Int)]) (by simp [results, Tryd.results19, go_sem, p0, p1]) rfl ⟨rfl, by rw [HN.out]; exact (hB.setCell (p := ⟨N + 1 + 1, 0, none⟩) (by simp; omega) _).setCell (p := ⟨N + 1 + 1, 1, none⟩) (by simp; omega) _⟩

set_option maxHeartbeats 1000000 in
set_option maxRecDepth 100000 in
theorem rmeet_no1 (la ca lb cb : Int) (hra : rB la = false) (w : World) :
    Calls Tryd.prog 19 #[.agg #[.int .i64 la, .int .u32 ca], .agg #[.int .i64 lb, .int .u32 cb]] w fun e w' => e = .returned (.agg #[.int .i64 0, .int .u32 0]) ∧ Below w.heap.size w w' := by
  have hS := SJ.start w la ca lb cb
  go_enter Tryd.func19, Tryd.ntmps19
  go_wp2_with fail
  refine (rright_any _ _ _).mono ?_
  rintro e w1 ⟨rfl, hb⟩
  replace hS := hS.keep hb
  clear hb
  generalize hN : w.heap.size = N at *
  have HN := Lib.hid hN
  clear hN
  have hP := LabU.put (show LabU _ (N + 1 + 1) 0 0 from hS.2) 0 0
  have hB := (hS.1.1.setCell (p := ⟨N + 1 + 1, 0, none⟩) (by simp; omega) (.int .i64 0)).setCell (p := ⟨N + 1 + 1, 1, none⟩) (by simp; omega) (.int .u32 0)
  go_wp2
  obtain ⟨p0, p1, _, _⟩ := hP
  exact bodyPost_ret (v := .agg #[.int .i64 0, .int .u32 0]) (by simp [results, Tryd.results19, go_sem, p0, p1]) rfl ⟨rfl, by rw [HN.out]; exact hB⟩

set_option maxHeartbeats 1000000 in
set_option maxRecDepth 100000 in
theorem rmeet_no2 (la ca lb cb : Int) (hra : rB la = true) (hrb : rB lb = false) (w : World) :
    Calls Tryd.prog 19 #[.agg #[.int .i64 la, .int .u32 ca], .agg #[.int .i64 lb, .int .u32 cb]] w fun e w' => e = .returned (.agg #[.int .i64 0, .int .u32 0]) ∧ Below w.heap.size w w' := by
  have hS := SJ.start w la ca lb cb
  go_enter Tryd.func19, Tryd.ntmps19
  go_wp2_with fail
  refine (rright_any _ _ _).mono ?_
  rintro e w1 ⟨rfl, hb⟩
  replace hS := hS.keep hb
  clear hb
  generalize hN : w.heap.size = N at *
  have HN := Lib.hid hN
  clear hN
  go_wp2_with fail
  refine (rright_any _ _ _).mono ?_
  rintro e w2 ⟨rfl, hb⟩
  replace hS := hS.keep hb
  clear hb
  have hP := LabU.put (show LabU _ (N + 1 + 1) 0 0 from hS.2) 0 0
  have hB := (hS.1.1.setCell (p := ⟨N + 1 + 1, 0, none⟩) (by simp; omega) (.int .i64 0)).setCell (p := ⟨N + 1 + 1, 1, none⟩) (by simp; omega) (.int .u32 0)
  go_wp2
  obtain ⟨p0, p1, _, _⟩ := hP
  exact bodyPost_ret (v := .agg #[.int .i64 0, .int .u32 0]) (by simp [results, Tryd.results19, go_sem, p0, p1]) rfl ⟨rfl, by rw [HN.out]; exact hB⟩

theorem rmeet_any (la ca lb cb : Int) (ha0 : 0 ≤ ca) (ha1 : ca < 4294967296) (hb0 : 0 ≤ cb) (hb1 : cb < 4294967296) (w : World) :
    Calls Tryd.prog 19 #[.agg #[.int .i64 la, .int .u32 ca], .agg #[.int .i64 lb, .int .u32 cb]] w fun e w' => e = .returned (.agg #[.int .i64 (mL la lb), .int .u32 (mC la ca lb cb)]) ∧ Below w.heap.size w w' := by
  cases hl : rB la
  · have h1 : mL la lb = 0 := by unfold mL; rw [hl]; rfl
    have h2 : mC la ca lb cb = 0 := by unfold mC; rw [hl]; rfl
    rw [h1, h2]
    exact rmeet_no1 la ca lb cb hl w
  · cases hm : rB lb
    · have h1 : mL la lb = 0 := by unfold mL; rw [hl, hm]; rfl
      have h2 : mC la ca lb cb = 0 := by unfold mC; rw [hl, hm]; rfl
      rw [h1, h2]
      exact rmeet_no2 la ca lb cb hl hm w
    · have h1 : mL la lb = min la lb := by unfold mL; rw [hl, hm]; rfl
      have h2 : mC la ca lb cb = ((ca.toNat &&& cb.toNat : Nat) : Int) := by unfold mC; rw [hl, hm]; rfl
      rw [h1, h2]
      exact rmeet_yes la ca lb cb ha0 ha1 hb0 hb1 hl hm w
end Go.Proofs.YtkmbllnnaljepaaDoor
