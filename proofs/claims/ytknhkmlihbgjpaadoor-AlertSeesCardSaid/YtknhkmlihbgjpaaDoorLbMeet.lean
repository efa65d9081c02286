/- The document's own Meet: what each call returns. -/
import Derived.Test.YtknhkmlihbgjpaaDoorLbJoin
namespace Go.Proofs.YtknhkmlihbgjpaaDoor.Lb
open Go.ChangeShapes Go.WideShapes Go.RowKit

theorem and_range (c d : Int) (hc : c < 4294967296) : 0 ≤ ((c.toNat &&& d.toNat : Nat) : Int) ∧ ((c.toNat &&& d.toNat : Nat) : Int) < 4294967296 := by
  have := Nat.and_le_left (n := c.toNat) (m := d.toNat)
  omega
set_option maxHeartbeats 1600000 in
set_option maxRecDepth 100000 in
theorem rmeet_yes (la ca lb cb : Int) (ha0 : 0 ≤ ca) (ha1 : ca < 4294967296) (hb0 : 0 ≤ cb) (hb1 : cb < 4294967296) (hra : rB la = true) (hrb : rB lb = true) (w : World) :
    Calls Tryd.prog 35 #[.agg #[.int .i64 la, .int .u32 ca], .agg #[.int .i64 lb, .int .u32 cb]] w fun e w' => e = .returned (.agg #[.int .i64 (min la lb), .int .u32 ((ca.toNat &&& cb.toNat : Nat) : Int)]) ∧ Below w.heap.size w w' := by
  obtain ⟨i0, hi, hz0, hz1, hz2⟩ := info_parts info3
  have hS := SJ.start w la ca lb cb
  go_enter Tryd.func35, Tryd.ntmps35
  go_wp2_with fail
  refine (rright_any _ _ _).mono ?_
  rintro e w1 ⟨rfl, hb⟩
  replace hS := hS.keep hb
  clear hb
  generalize hN : w.heap.size = N at *
  have HN := Lib.hid hN
  clear hN
  go_wp2_with (go_at_call 33; refine (rright_any _ _ _).mono ?_; rintro e w' ⟨rfl, hb⟩; replace hS := hS.keep hb; clear hb)
  go_loopw [5, 6] (fun v i wr => ∃ k : Nat, k ≤ 32 ∧ i = .int .i64 k ∧ wr.ownsRow (N + 1 + 1 + 1) 3 1 v (tms ((ca.toNat &&& cb.toNat : Nat) : Int) k).length ((tms ((ca.toNat &&& cb.toNat : Nat) : Int) k).map intV) ∧ SJ N w la ca lb cb wr)
    (fun _ i _ => 32 - (intOf i).toNat)
  case atStart => exact ⟨0, by omega, rfl, World.ownsRow_nil _ _ _ _, hS⟩
  case round =>
    clear hS
    obtain ⟨k, hk, rfl, hown, hS⟩ := hrel
    have hle := tms_le ((ca.toNat &&& cb.toNat : Nat) : Int) k
    by_cases hlt : k < 32
    · have hk32 : (k : Int) < 32 := by omega
      cases ta : ca.toNat.testBit k
      · go_wp2_with fail
        refine (rteams_ints la ca ha0 ha1 _).mono ?_
        rintro e w6 ⟨va, rfl, hI, hb⟩
        replace hown := own_keep hown hb
        replace hS := hS.keep hb
        clear hb
        go_wp2_with fail
        refine (rhas_any va (tms ca 32) k (by have := tms_le ca 32; omega) _ hI).mono ?_
        rintro e w8 ⟨rfl, rfl⟩
        rw [has_bit _ _ hlt, ta]
        clear hI
        have Hm := Lib.hid (tms_miss ((ca.toNat &&& cb.toNat : Nat) : Int) k (by rw [Int.toNat_natCast, Nat.testBit_and, ta]; simp))
        go_wp2
        go_roundw
        case rel => exact ⟨k + 1, hlt, by go_num, by rw [Hm.out]; exact hown, hS⟩
        case measure => simp [intOf]; omega
      · cases tb : cb.toNat.testBit k
        · go_wp2_with fail
          refine (rteams_ints la ca ha0 ha1 _).mono ?_
          rintro e w6 ⟨va, rfl, hI, hb⟩
          replace hown := own_keep hown hb
          replace hS := hS.keep hb
          clear hb
          go_wp2_with fail
          refine (rhas_any va (tms ca 32) k (by have := tms_le ca 32; omega) _ hI).mono ?_
          rintro e w8 ⟨rfl, rfl⟩
          rw [has_bit _ _ hlt, ta]
          clear hI
          go_wp2_with fail
          refine (rteams_ints lb cb hb0 hb1 _).mono ?_
          rintro e w7 ⟨vb, rfl, hI, hb⟩
          replace hown := own_keep hown hb
          replace hS := hS.keep hb
          clear hb
          go_wp2_with fail
          refine (rhas_any vb (tms cb 32) k (by have := tms_le cb 32; omega) _ hI).mono ?_
          rintro e w8 ⟨rfl, rfl⟩
          rw [has_bit _ _ hlt, tb]
          clear hI
          have Hm := Lib.hid (tms_miss ((ca.toNat &&& cb.toNat : Nat) : Int) k (by rw [Int.toNat_natCast, Nat.testBit_and, ta, tb]; rfl))
          go_wp2
          go_roundw
          case rel => exact ⟨k + 1, hlt, by go_num, by rw [Hm.out]; exact hown, hS⟩
          case measure => simp [intOf]; omega
        · go_wp2_with fail
          refine (rteams_ints la ca ha0 ha1 _).mono ?_
          rintro e w6 ⟨va, rfl, hI, hb⟩
          replace hown := own_keep hown hb
          replace hS := hS.keep hb
          clear hb
          go_wp2_with fail
          refine (rhas_any va (tms ca 32) k (by have := tms_le ca 32; omega) _ hI).mono ?_
          rintro e w8 ⟨rfl, rfl⟩
          rw [has_bit _ _ hlt, ta]
          clear hI
          go_wp2_with fail
          refine (rteams_ints lb cb hb0 hb1 _).mono ?_
          rintro e w7 ⟨vb, rfl, hI, hb⟩
          replace hown := own_keep hown hb
          replace hS := hS.keep hb
          clear hb
          go_wp2_with fail
          refine (rhas_any vb (tms cb 32) k (by have := tms_le cb 32; omega) _ hI).mono ?_
          rintro e w8 ⟨rfl, rfl⟩
          rw [has_bit _ _ hlt, tb]
          clear hI
          have Hm := Lib.hid (tms_hit ((ca.toNat &&& cb.toNat : Nat) : Int) k (by rw [Int.toNat_natCast, Nat.testBit_and, ta, tb]; rfl))
          go_wp2_with (at_builtin; refine wpList_append_lies _ rfl _ _ 107 rfl (N + 1 + 1 + 1) 3 i0 (.int .i64 0) 1 8 Tryd.underlying107 hi hz0 hz1 hz2 rfl (by decide) _ _ _ rfl (World.ownsRow.alloc (w := w7) hown _) ⟨w7.heap.size, 0, none⟩ 1 1 [.int .i64 k] rfl rfl ?c1 ?c2 (by omega) ?c3 ?c4 ?c5 (w7.heap.size + 1) (by simp) ?_)
          case c1 =>
            intro j u hj
            match j, hj with
            | 0, hj => simp at hj; subst hj; exact (World.cell?_alloc_at (w := w7) _ _ _ _ rfl).trans rfl
          case c2 => intro u hu; simp at hu; subst hu; rfl
          case c3 => unfold maxLen; omega
          case c4 => omega
          case c5 => simp; omega
          intro g cap w9 hown' hgrow hat hlt'
          have R := sj_round hS hown hown' hgrow
          clear hown' hgrow hown hS hat hlt'
          go_wp2
          go_roundw
          case rel => exact ⟨k + 1, hlt, by go_num, by rw [Hm.out]; exact R.1, R.2⟩
          case measure => simp [intOf]; omega
    · obtain rfl : k = 32 := by omega
      have hI := IntsAt.of_own hown
      have hr := and_range ca cb ha1
      have hc := Lib.hid (catsOf_all ((ca.toNat &&& cb.toNat : Nat) : Int) hr.1 hr.2)
      have hcl : catsOf (tms ((ca.toNat &&& cb.toNat : Nat) : Int) 32) < 4294967296 := by have := hc.out; omega
      have hle := tms_le ((ca.toNat &&& cb.toNat : Nat) : Int) 32
      clear hown
      have hxx := fun x (hx : x ∈ tms ((ca.toNat &&& cb.toNat : Nat) : Int) 32) => ((tms_mem _ 32 x).1 hx).1
      generalize tms ((ca.toNat &&& cb.toNat : Nat) : Int) 32 = X at *
      go_wp2_with fail
      · have hmx : min la lb = lb := by omega
        refine (of_any lb _ X hxx hcl hle _ hI).mono ?_
        rintro e w9 ⟨rfl, hb⟩
        rw [hc.out]
        have hS2 := hS.keep hb
        clear hb hS hI hcl hr
        obtain ⟨⟨hB, hsz, _⟩, v0, v1, v2, v3⟩ := hS2
        have hP := LabU.put (⟨v0, v1, v2, v3⟩ : LabU w9 (N + 1 + 1) 0 0) lb ((ca.toNat &&& cb.toNat : Nat) : Int)
        go_wp2
        obtain ⟨p0, p1, _, _⟩ := hP
        exact bodyPost_ret (v := .agg #[.int .i64 lb, .int .u32 ((ca.toNat &&& cb.toNat : Nat) : Int)]) (by simp [results, Tryd.results35, go_sem, p0, p1]) rfl ⟨by rw [hmx], by rw [HN.out]; exact (hB.setCell (p := ⟨N + 1 + 1, 0, none⟩) (by simp; omega) (.int .i64 lb)).setCell (p := ⟨N + 1 + 1, 1, none⟩) (by simp; omega) (.int .u32 ((ca.toNat &&& cb.toNat : Nat) : Int))⟩
      · have hmx : min la lb = la := by omega
        refine (of_any la _ X hxx hcl hle _ hI).mono ?_
        rintro e w9 ⟨rfl, hb⟩
        rw [hc.out]
        have hS2 := hS.keep hb
        clear hb hS hI hcl hr
        obtain ⟨⟨hB, hsz, _⟩, v0, v1, v2, v3⟩ := hS2
        have hP := LabU.put (⟨v0, v1, v2, v3⟩ : LabU w9 (N + 1 + 1) 0 0) la ((ca.toNat &&& cb.toNat : Nat) : Int)
        go_wp2
        obtain ⟨p0, p1, _, _⟩ := hP
        exact bodyPost_ret (v := .agg #[.int .i64 la, .int .u32 ((ca.toNat &&& cb.toNat : Nat) : Int)]) (by simp [results, Tryd.results35, go_sem, p0, p1]) rfl ⟨by rw [hmx], by rw [HN.out]; exact (hB.setCell (p := ⟨N + 1 + 1, 0, none⟩) (by simp; omega) (.int .i64 la)).setCell (p := ⟨N + 1 + 1, 1, none⟩) (by simp; omega) (.int .u32 ((ca.toNat &&& cb.toNat : Nat) : Int))⟩

set_option maxHeartbeats 1600000 in
set_option maxRecDepth 100000 in
theorem rmeet_no1 (la ca lb cb : Int) (hra : rB la = false) (w : World) :
    Calls Tryd.prog 35 #[.agg #[.int .i64 la, .int .u32 ca], .agg #[.int .i64 lb, .int .u32 cb]] w fun e w' => e = .returned (.agg #[.int .i64 0, .int .u32 0]) ∧ Below w.heap.size w w' := by
  have hS := SJ.start w la ca lb cb
  go_enter Tryd.func35, Tryd.ntmps35
  go_wp2_with fail
  refine (rright_any _ _ _).mono ?_
  rintro e w1 ⟨rfl, hb⟩
  replace hS := hS.keep hb
  clear hb
  generalize hN : w.heap.size = N at *
  have HN := Lib.hid hN
  clear hN
  have hP := LabU.put (show LabU _ (N + 1 + 1) 0 0 from hS.2) 0 0
  have hB := (hS.1.1.setCell (p := ⟨N + 1 + 1, 0, none⟩) (by simp; omega) (.int .i64 0)).setCell (p := ⟨N + 1 + 1, 1, none⟩) (by simp; omega) (.int .u32 0)
  go_wp2
  obtain ⟨p0, p1, _, _⟩ := hP
  exact bodyPost_ret (v := .agg #[.int .i64 0, .int .u32 0]) (by simp [results, Tryd.results35, go_sem, p0, p1]) rfl ⟨rfl, by rw [HN.out]; exact hB⟩

set_option maxHeartbeats 1600000 in
set_option maxRecDepth 100000 in
theorem rmeet_no2 (la ca lb cb : Int) (hra : rB la = true) (hrb : rB lb = false) (w : World) :
    Calls Tryd.prog 35 #[.agg #[.int .i64 la, .int .u32 ca], .agg #[.int .i64 lb, .int .u32 cb]] w fun e w' => e = .returned (.agg #[.int .i64 0, .int .u32 0]) ∧ Below w.heap.size w w' := by
  have hS := SJ.start w la ca lb cb
  go_enter Tryd.func35, Tryd.ntmps35
  go_wp2_with fail
  refine (rright_any _ _ _).mono ?_
  rintro e w1 ⟨rfl, hb⟩
  replace hS := hS.keep hb
  clear hb
  generalize hN : w.heap.size = N at *
  have HN := Lib.hid hN
  clear hN
  go_wp2_with fail
  refine (rright_any _ _ _).mono ?_
  rintro e w2 ⟨rfl, hb⟩
  replace hS := hS.keep hb
  clear hb
  have hP := LabU.put (show LabU _ (N + 1 + 1) 0 0 from hS.2) 0 0
  have hB := (hS.1.1.setCell (p := ⟨N + 1 + 1, 0, none⟩) (by simp; omega) (.int .i64 0)).setCell (p := ⟨N + 1 + 1, 1, none⟩) (by simp; omega) (.int .u32 0)
  go_wp2
  obtain ⟨p0, p1, _, _⟩ := hP
  exact bodyPost_ret (v := .agg #[.int .i64 0, .int .u32 0]) (by simp [results, Tryd.results35, go_sem, p0, p1]) rfl ⟨rfl, by rw [HN.out]; exact hB⟩

theorem rmeet_any (la ca lb cb : Int) (ha0 : 0 ≤ ca) (ha1 : ca < 4294967296) (hb0 : 0 ≤ cb) (hb1 : cb < 4294967296) (w : World) :
    Calls Tryd.prog 35 #[.agg #[.int .i64 la, .int .u32 ca], .agg #[.int .i64 lb, .int .u32 cb]] w fun e w' => e = .returned (.agg #[.int .i64 (mL la lb), .int .u32 (mC la ca lb cb)]) ∧ Below w.heap.size w w' := by
  cases hl : rB la
  · have h1 : mL la lb = 0 := by unfold mL; rw [hl]; rfl
    have h2 : mC la ca lb cb = 0 := by unfold mC; rw [hl]; rfl
    rw [h1, h2]
    exact rmeet_no1 la ca lb cb hl w
  · cases hm : rB lb
    · have h1 : mL la lb = 0 := by unfold mL; rw [hl, hm]; rfl
      have h2 : mC la ca lb cb = 0 := by unfold mC; rw [hl, hm]; rfl
      rw [h1, h2]
      exact rmeet_no2 la ca lb cb hl hm w
    · have h1 : mL la lb = min la lb := by unfold mL; rw [hl, hm]; rfl
      have h2 : mC la ca lb cb = ((ca.toNat &&& cb.toNat : Nat) : Int) := by unfold mC; rw [hl, hm]; rfl
      rw [h1, h2]
      exact rmeet_yes la ca lb cb ha0 ha1 hb0 hb1 hl hm w
end Go.Proofs.YtknhkmlihbgjpaaDoor.Lb
