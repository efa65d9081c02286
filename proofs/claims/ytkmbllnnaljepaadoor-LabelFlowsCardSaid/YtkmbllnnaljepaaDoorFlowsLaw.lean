/- Which labels may be, which flow where, their join, meet and teams are what the document says: the statement's own function returns true, of whatever labels. -/
import Derived.Test.YtkmbllnnaljepaaDoorRFlows
import Derived.Test.YtkmbllnnaljepaaDoorLives
namespace Go.Proofs.YtkmbllnnaljepaaDoor
open Go.ChangeShapes Go.WideShapes Go.RowKit
attribute [local go_sem ↓] Go.wp_at_zero Go.wp_at_succ

theorem S2.drewN {N : Nat} {w w1 : World} {la ca lb cb : Int} (h : S2 N w la ca lb cb w1) (m : Nat) : S2 N w la ca lb cb (w1.drewN m) := ⟨below_drewN h.1 m, h.2⟩

set_option maxHeartbeats 2000000 in
set_option maxRecDepth 100000 in
theorem flows_law (la ca lb cb : Int) (ha0 : 0 ≤ ca) (ha1 : ca < 4294967296) (hb0 : 0 ≤ cb) (hb1 : cb < 4294967296) (w : World) (he : Errs w) :
    Calls Tryd.prog 3 #[.agg #[.int .i64 la, .int .u32 ca], .agg #[.int .i64 lb, .int .u32 cb]] w fun e w' => e = .returned (.bool true) ∧ Below w.heap.size w w' := by
  have hS := S2.start w la ca lb cb
  have k1 := Lib.hid (right_any la ca)
  have k2 := Lib.hid (rright_any la ca)
  have k3 := Lib.hid (flows_any la ca lb cb ha0 ha1 hb0 hb1)
  have k4 := Lib.hid (rflows_any la ca lb cb ha0 ha1 hb0 hb1)
  have k5 := Lib.hid (join_any la ca lb cb ha0 ha1 hb0 hb1)
  have k6 := Lib.hid (rjoin_any la ca lb cb ha0 ha1 hb0 hb1)
  have k7 := Lib.hid (meet_any la ca lb cb ha0 ha1 hb0 hb1)
  have k8 := Lib.hid (rmeet_any la ca lb cb ha0 ha1 hb0 hb1)
  have k9 := Lib.hid (teams_ints la ca ha0 ha1)
  have k10 := Lib.hid (rteams_ints la ca ha0 ha1)
  unfold TeamsRet at k9 k10
  have hxl : (tms ca 32).length ≤ 1000000 := by have := tms_le ca 32; omega
  generalize rB la = r0 at k1 k2
  generalize flB la ca lb cb = f0 at k3 k4
  generalize jL la lb = j0 at k5 k6
  generalize jC la ca lb cb = j1 at k5 k6
  generalize mL la lb = m0 at k7 k8
  generalize mC la ca lb cb = m1 at k7 k8
  generalize tms ca 32 = xs at k9 k10 hxl
  have he1 : Errs ((w.alloc (.cells #[.int .i64 la, .int .u32 ca] 24)).alloc (.cells #[.int .i64 lb, .int .u32 cb] 24)) := he.keep (hS.1)
  go_enter Tryd.func3, Tryd.ntmps3
  go_wp2_with fail
  refine (lives_any _ he1).mono ?_
  rintro e w1 ⟨rfl, hb⟩
  replace hS := hS.keep hb
  clear hb he1 he
  generalize hN : w.heap.size = N at *
  have HN := Lib.hid hN
  clear hN ha0 ha1 hb0 hb1
  go_wp2_with fail
  go_region_held3 (fun w' => S2 N w la ca lb cb w') (first | assumption | exact S2.drew (by assumption) | exact S2.keep (by assumption) hb | exact S2.drewN (by assumption) _)
    (first
      | (go_at_call 12; with_reducible refine (k1.out _).mono ?_; rintro e w' ⟨rfl, hb⟩)
      | (go_at_call 13; with_reducible refine (k2.out _).mono ?_; rintro e w' ⟨rfl, hb⟩)
      | (go_at_call 14; with_reducible refine (k3.out _).mono ?_; rintro e w' ⟨rfl, hb⟩)
      | (go_at_call 15; with_reducible refine (k4.out _).mono ?_; rintro e w' ⟨rfl, hb⟩)
      | (go_at_call 16; with_reducible refine (k5.out _).mono ?_; rintro e w' ⟨rfl, hb⟩)
      | (go_at_call 17; with_reducible refine (k6.out _).mono ?_; rintro e w' ⟨rfl, hb⟩)
      | (go_at_call 18; with_reducible refine (k7.out _).mono ?_; rintro e w' ⟨rfl, hb⟩)
      | (go_at_call 19; with_reducible refine (k8.out _).mono ?_; rintro e w' ⟨rfl, hb⟩)
      | (go_at_call 21; with_reducible refine (k9.out _).mono ?_; rintro e w' ⟨v, rfl, hI, hb⟩)
      | (go_at_call 22; with_reducible refine (k10.out _).mono ?_; rintro e w' ⟨v2, rfl, hI2, hb⟩; have hI1 := hI.keep hb)
      | (go_at_call 20; refine (same_any _ _ xs hxl _ hI1 hI2).mono ?_; rintro e w' ⟨rfl, m, rfl⟩))
  have hBf := (‹S2 N w la ca lb cb (w'.drewN m)›).1
  go_wp2
  go_ret
  exact ⟨rfl, by rw [HN.out]; exact hBf⟩
end Go.Proofs.YtkmbllnnaljepaaDoor
