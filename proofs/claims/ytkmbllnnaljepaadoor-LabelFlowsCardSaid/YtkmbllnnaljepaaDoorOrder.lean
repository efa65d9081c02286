/- To flow is an order: the statement's own function returns true, of whatever three labels. -/
import Derived.Test.YtkmbllnnaljepaaDoorLives
import Derived.Test.YtkmbllnnaljepaaDoorClass
namespace Go.Proofs.YtkmbllnnaljepaaDoor
open Go.ChangeShapes Go.WideShapes Go.RowKit
attribute [local go_sem ↓] Go.wp_at_zero Go.wp_at_succ

/-- Three labels lie in the three blocks from N on, and what lay below N lies as it lay. -/
abbrev S3 (N : Nat) (w : World) (la ca lb cb lc cc : Int) (w' : World) : Prop :=
  Below N w w' ∧ N ≤ w'.heap.size ∧ w'.cell? ⟨N, 0, none⟩ = some (.int .i64 la) ∧ w'.cell? ⟨N, 1, none⟩ = some (.int .u32 ca) ∧ w'.cell? ⟨N + 1, 0, none⟩ = some (.int .i64 lb) ∧ w'.cell? ⟨N + 1, 1, none⟩ = some (.int .u32 cb) ∧
    w'.cell? ⟨N + 1 + 1, 0, none⟩ = some (.int .i64 lc) ∧ w'.cell? ⟨N + 1 + 1, 1, none⟩ = some (.int .u32 cc)
theorem S3.keep {N : Nat} {w w1 w2 : World} {la ca lb cb lc cc : Int} (h : S3 N w la ca lb cb lc cc w1) (hb : Below w1.heap.size w1 w2) : S3 N w la ca lb cb lc cc w2 :=
  ⟨h.1.trans (hb.mono h.2.1), Nat.le_trans h.2.1 hb.size, Below.keeps hb h.2.2.1, Below.keeps hb h.2.2.2.1, Below.keeps hb h.2.2.2.2.1, Below.keeps hb h.2.2.2.2.2.1, Below.keeps hb h.2.2.2.2.2.2.1, Below.keeps hb h.2.2.2.2.2.2.2⟩
theorem S3.drew {N : Nat} {w w1 : World} {la ca lb cb lc cc : Int} (h : S3 N w la ca lb cb lc cc w1) : S3 N w la ca lb cb lc cc w1.drew := ⟨h.1.drew, h.2⟩
theorem S3.start (w : World) (la ca lb cb lc cc : Int) : S3 w.heap.size w la ca lb cb lc cc (((w.alloc (.cells #[.int .i64 la, .int .u32 ca] 24)).alloc (.cells #[.int .i64 lb, .int .u32 cb] 24)).alloc (.cells #[.int .i64 lc, .int .u32 cc] 24)) := by
  have h1 := ((LabAt.one w la ca).later (.cells #[.int .i64 lb, .int .u32 cb] 24)).later (.cells #[.int .i64 lc, .int .u32 cc] 24)
  have h2 := (LabAt.one (w.alloc (.cells #[.int .i64 la, .int .u32 ca] 24)) lb cb).later (.cells #[.int .i64 lc, .int .u32 cc] 24)
  have h3 := LabAt.one ((w.alloc (.cells #[.int .i64 la, .int .u32 ca] 24)).alloc (.cells #[.int .i64 lb, .int .u32 cb] 24)) lc cc
  simp only [World.size_alloc] at h2 h3
  exact ⟨(((Below.refl _ _).alloc (Nat.le_refl _) _).alloc (by simp) _).alloc (by simp; omega) _, by simp; omega, h1.1, h1.2, h2.1, h2.2, h3.1, h3.2⟩

set_option maxHeartbeats 1000000 in
set_option maxRecDepth 100000 in
theorem order_one (la ca lb cb lc cc : Int) (ha0 : 0 ≤ ca) (ha1 : ca < 4294967296) (hb0 : 0 ≤ cb) (hb1 : cb < 4294967296) (w : World) (he : Errs w)
    (hab : flB la ca lb cb = false) :
    Calls Tryd.prog 5 #[.agg #[.int .i64 la, .int .u32 ca], .agg #[.int .i64 lb, .int .u32 cb], .agg #[.int .i64 lc, .int .u32 cc]] w fun e w' => e = .returned (.bool true) ∧ Below w.heap.size w w' := by
  have haa := flB_self la ca
  have h0 := S3.start w la ca lb cb lc cc
  have he1 := he.keep (((((Below.refl _ w).alloc (Nat.le_refl _) (.cells #[.int .i64 la, .int .u32 ca] 24)).alloc (by simp) (.cells #[.int .i64 lb, .int .u32 cb] 24)).alloc (by simp; omega) (.cells #[.int .i64 lc, .int .u32 cc] 24)))
  cases hra : rB la
  all_goals
    go_enter Tryd.func5, Tryd.ntmps5
    go_wp2_with fail
    refine (lives_any _ he1).mono ?_
    rintro e w1 ⟨rfl, hb⟩
    have hS := h0.keep hb
    clear h0 hb he1
    go_wp2_with (go_at_call 14; refine (flows_any _ _ _ _ (by omega) (by omega) (by omega) (by omega) _).mono ?_; rintro e w' ⟨rfl, hb⟩; replace hS := hS.keep hb; clear hb)
  all_goals
    generalize hN : w.heap.size = N at *
    have HN := Lib.hid hN
    clear hN
    try simp only [List.append_eq, List.cons_append, List.nil_append]
    refine region_class (fun w' => S3 N w la ca lb cb lc cc w') (by kernel_rfl) (by kernel_rfl) (hS.drew) ?_
    repeat
      first
      | go_big_quiet_skip
      | (go_big_quiet_want
         refine quiet_val ?_
         apply Exists.intro
         refine ⟨fun w' hw' => ?_, ?_⟩
         · obtain ⟨_, _, q0, q1, q2, q3, q4, q5⟩ := hw'
           go_simp
           first | done | rfl | exact ⟨rfl, rfl⟩
         simp only [Act.put, List.setIfInBounds_toArray, List.set_cons_zero, List.set_cons_succ]
         go_big_quiet_on)
      | (go_big_quiet_want
         refine quiet_call ?_
         apply Exists.intro
         apply Exists.intro
         refine ⟨fun w' => ?_, ?_⟩
         · go_simp
           first | done | rfl | exact ⟨rfl, rfl⟩
         apply Exists.intro
         refine ⟨fun w' hw' => ?_, ?_⟩
         · first
           | (go_at_call 14; exact (flows_any _ _ _ _ (by omega) (by omega) (by omega) (by omega) w').mono fun e w2 ⟨he, hb⟩ => ⟨he, hw'.keep hb⟩)
           | (go_at_call 12; exact (right_any _ _ w').mono fun e w2 ⟨he, hb⟩ => ⟨he, hw'.keep hb⟩)
         simp only [Act.put, List.setIfInBounds_toArray, List.set_cons_zero, List.set_cons_succ, haa, hra, hab]
         go_big_quiet_on)
    refine wpQuiet_nil ?_
    intro w5 hw5
    have hBf := hw5.1
    clear hw5 hS
    go_wp2
    go_ret
    exact ⟨rfl, by rw [HN.out]; exact hBf⟩

set_option maxHeartbeats 1000000 in
set_option maxRecDepth 100000 in
theorem order_two (la ca lc cc : Int) (ha0 : 0 ≤ ca) (ha1 : ca < 4294967296) (hc0 : 0 ≤ cc) (hc1 : cc < 4294967296) (w : World) (he : Errs w)
    (hra : rB la = true) :
    Calls Tryd.prog 5 #[.agg #[.int .i64 la, .int .u32 ca], .agg #[.int .i64 la, .int .u32 ca], .agg #[.int .i64 lc, .int .u32 cc]] w fun e w' => e = .returned (.bool true) ∧ Below w.heap.size w w' := by
  have haa : flB la ca la ca = true := by rw [flB_self, hra]
  have h0 := S3.start w la ca la ca lc cc
  have he1 := he.keep (((((Below.refl _ w).alloc (Nat.le_refl _) (.cells #[.int .i64 la, .int .u32 ca] 24)).alloc (by simp) (.cells #[.int .i64 la, .int .u32 ca] 24)).alloc (by simp; omega) (.cells #[.int .i64 lc, .int .u32 cc] 24)))
  cases hac : flB la ca lc cc
  all_goals
    go_enter Tryd.func5, Tryd.ntmps5
    go_wp2_with fail
    refine (lives_any _ he1).mono ?_
    rintro e w1 ⟨rfl, hb⟩
    have hS := h0.keep hb
    clear h0 hb he1
    go_wp2_with (go_at_call 14; refine (flows_any _ _ _ _ (by omega) (by omega) (by omega) (by omega) _).mono ?_; rintro e w' ⟨rfl, hb⟩; replace hS := hS.keep hb; clear hb)
  all_goals
    generalize hN : w.heap.size = N at *
    have HN := Lib.hid hN
    clear hN
    try simp only [List.append_eq, List.cons_append, List.nil_append]
    refine region_class (fun w' => S3 N w la ca la ca lc cc w') (by kernel_rfl) (by kernel_rfl) (hS.drew) ?_
    repeat
      first
      | go_big_quiet_skip
      | (go_big_quiet_want
         refine quiet_val ?_
         apply Exists.intro
         refine ⟨fun w' hw' => ?_, ?_⟩
         · obtain ⟨_, _, q0, q1, q2, q3, q4, q5⟩ := hw'
           go_simp
           first | done | rfl | exact ⟨rfl, rfl⟩
         simp only [Act.put, List.setIfInBounds_toArray, List.set_cons_zero, List.set_cons_succ]
         go_big_quiet_on)
      | (go_big_quiet_want
         refine quiet_call ?_
         apply Exists.intro
         apply Exists.intro
         refine ⟨fun w' => ?_, ?_⟩
         · go_simp
           first | done | rfl | exact ⟨rfl, rfl⟩
         apply Exists.intro
         refine ⟨fun w' hw' => ?_, ?_⟩
         · first
           | (go_at_call 14; exact (flows_any _ _ _ _ (by omega) (by omega) (by omega) (by omega) w').mono fun e w2 ⟨he, hb⟩ => ⟨he, hw'.keep hb⟩)
           | (go_at_call 12; exact (right_any _ _ w').mono fun e w2 ⟨he, hb⟩ => ⟨he, hw'.keep hb⟩)
         simp only [Act.put, List.setIfInBounds_toArray, List.set_cons_zero, List.set_cons_succ, haa, hra]
         go_big_quiet_on)
    refine wpQuiet_nil ?_
    intro w5 hw5
    have hBf := hw5.1
    clear hw5 hS
    go_wp2
    go_ret
    exact ⟨rfl, by rw [HN.out]; exact hBf⟩

set_option maxHeartbeats 1000000 in
set_option maxRecDepth 100000 in
theorem order_three (la ca lb cb lc cc : Int) (ha0 : 0 ≤ ca) (ha1 : ca < 4294967296) (hb0 : 0 ≤ cb) (hb1 : cb < 4294967296) (hc0 : 0 ≤ cc) (hc1 : cc < 4294967296) (w : World) (he : Errs w)
    (hab : flB la ca lb cb = true) (hba : flB lb cb la ca = false) :
    Calls Tryd.prog 5 #[.agg #[.int .i64 la, .int .u32 ca], .agg #[.int .i64 lb, .int .u32 cb], .agg #[.int .i64 lc, .int .u32 cc]] w fun e w' => e = .returned (.bool true) ∧ Below w.heap.size w w' := by
  have hra := flB_left hab
  have hrb := flB_right hab
  have haa : flB la ca la ca = true := by rw [flB_self, hra]
  have h0 := S3.start w la ca lb cb lc cc
  have he1 := he.keep (((((Below.refl _ w).alloc (Nat.le_refl _) (.cells #[.int .i64 la, .int .u32 ca] 24)).alloc (by simp) (.cells #[.int .i64 lb, .int .u32 cb] 24)).alloc (by simp; omega) (.cells #[.int .i64 lc, .int .u32 cc] 24)))
  cases hbc : flB lb cb lc cc
  case' true => have hac := flB_trans hab hbc
  all_goals
    go_enter Tryd.func5, Tryd.ntmps5
    go_wp2_with fail
    refine (lives_any _ he1).mono ?_
    rintro e w1 ⟨rfl, hb⟩
    have hS := h0.keep hb
    clear h0 hb he1
    go_wp2_with (go_at_call 14; refine (flows_any _ _ _ _ (by omega) (by omega) (by omega) (by omega) _).mono ?_; rintro e w' ⟨rfl, hb⟩; replace hS := hS.keep hb; clear hb)
  all_goals
    generalize hN : w.heap.size = N at *
    have HN := Lib.hid hN
    clear hN
    try simp only [List.append_eq, List.cons_append, List.nil_append]
    refine region_class (fun w' => S3 N w la ca lb cb lc cc w') (by kernel_rfl) (by kernel_rfl) (hS.drew) ?_
    repeat
      first
      | go_big_quiet_skip
      | (go_big_quiet_want
         refine quiet_val ?_
         apply Exists.intro
         refine ⟨fun w' hw' => ?_, ?_⟩
         · obtain ⟨_, _, q0, q1, q2, q3, q4, q5⟩ := hw'
           go_simp
           first | done | rfl | exact ⟨rfl, rfl⟩
         simp only [Act.put, List.setIfInBounds_toArray, List.set_cons_zero, List.set_cons_succ]
         go_big_quiet_on)
      | (go_big_quiet_want
         refine quiet_call ?_
         apply Exists.intro
         apply Exists.intro
         refine ⟨fun w' => ?_, ?_⟩
         · go_simp
           first | done | rfl | exact ⟨rfl, rfl⟩
         apply Exists.intro
         refine ⟨fun w' hw' => ?_, ?_⟩
         · first
           | (go_at_call 14; exact (flows_any _ _ _ _ (by omega) (by omega) (by omega) (by omega) w').mono fun e w2 ⟨he, hb⟩ => ⟨he, hw'.keep hb⟩)
           | (go_at_call 12; exact (right_any _ _ w').mono fun e w2 ⟨he, hb⟩ => ⟨he, hw'.keep hb⟩)
         simp only [Act.put, List.setIfInBounds_toArray, List.set_cons_zero, List.set_cons_succ, haa, hra, hrb, hab]
         go_big_quiet_on)
    refine wpQuiet_nil ?_
    intro w5 hw5
    have hBf := hw5.1
    clear hw5 hS
    go_wp2
    go_ret
    exact ⟨rfl, by rw [HN.out]; exact hBf⟩

theorem order_any (la ca lb cb lc cc : Int) (ha0 : 0 ≤ ca) (ha1 : ca < 4294967296) (hb0 : 0 ≤ cb) (hb1 : cb < 4294967296) (hc0 : 0 ≤ cc) (hc1 : cc < 4294967296) (w : World) (he : Errs w) :
    Calls Tryd.prog 5 #[.agg #[.int .i64 la, .int .u32 ca], .agg #[.int .i64 lb, .int .u32 cb], .agg #[.int .i64 lc, .int .u32 cc]] w fun e w' => e = .returned (.bool true) ∧ Below w.heap.size w w' := by
  cases hab : flB la ca lb cb
  · exact order_one la ca lb cb lc cc ha0 ha1 hb0 hb1 w he hab
  cases hba : flB lb cb la ca
  · exact order_three la ca lb cb lc cc ha0 ha1 hb0 hb1 hc0 hc1 w he hab hba
  · obtain ⟨rfl, rfl⟩ := flB_antisymm ha0 hb0 hab hba
    exact order_two la ca lc cc ha0 ha1 hc0 hc1 w he (flB_left hab)
end Go.Proofs.YtkmbllnnaljepaaDoor
