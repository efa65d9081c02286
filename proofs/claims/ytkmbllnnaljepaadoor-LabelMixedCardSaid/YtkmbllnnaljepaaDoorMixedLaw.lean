/- Joins and meets, mixed: the statement's own function returns true, of whatever three labels. -/
import Derived.Test.YtkmbllnnaljepaaDoorMixed
import Derived.Deep.DeepCutAuto
import Derived.RegionTactic
namespace Go.Proofs.YtkmbllnnaljepaaDoor
open Go.ChangeShapes Go.WideShapes Go.RowKit
attribute [local go_sem ↓] Go.wp_at_zero Go.wp_at_succ

/-- The three labels, and two more. -/
abbrev U5 (N : Nat) (w : World) (la ca lb cb lc cc : Int) (g x : Nat) (l c : Int) (w' : World) : Prop := U3 N w la ca lb cb lc cc w' ∧ LabU w' g l c ∧ LabU w' x l c
theorem U5.keep {N : Nat} {w w1 w2 : World} {la ca lb cb lc cc l c : Int} {g x : Nat} (h : U5 N w la ca lb cb lc cc g x l c w1) (hb : Below w1.heap.size w1 w2) : U5 N w la ca lb cb lc cc g x l c w2 := ⟨h.1.keep hb, h.2.1.keep hb, h.2.2.keep hb⟩
theorem U5.drew {N : Nat} {w w1 : World} {la ca lb cb lc cc l c : Int} {g x : Nat} (h : U5 N w la ca lb cb lc cc g x l c w1) : U5 N w la ca lb cb lc cc g x l c w1.drew := ⟨h.1.drew, h.2⟩
abbrev U7 (N : Nat) (w : World) (la ca lb cb lc cc : Int) (g x : Nat) (l c : Int) (g2 x2 : Nat) (m d : Int) (w' : World) : Prop := U5 N w la ca lb cb lc cc g x l c w' ∧ LabU w' g2 m d ∧ LabU w' x2 m d
theorem U7.keep {N : Nat} {w w1 w2 : World} {la ca lb cb lc cc l c m d : Int} {g x g2 x2 : Nat} (h : U7 N w la ca lb cb lc cc g x l c g2 x2 m d w1) (hb : Below w1.heap.size w1 w2) : U7 N w la ca lb cb lc cc g x l c g2 x2 m d w2 := ⟨h.1.keep hb, h.2.1.keep hb, h.2.2.keep hb⟩
theorem U7.drew {N : Nat} {w w1 : World} {la ca lb cb lc cc l c m d : Int} {g x g2 x2 : Nat} (h : U7 N w la ca lb cb lc cc g x l c g2 x2 m d w1) : U7 N w la ca lb cb lc cc g x l c g2 x2 m d w1.drew := ⟨h.1.drew, h.2⟩

abbrev S7 (N : Nat) (w : World) (la ca lb cb lc cc : Int) (g x : Nat) (l c : Int) (g2 x2 : Nat) (m d : Int) (w' : World) : Prop :=
  S5 N w la ca lb cb lc cc g x l c l c w' ∧ w'.cell? ⟨g2, 0, none⟩ = some (.int .i64 m) ∧ w'.cell? ⟨g2, 1, none⟩ = some (.int .u32 d) ∧ w'.cell? ⟨x2, 0, none⟩ = some (.int .i64 m) ∧ w'.cell? ⟨x2, 1, none⟩ = some (.int .u32 d)
theorem S7.keep {N : Nat} {w w1 w2 : World} {la ca lb cb lc cc l c m d : Int} {g x g2 x2 : Nat} (h : S7 N w la ca lb cb lc cc g x l c g2 x2 m d w1) (hb : Below w1.heap.size w1 w2) : S7 N w la ca lb cb lc cc g x l c g2 x2 m d w2 :=
  ⟨h.1.keep hb, Below.keeps hb h.2.1, Below.keeps hb h.2.2.1, Below.keeps hb h.2.2.2.1, Below.keeps hb h.2.2.2.2⟩
theorem S7.drew {N : Nat} {w w1 : World} {la ca lb cb lc cc l c m d : Int} {g x g2 x2 : Nat} (h : S7 N w la ca lb cb lc cc g x l c g2 x2 m d w1) : S7 N w la ca lb cb lc cc g x l c g2 x2 m d w1.drew := ⟨h.1.drew, h.2⟩
theorem S7.alloc {N : Nat} {w w1 : World} {la ca lb cb lc cc l c m d : Int} {g x g2 x2 : Nat} (h : S7 N w la ca lb cb lc cc g x l c g2 x2 m d w1) (o : Obj) : S7 N w la ca lb cb lc cc g x l c g2 x2 m d (w1.alloc o) := h.keep ((Below.refl _ _).alloc (Nat.le_refl _) _)
theorem S7.of {N : Nat} {w w1 : World} {la ca lb cb lc cc l c m d : Int} {g x g2 x2 : Nat} (h : U7 N w la ca lb cb lc cc g x l c g2 x2 m d w1) : S7 N w la ca lb cb lc cc g x l c g2 x2 m d w1 :=
  ⟨⟨h.1.1.1, h.1.2.1.1, h.1.2.1.2.1, h.1.2.2.1, h.1.2.2.2.1⟩, h.2.1.1, h.2.1.2.1, h.2.2.1, h.2.2.2.1⟩
/-- Three labels in a new slice. -/
theorem labs_three (w : World) (la ca lb cb lc cc : Int) : LabsAt (w.alloc (.cells #[.int .i64 la, .int .u32 ca, .int .i64 lb, .int .u32 cb, .int .i64 lc, .int .u32 cc] 24)) (some ⟨w.heap.size, 0, none⟩) [(la, ca), (lb, cb), (lc, cc)] := fun j x hx => by
  match j, hx with
  | 0, hx => simp at hx; subst hx; exact ⟨_, _, rfl, by simp [go_sem], by simp [go_sem]⟩
  | 1, hx => simp at hx; subst hx; exact ⟨_, _, rfl, by simp [go_sem], by simp [go_sem]⟩
  | 2, hx => simp at hx; subst hx; exact ⟨_, _, rfl, by simp [go_sem], by simp [go_sem]⟩
theorem all_three (la ca lb cb lc cc l c : Int) (h : allP [(la, ca), (lb, cb), (lc, cc)] = (l, c)) (ha : 0 ≤ ca ∧ ca < 4294967296) (hb : 0 ≤ cb ∧ cb < 4294967296) (hc : 0 ≤ cc ∧ cc < 4294967296) (w : World) :
    Calls Tryd.prog 27 #[.slice (some ⟨w.heap.size, 0, none⟩) 3 3] (w.alloc (.cells #[.int .i64 la, .int .u32 ca, .int .i64 lb, .int .u32 cb, .int .i64 lc, .int .u32 cc] 24)) fun e w' => e = .returned (.agg #[.int .i64 l, .int .u32 c]) ∧
      Below (w.alloc (.cells #[.int .i64 la, .int .u32 ca, .int .i64 lb, .int .u32 cb, .int .i64 lc, .int .u32 cc] 24)).heap.size (w.alloc (.cells #[.int .i64 la, .int .u32 ca, .int .i64 lb, .int .u32 cb, .int .i64 lc, .int .u32 cc] 24)) w' := by
  have h1 := all_any (some ⟨w.heap.size, 0, none⟩) 3 [(la, ca), (lb, cb), (lc, cc)] (by simp) (by
    intro x hx
    simp at hx
    rcases hx with rfl | rfl | rfl
    · exact ha
    · exact hb
    · exact hc) _ (labs_three w la ca lb cb lc cc)
  rw [h] at h1
  exact h1

set_option maxHeartbeats 12000000 in
set_option maxRecDepth 100000 in
theorem mixed_any (la ca lb cb lc cc : Int) (ha0 : 0 ≤ ca) (ha1 : ca < 4294967296) (hb0 : 0 ≤ cb) (hb1 : cb < 4294967296) (hc0 : 0 ≤ cc) (hc1 : cc < 4294967296) (w : World) (he : Errs w) :
    Calls Tryd.prog 9 #[.agg #[.int .i64 la, .int .u32 ca], .agg #[.int .i64 lb, .int .u32 cb], .agg #[.int .i64 lc, .int .u32 cc]] w fun e w' => e = .returned (.bool true) ∧ Below w.heap.size w w' := by
  have h0 := U3.start w la ca lb cb lc cc
  have he1 := he.keep (((((Below.refl _ w).alloc (Nat.le_refl _) (.cells #[.int .i64 la, .int .u32 ca] 24)).alloc (by simp) (.cells #[.int .i64 lb, .int .u32 cb] 24)).alloc (by simp; omega) (.cells #[.int .i64 lc, .int .u32 cc] 24)))
  go_enter Tryd.func9, Tryd.ntmps9
  go_wp2_with fail
  refine (lives_any _ he1).mono ?_
  rintro e w1 ⟨rfl, hb⟩
  have hS := h0.keep hb
  clear h0 hb he1
  generalize hN : w.heap.size = N at *
  have HN := Lib.hid hN
  clear hN
  go_upto_region 3 with fail
  go_cut [6] (fun s6 wx => s6 = .bool false ∧ U3 N w (la % 8) ca (lb % 8) cb (lc % 8) cc wx)
  case first =>
    go_region
    go_wp2_with fail
    go_meet
    rw [lev, lev, lev]
    exact ⟨rfl, hS.levels3⟩
  case rest =>
    obtain ⟨rfl, hS1⟩ := hcut
    clear hS
    have ra : 0 ≤ la % 8 ∧ la % 8 < 8 := by omega
    have rb : 0 ≤ lb % 8 ∧ lb % 8 < 8 := by omega
    have rc : 0 ≤ lc % 8 ∧ lc % 8 < 8 := by omega
    generalize la % 8 = la at *
    generalize lb % 8 = lb at *
    generalize lc % 8 = lc at *
    go_upto_region 4 with fail
    obtain ⟨l1, c1, l2, c2, l3, c3, l4, c4, l5, c5, l6, c6, l7, c7, lx, cx, lv, cv, k1, k2, k3, k4, k5, k6, k7, k8, k9, k10, k11, k12, k13, k14, k15⟩ := mixed_vals la ca lb cb lc cc (rB_true.2 ra) (rB_true.2 rb) (rB_true.2 rc) ⟨ha0, ha1⟩ ⟨hb0, hb1⟩ ⟨hc0, hc1⟩
    go_cut [7, 8] (fun s7 s8 wx => ∃ g x : Nat, s7 = .pointer (some ⟨g, 0, none⟩) ∧ s8 = .pointer (some ⟨x, 0, none⟩) ∧ U5 N w la ca lb cb lc cc g x lx cx wx)
    case first =>
      have hz := hS1.2.1
      refine region_loose (CL (fun w' => U3 N w la ca lb cb lc cc w') (N + 1 + 1 + 1)) 12 14 2 #[true, true, true, true, true, true, true, true, true, true, true, true, true, true, false, false] rfl (by kernel_rfl) (by kernel_rfl) (by kernel_rfl) (CL.start hS1.drew hz) ?_
      simp only [List.take_succ_cons, List.take_zero]
      repeat
        first
        | (refine loose_val (by decide) rfl ?_
           apply Exists.intro
           refine ⟨fun L' w' hw' => ?_, ?_⟩
           · obtain ⟨⟨⟨_, _, q0, q1, q2, q3, q4, q5⟩, _⟩, _⟩ := hw'
             go_simp
             first | done | rfl | exact ⟨rfl, rfl⟩
           simp only [Act.put, List.setIfInBounds_toArray, List.set_cons_zero, List.set_cons_succ])
        | (refine loose_call (by decide) rfl ?_
           apply Exists.intro
           apply Exists.intro
           refine ⟨fun w' => ?_, ?_⟩
           · go_simp
             first | done | rfl | exact ⟨rfl, rfl⟩
           apply Exists.intro
           refine ⟨fun L' w' hw' => ?_, ?_⟩
           · first
             | (go_at_call 16; (first | with_reducible refine (k1.out w').mono ?_ | with_reducible refine (k5.out w').mono ?_); exact fun e w2 h => ⟨h.1, hw'.keep (fun _ _ => U3.keep) h.2⟩)
             | (go_at_call 18; (first | with_reducible refine (k2.out w').mono ?_ | with_reducible refine (k3.out w').mono ?_ | with_reducible refine (k4.out w').mono ?_); exact fun e w2 h => ⟨h.1, hw'.keep (fun _ _ => U3.keep) h.2⟩)
           simp only [Act.put, List.setIfInBounds_toArray, List.set_cons_zero, List.set_cons_succ])
        | (refine loose_new (by decide) rfl (fun L' w' hw' => ?_) (fun v => ?_)
           · exact ⟨.pointer (some ⟨w'.heap.size, 0, none⟩), w'.alloc (.cells #[.int .i64 0, .int .u32 0] 24), by go_simp, CL.new _ (fun _ _ => U3.keep) hw'⟩
           simp only [Act.put, List.setIfInBounds_toArray, List.set_cons_zero, List.set_cons_succ])
      intro w5 hw5
      obtain ⟨g, x, rfl, rfl, hgx, hg, hx, hG, hX, hU⟩ := CL.two (by decide) hw5
      clear hw5
      have hG1 := hG.put lx cx
      have hX1 := hX.far hgx (.int .i64 lx) (.int .u32 cx)
      have hU1 := (hU.set g 0 hg (.int .i64 lx)).set g 1 hg (.int .u32 cx)
      obtain ⟨g0, g1, g2, g3⟩ := hG
      refine wpAny_ready (rs := [14]) (by kernel_rfl) (by simp) ?_
      refine AllReady.cons rfl (fun K hK => ?_) AllReady.nil
      go_simp
      refine hK _ _ ?_
      clear hK K g0 g1 g2 g3 hX hU
      generalize (w5.setCell ⟨g, 0, none⟩ (.int .i64 lx)).setCell ⟨g, 1, none⟩ (.int .u32 cx) = w6 at *
      have hX2 := hX1.put lx cx
      have hG2 := hG1.far (Ne.symm hgx) (.int .i64 lx) (.int .u32 cx)
      have hU2 := (hU1.set x 0 hx (.int .i64 lx)).set x 1 hx (.int .u32 cx)
      obtain ⟨x0, x1, x2, x3⟩ := hX1
      refine wpAny_ready (rs := [15]) (by kernel_rfl) (by simp) ?_
      refine AllReady.cons rfl (fun K hK => ?_) AllReady.nil
      go_simp
      refine hK _ _ ?_
      clear hK K x0 x1 x2 x3
      refine wpAny_done (by kernel_rfl) ?_ _
      go_wp2_with fail
      go_meet
      exact ⟨g, x, rfl, rfl, hU2, hG2, hX2⟩
    case rest =>
      obtain ⟨g, x, rfl, rfl, hU⟩ := hcut
      clear hS1 k2 k4 k5
      go_upto_region 5 with fail
      go_cut [9, 10] (fun s9 s10 wx => ∃ g2 x2 : Nat, s9 = .pointer (some ⟨g2, 0, none⟩) ∧ s10 = .pointer (some ⟨x2, 0, none⟩) ∧ U7 N w la ca lb cb lc cc g x lx cx g2 x2 lv cv wx)
      case first =>
        have hz := hU.1.2.1
        refine region_loose (CL (fun w' => U5 N w la ca lb cb lc cc g x lx cx w') wc.heap.size) 12 14 2 #[true, true, true, true, true, true, true, true, true, true, true, true, true, true, false, false] rfl (by kernel_rfl) (by kernel_rfl) (by kernel_rfl) (CL.start hU.drew (Nat.le_refl _)) ?_
        simp only [List.take_succ_cons, List.take_zero]
        repeat
          first
          | (refine loose_val (by decide) rfl ?_
             apply Exists.intro
             refine ⟨fun L' w' hw' => ?_, ?_⟩
             · obtain ⟨⟨⟨⟨_, _, q0, q1, q2, q3, q4, q5⟩, _⟩, _⟩, _⟩ := hw'
               go_simp
               first | done | rfl | exact ⟨rfl, rfl⟩
             simp only [Act.put, List.setIfInBounds_toArray, List.set_cons_zero, List.set_cons_succ])
          | (refine loose_call (by decide) rfl ?_
             apply Exists.intro
             apply Exists.intro
             refine ⟨fun w' => ?_, ?_⟩
             · go_simp
               first | done | rfl | exact ⟨rfl, rfl⟩
             apply Exists.intro
             refine ⟨fun L' w' hw' => ?_, ?_⟩
             · first
               | (go_at_call 16; (first | with_reducible refine (k7.out w').mono ?_ | with_reducible refine (k8.out w').mono ?_ | with_reducible refine (k9.out w').mono ?_); exact fun e w2 h => ⟨h.1, hw'.keep (fun _ _ => U5.keep) h.2⟩)
               | (go_at_call 18; (first | with_reducible refine (k6.out w').mono ?_ | with_reducible refine (k10.out w').mono ?_); exact fun e w2 h => ⟨h.1, hw'.keep (fun _ _ => U5.keep) h.2⟩)
             simp only [Act.put, List.setIfInBounds_toArray, List.set_cons_zero, List.set_cons_succ])
          | (refine loose_new (by decide) rfl (fun L' w' hw' => ?_) (fun v => ?_)
             · exact ⟨.pointer (some ⟨w'.heap.size, 0, none⟩), w'.alloc (.cells #[.int .i64 0, .int .u32 0] 24), by go_simp, CL.new _ (fun _ _ => U5.keep) hw'⟩
             simp only [Act.put, List.setIfInBounds_toArray, List.set_cons_zero, List.set_cons_succ])
        intro w5 hw5
        have lg : g < wc.heap.size := World.block_lt_of_cell? _ _ hU.2.1.1
        have lx' : x < wc.heap.size := World.block_lt_of_cell? _ _ hU.2.2.1
        obtain ⟨p, s, rfl, rfl, hps, hp, hs, hP, hT, ⟨hV, hG, hX⟩⟩ := CL.two (by decide) hw5
        clear hw5
        have hP1 := hP.put lv cv
        have hT1 := hT.far hps (.int .i64 lv) (.int .u32 cv)
        have hG1 := hG.far (g := p) (by omega) (.int .i64 lv) (.int .u32 cv)
        have hX1 := hX.far (g := p) (by omega) (.int .i64 lv) (.int .u32 cv)
        have hV1 := (hV.set p 0 (by omega) (.int .i64 lv)).set p 1 (by omega) (.int .u32 cv)
        clear hG hX
        obtain ⟨g0, g1, g2, g3⟩ := hP
        refine wpAny_ready (rs := [14]) (by kernel_rfl) (by simp) ?_
        refine AllReady.cons rfl (fun K hK => ?_) AllReady.nil
        go_simp
        refine hK _ _ ?_
        clear hK K g0 g1 g2 g3 hT hV
        generalize (w5.setCell ⟨p, 0, none⟩ (.int .i64 lv)).setCell ⟨p, 1, none⟩ (.int .u32 cv) = w6 at *
        have hT2 := hT1.put lv cv
        have hP2 := hP1.far (Ne.symm hps) (.int .i64 lv) (.int .u32 cv)
        have hG2 := hG1.far (g := s) (by omega) (.int .i64 lv) (.int .u32 cv)
        have hX2 := hX1.far (g := s) (by omega) (.int .i64 lv) (.int .u32 cv)
        have hV2 := (hV1.set s 0 (by omega) (.int .i64 lv)).set s 1 (by omega) (.int .u32 cv)
        clear hG1 hX1 hP1
        obtain ⟨x0, x1, x2, x3⟩ := hT1
        refine wpAny_ready (rs := [15]) (by kernel_rfl) (by simp) ?_
        refine AllReady.cons rfl (fun K hK => ?_) AllReady.nil
        go_simp
        refine hK _ _ ?_
        clear hK K x0 x1 x2 x3
        refine wpAny_done (by kernel_rfl) ?_ _
        go_wp2_with fail
        go_meet
        exact ⟨p, s, rfl, rfl, ⟨hV2, hG2, hX2⟩, hP2, hT2⟩
      case rest =>
        obtain ⟨g2, x2, rfl, rfl, hS⟩ := hcut
        clear hU k6 k7 k9 k10
        have hT := S7.of hS
        clear hS
        have kAll := Lib.hid (all_three la ca lb cb lc cc l7 c7 k15.out ⟨ha0, ha1⟩ ⟨hb0, hb1⟩ ⟨hc0, hc1⟩)
        go_upto_region 6 with fail
        go_region_held3 (fun w' => S7 N w la ca lb cb lc cc g x lx cx g2 x2 lv cv w') (first | assumption | exact S7.drew (by assumption) | exact S7.keep (by assumption) hb | exact S7.alloc (by assumption) _)
          (first
            | (go_at_call 16; (first | with_reducible refine (k1.out _).mono ?_ | with_reducible refine (k8.out _).mono ?_ | with_reducible refine (k11.out _).mono ?_ | with_reducible refine (k13.out _).mono ?_ | with_reducible refine (k14.out _).mono ?_); rintro e w' ⟨rfl, hb⟩)
            | (go_at_call 18; (first | with_reducible refine (k3.out _).mono ?_ | with_reducible refine (k12.out _).mono ?_); rintro e w' ⟨rfl, hb⟩)
            | (go_at_call 27; refine (kAll.out _).mono ?_; rintro e w' ⟨rfl, hb⟩))
        have hBf := (‹S7 N w la ca lb cb lc cc g x lx cx g2 x2 lv cv w'›).1.1.1
        go_wp2
        go_ret
        exact ⟨rfl, by rw [HN.out]; exact hBf⟩
end Go.Proofs.YtkmbllnnaljepaaDoor
