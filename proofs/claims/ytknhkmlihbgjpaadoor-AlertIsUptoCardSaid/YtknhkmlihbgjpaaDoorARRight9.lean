/- The document's own Right and Fires of an alert. -/
import Derived.Test.YtknhkmlihbgjpaaDoorATimes
import Derived.Test.YtknhkmlihbgjpaaDoorLbFlows
namespace Go.Proofs.YtknhkmlihbgjpaaDoor
open Go.ChangeShapes Go.WideShapes Go.RowKit

set_option maxHeartbeats 1600000 in
theorem rfires_any (s : Bs) (y : Sl) (l c p q n : Int) (w : World) : Calls Tryd.prog 21 #[alV s y.v l c p q, .int .i64 n] w fun e w' => e = .returned (.bool (firesB p q n)) ∧ Below w.heap.size w w' := by
  obtain ⟨O, hO⟩ : ∃ O, firesB p q n = O := ⟨_, rfl⟩
  rw [hO]
  unfold firesB at hO
  obtain ⟨ay, ny, ky⟩ := y
  unfold alV
  simp only [Sl.v]
  have hB : Below w.heap.size w (w.alloc (.cells #[.string ⟨s.toArray⟩, .slice ay ny ky, .int .i64 l, .int .u32 c, .int .i64 p, .int .i64 q] 27)) := (Below.refl _ _).alloc (Nat.le_refl _) _
  go_enter Tryd.func21, Tryd.ntmps21
  by_cases h1 : p ≤ n
  · rw [decide_eq_true h1, Bool.true_and] at hO
    by_cases h3 : q = 0
    · subst h3
      have e : O = true := by rw [← hO]; rfl
      subst e
      clear hO
      go_wp2_with fail
      go_ret
      exact ⟨rfl, hB⟩
    rw [decide_eq_false h3, Bool.false_or] at hO
    have hq : (q == 0) = false := beq_false_of_ne h3
    by_cases h4 : n < q
    · have e : O = true := by rw [← hO, decide_eq_true h4]
      subst e
      clear hO
      go_wp2_with fail
      go_ret
      exact ⟨rfl, hB⟩
    · have e : O = false := by rw [← hO, decide_eq_false h4]
      subst e
      clear hO
      go_wp2_with fail
      go_ret
      exact ⟨rfl, hB⟩
  · have e : O = false := by rw [← hO, decide_eq_false h1, Bool.false_and]
    subst e
    clear hO
    go_wp2_with fail
    go_ret
    exact ⟨rfl, hB⟩
set_option maxHeartbeats 3200000 in
set_option maxRecDepth 100000 in
theorem rright9_any (P : Nat → Prop) (s : Bs) (y : Sl) (fs : List (Bs × Bs)) (l c p q : Int) (w : World) (h : FldsAt P w y.v fs) (hs : s.length ≤ 9223372036854775807) (hl : fs.length ≤ 1000000) (hfl : ∀ f ∈ fs, f.1.length ≤ 9223372036854775807 ∧ f.2.length ≤ 9223372036854775807) :
    Calls Tryd.prog 17 #[alV s y.v l c p q] w fun e w' => e = .returned (.bool (arB s fs l p q)) ∧ Below w.heap.size w w' := by
  have KN := Lib.hid fun w' => rname_any s w' hs
  have KR := Lib.hid fun w' (hb : Below w.heap.size w w') => right_at P y.v fs w' (h.stay hb) hl hfl
  have KL := Lib.hid fun w' => Lb.rright_any l c w'
  obtain ⟨O, hO⟩ : ∃ O, arB s fs l p q = O := ⟨_, rfl⟩
  rw [hO]
  unfold arB at hO
  have hsh : y.n = fs.length := by
    obtain ⟨_, _, e⟩ := h.shape
    injection e
  obtain ⟨ay, ny, ky⟩ := y
  simp only at hsh
  subst hsh
  clear h hs hl hfl
  generalize rightB fs = rb at *
  generalize nameB s = nb at *
  generalize rB l = lb at *
  generalize fs.length = n at *
  unfold alV
  simp only [Sl.v] at KR ⊢
  go_enter Tryd.func17, Tryd.ntmps17
  go_upto_region 1 with fail
  have hB : Below w.heap.size w (w.alloc (.cells #[.string ⟨s.toArray⟩, .slice ay n ky, .int .i64 l, .int .u32 c, .int .i64 p, .int .i64 q] 27)) := (Below.refl _ _).alloc (Nat.le_refl _) _
  have rA : Rw (w.alloc (.cells #[.string ⟨s.toArray⟩, .slice ay n ky, .int .i64 l, .int .u32 c, .int .i64 p, .int .i64 q] 27)) w.heap.size 27 [.string ⟨s.toArray⟩, .slice ay n ky, .int .i64 l, .int .u32 c, .int .i64 p, .int .i64 q] := Rw.new w 27 [.string ⟨s.toArray⟩, .slice ay n ky, .int .i64 l, .int .u32 c, .int .i64 p, .int .i64 q]
  generalize w.alloc (.cells #[.string ⟨s.toArray⟩, .slice ay n ky, .int .i64 l, .int .u32 c, .int .i64 p, .int .i64 q] 27) = w1 at *
  have e0 := Rw.cell rA 0
  simp only [List.getElem?_cons_zero] at e0
  go_wp2_with fail
  refine (KN.out _).mono ?_
  rintro e w2 ⟨rfl, hw⟩
  subst hw
  clear KN e0
  have e1 := Rw.cell rA 1
  simp only [List.getElem?_cons_zero, List.getElem?_cons_succ] at e1
  cases nb with
  | false =>
    rw [Bool.false_and] at hO
    subst hO
    go_wp2_with fail
    go_ret
    exact ⟨rfl, hB⟩
  | true =>
    rw [Bool.true_and] at hO
    by_cases hn : 0 < n
    · have hni : ¬ (n : Int) < 1 := by omega
      rw [decide_eq_true hn, Bool.true_and] at hO
      go_wp2_with fail
      refine (KR.out _ hB).mono ?_
      rintro e w3 ⟨rfl, hb⟩
      clear KR e1
      replace hB := hB.trans (hb.mono hB.size)
      replace rA := rA.stay hb
      clear hb
      have e2 := Rw.cell rA 2
      have e3 := Rw.cell rA 3
      simp only [List.getElem?_cons_zero, List.getElem?_cons_succ] at e2 e3
      cases rb with
      | false =>
        rw [Bool.false_and] at hO
        subst hO
        go_wp2_with fail
        go_ret
        exact ⟨rfl, hB⟩
      | true =>
        rw [Bool.true_and] at hO
        go_wp2_with fail
        refine (KL.out _).mono ?_
        rintro e w4 ⟨rfl, hb⟩
        clear KL e2 e3
        replace hB := hB.trans (hb.mono hB.size)
        replace rA := rA.stay hb
        clear hb
        have e4 := Rw.cell rA 4
        have e5 := Rw.cell rA 5
        simp only [List.getElem?_cons_zero, List.getElem?_cons_succ] at e4 e5
        cases lb with
        | false =>
          rw [Bool.false_and] at hO
          subst hO
          go_wp2_with fail
          go_ret
          exact ⟨rfl, hB⟩
        | true =>
          rw [Bool.true_and] at hO
          unfold timesB at hO
          by_cases h1 : 0 ≤ p
          · rw [decide_eq_true h1, Bool.true_and] at hO
            by_cases h2 : p ≤ 1099511627776
            · rw [decide_eq_true h2, Bool.true_and] at hO
              by_cases h3 : q = 0
              · subst h3
                have e : O = true := by rw [← hO]; rfl
                subst e
                clear hO
                go_wp2_with fail
                go_ret
                exact ⟨rfl, hB⟩
              · rw [decide_eq_false h3, Bool.false_or] at hO
                have hq : (q == 0) = false := beq_false_of_ne h3
                by_cases h4 : p < q
                · rw [decide_eq_true h4, Bool.true_and] at hO
                  by_cases h5 : q ≤ 1099511627776
                  · have e : O = true := by rw [← hO, decide_eq_true h5]
                    subst e
                    clear hO
                    go_wp2_with fail
                    go_ret
                    exact ⟨rfl, hB⟩
                  · have e : O = false := by rw [← hO, decide_eq_false h5]
                    subst e
                    clear hO
                    go_wp2_with fail
                    go_ret
                    exact ⟨congrArg (fun b => Ending.returned (.bool b)) (decide_eq_false (by omega)), hB⟩
                · have e : O = false := by rw [← hO, decide_eq_false h4, Bool.false_and]
                  subst e
                  clear hO
                  go_wp2_with fail
                  go_ret
                  exact ⟨rfl, hB⟩
            · have e : O = false := by rw [← hO, decide_eq_false h2, Bool.false_and]
              subst e
              clear hO
              go_wp2_with fail
              go_ret
              exact ⟨rfl, hB⟩
          · have e : O = false := by rw [← hO, decide_eq_false h1, Bool.false_and]
            subst e
            clear hO
            go_wp2_with fail
            go_ret
            exact ⟨rfl, hB⟩
    · have hni : (n : Int) < 1 := by omega
      rw [decide_eq_false hn, Bool.false_and] at hO
      subst hO
      go_wp2_with fail
      go_ret
      exact ⟨rfl, hB⟩
end Go.Proofs.YtknhkmlihbgjpaaDoor
