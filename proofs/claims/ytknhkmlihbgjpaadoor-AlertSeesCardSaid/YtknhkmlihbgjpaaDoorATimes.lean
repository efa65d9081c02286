/- alert.Right, alert.Fires. -/
import Derived.Test.YtknhkmlihbgjpaaDoorARight
import Derived.Test.YtknhkmlihbgjpaaDoorACut
namespace Go.Proofs.YtknhkmlihbgjpaaDoor
open Go.ChangeShapes Go.WideShapes Go.RowKit

def timesB (p q : Int) : Bool := decide (0 ≤ p) && (decide (p ≤ 1099511627776) && (decide (q = 0) || (decide (p < q) && decide (q ≤ 1099511627776))))
def firesB (p q n : Int) : Bool := decide (p ≤ n) && (decide (q = 0) || decide (n < q))
def arB (s : Bs) (fs : List (Bs × Bs)) (l p q : Int) : Bool := nameB s && (decide (0 < fs.length) && (rightB fs && (rB l && timesB p q)))
set_option maxHeartbeats 1600000 in
theorem times_any (p q : Int) (w : World) : Calls Tryd.prog 44 #[.int .i64 p, .int .i64 q] w fun e w' => e = .returned (.bool (timesB p q)) ∧ w' = w := by
  obtain ⟨O, hO⟩ : ∃ O, timesB p q = O := ⟨_, rfl⟩
  rw [hO]
  unfold timesB at hO
  go_enter Tryd.func44, Tryd.ntmps44
  by_cases h1 : p < 0
  · have e : O = false := by rw [← hO, decide_eq_false (by omega : ¬ 0 ≤ p), Bool.false_and]
    subst e
    clear hO
    go_wp2_with fail
    go_ret
    exact ⟨rfl, rfl⟩
  by_cases h2 : 1099511627776 < p
  · have e : O = false := by rw [← hO, decide_eq_false (by omega : ¬ p ≤ 1099511627776), Bool.false_and, Bool.and_false]
    subst e
    clear hO
    go_wp2_with fail
    go_ret
    exact ⟨rfl, rfl⟩
  rw [decide_eq_true (by omega : 0 ≤ p), decide_eq_true (by omega : p ≤ 1099511627776), Bool.true_and, Bool.true_and] at hO
  by_cases h3 : q = 0
  · subst h3
    have e : O = true := by rw [← hO]; rfl
    subst e
    clear hO
    go_wp2_with fail
    go_ret
    exact ⟨rfl, rfl⟩
  rw [decide_eq_false h3, Bool.false_or] at hO
  have hq : (q == 0) = false := beq_false_of_ne h3
  by_cases h4 : p < q
  · rw [decide_eq_true h4, Bool.true_and] at hO
    by_cases h5 : q ≤ 1099511627776
    · have e : O = true := by rw [← hO, decide_eq_true h5]
      subst e
      clear hO
      go_wp2_with fail
      go_ret
      exact ⟨rfl, rfl⟩
    · have e : O = false := by rw [← hO, decide_eq_false h5]
      subst e
      clear hO
      go_wp2_with fail
      go_ret
      exact ⟨rfl, rfl⟩
  · have e : O = false := by rw [← hO, decide_eq_false h4, Bool.false_and]
    subst e
    clear hO
    go_wp2_with fail
    go_ret
    exact ⟨rfl, rfl⟩
set_option maxHeartbeats 1600000 in
theorem fires_any (s : Bs) (y : Sl) (l c p q n : Int) (w : World) : Calls Tryd.prog 20 #[alV s y.v l c p q, .int .i64 n] w fun e w' => e = .returned (.bool (firesB p q n)) ∧ Below w.heap.size w w' := by
  obtain ⟨O, hO⟩ : ∃ O, firesB p q n = O := ⟨_, rfl⟩
  rw [hO]
  unfold firesB at hO
  obtain ⟨ay, ny, ky⟩ := y
  unfold alV
  simp only [Sl.v]
  have hB : Below w.heap.size w (w.alloc (.cells #[.string ⟨s.toArray⟩, .slice ay ny ky, .int .i64 l, .int .u32 c, .int .i64 p, .int .i64 q] 29)) := (Below.refl _ _).alloc (Nat.le_refl _) _
  go_enter Tryd.func20, Tryd.ntmps20
  by_cases h1 : p ≤ n
  · rw [decide_eq_true h1, Bool.true_and] at hO
    by_cases h3 : q = 0
    · subst h3
      have e : O = true := by rw [← hO]; rfl
      subst e
      clear hO
      go_wp2_with fail
      go_ret
      exact ⟨rfl, hB⟩
    rw [decide_eq_false h3, Bool.false_or] at hO
    have hq : (q == 0) = false := beq_false_of_ne h3
    by_cases h4 : n < q
    · have e : O = true := by rw [← hO, decide_eq_true h4]
      subst e
      clear hO
      go_wp2_with fail
      go_ret
      exact ⟨rfl, hB⟩
    · have e : O = false := by rw [← hO, decide_eq_false h4]
      subst e
      clear hO
      go_wp2_with fail
      go_ret
      exact ⟨rfl, hB⟩
  · have e : O = false := by rw [← hO, decide_eq_false h1, Bool.false_and]
    subst e
    clear hO
    go_wp2_with fail
    go_ret
    exact ⟨rfl, hB⟩
set_option maxHeartbeats 3200000 in
set_option maxRecDepth 100000 in
theorem aright_any (P : Nat → Prop) (s : Bs) (y : Sl) (fs : List (Bs × Bs)) (l c p q : Int) (w : World) (h : FldsAt P w y.v fs) (hs : s.length ≤ 9223372036854775807) (hl : fs.length ≤ 1000000) (hfl : ∀ f ∈ fs, f.1.length ≤ 9223372036854775807 ∧ f.2.length ≤ 9223372036854775807) :
    Calls Tryd.prog 16 #[alV s y.v l c p q] w fun e w' => e = .returned (.bool (arB s fs l p q)) ∧ Below w.heap.size w w' := by
  have KN := Lib.hid fun w' => name_any s w' hs
  have KR := Lib.hid fun w' (hb : Below w.heap.size w w') => rightm_any P y.v fs w' (h.stay hb) hl hfl
  have KL := Lib.hid fun w' => right_any l c w'
  have KT := Lib.hid fun w' => times_any p q w'
  obtain ⟨O, hO⟩ : ∃ O, arB s fs l p q = O := ⟨_, rfl⟩
  rw [hO]
  unfold arB at hO
  have hsh : y.n = fs.length := by
    obtain ⟨_, _, e⟩ := h.shape
    injection e
  obtain ⟨ay, ny, ky⟩ := y
  simp only at hsh
  subst hsh
  clear h hs hl hfl
  generalize rightB fs = rb at *
  generalize nameB s = nb at *
  generalize rB l = lb at *
  generalize timesB p q = tb at *
  generalize fs.length = n at *
  unfold alV
  simp only [Sl.v] at KR ⊢
  go_enter Tryd.func16, Tryd.ntmps16
  go_upto_region 1 with fail
  have hB : Below w.heap.size w (w.alloc (.cells #[.string ⟨s.toArray⟩, .slice ay n ky, .int .i64 l, .int .u32 c, .int .i64 p, .int .i64 q] 29)) := (Below.refl _ _).alloc (Nat.le_refl _) _
  have rA : Rw (w.alloc (.cells #[.string ⟨s.toArray⟩, .slice ay n ky, .int .i64 l, .int .u32 c, .int .i64 p, .int .i64 q] 29)) w.heap.size 29 [.string ⟨s.toArray⟩, .slice ay n ky, .int .i64 l, .int .u32 c, .int .i64 p, .int .i64 q] := Rw.new w 29 [.string ⟨s.toArray⟩, .slice ay n ky, .int .i64 l, .int .u32 c, .int .i64 p, .int .i64 q]
  generalize w.alloc (.cells #[.string ⟨s.toArray⟩, .slice ay n ky, .int .i64 l, .int .u32 c, .int .i64 p, .int .i64 q] 29) = w1 at *
  have e0 := Rw.cell rA 0
  simp only [List.getElem?_cons_zero] at e0
  go_wp2_with fail
  refine (KN.out _).mono ?_
  rintro e w2 ⟨rfl, rfl⟩
  clear KN e0
  have e1 := Rw.cell rA 1
  simp only [List.getElem?_cons_zero, List.getElem?_cons_succ] at e1
  cases nb with
  | false =>
    rw [Bool.false_and] at hO
    subst hO
    go_wp2_with fail
    go_ret
    exact ⟨rfl, hB⟩
  | true =>
    rw [Bool.true_and] at hO
    by_cases hn : 0 < n
    · have hni : (0 : Int) < (n : Int) := by omega
      rw [decide_eq_true hn, Bool.true_and] at hO
      go_wp2_with fail
      refine (KR.out _ hB).mono ?_
      rintro e w3 ⟨rfl, hb⟩
      clear KR e1
      replace hB := hB.trans (hb.mono hB.size)
      replace rA := rA.stay hb
      clear hb
      have e2 := Rw.cell rA 2
      have e3 := Rw.cell rA 3
      simp only [List.getElem?_cons_zero, List.getElem?_cons_succ] at e2 e3
      cases rb with
      | false =>
        rw [Bool.false_and] at hO
        subst hO
        go_wp2_with fail
        go_ret
        exact ⟨rfl, hB⟩
      | true =>
        rw [Bool.true_and] at hO
        go_wp2_with fail
        refine (KL.out _).mono ?_
        rintro e w4 ⟨rfl, hb⟩
        clear KL e2 e3
        replace hB := hB.trans (hb.mono hB.size)
        replace rA := rA.stay hb
        clear hb
        have e4 := Rw.cell rA 4
        have e5 := Rw.cell rA 5
        simp only [List.getElem?_cons_zero, List.getElem?_cons_succ] at e4 e5
        cases lb with
        | false =>
          rw [Bool.false_and] at hO
          subst hO
          go_wp2_with fail
          go_ret
          exact ⟨rfl, hB⟩
        | true =>
          rw [Bool.true_and] at hO
          subst hO
          go_wp2_with fail
          refine (KT.out _).mono ?_
          rintro e w5 ⟨rfl, rfl⟩
          go_wp2_with fail
          go_ret
          exact ⟨rfl, hB⟩
    · have hni : ¬ (0 : Int) < (n : Int) := by omega
      rw [decide_eq_false hn, Bool.false_and] at hO
      subst hO
      go_wp2_with fail
      go_ret
      exact ⟨rfl, hB⟩
end Go.Proofs.YtknhkmlihbgjpaaDoor
