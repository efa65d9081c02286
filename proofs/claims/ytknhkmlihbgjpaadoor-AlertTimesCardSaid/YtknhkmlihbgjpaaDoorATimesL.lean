/- AlertTimes returns true: the law. -/
import Derived.Test.YtknhkmlihbgjpaaDoorABack
namespace Go.Proofs.YtknhkmlihbgjpaaDoor
open Go.ChangeShapes Go.WideShapes Go.RowKit

set_option maxHeartbeats 6400000 in
set_option maxRecDepth 100000 in
theorem times_law (P : Nat → Prop) (s : Bs) (y : Sl) (fs : List (Bs × Bs)) (l c p q n : Int) (w : World) (ht : Dg.Tabs w) (h : FldsAt P w y.v fs) (hs : s.length ≤ 9223372036854775807) (hl : fs.length ≤ 9223372036854775807) (hfl : ∀ f ∈ fs, f.1.length ≤ 9223372036854775807 ∧ f.2.length ≤ 9223372036854775807) :
    Calls Tryd.prog 9 #[alV s y.v l c p q, .int .i64 n] w fun e w' => e = .returned (.bool true) ∧ Below w.heap.size w w' := by
  have KL := Lib.hid fun w' (hb : Below w.heap.size w w') => lives_any w' (ht.keep hb)
  have KB := Lib.hid fun w' (hb : Below w.heap.size w w') => back_any P s y fs l c p q w' (h.stay hb) hl
  have hfl2 : ∀ f ∈ fs.take 12, f.1.length ≤ 9223372036854775807 ∧ f.2.length ≤ 9223372036854775807 := fun f hf => hfl f (List.mem_of_mem_take hf)
  have hl2 : (fs.take 12).length ≤ 1000000 := by rw [List.length_take]; omega
  have KR := Lib.hid fun z w' (hz : FldsAt P w' (Sl.v z) (fs.take 12)) => aright_any P s z (fs.take 12) l c p q w' hz hs hl2 hfl2
  clear h hl hfl hfl2 hl2 ht
  generalize fs.take 12 = F at *
  obtain ⟨ay, ny, ky⟩ := y
  unfold alV at *
  simp only [Sl.v] at KB ⊢
  go_enter Tryd.func9, Tryd.ntmps9
  go_upto_region 1 with fail
  have hB : Below w.heap.size w (w.alloc (.cells #[.string ⟨s.toArray⟩, .slice ay ny ky, .int .i64 l, .int .u32 c, .int .i64 p, .int .i64 q] 27)) := (Below.refl _ _).alloc (Nat.le_refl _) _
  have rA : Rw (w.alloc (.cells #[.string ⟨s.toArray⟩, .slice ay ny ky, .int .i64 l, .int .u32 c, .int .i64 p, .int .i64 q] 27)) w.heap.size 27 [.string ⟨s.toArray⟩, .slice ay ny ky, .int .i64 l, .int .u32 c, .int .i64 p, .int .i64 q] := Rw.new w 27 [.string ⟨s.toArray⟩, .slice ay ny ky, .int .i64 l, .int .u32 c, .int .i64 p, .int .i64 q]
  generalize w.alloc (.cells #[.string ⟨s.toArray⟩, .slice ay ny ky, .int .i64 l, .int .u32 c, .int .i64 p, .int .i64 q] 27) = w1 at *
  go_wp2_with fail
  refine (KL.out _ hB).mono ?_
  rintro e w2 ⟨rfl, hb⟩
  have hB2 := hB.trans (hb.mono hB.size)
  replace rA := rA.stay hb
  clear KL hb hB
  have a0 := Rw.cell rA 0
  have a1 := Rw.cell rA 1
  have a2 := Rw.cell rA 2
  have a3 := Rw.cell rA 3
  have a4 := Rw.cell rA 4
  have a5 := Rw.cell rA 5
  simp only [List.getElem?_cons_zero, List.getElem?_cons_succ] at a0 a1 a2 a3 a4 a5
  go_wp2_with fail
  refine (KB.out _ hB2).mono ?_
  rintro e w3 ⟨⟨az, nz, kz⟩, rfl, hz, hb⟩
  have hB3 := hB2.trans (hb.mono hB2.size)
  clear KB hb hB2 rA a0 a1 a2 a3 a4 a5
  simp only at hz ⊢
  have hal : Below w3.heap.size w3 (w3.alloc (.cells #[.string ⟨s.toArray⟩, .slice az nz kz, .int .i64 l, .int .u32 c, .int .i64 p, .int .i64 q] 29)) := (Below.refl _ _).alloc (Nat.le_refl _) _
  have rX : Rw (w3.alloc (.cells #[.string ⟨s.toArray⟩, .slice az nz kz, .int .i64 l, .int .u32 c, .int .i64 p, .int .i64 q] 29)) w3.heap.size 29 [.string ⟨s.toArray⟩, .slice az nz kz, .int .i64 l, .int .u32 c, .int .i64 p, .int .i64 q] := Rw.new w3 29 [.string ⟨s.toArray⟩, .slice az nz kz, .int .i64 l, .int .u32 c, .int .i64 p, .int .i64 q]
  have hB4 := hB3.trans (hal.mono hB3.size)
  have hz4 := hz.stay hal
  go_upto_region 4 with fail
  generalize w3.alloc (.cells #[.string ⟨s.toArray⟩, .slice az nz kz, .int .i64 l, .int .u32 c, .int .i64 p, .int .i64 q] 29) = w4 at *
  generalize w3.heap.size = X at *
  clear hal hz hB3
  have K := KR.out ⟨az, nz, kz⟩ w4 hz4
  simp only [Sl.v] at K
  replace K := Lib.hid K
  have a0 := Rw.cell rX 0
  have a1 := Rw.cell rX 1
  have a2 := Rw.cell rX 2
  have a3 := Rw.cell rX 3
  have a4 := Rw.cell rX 4
  have a5 := Rw.cell rX 5
  simp only [List.getElem?_cons_zero, List.getElem?_cons_succ] at a0 a1 a2 a3 a4 a5
  have har : arB s F l p q = true → timesB p q = true := fun e => by
    unfold arB at e
    simp only [Bool.and_eq_true] at e
    exact e.2.2.2.2
  generalize arB s F l p q = ar at *
  go_wp2_with fail
  refine K.out.mono ?_
  rintro e w5 ⟨rfl, hb⟩
  have hB5 := hB4.trans (hb.mono hB4.size)
  replace rX := rX.stay hb
  clear KR K hb hB4 hz4 a0 a1 a2 a3 a4 a5
  cases ar with
  | false =>
    go_wp2_with fail
    go_ret
    exact ⟨rfl, hB5⟩
  | true =>
    have hpq : (0 ≤ p ∧ p ≤ 1099511627776) ∧ (q = 0 ∨ (p < q ∧ q ≤ 1099511627776)) := by
      have e := har rfl
      unfold timesB at e
      simp only [Bool.and_eq_true, Bool.or_eq_true, decide_eq_true_eq] at e
      exact ⟨⟨e.1, e.2.1⟩, e.2.2⟩
    clear har
    go_upto_region 7 with fail
    have hN : 0 ≤ wrap64 ((IntKind.u64.wrap n).tmod 2199023255552) ∧ wrap64 ((IntKind.u64.wrap n).tmod 2199023255552) < 2199023255552 := by
      have h0 : 0 ≤ IntKind.u64.wrap n := by simp [IntKind.wrap, IntKind.signed, IntKind.bits]; omega
      generalize IntKind.u64.wrap n = u at *
      rw [Int.tmod_eq_emod_of_nonneg h0]
      have h1 := Int.emod_nonneg u (b := 2199023255552) (by decide)
      have h2 := Int.emod_lt_of_pos u (b := 2199023255552) (by decide)
      generalize u % 2199023255552 = v at *
      have e : wrap64 v = v := by unfold wrap64; omega
      rw [e]
      exact ⟨h1, h2⟩
    generalize wrap64 ((IntKind.u64.wrap n).tmod 2199023255552) = N at *
    generalize IntKind.u64.wrap n = un at *
    obtain ⟨⟨hp0, hp1⟩, hq⟩ := hpq
    have hN0 := hN.1
    have hN1 := hN.2
    have KF := Lib.hid fun n w' => fires_any s ⟨az, nz, kz⟩ l c p q n w'
    unfold alV at KF
    simp only [Sl.v] at KF
    have a0 := Rw.cell rX 0
    have a1 := Rw.cell rX 1
    have a2 := Rw.cell rX 2
    have a3 := Rw.cell rX 3
    have a4 := Rw.cell rX 4
    have a5 := Rw.cell rX 5
    simp only [List.getElem?_cons_zero, List.getElem?_cons_succ] at a0 a1 a2 a3 a4 a5
    by_cases h1 : p ≤ N
    · by_cases h2 : q = 0
      · skip
        have hBw5 := hB5
        clear hB5
        subst h2
        have K1 := KF.out (N) w5
        rw [show firesB p 0 (N) = true by unfold firesB; rw [decide_eq_true h1]; rfl] at K1
        replace K1 := Lib.hid K1
        go_wp2_with fail
        refine K1.out.mono ?_
        rintro e w6 ⟨rfl, hb⟩
        have hBw6 := hBw5.trans (hb.mono hBw5.size)
        replace rX := rX.stay hb
        clear K1 hb hBw5 a0 a1 a2 a3 a4 a5
        have a0 := Rw.cell rX 0
        have a1 := Rw.cell rX 1
        have a2 := Rw.cell rX 2
        have a3 := Rw.cell rX 3
        have a4 := Rw.cell rX 4
        have a5 := Rw.cell rX 5
        simp only [List.getElem?_cons_zero, List.getElem?_cons_succ] at a0 a1 a2 a3 a4 a5
        have K2 := KF.out (p) w6
        rw [show firesB p 0 (p) = true by unfold firesB; rw [decide_eq_true (Int.le_refl p)]; rfl] at K2
        replace K2 := Lib.hid K2
        go_wp2_with fail
        refine K2.out.mono ?_
        rintro e w7 ⟨rfl, hb⟩
        have hBw7 := hBw6.trans (hb.mono hBw6.size)
        replace rX := rX.stay hb
        clear K2 hb hBw6 a0 a1 a2 a3 a4 a5
        have a0 := Rw.cell rX 0
        have a1 := Rw.cell rX 1
        have a2 := Rw.cell rX 2
        have a3 := Rw.cell rX 3
        have a4 := Rw.cell rX 4
        have a5 := Rw.cell rX 5
        simp only [List.getElem?_cons_zero, List.getElem?_cons_succ] at a0 a1 a2 a3 a4 a5
        have K3 := KF.out (p - 1) w7
        rw [show firesB p 0 (p - 1) = false by unfold firesB; rw [decide_eq_false (by omega : ¬ p ≤ p - 1)]; rfl] at K3
        replace K3 := Lib.hid K3
        go_wp2_with fail
        refine K3.out.mono ?_
        rintro e w8 ⟨rfl, hb⟩
        have hBw8 := hBw7.trans (hb.mono hBw7.size)
        replace rX := rX.stay hb
        clear K3 hb hBw7 a0 a1 a2 a3 a4 a5
        have a0 := Rw.cell rX 0
        have a1 := Rw.cell rX 1
        have a2 := Rw.cell rX 2
        have a3 := Rw.cell rX 3
        have a4 := Rw.cell rX 4
        have a5 := Rw.cell rX 5
        simp only [List.getElem?_cons_zero, List.getElem?_cons_succ] at a0 a1 a2 a3 a4 a5
        have K4 := KF.out (2199023255552) w8
        rw [show firesB p 0 (2199023255552) = true by unfold firesB; rw [decide_eq_true (by omega : p ≤ 2199023255552)]; rfl] at K4
        replace K4 := Lib.hid K4
        go_wp2_with fail
        refine K4.out.mono ?_
        rintro e w9 ⟨rfl, hb⟩
        have hBw9 := hBw8.trans (hb.mono hBw8.size)
        replace rX := rX.stay hb
        clear K4 hb hBw8 a0 a1 a2 a3 a4 a5
        go_wp2_with fail
        go_ret
        exact ⟨rfl, hBw9⟩
      · by_cases h4 : N < q
        · skip
          have hBw5 := hB5
          clear hB5
          have hq2 : (q == 0) = false := beq_false_of_ne h2
          have hqp : p < q := by omega
          have hq1 : q ≤ 1099511627776 := by omega
          have hq0 : 0 < q := by omega
          have K1 := KF.out (N) w5
          rw [show firesB p q (N) = true by unfold firesB; rw [decide_eq_true h1, decide_eq_false h2, decide_eq_true h4]; rfl] at K1
          replace K1 := Lib.hid K1
          go_wp2_with fail
          refine K1.out.mono ?_
          rintro e w6 ⟨rfl, hb⟩
          have hBw6 := hBw5.trans (hb.mono hBw5.size)
          replace rX := rX.stay hb
          clear K1 hb hBw5 a0 a1 a2 a3 a4 a5
          have a0 := Rw.cell rX 0
          have a1 := Rw.cell rX 1
          have a2 := Rw.cell rX 2
          have a3 := Rw.cell rX 3
          have a4 := Rw.cell rX 4
          have a5 := Rw.cell rX 5
          simp only [List.getElem?_cons_zero, List.getElem?_cons_succ] at a0 a1 a2 a3 a4 a5
          have K2 := KF.out (p) w6
          rw [show firesB p q (p) = true by unfold firesB; rw [decide_eq_true (Int.le_refl p), decide_eq_false h2, decide_eq_true hqp]; rfl] at K2
          replace K2 := Lib.hid K2
          go_wp2_with fail
          refine K2.out.mono ?_
          rintro e w7 ⟨rfl, hb⟩
          have hBw7 := hBw6.trans (hb.mono hBw6.size)
          replace rX := rX.stay hb
          clear K2 hb hBw6 a0 a1 a2 a3 a4 a5
          have a0 := Rw.cell rX 0
          have a1 := Rw.cell rX 1
          have a2 := Rw.cell rX 2
          have a3 := Rw.cell rX 3
          have a4 := Rw.cell rX 4
          have a5 := Rw.cell rX 5
          simp only [List.getElem?_cons_zero, List.getElem?_cons_succ] at a0 a1 a2 a3 a4 a5
          have K3 := KF.out (p - 1) w7
          rw [show firesB p q (p - 1) = false by unfold firesB; rw [decide_eq_false (by omega : ¬ p ≤ p - 1)]; rfl] at K3
          replace K3 := Lib.hid K3
          go_wp2_with fail
          refine K3.out.mono ?_
          rintro e w8 ⟨rfl, hb⟩
          have hBw8 := hBw7.trans (hb.mono hBw7.size)
          replace rX := rX.stay hb
          clear K3 hb hBw7 a0 a1 a2 a3 a4 a5
          have a0 := Rw.cell rX 0
          have a1 := Rw.cell rX 1
          have a2 := Rw.cell rX 2
          have a3 := Rw.cell rX 3
          have a4 := Rw.cell rX 4
          have a5 := Rw.cell rX 5
          simp only [List.getElem?_cons_zero, List.getElem?_cons_succ] at a0 a1 a2 a3 a4 a5
          have K4 := KF.out (q) w8
          rw [show firesB p q (q) = false by unfold firesB; rw [decide_eq_true (by omega : p ≤ q), decide_eq_false h2, decide_eq_false (Int.lt_irrefl q)]; rfl] at K4
          replace K4 := Lib.hid K4
          go_wp2_with fail
          refine K4.out.mono ?_
          rintro e w9 ⟨rfl, hb⟩
          have hBw9 := hBw8.trans (hb.mono hBw8.size)
          replace rX := rX.stay hb
          clear K4 hb hBw8 a0 a1 a2 a3 a4 a5
          have a0 := Rw.cell rX 0
          have a1 := Rw.cell rX 1
          have a2 := Rw.cell rX 2
          have a3 := Rw.cell rX 3
          have a4 := Rw.cell rX 4
          have a5 := Rw.cell rX 5
          simp only [List.getElem?_cons_zero, List.getElem?_cons_succ] at a0 a1 a2 a3 a4 a5
          have K5 := KF.out (q - 1) w9
          rw [show firesB p q (q - 1) = true by unfold firesB; rw [decide_eq_true (by omega : p ≤ q - 1), decide_eq_false h2, decide_eq_true (by omega : q - 1 < q)]; rfl] at K5
          replace K5 := Lib.hid K5
          go_wp2_with fail
          refine K5.out.mono ?_
          rintro e w10 ⟨rfl, hb⟩
          have hBw10 := hBw9.trans (hb.mono hBw9.size)
          replace rX := rX.stay hb
          clear K5 hb hBw9 a0 a1 a2 a3 a4 a5
          go_wp2_with fail
          go_ret
          exact ⟨rfl, hBw10⟩
        · skip
          have hBw5 := hB5
          clear hB5
          have hq2 : (q == 0) = false := beq_false_of_ne h2
          have hqp : p < q := by omega
          have hq1 : q ≤ 1099511627776 := by omega
          have hq0 : 0 < q := by omega
          have K1 := KF.out (N) w5
          rw [show firesB p q (N) = false by unfold firesB; rw [decide_eq_true h1, decide_eq_false h2, decide_eq_false h4]; rfl] at K1
          replace K1 := Lib.hid K1
          go_wp2_with fail
          refine K1.out.mono ?_
          rintro e w6 ⟨rfl, hb⟩
          have hBw6 := hBw5.trans (hb.mono hBw5.size)
          replace rX := rX.stay hb
          clear K1 hb hBw5 a0 a1 a2 a3 a4 a5
          have a0 := Rw.cell rX 0
          have a1 := Rw.cell rX 1
          have a2 := Rw.cell rX 2
          have a3 := Rw.cell rX 3
          have a4 := Rw.cell rX 4
          have a5 := Rw.cell rX 5
          simp only [List.getElem?_cons_zero, List.getElem?_cons_succ] at a0 a1 a2 a3 a4 a5
          have K2 := KF.out (p) w6
          rw [show firesB p q (p) = true by unfold firesB; rw [decide_eq_true (Int.le_refl p), decide_eq_false h2, decide_eq_true hqp]; rfl] at K2
          replace K2 := Lib.hid K2
          go_wp2_with fail
          refine K2.out.mono ?_
          rintro e w7 ⟨rfl, hb⟩
          have hBw7 := hBw6.trans (hb.mono hBw6.size)
          replace rX := rX.stay hb
          clear K2 hb hBw6 a0 a1 a2 a3 a4 a5
          have a0 := Rw.cell rX 0
          have a1 := Rw.cell rX 1
          have a2 := Rw.cell rX 2
          have a3 := Rw.cell rX 3
          have a4 := Rw.cell rX 4
          have a5 := Rw.cell rX 5
          simp only [List.getElem?_cons_zero, List.getElem?_cons_succ] at a0 a1 a2 a3 a4 a5
          have K3 := KF.out (p - 1) w7
          rw [show firesB p q (p - 1) = false by unfold firesB; rw [decide_eq_false (by omega : ¬ p ≤ p - 1)]; rfl] at K3
          replace K3 := Lib.hid K3
          go_wp2_with fail
          refine K3.out.mono ?_
          rintro e w8 ⟨rfl, hb⟩
          have hBw8 := hBw7.trans (hb.mono hBw7.size)
          replace rX := rX.stay hb
          clear K3 hb hBw7 a0 a1 a2 a3 a4 a5
          have a0 := Rw.cell rX 0
          have a1 := Rw.cell rX 1
          have a2 := Rw.cell rX 2
          have a3 := Rw.cell rX 3
          have a4 := Rw.cell rX 4
          have a5 := Rw.cell rX 5
          simp only [List.getElem?_cons_zero, List.getElem?_cons_succ] at a0 a1 a2 a3 a4 a5
          have K4 := KF.out (q) w8
          rw [show firesB p q (q) = false by unfold firesB; rw [decide_eq_true (by omega : p ≤ q), decide_eq_false h2, decide_eq_false (Int.lt_irrefl q)]; rfl] at K4
          replace K4 := Lib.hid K4
          go_wp2_with fail
          refine K4.out.mono ?_
          rintro e w9 ⟨rfl, hb⟩
          have hBw9 := hBw8.trans (hb.mono hBw8.size)
          replace rX := rX.stay hb
          clear K4 hb hBw8 a0 a1 a2 a3 a4 a5
          have a0 := Rw.cell rX 0
          have a1 := Rw.cell rX 1
          have a2 := Rw.cell rX 2
          have a3 := Rw.cell rX 3
          have a4 := Rw.cell rX 4
          have a5 := Rw.cell rX 5
          simp only [List.getElem?_cons_zero, List.getElem?_cons_succ] at a0 a1 a2 a3 a4 a5
          have K5 := KF.out (q - 1) w9
          rw [show firesB p q (q - 1) = true by unfold firesB; rw [decide_eq_true (by omega : p ≤ q - 1), decide_eq_false h2, decide_eq_true (by omega : q - 1 < q)]; rfl] at K5
          replace K5 := Lib.hid K5
          go_wp2_with fail
          refine K5.out.mono ?_
          rintro e w10 ⟨rfl, hb⟩
          have hBw10 := hBw9.trans (hb.mono hBw9.size)
          replace rX := rX.stay hb
          clear K5 hb hBw9 a0 a1 a2 a3 a4 a5
          go_wp2_with fail
          go_ret
          exact ⟨rfl, hBw10⟩
    · by_cases h2 : q = 0
      · skip
        have hBw5 := hB5
        clear hB5
        subst h2
        have K1 := KF.out (N) w5
        rw [show firesB p 0 (N) = false by unfold firesB; rw [decide_eq_false h1]; rfl] at K1
        replace K1 := Lib.hid K1
        go_wp2_with fail
        refine K1.out.mono ?_
        rintro e w6 ⟨rfl, hb⟩
        have hBw6 := hBw5.trans (hb.mono hBw5.size)
        replace rX := rX.stay hb
        clear K1 hb hBw5 a0 a1 a2 a3 a4 a5
        have a0 := Rw.cell rX 0
        have a1 := Rw.cell rX 1
        have a2 := Rw.cell rX 2
        have a3 := Rw.cell rX 3
        have a4 := Rw.cell rX 4
        have a5 := Rw.cell rX 5
        simp only [List.getElem?_cons_zero, List.getElem?_cons_succ] at a0 a1 a2 a3 a4 a5
        have K2 := KF.out (p) w6
        rw [show firesB p 0 (p) = true by unfold firesB; rw [decide_eq_true (Int.le_refl p)]; rfl] at K2
        replace K2 := Lib.hid K2
        go_wp2_with fail
        refine K2.out.mono ?_
        rintro e w7 ⟨rfl, hb⟩
        have hBw7 := hBw6.trans (hb.mono hBw6.size)
        replace rX := rX.stay hb
        clear K2 hb hBw6 a0 a1 a2 a3 a4 a5
        have a0 := Rw.cell rX 0
        have a1 := Rw.cell rX 1
        have a2 := Rw.cell rX 2
        have a3 := Rw.cell rX 3
        have a4 := Rw.cell rX 4
        have a5 := Rw.cell rX 5
        simp only [List.getElem?_cons_zero, List.getElem?_cons_succ] at a0 a1 a2 a3 a4 a5
        have K3 := KF.out (p - 1) w7
        rw [show firesB p 0 (p - 1) = false by unfold firesB; rw [decide_eq_false (by omega : ¬ p ≤ p - 1)]; rfl] at K3
        replace K3 := Lib.hid K3
        go_wp2_with fail
        refine K3.out.mono ?_
        rintro e w8 ⟨rfl, hb⟩
        have hBw8 := hBw7.trans (hb.mono hBw7.size)
        replace rX := rX.stay hb
        clear K3 hb hBw7 a0 a1 a2 a3 a4 a5
        have a0 := Rw.cell rX 0
        have a1 := Rw.cell rX 1
        have a2 := Rw.cell rX 2
        have a3 := Rw.cell rX 3
        have a4 := Rw.cell rX 4
        have a5 := Rw.cell rX 5
        simp only [List.getElem?_cons_zero, List.getElem?_cons_succ] at a0 a1 a2 a3 a4 a5
        have K4 := KF.out (2199023255552) w8
        rw [show firesB p 0 (2199023255552) = true by unfold firesB; rw [decide_eq_true (by omega : p ≤ 2199023255552)]; rfl] at K4
        replace K4 := Lib.hid K4
        go_wp2_with fail
        refine K4.out.mono ?_
        rintro e w9 ⟨rfl, hb⟩
        have hBw9 := hBw8.trans (hb.mono hBw8.size)
        replace rX := rX.stay hb
        clear K4 hb hBw8 a0 a1 a2 a3 a4 a5
        go_wp2_with fail
        go_ret
        exact ⟨rfl, hBw9⟩
      · skip
        have hBw5 := hB5
        clear hB5
        have hq2 : (q == 0) = false := beq_false_of_ne h2
        have hqp : p < q := by omega
        have hq1 : q ≤ 1099511627776 := by omega
        have hq0 : 0 < q := by omega
        have K1 := KF.out (N) w5
        rw [show firesB p q (N) = false by unfold firesB; rw [decide_eq_false h1]; rfl] at K1
        replace K1 := Lib.hid K1
        go_wp2_with fail
        refine K1.out.mono ?_
        rintro e w6 ⟨rfl, hb⟩
        have hBw6 := hBw5.trans (hb.mono hBw5.size)
        replace rX := rX.stay hb
        clear K1 hb hBw5 a0 a1 a2 a3 a4 a5
        have a0 := Rw.cell rX 0
        have a1 := Rw.cell rX 1
        have a2 := Rw.cell rX 2
        have a3 := Rw.cell rX 3
        have a4 := Rw.cell rX 4
        have a5 := Rw.cell rX 5
        simp only [List.getElem?_cons_zero, List.getElem?_cons_succ] at a0 a1 a2 a3 a4 a5
        have K2 := KF.out (p) w6
        rw [show firesB p q (p) = true by unfold firesB; rw [decide_eq_true (Int.le_refl p), decide_eq_false h2, decide_eq_true hqp]; rfl] at K2
        replace K2 := Lib.hid K2
        go_wp2_with fail
        refine K2.out.mono ?_
        rintro e w7 ⟨rfl, hb⟩
        have hBw7 := hBw6.trans (hb.mono hBw6.size)
        replace rX := rX.stay hb
        clear K2 hb hBw6 a0 a1 a2 a3 a4 a5
        have a0 := Rw.cell rX 0
        have a1 := Rw.cell rX 1
        have a2 := Rw.cell rX 2
        have a3 := Rw.cell rX 3
        have a4 := Rw.cell rX 4
        have a5 := Rw.cell rX 5
        simp only [List.getElem?_cons_zero, List.getElem?_cons_succ] at a0 a1 a2 a3 a4 a5
        have K3 := KF.out (p - 1) w7
        rw [show firesB p q (p - 1) = false by unfold firesB; rw [decide_eq_false (by omega : ¬ p ≤ p - 1)]; rfl] at K3
        replace K3 := Lib.hid K3
        go_wp2_with fail
        refine K3.out.mono ?_
        rintro e w8 ⟨rfl, hb⟩
        have hBw8 := hBw7.trans (hb.mono hBw7.size)
        replace rX := rX.stay hb
        clear K3 hb hBw7 a0 a1 a2 a3 a4 a5
        have a0 := Rw.cell rX 0
        have a1 := Rw.cell rX 1
        have a2 := Rw.cell rX 2
        have a3 := Rw.cell rX 3
        have a4 := Rw.cell rX 4
        have a5 := Rw.cell rX 5
        simp only [List.getElem?_cons_zero, List.getElem?_cons_succ] at a0 a1 a2 a3 a4 a5
        have K4 := KF.out (q) w8
        rw [show firesB p q (q) = false by unfold firesB; rw [decide_eq_true (by omega : p ≤ q), decide_eq_false h2, decide_eq_false (Int.lt_irrefl q)]; rfl] at K4
        replace K4 := Lib.hid K4
        go_wp2_with fail
        refine K4.out.mono ?_
        rintro e w9 ⟨rfl, hb⟩
        have hBw9 := hBw8.trans (hb.mono hBw8.size)
        replace rX := rX.stay hb
        clear K4 hb hBw8 a0 a1 a2 a3 a4 a5
        have a0 := Rw.cell rX 0
        have a1 := Rw.cell rX 1
        have a2 := Rw.cell rX 2
        have a3 := Rw.cell rX 3
        have a4 := Rw.cell rX 4
        have a5 := Rw.cell rX 5
        simp only [List.getElem?_cons_zero, List.getElem?_cons_succ] at a0 a1 a2 a3 a4 a5
        have K5 := KF.out (q - 1) w9
        rw [show firesB p q (q - 1) = true by unfold firesB; rw [decide_eq_true (by omega : p ≤ q - 1), decide_eq_false h2, decide_eq_true (by omega : q - 1 < q)]; rfl] at K5
        replace K5 := Lib.hid K5
        go_wp2_with fail
        refine K5.out.mono ?_
        rintro e w10 ⟨rfl, hb⟩
        have hBw10 := hBw9.trans (hb.mono hBw9.size)
        replace rX := rX.stay hb
        clear K5 hb hBw9 a0 a1 a2 a3 a4 a5
        go_wp2_with fail
        go_ret
        exact ⟨rfl, hBw10⟩
end Go.Proofs.YtknhkmlihbgjpaaDoor
