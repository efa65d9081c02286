/- AS: several texts in one. -/
import Derived.Test.YtknhkmlihbgjpaaDoorABack
import Derived.Laws.StructEq
/- Whether fields, alerts are the same. -/
namespace Go.Proofs.YtknhkmlihbgjpaaDoor
open Go.ChangeShapes Go.WideShapes Go.RowKit

theorem neq_fd (x y : Bs × Bs) (w : World) : (binOp .neq 64 (.agg #[.string ⟨x.1.toArray⟩, .string ⟨x.2.toArray⟩]) (.agg #[.string ⟨y.1.toArray⟩, .string ⟨y.2.toArray⟩])).run Tryd.prog w = .ok (.bool (!(x.1 == y.1 && x.2 == y.2))) w := by
  have u9 := Tryd.underlying9
  have hS : Tryd.prog.underlying 64 = some (.struct (Tryd.prog.fieldsOf 64)) := by kernel_rfl
  have hp : Tryd.prog.stoodInHeld 64 = false := by kernel_rfl
  rw [run_neq_struct, show (10000 : Nat) = 9999 + 1 from rfl, run_equalIn_agg w 9999 _ _ _ hS hp]
  simp only [Program.fieldsOf, Tryd.underlying64]
  go_simp
  by_cases h1 : x.1 = y.1 <;> by_cases h3 : x.2 = y.2 <;> simp [h1, h3]
theorem take_same {fs gs : List (Bs × Bs)} {k : Nat} {x y : Bs × Bs} (hx : fs[k]? = some x) (hy : gs[k]? = some y) (h : fs.take k = gs.take k) (e : x = y) : fs.take (k + 1) = gs.take (k + 1) := by
  rw [List.take_add_one, List.take_add_one, hx, hy, h, e]
set_option maxHeartbeats 6400000 in
set_option maxRecDepth 100000 in
theorem equal_any (P P' : Nat → Prop) (v v' : Value) (fs gs : List (Bs × Bs)) (w : World) (h : FldsAt P w v fs) (h' : FldsAt P' w v' gs) (hl' : gs.length ≤ 1000000) :
    Calls Tryd.prog 49 #[v, v'] w fun e w' => e = .returned (.bool (fs == gs)) ∧ Below w.heap.size w w' := by
  obtain ⟨a, c, rfl⟩ := h.shape
  obtain ⟨a', c', rfl⟩ := h'.shape
  obtain ⟨O, hO⟩ : ∃ O, (fs == gs) = O := ⟨_, rfl⟩
  rw [hO]
  have HO : Unit → (fs == gs) = O := fun _ => hO
  clear hO
  by_cases hq : fs.length = gs.length
  · rw [← hq] at h' hl' ⊢
    obtain ⟨n, hn⟩ : ∃ n, fs.length = n := ⟨_, rfl⟩
    rw [hn] at h h' hl' ⊢
    have HN : Unit → fs.length = n ∧ gs.length = n := fun _ => ⟨hn, by omega⟩
    clear hn hq
    have hnn : ((n : Int) != (n : Int)) = false := by simp
    go_enter Tryd.func49, Tryd.ntmps49
    go_upto_region 4 with fail
    go_loopw [13] (fun u5 wr => ∃ k : Nat, k ≤ n ∧ u5 = .int .i64 (k : Int) ∧ fs.take k = gs.take k ∧ Below w.heap.size w wr) (fun u5 _ => n - (intOf u5).toNat)
    case atStart => exact ⟨0, by omega, rfl, rfl, Below.refl _ _⟩
    case round =>
      clear hnn
      obtain ⟨k, hk, rfl, hV, hB⟩ := hrel
      have HV : Unit → fs.take k = gs.take k := fun _ => hV
      clear hV
      by_cases hlt : k < n
      · obtain ⟨x, hx⟩ : ∃ x, fs[k]? = some x := ⟨_, List.getElem?_eq_getElem (by have := HN (); omega)⟩
        obtain ⟨y, hy⟩ : ∃ y, gs[k]? = some y := ⟨_, List.getElem?_eq_getElem (by have := HN (); omega)⟩
        obtain ⟨g, o, rfl, _, hg, c0, c1⟩ := (h.stay hB).part hx
        obtain ⟨g', o', rfl, _, hg', d0, d1⟩ := (h'.stay hB).part hy
        have hki : (k : Int) < (n : Int) := by omega
        have hne := fun w => neq_fd x y w
        have HT : Unit → (x.1 == y.1 && x.2 == y.2) = true → fs.take (k + 1) = gs.take (k + 1) := fun _ e => take_same hx hy (HV ()) (by obtain ⟨x1, x2⟩ := x; obtain ⟨y1, y2⟩ := y; simpa using e)
        have HF : Unit → (x.1 == y.1 && x.2 == y.2) = false → O = false := fun _ e => by
          rw [← HO (), beq_eq_false_iff_ne]
          intro e2
          rw [e2, hy] at hx
          injection hx with hx
          rw [hx] at e
          simp at e
        clear hx hy
        obtain ⟨q, hq⟩ : ∃ q, (x.1 == y.1 && x.2 == y.2) = q := ⟨_, rfl⟩
        simp only [hq] at hne HT HF
        clear hq
        cases q with
        | true =>
          simp only [Bool.not_true] at hne
          go_upto_region 6 with fail
          try simp only [List.append_eq, List.cons_append, List.nil_append]
          refine region_class (fun w' => Below wr.heap.size wr w' ∧ (w'.cell? ⟨g, o + k * 2, none⟩ = some (.string ⟨x.1.toArray⟩) ∧ w'.cell? ⟨g, o + k * 2 + 1, none⟩ = some (.string ⟨x.2.toArray⟩)) ∧ w'.cell? ⟨g', o' + k * 2, none⟩ = some (.string ⟨y.1.toArray⟩) ∧ w'.cell? ⟨g', o' + k * 2 + 1, none⟩ = some (.string ⟨y.2.toArray⟩)) (by kernel_rfl) (by kernel_rfl) (⟨(Below.refl _ _).drew, ⟨c0, c1⟩, d0, d1⟩) ?_
          repeat
            first
            | go_big_quiet_skip
            | (go_big_quiet_want
               refine quiet_val ?_
               apply Exists.intro
               refine ⟨fun w' hw' => ?_, ?_⟩
               · obtain ⟨_, ⟨e0, e1⟩, e3, e4⟩ := hw'
                 go_simp
                 first | done | rfl | exact ⟨rfl, rfl⟩
               simp only [Act.put, List.setIfInBounds_toArray, List.set_cons_zero, List.set_cons_succ]
               go_big_quiet_on)
            | (go_big_quiet_want
               refine quiet_call ?_
               apply Exists.intro
               apply Exists.intro
               refine ⟨fun w' => ?_, ?_⟩
               · go_simp
                 first | done | rfl | exact ⟨rfl, rfl⟩
               apply Exists.intro
               refine ⟨fun w' hw' => ?_, ?_⟩
               · first
                 | fail
               simp only [Act.put, List.setIfInBounds_toArray, List.set_cons_zero, List.set_cons_succ]
               go_big_quiet_on)
          refine wpQuiet_nil ?_
          intro w5 hw5
          have hb5 := hw5.1
          replace hB := hB.trans (hb5.mono hB.size)
          clear hb5 hw5 c0 c1 d0 d1
          go_wp2_with fail
          go_roundw
          case rel => exact ⟨k + 1, by omega, by simp, HT () rfl, hB⟩
          case measure => simp [intOf]; omega
        | false =>
          simp only [Bool.not_false] at hne
          go_upto_region 6 with fail
          try simp only [List.append_eq, List.cons_append, List.nil_append]
          refine region_class (fun w' => Below wr.heap.size wr w' ∧ (w'.cell? ⟨g, o + k * 2, none⟩ = some (.string ⟨x.1.toArray⟩) ∧ w'.cell? ⟨g, o + k * 2 + 1, none⟩ = some (.string ⟨x.2.toArray⟩)) ∧ w'.cell? ⟨g', o' + k * 2, none⟩ = some (.string ⟨y.1.toArray⟩) ∧ w'.cell? ⟨g', o' + k * 2 + 1, none⟩ = some (.string ⟨y.2.toArray⟩)) (by kernel_rfl) (by kernel_rfl) (⟨(Below.refl _ _).drew, ⟨c0, c1⟩, d0, d1⟩) ?_
          repeat
            first
            | go_big_quiet_skip
            | (go_big_quiet_want
               refine quiet_val ?_
               apply Exists.intro
               refine ⟨fun w' hw' => ?_, ?_⟩
               · obtain ⟨_, ⟨e0, e1⟩, e3, e4⟩ := hw'
                 go_simp
                 first | done | rfl | exact ⟨rfl, rfl⟩
               simp only [Act.put, List.setIfInBounds_toArray, List.set_cons_zero, List.set_cons_succ]
               go_big_quiet_on)
            | (go_big_quiet_want
               refine quiet_call ?_
               apply Exists.intro
               apply Exists.intro
               refine ⟨fun w' => ?_, ?_⟩
               · go_simp
                 first | done | rfl | exact ⟨rfl, rfl⟩
               apply Exists.intro
               refine ⟨fun w' hw' => ?_, ?_⟩
               · first
                 | fail
               simp only [Act.put, List.setIfInBounds_toArray, List.set_cons_zero, List.set_cons_succ]
               go_big_quiet_on)
          refine wpQuiet_nil ?_
          intro w5 hw5
          have hb5 := hw5.1
          replace hB := hB.trans (hb5.mono hB.size)
          clear hb5 hw5 c0 c1 d0 d1
          have hOF := HF () rfl
          subst hOF
          go_wp2_with fail
          go_ret
          exact ⟨rfl, hB⟩
      · have hOT : O = true := by
          rw [← HO (), beq_iff_eq]
          have h1 := HV ()
          rw [List.take_of_length_le (by have := HN (); omega), List.take_of_length_le (by have := HN (); omega)] at h1
          exact h1
        subst hOT
        have hki : ¬ (k : Int) < (n : Int) := by omega
        go_wp2_with fail
        go_ret
        exact ⟨rfl, hB⟩
  · have hOF : O = false := by
      rw [← HO (), beq_eq_false_iff_ne]
      exact fun e => hq (by rw [e])
    subst hOF
    have hnn : ((fs.length : Int) != (gs.length : Int)) = true := by rw [bne_iff_ne]; omega
    have hn2 : ((fs.length : Int) == (gs.length : Int)) = false := by rw [beq_eq_false_iff_ne]; omega
    clear hq
    generalize fs.length = n1 at *
    generalize gs.length = n2 at *
    go_enter Tryd.func49, Tryd.ntmps49
    go_wp2_with fail
    go_ret
    exact ⟨rfl, Below.refl _ _⟩
theorem eql_lab (l c m d : Int) (w : World) : (binOp .eql 25 (.agg #[.int .i64 l, .int .u32 c]) (.agg #[.int .i64 m, .int .u32 d])).run Tryd.prog w = .ok (.bool (l == m && c == d)) w := by
  have hS : Tryd.prog.underlying 25 = some (.struct (Tryd.prog.fieldsOf 25)) := by kernel_rfl
  have hp : Tryd.prog.stoodInHeld 25 = false := by kernel_rfl
  rw [run_eql_struct, show (10000 : Nat) = 9999 + 1 from rfl, run_equalIn_agg w 9999 _ _ _ hS hp]
  simp only [Program.fieldsOf, Tryd.underlying25]
  have u3 := Tryd.underlying3
  have u2 := Tryd.underlying23
  go_simp
  by_cases h1 : l = m <;> by_cases h3 : c = d <;> simp [h1, h3]
end Go.Proofs.YtknhkmlihbgjpaaDoor
/- alert.Same: whether alerts are the same. -/
namespace Go.Proofs.YtknhkmlihbgjpaaDoor
open Go.ChangeShapes Go.WideShapes Go.RowKit

def sameB (s t : Bs) (fs gs : List (Bs × Bs)) (l c p q m d p' q' : Int) : Bool := (s == t) && ((fs == gs) && ((l == m && c == d) && ((p == p') && (q == q'))))
set_option maxHeartbeats 6400000 in
set_option maxRecDepth 100000 in
theorem samea_any (P P' : Nat → Prop) (s t : Bs) (y z : Sl) (fs gs : List (Bs × Bs)) (l c p q m d p' q' : Int) (w : World) (h : FldsAt P w y.v fs) (h' : FldsAt P' w z.v gs) (hl' : gs.length ≤ 1000000) :
    Calls Tryd.prog 23 #[alV s y.v l c p q, alV t z.v m d p' q'] w fun e w' => e = .returned (.bool (sameB s t fs gs l c p q m d p' q')) ∧ Below w.heap.size w w' := by
  have KE := Lib.hid fun w' (hb : Below w.heap.size w w') => equal_any P P' y.v z.v fs gs w' (h.stay hb) (h'.stay hb) hl'
  obtain ⟨O, hO⟩ : ∃ O, sameB s t fs gs l c p q m d p' q' = O := ⟨_, rfl⟩
  rw [hO]
  unfold sameB at hO
  have hst := same_text s t
  have heq := eql_lab l c m d
  obtain ⟨ay, ny, ky⟩ := y
  obtain ⟨az, nz, kz⟩ := z
  clear h h' hl'
  unfold alV
  simp only [Sl.v] at KE ⊢
  generalize (fs == gs) = fe at *
  obtain ⟨b1, hb1⟩ : ∃ b, (s == t) = b := ⟨_, rfl⟩
  obtain ⟨b3, hb3⟩ : ∃ b, (l == m && c == d) = b := ⟨_, rfl⟩
  obtain ⟨b4, hb4⟩ : ∃ b, (p == p') = b := ⟨_, rfl⟩
  obtain ⟨b5, hb5⟩ : ∃ b, (q == q') = b := ⟨_, rfl⟩
  rw [hb1] at hst hO
  simp only [hb3] at heq hO
  rw [hb4, hb5] at hO
  go_enter Tryd.func23, Tryd.ntmps23
  go_upto_region 1 with fail
  obtain ⟨rA, rB, hB⟩ := put2n w 29 29 [.string ⟨s.toArray⟩, .slice ay ny ky, .int .i64 l, .int .u32 c, .int .i64 p, .int .i64 q] [.string ⟨t.toArray⟩, .slice az nz kz, .int .i64 m, .int .u32 d, .int .i64 p', .int .i64 q']
  generalize (w.alloc (.cells #[.string ⟨s.toArray⟩, .slice ay ny ky, .int .i64 l, .int .u32 c, .int .i64 p, .int .i64 q] 29)).alloc (.cells #[.string ⟨t.toArray⟩, .slice az nz kz, .int .i64 m, .int .u32 d, .int .i64 p', .int .i64 q'] 29) = w1 at *
  have a0 := Rw.cell rA 0
  have a1 := Rw.cell rA 1
  have b0 := Rw.cell rB 0
  have b1' := Rw.cell rB 1
  simp only [List.getElem?_cons_zero, List.getElem?_cons_succ] at a0 a1 b0 b1'
  cases b1 with
  | false =>
    rw [Bool.false_and] at hO
    subst hO
    go_wp2_with fail
    go_ret
    exact ⟨rfl, hB⟩
  | true =>
    rw [Bool.true_and] at hO
    go_wp2_with fail
    refine (KE.out _ hB).mono ?_
    rintro e w2 ⟨rfl, hb⟩
    have hB2 := hB.trans (hb.mono hB.size)
    replace rA := rA.stay hb
    replace rB := rB.stay hb
    clear KE hb hB a0 a1 b0 b1'
    have a2 := Rw.cell rA 2
    have a3 := Rw.cell rA 3
    have a4 := Rw.cell rA 4
    have a5 := Rw.cell rA 5
    have e2 := Rw.cell rB 2
    have e3 := Rw.cell rB 3
    have e4 := Rw.cell rB 4
    have e5 := Rw.cell rB 5
    simp only [List.getElem?_cons_zero, List.getElem?_cons_succ] at a2 a3 a4 a5 e2 e3 e4 e5
    cases fe with
    | false =>
      rw [Bool.false_and] at hO
      subst hO
      go_wp2_with fail
      go_ret
      exact ⟨rfl, hB2⟩
    | true =>
      rw [Bool.true_and] at hO
      cases b3 with
      | false =>
        rw [Bool.false_and] at hO
        subst hO
        go_wp2_with fail
        go_ret
        exact ⟨rfl, hB2⟩
      | true =>
        rw [Bool.true_and] at hO
        cases b4 with
        | false =>
          rw [Bool.false_and] at hO
          subst hO
          go_wp2_with fail
          go_ret
          exact ⟨rfl, hB2⟩
        | true =>
          rw [Bool.true_and] at hO
          subst hO
          go_wp2_with fail
          go_ret
          exact ⟨rfl, hB2⟩
end Go.Proofs.YtknhkmlihbgjpaaDoor
/- The document's Same of fields: the walk. -/
namespace Go.Proofs.YtknhkmlihbgjpaaDoor
open Go.ChangeShapes Go.WideShapes Go.RowKit

set_option maxHeartbeats 6400000 in
set_option maxRecDepth 100000 in
theorem same_any (P P' : Nat → Prop) (v v' : Value) (fs gs : List (Bs × Bs)) (w : World) (h : FldsAt P w v fs) (h' : FldsAt P' w v' gs) (hl' : gs.length ≤ 1000000) :
    Calls Tryd.prog 36 #[v, v'] w fun e w' => e = .returned (.bool (fs == gs)) ∧ Below w.heap.size w w' := by
  obtain ⟨a, c, rfl⟩ := h.shape
  obtain ⟨a', c', rfl⟩ := h'.shape
  obtain ⟨O, hO⟩ : ∃ O, (fs == gs) = O := ⟨_, rfl⟩
  rw [hO]
  have HO : Unit → (fs == gs) = O := fun _ => hO
  clear hO
  by_cases hq : fs.length = gs.length
  · rw [← hq] at h' hl' ⊢
    obtain ⟨n, hn⟩ : ∃ n, fs.length = n := ⟨_, rfl⟩
    rw [hn] at h h' hl' ⊢
    have HN : Unit → fs.length = n ∧ gs.length = n := fun _ => ⟨hn, by omega⟩
    clear hn hq
    have hnn : ((n : Int) != (n : Int)) = false := by simp
    go_enter Tryd.func36, Tryd.ntmps36
    go_upto_region 3 with fail
    go_upto_region 4 with fail
    go_loopw [5] (fun u5 wr => ∃ k : Nat, k ≤ n ∧ u5 = .int .i64 (k : Int) ∧ fs.take k = gs.take k ∧ Below w.heap.size w wr) (fun u5 _ => n - (intOf u5).toNat)
    case atStart => exact ⟨0, by omega, rfl, rfl, Below.refl _ _⟩
    case round =>
      clear hnn
      obtain ⟨k, hk, rfl, hV, hB⟩ := hrel
      have HV : Unit → fs.take k = gs.take k := fun _ => hV
      clear hV
      by_cases hlt : k < n
      · obtain ⟨x, hx⟩ : ∃ x, fs[k]? = some x := ⟨_, List.getElem?_eq_getElem (by have := HN (); omega)⟩
        obtain ⟨y, hy⟩ : ∃ y, gs[k]? = some y := ⟨_, List.getElem?_eq_getElem (by have := HN (); omega)⟩
        obtain ⟨g, o, rfl, _, hg, c0, c1⟩ := (h.stay hB).part hx
        obtain ⟨g', o', rfl, _, hg', d0, d1⟩ := (h'.stay hB).part hy
        have hki : (k : Int) < (n : Int) := by omega
        have hne := fun w => neq_fd x y w
        have HT : Unit → (x.1 == y.1 && x.2 == y.2) = true → fs.take (k + 1) = gs.take (k + 1) := fun _ e => take_same hx hy (HV ()) (by obtain ⟨x1, x2⟩ := x; obtain ⟨y1, y2⟩ := y; simpa using e)
        have HF : Unit → (x.1 == y.1 && x.2 == y.2) = false → O = false := fun _ e => by
          rw [← HO (), beq_eq_false_iff_ne]
          intro e2
          rw [e2, hy] at hx
          injection hx with hx
          rw [hx] at e
          simp at e
        clear hx hy
        obtain ⟨q, hq⟩ : ∃ q, (x.1 == y.1 && x.2 == y.2) = q := ⟨_, rfl⟩
        simp only [hq] at hne HT HF
        clear hq
        cases q with
        | true =>
          simp only [Bool.not_true] at hne
          go_upto_region 6 with fail
          try simp only [List.append_eq, List.cons_append, List.nil_append]
          refine region_class (fun w' => Below wr.heap.size wr w' ∧ (w'.cell? ⟨g, o + k * 2, none⟩ = some (.string ⟨x.1.toArray⟩) ∧ w'.cell? ⟨g, o + k * 2 + 1, none⟩ = some (.string ⟨x.2.toArray⟩)) ∧ w'.cell? ⟨g', o' + k * 2, none⟩ = some (.string ⟨y.1.toArray⟩) ∧ w'.cell? ⟨g', o' + k * 2 + 1, none⟩ = some (.string ⟨y.2.toArray⟩)) (by kernel_rfl) (by kernel_rfl) (⟨(Below.refl _ _).drew, ⟨c0, c1⟩, d0, d1⟩) ?_
          repeat
            first
            | go_big_quiet_skip
            | (go_big_quiet_want
               refine quiet_val ?_
               apply Exists.intro
               refine ⟨fun w' hw' => ?_, ?_⟩
               · obtain ⟨_, ⟨e0, e1⟩, e3, e4⟩ := hw'
                 go_simp
                 first | done | rfl | exact ⟨rfl, rfl⟩
               simp only [Act.put, List.setIfInBounds_toArray, List.set_cons_zero, List.set_cons_succ]
               go_big_quiet_on)
            | (go_big_quiet_want
               refine quiet_call ?_
               apply Exists.intro
               apply Exists.intro
               refine ⟨fun w' => ?_, ?_⟩
               · go_simp
                 first | done | rfl | exact ⟨rfl, rfl⟩
               apply Exists.intro
               refine ⟨fun w' hw' => ?_, ?_⟩
               · first
                 | fail
               simp only [Act.put, List.setIfInBounds_toArray, List.set_cons_zero, List.set_cons_succ]
               go_big_quiet_on)
          refine wpQuiet_nil ?_
          intro w5 hw5
          have hb5 := hw5.1
          replace hB := hB.trans (hb5.mono hB.size)
          clear hb5 hw5 c0 c1 d0 d1
          go_wp2_with fail
          go_roundw
          case rel => exact ⟨k + 1, by omega, by simp, HT () rfl, hB⟩
          case measure => simp [intOf]; omega
        | false =>
          simp only [Bool.not_false] at hne
          go_upto_region 6 with fail
          try simp only [List.append_eq, List.cons_append, List.nil_append]
          refine region_class (fun w' => Below wr.heap.size wr w' ∧ (w'.cell? ⟨g, o + k * 2, none⟩ = some (.string ⟨x.1.toArray⟩) ∧ w'.cell? ⟨g, o + k * 2 + 1, none⟩ = some (.string ⟨x.2.toArray⟩)) ∧ w'.cell? ⟨g', o' + k * 2, none⟩ = some (.string ⟨y.1.toArray⟩) ∧ w'.cell? ⟨g', o' + k * 2 + 1, none⟩ = some (.string ⟨y.2.toArray⟩)) (by kernel_rfl) (by kernel_rfl) (⟨(Below.refl _ _).drew, ⟨c0, c1⟩, d0, d1⟩) ?_
          repeat
            first
            | go_big_quiet_skip
            | (go_big_quiet_want
               refine quiet_val ?_
               apply Exists.intro
               refine ⟨fun w' hw' => ?_, ?_⟩
               · obtain ⟨_, ⟨e0, e1⟩, e3, e4⟩ := hw'
                 go_simp
                 first | done | rfl | exact ⟨rfl, rfl⟩
               simp only [Act.put, List.setIfInBounds_toArray, List.set_cons_zero, List.set_cons_succ]
               go_big_quiet_on)
            | (go_big_quiet_want
               refine quiet_call ?_
               apply Exists.intro
               apply Exists.intro
               refine ⟨fun w' => ?_, ?_⟩
               · go_simp
                 first | done | rfl | exact ⟨rfl, rfl⟩
               apply Exists.intro
               refine ⟨fun w' hw' => ?_, ?_⟩
               · first
                 | fail
               simp only [Act.put, List.setIfInBounds_toArray, List.set_cons_zero, List.set_cons_succ]
               go_big_quiet_on)
          refine wpQuiet_nil ?_
          intro w5 hw5
          have hb5 := hw5.1
          replace hB := hB.trans (hb5.mono hB.size)
          clear hb5 hw5 c0 c1 d0 d1
          have hOF := HF () rfl
          subst hOF
          go_wp2_with fail
          go_ret
          exact ⟨rfl, hB⟩
      · have hOT : O = true := by
          rw [← HO (), beq_iff_eq]
          have h1 := HV ()
          rw [List.take_of_length_le (by have := HN (); omega), List.take_of_length_le (by have := HN (); omega)] at h1
          exact h1
        subst hOT
        have hki : ¬ (k : Int) < (n : Int) := by omega
        go_wp2_with fail
        go_ret
        exact ⟨rfl, hB⟩
  · have hOF : O = false := by
      rw [← HO (), beq_eq_false_iff_ne]
      exact fun e => hq (by rw [e])
    subst hOF
    have hnn : ((fs.length : Int) != (gs.length : Int)) = true := by rw [bne_iff_ne]; omega
    have hn2 : ((fs.length : Int) == (gs.length : Int)) = false := by rw [beq_eq_false_iff_ne]; omega
    clear hq
    generalize fs.length = n1 at *
    generalize gs.length = n2 at *
    go_enter Tryd.func36, Tryd.ntmps36
    go_wp2_with fail
    go_ret
    exact ⟨rfl, Below.refl _ _⟩
end Go.Proofs.YtknhkmlihbgjpaaDoor
/- The document's own Same of alerts. -/
namespace Go.Proofs.YtknhkmlihbgjpaaDoor
open Go.ChangeShapes Go.WideShapes Go.RowKit

set_option maxHeartbeats 6400000 in
set_option maxRecDepth 100000 in
theorem same9_any (P P' : Nat → Prop) (s t : Bs) (y z : Sl) (fs gs : List (Bs × Bs)) (l c p q m d p' q' : Int) (w : World) (h : FldsAt P w y.v fs) (h' : FldsAt P' w z.v gs) (hl' : gs.length ≤ 1000000) :
    Calls Tryd.prog 22 #[alV s y.v l c p q, alV t z.v m d p' q'] w fun e w' => e = .returned (.bool (sameB s t fs gs l c p q m d p' q')) ∧ Below w.heap.size w w' := by
  have KE := Lib.hid fun w' (hb : Below w.heap.size w w') => same_any P P' y.v z.v fs gs w' (h.stay hb) (h'.stay hb) hl'
  obtain ⟨O, hO⟩ : ∃ O, sameB s t fs gs l c p q m d p' q' = O := ⟨_, rfl⟩
  rw [hO]
  unfold sameB at hO
  have hst := same_text s t
  have heq := eql_lab l c m d
  obtain ⟨ay, ny, ky⟩ := y
  obtain ⟨az, nz, kz⟩ := z
  clear h h' hl'
  unfold alV
  simp only [Sl.v] at KE ⊢
  generalize (fs == gs) = fe at *
  obtain ⟨b1, hb1⟩ : ∃ b, (s == t) = b := ⟨_, rfl⟩
  obtain ⟨b3, hb3⟩ : ∃ b, (l == m && c == d) = b := ⟨_, rfl⟩
  obtain ⟨b4, hb4⟩ : ∃ b, (p == p') = b := ⟨_, rfl⟩
  obtain ⟨b5, hb5⟩ : ∃ b, (q == q') = b := ⟨_, rfl⟩
  rw [hb1] at hst hO
  simp only [hb3] at heq hO
  rw [hb4, hb5] at hO
  go_enter Tryd.func22, Tryd.ntmps22
  go_upto_region 1 with fail
  obtain ⟨rA, rB, hB⟩ := put2n w 27 27 [.string ⟨s.toArray⟩, .slice ay ny ky, .int .i64 l, .int .u32 c, .int .i64 p, .int .i64 q] [.string ⟨t.toArray⟩, .slice az nz kz, .int .i64 m, .int .u32 d, .int .i64 p', .int .i64 q']
  generalize (w.alloc (.cells #[.string ⟨s.toArray⟩, .slice ay ny ky, .int .i64 l, .int .u32 c, .int .i64 p, .int .i64 q] 27)).alloc (.cells #[.string ⟨t.toArray⟩, .slice az nz kz, .int .i64 m, .int .u32 d, .int .i64 p', .int .i64 q'] 27) = w1 at *
  have a0 := Rw.cell rA 0
  have a1 := Rw.cell rA 1
  have b0 := Rw.cell rB 0
  have b1' := Rw.cell rB 1
  simp only [List.getElem?_cons_zero, List.getElem?_cons_succ] at a0 a1 b0 b1'
  cases b1 with
  | false =>
    rw [Bool.false_and] at hO
    subst hO
    go_wp2_with fail
    go_ret
    exact ⟨rfl, hB⟩
  | true =>
    rw [Bool.true_and] at hO
    go_wp2_with fail
    refine (KE.out _ hB).mono ?_
    rintro e w2 ⟨rfl, hb⟩
    have hB2 := hB.trans (hb.mono hB.size)
    replace rA := rA.stay hb
    replace rB := rB.stay hb
    clear KE hb hB a0 a1 b0 b1'
    have a2 := Rw.cell rA 2
    have a3 := Rw.cell rA 3
    have a4 := Rw.cell rA 4
    have a5 := Rw.cell rA 5
    have e2 := Rw.cell rB 2
    have e3 := Rw.cell rB 3
    have e4 := Rw.cell rB 4
    have e5 := Rw.cell rB 5
    simp only [List.getElem?_cons_zero, List.getElem?_cons_succ] at a2 a3 a4 a5 e2 e3 e4 e5
    cases fe with
    | false =>
      rw [Bool.false_and] at hO
      subst hO
      go_wp2_with fail
      go_ret
      exact ⟨rfl, hB2⟩
    | true =>
      rw [Bool.true_and] at hO
      cases b3 with
      | false =>
        rw [Bool.false_and] at hO
        subst hO
        go_wp2_with fail
        go_ret
        exact ⟨rfl, hB2⟩
      | true =>
        rw [Bool.true_and] at hO
        cases b4 with
        | false =>
          rw [Bool.false_and] at hO
          subst hO
          go_wp2_with fail
          go_ret
          exact ⟨rfl, hB2⟩
        | true =>
          rw [Bool.true_and] at hO
          subst hO
          go_wp2_with fail
          go_ret
          exact ⟨rfl, hB2⟩
end Go.Proofs.YtknhkmlihbgjpaaDoor
