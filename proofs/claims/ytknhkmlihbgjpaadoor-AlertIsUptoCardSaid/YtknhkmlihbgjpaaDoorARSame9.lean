/- The document's own Same of alerts. -/
import Derived.Test.YtknhkmlihbgjpaaDoorASameA
import Derived.Test.YtknhkmlihbgjpaaDoorARSame
namespace Go.Proofs.YtknhkmlihbgjpaaDoor
open Go.ChangeShapes Go.WideShapes Go.RowKit

set_option maxHeartbeats 6400000 in
set_option maxRecDepth 100000 in
theorem same9_any (P P' : Nat → Prop) (s t : Bs) (y z : Sl) (fs gs : List (Bs × Bs)) (l c p q m d p' q' : Int) (w : World) (h : FldsAt P w y.v fs) (h' : FldsAt P' w z.v gs) (hl' : gs.length ≤ 1000000) :
    Calls Tryd.prog 22 #[alV s y.v l c p q, alV t z.v m d p' q'] w fun e w' => e = .returned (.bool (sameB s t fs gs l c p q m d p' q')) ∧ Below w.heap.size w w' := by
  have KE := Lib.hid fun w' (hb : Below w.heap.size w w') => same_any P P' y.v z.v fs gs w' (h.stay hb) (h'.stay hb) hl'
  obtain ⟨O, hO⟩ : ∃ O, sameB s t fs gs l c p q m d p' q' = O := ⟨_, rfl⟩
  rw [hO]
  unfold sameB at hO
  have hst := same_text s t
  have heq := eql_lab l c m d
  obtain ⟨ay, ny, ky⟩ := y
  obtain ⟨az, nz, kz⟩ := z
  clear h h' hl'
  unfold alV
  simp only [Sl.v] at KE ⊢
  generalize (fs == gs) = fe at *
  obtain ⟨b1, hb1⟩ : ∃ b, (s == t) = b := ⟨_, rfl⟩
  obtain ⟨b3, hb3⟩ : ∃ b, (l == m && c == d) = b := ⟨_, rfl⟩
  obtain ⟨b4, hb4⟩ : ∃ b, (p == p') = b := ⟨_, rfl⟩
  obtain ⟨b5, hb5⟩ : ∃ b, (q == q') = b := ⟨_, rfl⟩
  rw [hb1] at hst hO
  simp only [hb3] at heq hO
  rw [hb4, hb5] at hO
  go_enter Tryd.func22, Tryd.ntmps22
  go_upto_region 1 with fail
  obtain ⟨rA, rB, hB⟩ := put2n w 27 27 [.string ⟨s.toArray⟩, .slice ay ny ky, .int .i64 l, .int .u32 c, .int .i64 p, .int .i64 q] [.string ⟨t.toArray⟩, .slice az nz kz, .int .i64 m, .int .u32 d, .int .i64 p', .int .i64 q']
  generalize (w.alloc (.cells #[.string ⟨s.toArray⟩, .slice ay ny ky, .int .i64 l, .int .u32 c, .int .i64 p, .int .i64 q] 27)).alloc (.cells #[.string ⟨t.toArray⟩, .slice az nz kz, .int .i64 m, .int .u32 d, .int .i64 p', .int .i64 q'] 27) = w1 at *
  have a0 := Rw.cell rA 0
  have a1 := Rw.cell rA 1
  have b0 := Rw.cell rB 0
  have b1' := Rw.cell rB 1
  simp only [List.getElem?_cons_zero, List.getElem?_cons_succ] at a0 a1 b0 b1'
  cases b1 with
  | false =>
    rw [Bool.false_and] at hO
    subst hO
    go_wp2_with fail
    go_ret
    exact ⟨rfl, hB⟩
  | true =>
    rw [Bool.true_and] at hO
    go_wp2_with fail
    refine (KE.out _ hB).mono ?_
    rintro e w2 ⟨rfl, hb⟩
    have hB2 := hB.trans (hb.mono hB.size)
    replace rA := rA.stay hb
    replace rB := rB.stay hb
    clear KE hb hB a0 a1 b0 b1'
    have a2 := Rw.cell rA 2
    have a3 := Rw.cell rA 3
    have a4 := Rw.cell rA 4
    have a5 := Rw.cell rA 5
    have e2 := Rw.cell rB 2
    have e3 := Rw.cell rB 3
    have e4 := Rw.cell rB 4
    have e5 := Rw.cell rB 5
    simp only [List.getElem?_cons_zero, List.getElem?_cons_succ] at a2 a3 a4 a5 e2 e3 e4 e5
    cases fe with
    | false =>
      rw [Bool.false_and] at hO
      subst hO
      go_wp2_with fail
      go_ret
      exact ⟨rfl, hB2⟩
    | true =>
      rw [Bool.true_and] at hO
      cases b3 with
      | false =>
        rw [Bool.false_and] at hO
        subst hO
        go_wp2_with fail
        go_ret
        exact ⟨rfl, hB2⟩
      | true =>
        rw [Bool.true_and] at hO
        cases b4 with
        | false =>
          rw [Bool.false_and] at hO
          subst hO
          go_wp2_with fail
          go_ret
          exact ⟨rfl, hB2⟩
        | true =>
          rw [Bool.true_and] at hO
          subst hO
          go_wp2_with fail
          go_ret
          exact ⟨rfl, hB2⟩
end Go.Proofs.YtknhkmlihbgjpaaDoor
