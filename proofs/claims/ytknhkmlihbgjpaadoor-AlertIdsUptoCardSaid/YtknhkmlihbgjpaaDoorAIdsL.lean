/- AlertIds returns true where the alert's texts are no longer than so much: the law. -/
import Derived.Test.YtknhkmlihbgjpaaDoorASameA
import Derived.Test.YtknhkmlihbgjpaaDoorAKit
namespace Go.Proofs.YtknhkmlihbgjpaaDoor
open Go.ChangeShapes Go.WideShapes Go.RowKit

set_option maxHeartbeats 12800000 in
set_option maxRecDepth 100000 in
theorem ids_law (s : Bs) (y : Sl) (fs : List (Bs × Bs)) (l c p q L C P1 Q1 : Int) (w : World) (ht : Dg.Tabs w) (h : FldsAt (fun _ => True) w y.v fs) (hl : fs.length ≤ 9223372036854775807) (hb : (idB s (fs.take 12)).length ≤ 70368744177664) :
    Calls Tryd.prog 8 #[alV s y.v l c p q, .agg #[.int .i64 L, .int .u32 C], .agg #[.int .i64 P1, .int .i64 Q1]] w fun e w' => e = .returned (.bool true) ∧ Below w.heap.size w w' := by
  have KL := Lib.hid fun w' (hb : Below w.heap.size w w') => lives_any w' (ht.keep hb)
  have KB := Lib.hid fun w' (hb : Below w.heap.size w w') => back_any (fun _ => True) s y fs l c p q w' (h.stay hb) hl
  have hF : (fs.take 12).length ≤ 12 := by rw [List.length_take]; omega
  generalize fs.take 12 = F at *
  obtain ⟨n, hn⟩ : ∃ n : Int, (idN s F : Int) = n := ⟨_, rfl⟩
  have KI := Lib.hid fun (z : Sl) (l c p q : Int) w' (hw : Below w.heap.size w w') (hz : FldsAt (fun _ => True) w' z.v F) => id_any (fun _ => True) s z F l c p q w' (ht.keep hw) hz hb (by omega)
  simp only [hn] at KI
  have KS := Lib.hid fun (z : Sl) w' (hz : FldsAt (fun _ => True) w' z.v F) => samea_any (fun _ => True) (fun _ => True) s s z z F F l c p q L C P1 Q1 w' hz hz (by omega)
  obtain ⟨O, hO⟩ : ∃ O, sameB s s F F l c p q L C P1 Q1 = O := ⟨_, rfl⟩
  simp only [hO] at KS
  unfold sameB at hO
  simp only [BEq.rfl, Bool.true_and] at hO
  have heq := eql_lab l c L C
  obtain ⟨b3, hb3⟩ : ∃ b, (l == L && c == C) = b := ⟨_, rfl⟩
  obtain ⟨b4, hb4⟩ : ∃ b, (p == P1) = b := ⟨_, rfl⟩
  obtain ⟨b5, hb5⟩ : ∃ b, (q == Q1) = b := ⟨_, rfl⟩
  simp only [hb3] at heq hO
  rw [hb4, hb5] at hO
  clear hn h hl hb ht hF
  obtain ⟨ay, ny, ky⟩ := y
  unfold alV at *
  simp only [Sl.v] at KB ⊢
  go_enter Tryd.func8, Tryd.ntmps8
  go_upto_region 1 with fail
  obtain ⟨rA, rL, rT, hB⟩ := put3n w 27 25 77 [.string ⟨s.toArray⟩, .slice ay ny ky, .int .i64 l, .int .u32 c, .int .i64 p, .int .i64 q] [.int .i64 L, .int .u32 C] [.int .i64 P1, .int .i64 Q1]
  generalize ((w.alloc (.cells #[.string ⟨s.toArray⟩, .slice ay ny ky, .int .i64 l, .int .u32 c, .int .i64 p, .int .i64 q] 27)).alloc (.cells #[.int .i64 L, .int .u32 C] 25)).alloc (.cells #[.int .i64 P1, .int .i64 Q1] 77) = w1 at *
  generalize w.heap.size + 1 + 1 = bT at rT ⊢
  generalize w.heap.size + 1 = bL at rL ⊢
  generalize hbA : w.heap.size = bA at rA ⊢
  have HBA : Unit → w.heap.size = bA := fun _ => hbA
  clear hbA
  go_wp2_with fail
  refine (KL.out _ hB).mono ?_
  rintro e w2 ⟨rfl, hb⟩
  replace hB := hB.trans (hb.mono hB.size)
  replace rA := rA.stay hb
  replace rL := rL.stay hb
  replace rT := rT.stay hb
  clear KL hb
  have e0 := Rw.cell rA 0
  have e1 := Rw.cell rA 1
  have e2 := Rw.cell rA 2
  have e3 := Rw.cell rA 3
  have e4 := Rw.cell rA 4
  have e5 := Rw.cell rA 5
  simp only [List.getElem?_cons_zero, List.getElem?_cons_succ] at e0 e1 e2 e3 e4 e5
  go_wp2_with fail
  refine (KB.out _ hB).mono ?_
  rintro e w5 ⟨⟨az, nz, kz⟩, rfl, hz, hb⟩
  replace hB := hB.trans (hb.mono hB.size)
  replace rL := rL.stay hb
  replace rT := rT.stay hb
  clear KB hb rA e0 e1 e2 e3 e4 e5
  simp only at hz ⊢
  have hal : Below w5.heap.size w5 (w5.alloc (.cells #[.string ⟨s.toArray⟩, .slice az nz kz, .int .i64 l, .int .u32 c, .int .i64 p, .int .i64 q] 29)) := (Below.refl _ _).alloc (Nat.le_refl _) _
  have rX : Rw (w5.alloc (.cells #[.string ⟨s.toArray⟩, .slice az nz kz, .int .i64 l, .int .u32 c, .int .i64 p, .int .i64 q] 29)) w5.heap.size 29 [.string ⟨s.toArray⟩, .slice az nz kz, .int .i64 l, .int .u32 c, .int .i64 p, .int .i64 q] := Rw.new w5 29 [.string ⟨s.toArray⟩, .slice az nz kz, .int .i64 l, .int .u32 c, .int .i64 p, .int .i64 q]
  replace hB := hB.trans (hal.mono hB.size)
  replace hz := hz.stay hal
  replace rL := rL.stay hal
  replace rT := rT.stay hal
  go_upto_region 4 with fail
  generalize w5.alloc (.cells #[.string ⟨s.toArray⟩, .slice az nz kz, .int .i64 l, .int .u32 c, .int .i64 p, .int .i64 q] 29) = w6 at *
  generalize w5.heap.size = bX at *
  clear hal
  have e0 := Rw.cell rX 0
  have e1 := Rw.cell rX 1
  have e2 := Rw.cell rX 2
  have e3 := Rw.cell rX 3
  have e4 := Rw.cell rX 4
  have e5 := Rw.cell rX 5
  simp only [List.getElem?_cons_zero, List.getElem?_cons_succ] at e0 e1 e2 e3 e4 e5
  have hY : Below w6.heap.size w6 (w6.alloc (.cells #[.string ⟨s.toArray⟩, .slice az nz kz, .int .i64 l, .int .u32 c, .int .i64 p, .int .i64 q] 29)) := (Below.refl _ _).alloc (Nat.le_refl _) _
  have rY : Rw (w6.alloc (.cells #[.string ⟨s.toArray⟩, .slice az nz kz, .int .i64 l, .int .u32 c, .int .i64 p, .int .i64 q] 29)) w6.heap.size 29 [.string ⟨s.toArray⟩, .slice az nz kz, .int .i64 l, .int .u32 c, .int .i64 p, .int .i64 q] := Rw.new w6 29 [.string ⟨s.toArray⟩, .slice az nz kz, .int .i64 l, .int .u32 c, .int .i64 p, .int .i64 q]
  go_upto_region 5 with fail
  generalize w6.alloc (.cells #[.string ⟨s.toArray⟩, .slice az nz kz, .int .i64 l, .int .u32 c, .int .i64 p, .int .i64 q] 29) = w7 at *
  clear e0 e1 e2 e3 e4 e5
  have g0 := Rw.cell (rL.stay hY) 0
  have g1 := Rw.cell (rL.stay hY) 1
  have u2 := Rw.cell rY 2
  have u3 := Rw.cell rY 3
  have z2 := Rw.frozen rY 2
  have z3 := Rw.frozen rY 3
  simp only [List.getElem?_cons_zero, List.getElem?_cons_succ] at g0 g1 u2 u3
  go_upto_region 6 with fail
  replace hY := (hY.setCell (p := ⟨w6.heap.size, 2, none⟩) (Nat.le_refl _) (.int .i64 L)).setCell (p := ⟨w6.heap.size, 3, none⟩) (Nat.le_refl _) (.int .u32 C)
  replace rY := (rY.setCell 2 (.int .i64 L)).setCell 3 (.int .u32 C)
  simp only [List.set_cons_zero, List.set_cons_succ] at rY
  generalize (w7.setCell ⟨w6.heap.size, 2, none⟩ (.int .i64 L)).setCell ⟨w6.heap.size, 3, none⟩ (.int .u32 C) = w8 at *
  clear g0 g1 u2 u3 z2 z3
  have g0 := Rw.cell (rT.stay hY) 0
  have u4 := Rw.cell rY 4
  have z4 := Rw.frozen rY 4
  simp only [List.getElem?_cons_zero, List.getElem?_cons_succ] at g0 u4
  go_upto_region 7 with fail
  replace hY := hY.setCell (p := ⟨w6.heap.size, 4, none⟩) (Nat.le_refl _) (.int .i64 P1)
  replace rY := rY.setCell 4 (.int .i64 P1)
  simp only [List.set_cons_zero, List.set_cons_succ] at rY
  generalize w8.setCell ⟨w6.heap.size, 4, none⟩ (.int .i64 P1) = w9 at *
  clear g0 u4 z4
  have g1 := Rw.cell (rT.stay hY) 1
  have u5 := Rw.cell rY 5
  have z5 := Rw.frozen rY 5
  simp only [List.getElem?_cons_zero, List.getElem?_cons_succ] at g1 u5
  go_upto_region 8 with fail
  replace hY := hY.setCell (p := ⟨w6.heap.size, 5, none⟩) (Nat.le_refl _) (.int .i64 Q1)
  replace rY := rY.setCell 5 (.int .i64 Q1)
  simp only [List.set_cons_zero, List.set_cons_succ] at rY
  generalize w9.setCell ⟨w6.heap.size, 5, none⟩ (.int .i64 Q1) = w10 at *
  clear g1 u5 z5
  replace rL := rL.stay hY
  replace rT := rT.stay hY
  replace rX := rX.stay hY
  replace hz := hz.stay hY
  replace hB := hB.trans (hY.mono hB.size)
  clear hY
  have hCL := fun w' (k : Below w10.heap.size w10 w') => (show CL w10 [(⟨bX, 0, none⟩, .string ⟨s.toArray⟩), (⟨bX, 1, none⟩, .slice az nz kz), (⟨bX, 2, none⟩, .int .i64 l), (⟨bX, 3, none⟩, .int .u32 c), (⟨bX, 4, none⟩, .int .i64 p), (⟨bX, 5, none⟩, .int .i64 q), (⟨w6.heap.size, 0, none⟩, .string ⟨s.toArray⟩), (⟨w6.heap.size, 1, none⟩, .slice az nz kz), (⟨w6.heap.size, 2, none⟩, .int .i64 L), (⟨w6.heap.size, 3, none⟩, .int .u32 C), (⟨w6.heap.size, 4, none⟩, .int .i64 P1), (⟨w6.heap.size, 5, none⟩, .int .i64 Q1), (⟨bL, 0, none⟩, .int .i64 L), (⟨bL, 1, none⟩, .int .u32 C), (⟨bT, 0, none⟩, .int .i64 P1), (⟨bT, 1, none⟩, .int .i64 Q1)] w' from (((((((((((((((((CL.bare k).row (rT.stay k) 1 rfl).row (rT.stay k) 0 rfl).row (rL.stay k) 1 rfl).row (rL.stay k) 0 rfl).row (rY.stay k) 5 rfl).row (rY.stay k) 4 rfl).row (rY.stay k) 3 rfl).row (rY.stay k) 2 rfl).row (rY.stay k) 1 rfl).row (rY.stay k) 0 rfl).row (rX.stay k) 5 rfl).row (rX.stay k) 4 rfl).row (rX.stay k) 3 rfl).row (rX.stay k) 2 rfl).row (rX.stay k) 1 rfl).row (rX.stay k) 0 rfl))
  have KX := Lib.hid fun w' (k : Below w10.heap.size w10 w') => KI.out ⟨az, nz, kz⟩ l c p q w' (hB.trans (k.mono hB.size)) (hz.stay k)
  have KY := Lib.hid fun w' (k : Below w10.heap.size w10 w') => KI.out ⟨az, nz, kz⟩ L C P1 Q1 w' (hB.trans (k.mono hB.size)) (hz.stay k)
  have KS1 := Lib.hid fun w' (k : Below w10.heap.size w10 w') => KS.out ⟨az, nz, kz⟩ w' (hz.stay k)
  simp only [Sl.v] at KX KY KS1
  have hnn : (n == n) = true := by simp
  have hS := hCL w10.drew ((Below.refl w10.heap.size w10).drew)
  clear hCL KI KS rX rY rL rT hz
  refine wp_region_held (S := CL w10 [(⟨bX, 0, none⟩, .string ⟨s.toArray⟩), (⟨bX, 1, none⟩, .slice az nz kz), (⟨bX, 2, none⟩, .int .i64 l), (⟨bX, 3, none⟩, .int .u32 c), (⟨bX, 4, none⟩, .int .i64 p), (⟨bX, 5, none⟩, .int .i64 q), (⟨w6.heap.size, 0, none⟩, .string ⟨s.toArray⟩), (⟨w6.heap.size, 1, none⟩, .slice az nz kz), (⟨w6.heap.size, 2, none⟩, .int .i64 L), (⟨w6.heap.size, 3, none⟩, .int .u32 C), (⟨w6.heap.size, 4, none⟩, .int .i64 P1), (⟨w6.heap.size, 5, none⟩, .int .i64 Q1), (⟨bL, 0, none⟩, .int .i64 L), (⟨bL, 1, none⟩, .int .u32 C), (⟨bT, 0, none⟩, .int .i64 P1), (⟨bT, 1, none⟩, .int .i64 Q1)]) (by kernel_rfl) ?_
  change wpAnyH _ _ _ _ _ _ _ _ w10.drew
  generalize w10.drew = D1 at *
  refine held_val 0 rfl (by kernel_rfl) (by kernel_rfl) (by kernel_rfl) (fun _ _ _ _ h => h) (by rfl) hS ?_
  apply Exists.intro
  refine ⟨fun w' hw' => ?_, ?_⟩
  · have e0 := hw'.at 0 rfl; have e1 := hw'.at 1 rfl; have e2 := hw'.at 2 rfl; have e3 := hw'.at 3 rfl; have e4 := hw'.at 4 rfl; have e5 := hw'.at 5 rfl
    go_simp
    first | done | rfl | exact ⟨rfl, rfl⟩
  simp only [Act.put, List.setIfInBounds_toArray, List.set_cons_zero, List.set_cons_succ]
  refine held_val 2 rfl (by kernel_rfl) (by kernel_rfl) (by kernel_rfl) (fun _ _ _ _ h => h) (by rfl) hS ?_
  apply Exists.intro
  refine ⟨fun w' hw' => ?_, ?_⟩
  · have e0 := hw'.at 6 rfl; have e1 := hw'.at 7 rfl; have e2 := hw'.at 8 rfl; have e3 := hw'.at 9 rfl; have e4 := hw'.at 10 rfl; have e5 := hw'.at 11 rfl
    go_simp
    first | done | rfl | exact ⟨rfl, rfl⟩
  simp only [Act.put, List.setIfInBounds_toArray, List.set_cons_zero, List.set_cons_succ]
  refine held_call 1 (by kernel_rfl) rfl (by rfl) ?_
  apply Exists.intro
  apply Exists.intro
  refine ⟨?_, ?_⟩
  · go_simp
    first | done | rfl | exact ⟨rfl, rfl⟩
  refine (KX.out _ hS.1).mono ?_
  rintro e D2 ⟨rfl, hb⟩
  replace hS := hS.go hb
  refine ⟨_, rfl, hS, ?_⟩
  clear hb
  simp only [Act.put, List.setIfInBounds_toArray, List.set_cons_zero, List.set_cons_succ]
  refine held_call 3 (by kernel_rfl) rfl (by rfl) ?_
  apply Exists.intro
  apply Exists.intro
  refine ⟨?_, ?_⟩
  · go_simp
    first | done | rfl | exact ⟨rfl, rfl⟩
  refine (KY.out _ hS.1).mono ?_
  rintro e D3 ⟨rfl, hb⟩
  replace hS := hS.go hb
  refine ⟨_, rfl, hS, ?_⟩
  clear hb
  simp only [Act.put, List.setIfInBounds_toArray, List.set_cons_zero, List.set_cons_succ]
  refine held_val 4 rfl (by kernel_rfl) (by kernel_rfl) (by kernel_rfl) (fun _ _ _ _ h => h) (by rfl) hS ?_
  apply Exists.intro
  refine ⟨fun w' hw' => ?_, ?_⟩
  · skip
    go_simp
    first | done | rfl | exact ⟨rfl, rfl⟩
  simp only [Act.put, List.setIfInBounds_toArray, List.set_cons_zero, List.set_cons_succ]
  try simp only [hnn]
  refine held_val 5 rfl (by kernel_rfl) (by kernel_rfl) (by kernel_rfl) (fun _ _ _ _ h => h) (by rfl) hS ?_
  apply Exists.intro
  refine ⟨fun w' hw' => ?_, ?_⟩
  · skip
    go_simp
    first | done | rfl | exact ⟨rfl, rfl⟩
  simp only [Act.put, List.setIfInBounds_toArray, List.set_cons_zero, List.set_cons_succ]
  refine held_val 6 rfl (by kernel_rfl) (by kernel_rfl) (by kernel_rfl) (fun _ _ _ _ h => h) (by rfl) hS ?_
  apply Exists.intro
  refine ⟨fun w' hw' => ?_, ?_⟩
  · have e0 := hw'.at 0 rfl; have e1 := hw'.at 1 rfl; have e2 := hw'.at 2 rfl; have e3 := hw'.at 3 rfl; have e4 := hw'.at 4 rfl; have e5 := hw'.at 5 rfl
    go_simp
    first | done | rfl | exact ⟨rfl, rfl⟩
  simp only [Act.put, List.setIfInBounds_toArray, List.set_cons_zero, List.set_cons_succ]
  refine held_val 7 rfl (by kernel_rfl) (by kernel_rfl) (by kernel_rfl) (fun _ _ _ _ h => h) (by rfl) hS ?_
  apply Exists.intro
  refine ⟨fun w' hw' => ?_, ?_⟩
  · have e0 := hw'.at 6 rfl; have e1 := hw'.at 7 rfl; have e2 := hw'.at 8 rfl; have e3 := hw'.at 9 rfl; have e4 := hw'.at 10 rfl; have e5 := hw'.at 11 rfl
    go_simp
    first | done | rfl | exact ⟨rfl, rfl⟩
  simp only [Act.put, List.setIfInBounds_toArray, List.set_cons_zero, List.set_cons_succ]
  refine held_val 9 rfl (by kernel_rfl) (by kernel_rfl) (by kernel_rfl) (fun _ _ _ _ h => h) (by rfl) hS ?_
  apply Exists.intro
  refine ⟨fun w' hw' => ?_, ?_⟩
  · have e0 := hw'.at 0 rfl; have e1 := hw'.at 1 rfl; have e2 := hw'.at 2 rfl; have e3 := hw'.at 3 rfl; have e4 := hw'.at 4 rfl; have e5 := hw'.at 5 rfl
    go_simp
    first | done | rfl | exact ⟨rfl, rfl⟩
  simp only [Act.put, List.setIfInBounds_toArray, List.set_cons_zero, List.set_cons_succ]
  refine held_val 10 rfl (by kernel_rfl) (by kernel_rfl) (by kernel_rfl) (fun _ _ _ _ h => h) (by rfl) hS ?_
  apply Exists.intro
  refine ⟨fun w' hw' => ?_, ?_⟩
  · have e0 := hw'.at 0 rfl; have e1 := hw'.at 1 rfl; have e2 := hw'.at 2 rfl; have e3 := hw'.at 3 rfl; have e4 := hw'.at 4 rfl; have e5 := hw'.at 5 rfl
    go_simp
    first | done | rfl | exact ⟨rfl, rfl⟩
  simp only [Act.put, List.setIfInBounds_toArray, List.set_cons_zero, List.set_cons_succ]
  refine held_val 11 rfl (by kernel_rfl) (by kernel_rfl) (by kernel_rfl) (fun _ _ _ _ h => h) (by rfl) hS ?_
  apply Exists.intro
  refine ⟨fun w' hw' => ?_, ?_⟩
  · have e0 := hw'.at 12 rfl; have e1 := hw'.at 13 rfl
    go_simp
    first | done | rfl | exact ⟨rfl, rfl⟩
  simp only [Act.put, List.setIfInBounds_toArray, List.set_cons_zero, List.set_cons_succ]
  refine held_val 12 rfl (by kernel_rfl) (by kernel_rfl) (by kernel_rfl) (fun _ _ _ _ h => h) (by rfl) hS ?_
  apply Exists.intro
  refine ⟨fun w' hw' => ?_, ?_⟩
  · skip
    go_simp
    first | done | rfl | exact ⟨rfl, rfl⟩
  simp only [Act.put, List.setIfInBounds_toArray, List.set_cons_zero, List.set_cons_succ]
  refine held_call 8 (by kernel_rfl) rfl (by rfl) ?_
  apply Exists.intro
  apply Exists.intro
  refine ⟨?_, ?_⟩
  · go_simp
    first | done | rfl | exact ⟨rfl, rfl⟩
  refine (KS1.out _ hS.1).mono ?_
  rintro e D4 ⟨rfl, hb⟩
  replace hS := hS.go hb
  refine ⟨_, rfl, hS, ?_⟩
  clear hb
  simp only [Act.put, List.setIfInBounds_toArray, List.set_cons_zero, List.set_cons_succ]
  cases b3 with
  | false =>
    rw [Bool.false_and] at hO
    subst hO
    refine held_val 13 rfl (by kernel_rfl) (by kernel_rfl) (by kernel_rfl) (fun _ _ _ _ h => h) (by rfl) hS ?_
    apply Exists.intro
    refine ⟨fun w' hw' => ?_, ?_⟩
    · skip
      go_simp
      first | done | rfl | exact ⟨rfl, rfl⟩
    simp only [Act.put, List.setIfInBounds_toArray, List.set_cons_zero, List.set_cons_succ]
    refine held_skip 14 rfl (by kernel_rfl) (by kernel_rfl) (by kernel_rfl) (fun _ _ _ _ h => h) (by rfl) hS ?_
    simp only [Act.put, List.setIfInBounds_toArray, List.set_cons_zero, List.set_cons_succ]
    refine held_skip 15 rfl (by kernel_rfl) (by kernel_rfl) (by kernel_rfl) (fun _ _ _ _ h => h) (by rfl) hS ?_
    simp only [Act.put, List.setIfInBounds_toArray, List.set_cons_zero, List.set_cons_succ]
    refine held_skip 16 rfl (by kernel_rfl) (by kernel_rfl) (by kernel_rfl) (fun _ _ _ _ h => h) (by rfl) hS ?_
    simp only [Act.put, List.setIfInBounds_toArray, List.set_cons_zero, List.set_cons_succ]
    refine held_skip 17 rfl (by kernel_rfl) (by kernel_rfl) (by kernel_rfl) (fun _ _ _ _ h => h) (by rfl) hS ?_
    simp only [Act.put, List.setIfInBounds_toArray, List.set_cons_zero, List.set_cons_succ]
    refine held_skip 18 rfl (by kernel_rfl) (by kernel_rfl) (by kernel_rfl) (fun _ _ _ _ h => h) (by rfl) hS ?_
    simp only [Act.put, List.setIfInBounds_toArray, List.set_cons_zero, List.set_cons_succ]
    refine held_val 19 rfl (by kernel_rfl) (by kernel_rfl) (by kernel_rfl) (fun _ _ _ _ h => h) (by rfl) hS ?_
    apply Exists.intro
    refine ⟨fun w' hw' => ?_, ?_⟩
    · skip
      go_simp
      first | done | rfl | exact ⟨rfl, rfl⟩
    simp only [Act.put, List.setIfInBounds_toArray, List.set_cons_zero, List.set_cons_succ]
    refine held_val 20 rfl (by kernel_rfl) (by kernel_rfl) (by kernel_rfl) (fun _ _ _ _ h => h) (by rfl) hS ?_
    apply Exists.intro
    refine ⟨fun w' hw' => ?_, ?_⟩
    · skip
      go_simp
      first | done | rfl | exact ⟨rfl, rfl⟩
    simp only [Act.put, List.setIfInBounds_toArray, List.set_cons_zero, List.set_cons_succ]
    refine held_skip 21 rfl (by kernel_rfl) (by kernel_rfl) (by kernel_rfl) (fun _ _ _ _ h => h) (by rfl) hS ?_
    simp only [Act.put, List.setIfInBounds_toArray, List.set_cons_zero, List.set_cons_succ]
    refine held_skip 22 rfl (by kernel_rfl) (by kernel_rfl) (by kernel_rfl) (fun _ _ _ _ h => h) (by rfl) hS ?_
    simp only [Act.put, List.setIfInBounds_toArray, List.set_cons_zero, List.set_cons_succ]
    refine held_skip 23 rfl (by kernel_rfl) (by kernel_rfl) (by kernel_rfl) (fun _ _ _ _ h => h) (by rfl) hS ?_
    simp only [Act.put, List.setIfInBounds_toArray, List.set_cons_zero, List.set_cons_succ]
    refine held_skip 24 rfl (by kernel_rfl) (by kernel_rfl) (by kernel_rfl) (fun _ _ _ _ h => h) (by rfl) hS ?_
    simp only [Act.put, List.setIfInBounds_toArray, List.set_cons_zero, List.set_cons_succ]
    refine held_skip 25 rfl (by kernel_rfl) (by kernel_rfl) (by kernel_rfl) (fun _ _ _ _ h => h) (by rfl) hS ?_
    simp only [Act.put, List.setIfInBounds_toArray, List.set_cons_zero, List.set_cons_succ]
    refine held_val 26 rfl (by kernel_rfl) (by kernel_rfl) (by kernel_rfl) (fun _ _ _ _ h => h) (by rfl) hS ?_
    apply Exists.intro
    refine ⟨fun w' hw' => ?_, ?_⟩
    · skip
      go_simp
      first | done | rfl | exact ⟨rfl, rfl⟩
    simp only [Act.put, List.setIfInBounds_toArray, List.set_cons_zero, List.set_cons_succ]
    refine held_val 27 rfl (by kernel_rfl) (by kernel_rfl) (by kernel_rfl) (fun _ _ _ _ h => h) (by rfl) hS ?_
    apply Exists.intro
    refine ⟨fun w' hw' => ?_, ?_⟩
    · skip
      go_simp
      first | done | rfl | exact ⟨rfl, rfl⟩
    simp only [Act.put, List.setIfInBounds_toArray, List.set_cons_zero, List.set_cons_succ]
    refine held_val 28 rfl (by kernel_rfl) (by kernel_rfl) (by kernel_rfl) (fun _ _ _ _ h => h) (by rfl) hS ?_
    apply Exists.intro
    refine ⟨fun w' hw' => ?_, ?_⟩
    · skip
      go_simp
      first | done | rfl | exact ⟨rfl, rfl⟩
    simp only [Act.put, List.setIfInBounds_toArray, List.set_cons_zero, List.set_cons_succ]
    refine held_val 29 rfl (by kernel_rfl) (by kernel_rfl) (by kernel_rfl) (fun _ _ _ _ h => h) (by rfl) hS ?_
    apply Exists.intro
    refine ⟨fun w' hw' => ?_, ?_⟩
    · skip
      go_simp
      first | done | rfl | exact ⟨rfl, rfl⟩
    simp only [Act.put, List.setIfInBounds_toArray, List.set_cons_zero, List.set_cons_succ]
    refine wpAnyH_done (by kernel_rfl) ?_ _
    have hb := hS.1
    go_wp2_with fail
    go_ret
    exact ⟨rfl, hB.trans (hb.mono hB.size)⟩
  | true =>
    rw [Bool.true_and] at hO
    refine held_val 13 rfl (by kernel_rfl) (by kernel_rfl) (by kernel_rfl) (fun _ _ _ _ h => h) (by rfl) hS ?_
    apply Exists.intro
    refine ⟨fun w' hw' => ?_, ?_⟩
    · skip
      go_simp
      first | done | rfl | exact ⟨rfl, rfl⟩
    simp only [Act.put, List.setIfInBounds_toArray, List.set_cons_zero, List.set_cons_succ]
    refine held_val 14 rfl (by kernel_rfl) (by kernel_rfl) (by kernel_rfl) (fun _ _ _ _ h => h) (by rfl) hS ?_
    apply Exists.intro
    refine ⟨fun w' hw' => ?_, ?_⟩
    · skip
      go_simp
      first | done | rfl | exact ⟨rfl, rfl⟩
    simp only [Act.put, List.setIfInBounds_toArray, List.set_cons_zero, List.set_cons_succ]
    refine held_val 15 rfl (by kernel_rfl) (by kernel_rfl) (by kernel_rfl) (fun _ _ _ _ h => h) (by rfl) hS ?_
    apply Exists.intro
    refine ⟨fun w' hw' => ?_, ?_⟩
    · have e0 := hw'.at 0 rfl; have e1 := hw'.at 1 rfl; have e2 := hw'.at 2 rfl; have e3 := hw'.at 3 rfl; have e4 := hw'.at 4 rfl; have e5 := hw'.at 5 rfl
      go_simp
      first | done | rfl | exact ⟨rfl, rfl⟩
    simp only [Act.put, List.setIfInBounds_toArray, List.set_cons_zero, List.set_cons_succ]
    refine held_val 16 rfl (by kernel_rfl) (by kernel_rfl) (by kernel_rfl) (fun _ _ _ _ h => h) (by rfl) hS ?_
    apply Exists.intro
    refine ⟨fun w' hw' => ?_, ?_⟩
    · skip
      go_simp
      first | done | rfl | exact ⟨rfl, rfl⟩
    simp only [Act.put, List.setIfInBounds_toArray, List.set_cons_zero, List.set_cons_succ]
    refine held_val 17 rfl (by kernel_rfl) (by kernel_rfl) (by kernel_rfl) (fun _ _ _ _ h => h) (by rfl) hS ?_
    apply Exists.intro
    refine ⟨fun w' hw' => ?_, ?_⟩
    · have e0 := hw'.at 14 rfl; have e1 := hw'.at 15 rfl
      go_simp
      first | done | rfl | exact ⟨rfl, rfl⟩
    simp only [Act.put, List.setIfInBounds_toArray, List.set_cons_zero, List.set_cons_succ]
    refine held_val 18 rfl (by kernel_rfl) (by kernel_rfl) (by kernel_rfl) (fun _ _ _ _ h => h) (by rfl) hS ?_
    apply Exists.intro
    refine ⟨fun w' hw' => ?_, ?_⟩
    · skip
      go_simp
      first | done | rfl | exact ⟨rfl, rfl⟩
    simp only [Act.put, List.setIfInBounds_toArray, List.set_cons_zero, List.set_cons_succ]
    try simp only [hb4]
    cases b4 with
    | false =>
      rw [Bool.false_and] at hO
      subst hO
      refine held_val 19 rfl (by kernel_rfl) (by kernel_rfl) (by kernel_rfl) (fun _ _ _ _ h => h) (by rfl) hS ?_
      apply Exists.intro
      refine ⟨fun w' hw' => ?_, ?_⟩
      · skip
        go_simp
        first | done | rfl | exact ⟨rfl, rfl⟩
      simp only [Act.put, List.setIfInBounds_toArray, List.set_cons_zero, List.set_cons_succ]
      refine held_val 20 rfl (by kernel_rfl) (by kernel_rfl) (by kernel_rfl) (fun _ _ _ _ h => h) (by rfl) hS ?_
      apply Exists.intro
      refine ⟨fun w' hw' => ?_, ?_⟩
      · skip
        go_simp
        first | done | rfl | exact ⟨rfl, rfl⟩
      simp only [Act.put, List.setIfInBounds_toArray, List.set_cons_zero, List.set_cons_succ]
      refine held_skip 21 rfl (by kernel_rfl) (by kernel_rfl) (by kernel_rfl) (fun _ _ _ _ h => h) (by rfl) hS ?_
      simp only [Act.put, List.setIfInBounds_toArray, List.set_cons_zero, List.set_cons_succ]
      refine held_skip 22 rfl (by kernel_rfl) (by kernel_rfl) (by kernel_rfl) (fun _ _ _ _ h => h) (by rfl) hS ?_
      simp only [Act.put, List.setIfInBounds_toArray, List.set_cons_zero, List.set_cons_succ]
      refine held_skip 23 rfl (by kernel_rfl) (by kernel_rfl) (by kernel_rfl) (fun _ _ _ _ h => h) (by rfl) hS ?_
      simp only [Act.put, List.setIfInBounds_toArray, List.set_cons_zero, List.set_cons_succ]
      refine held_skip 24 rfl (by kernel_rfl) (by kernel_rfl) (by kernel_rfl) (fun _ _ _ _ h => h) (by rfl) hS ?_
      simp only [Act.put, List.setIfInBounds_toArray, List.set_cons_zero, List.set_cons_succ]
      refine held_skip 25 rfl (by kernel_rfl) (by kernel_rfl) (by kernel_rfl) (fun _ _ _ _ h => h) (by rfl) hS ?_
      simp only [Act.put, List.setIfInBounds_toArray, List.set_cons_zero, List.set_cons_succ]
      refine held_val 26 rfl (by kernel_rfl) (by kernel_rfl) (by kernel_rfl) (fun _ _ _ _ h => h) (by rfl) hS ?_
      apply Exists.intro
      refine ⟨fun w' hw' => ?_, ?_⟩
      · skip
        go_simp
        first | done | rfl | exact ⟨rfl, rfl⟩
      simp only [Act.put, List.setIfInBounds_toArray, List.set_cons_zero, List.set_cons_succ]
      refine held_val 27 rfl (by kernel_rfl) (by kernel_rfl) (by kernel_rfl) (fun _ _ _ _ h => h) (by rfl) hS ?_
      apply Exists.intro
      refine ⟨fun w' hw' => ?_, ?_⟩
      · skip
        go_simp
        first | done | rfl | exact ⟨rfl, rfl⟩
      simp only [Act.put, List.setIfInBounds_toArray, List.set_cons_zero, List.set_cons_succ]
      refine held_val 28 rfl (by kernel_rfl) (by kernel_rfl) (by kernel_rfl) (fun _ _ _ _ h => h) (by rfl) hS ?_
      apply Exists.intro
      refine ⟨fun w' hw' => ?_, ?_⟩
      · skip
        go_simp
        first | done | rfl | exact ⟨rfl, rfl⟩
      simp only [Act.put, List.setIfInBounds_toArray, List.set_cons_zero, List.set_cons_succ]
      refine held_val 29 rfl (by kernel_rfl) (by kernel_rfl) (by kernel_rfl) (fun _ _ _ _ h => h) (by rfl) hS ?_
      apply Exists.intro
      refine ⟨fun w' hw' => ?_, ?_⟩
      · skip
        go_simp
        first | done | rfl | exact ⟨rfl, rfl⟩
      simp only [Act.put, List.setIfInBounds_toArray, List.set_cons_zero, List.set_cons_succ]
      refine wpAnyH_done (by kernel_rfl) ?_ _
      have hb := hS.1
      go_wp2_with fail
      go_ret
      exact ⟨rfl, hB.trans (hb.mono hB.size)⟩
    | true =>
      rw [Bool.true_and] at hO
      subst hO
      refine held_val 19 rfl (by kernel_rfl) (by kernel_rfl) (by kernel_rfl) (fun _ _ _ _ h => h) (by rfl) hS ?_
      apply Exists.intro
      refine ⟨fun w' hw' => ?_, ?_⟩
      · skip
        go_simp
        first | done | rfl | exact ⟨rfl, rfl⟩
      simp only [Act.put, List.setIfInBounds_toArray, List.set_cons_zero, List.set_cons_succ]
      refine held_val 20 rfl (by kernel_rfl) (by kernel_rfl) (by kernel_rfl) (fun _ _ _ _ h => h) (by rfl) hS ?_
      apply Exists.intro
      refine ⟨fun w' hw' => ?_, ?_⟩
      · skip
        go_simp
        first | done | rfl | exact ⟨rfl, rfl⟩
      simp only [Act.put, List.setIfInBounds_toArray, List.set_cons_zero, List.set_cons_succ]
      refine held_val 21 rfl (by kernel_rfl) (by kernel_rfl) (by kernel_rfl) (fun _ _ _ _ h => h) (by rfl) hS ?_
      apply Exists.intro
      refine ⟨fun w' hw' => ?_, ?_⟩
      · skip
        go_simp
        first | done | rfl | exact ⟨rfl, rfl⟩
      simp only [Act.put, List.setIfInBounds_toArray, List.set_cons_zero, List.set_cons_succ]
      refine held_val 22 rfl (by kernel_rfl) (by kernel_rfl) (by kernel_rfl) (fun _ _ _ _ h => h) (by rfl) hS ?_
      apply Exists.intro
      refine ⟨fun w' hw' => ?_, ?_⟩
      · have e0 := hw'.at 0 rfl; have e1 := hw'.at 1 rfl; have e2 := hw'.at 2 rfl; have e3 := hw'.at 3 rfl; have e4 := hw'.at 4 rfl; have e5 := hw'.at 5 rfl
        go_simp
        first | done | rfl | exact ⟨rfl, rfl⟩
      simp only [Act.put, List.setIfInBounds_toArray, List.set_cons_zero, List.set_cons_succ]
      refine held_val 23 rfl (by kernel_rfl) (by kernel_rfl) (by kernel_rfl) (fun _ _ _ _ h => h) (by rfl) hS ?_
      apply Exists.intro
      refine ⟨fun w' hw' => ?_, ?_⟩
      · skip
        go_simp
        first | done | rfl | exact ⟨rfl, rfl⟩
      simp only [Act.put, List.setIfInBounds_toArray, List.set_cons_zero, List.set_cons_succ]
      refine held_val 24 rfl (by kernel_rfl) (by kernel_rfl) (by kernel_rfl) (fun _ _ _ _ h => h) (by rfl) hS ?_
      apply Exists.intro
      refine ⟨fun w' hw' => ?_, ?_⟩
      · have e0 := hw'.at 14 rfl; have e1 := hw'.at 15 rfl
        go_simp
        first | done | rfl | exact ⟨rfl, rfl⟩
      simp only [Act.put, List.setIfInBounds_toArray, List.set_cons_zero, List.set_cons_succ]
      refine held_val 25 rfl (by kernel_rfl) (by kernel_rfl) (by kernel_rfl) (fun _ _ _ _ h => h) (by rfl) hS ?_
      apply Exists.intro
      refine ⟨fun w' hw' => ?_, ?_⟩
      · skip
        go_simp
        first | done | rfl | exact ⟨rfl, rfl⟩
      simp only [Act.put, List.setIfInBounds_toArray, List.set_cons_zero, List.set_cons_succ]
      try simp only [hb5]
      have h55 : (b5 == b5) = true := by simp
      refine held_val 26 rfl (by kernel_rfl) (by kernel_rfl) (by kernel_rfl) (fun _ _ _ _ h => h) (by rfl) hS ?_
      apply Exists.intro
      refine ⟨fun w' hw' => ?_, ?_⟩
      · skip
        go_simp
        first | done | rfl | exact ⟨rfl, rfl⟩
      simp only [Act.put, List.setIfInBounds_toArray, List.set_cons_zero, List.set_cons_succ]
      refine held_val 27 rfl (by kernel_rfl) (by kernel_rfl) (by kernel_rfl) (fun _ _ _ _ h => h) (by rfl) hS ?_
      apply Exists.intro
      refine ⟨fun w' hw' => ?_, ?_⟩
      · skip
        go_simp
        first | done | rfl | exact ⟨rfl, rfl⟩
      simp only [Act.put, List.setIfInBounds_toArray, List.set_cons_zero, List.set_cons_succ]
      try simp only [h55]
      refine held_val 28 rfl (by kernel_rfl) (by kernel_rfl) (by kernel_rfl) (fun _ _ _ _ h => h) (by rfl) hS ?_
      apply Exists.intro
      refine ⟨fun w' hw' => ?_, ?_⟩
      · skip
        go_simp
        first | done | rfl | exact ⟨rfl, rfl⟩
      simp only [Act.put, List.setIfInBounds_toArray, List.set_cons_zero, List.set_cons_succ]
      refine held_val 29 rfl (by kernel_rfl) (by kernel_rfl) (by kernel_rfl) (fun _ _ _ _ h => h) (by rfl) hS ?_
      apply Exists.intro
      refine ⟨fun w' hw' => ?_, ?_⟩
      · skip
        go_simp
        first | done | rfl | exact ⟨rfl, rfl⟩
      simp only [Act.put, List.setIfInBounds_toArray, List.set_cons_zero, List.set_cons_succ]
      refine wpAnyH_done (by kernel_rfl) ?_ _
      have hb := hS.1
      go_wp2_with fail
      go_ret
      exact ⟨rfl, hB.trans (hb.mono hB.size)⟩
end Go.Proofs.YtknhkmlihbgjpaaDoor
