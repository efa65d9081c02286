/- The document's own Merge of alerts. -/
import Derived.Test.YtknhkmlihbgjpaaDoorAMerge
import Derived.Test.YtknhkmlihbgjpaaDoorAOut
import Derived.Test.YtknhkmlihbgjpaaDoorARId
import Derived.Test.YtknhkmlihbgjpaaDoorARRight9
import Derived.Test.YtknhkmlihbgjpaaDoorLbJoin
namespace Go.Proofs.YtknhkmlihbgjpaaDoor
open Go.ChangeShapes Go.WideShapes Go.RowKit

set_option maxHeartbeats 12800000 in
set_option maxRecDepth 100000 in
theorem rmerge_any (P P' : Nat → Prop) (s t : Bs) (y z : Sl) (fs gs : List (Bs × Bs)) (l c p q m d p2 q2 : Int) (w : World) (h : FldsAt P w y.v fs) (h2 : FldsAt P' w z.v gs) (hs : s.length ≤ 9223372036854775807) (hs2 : t.length ≤ 9223372036854775807) (hl : fs.length ≤ 1000000) (hl2 : gs.length ≤ 1000000)
    (hfl : ∀ f ∈ fs, f.1.length ≤ 9223372036854775807 ∧ f.2.length ≤ 9223372036854775807) (hfl2 : ∀ f ∈ gs, f.1.length ≤ 9223372036854775807 ∧ f.2.length ≤ 9223372036854775807) (hi : (idB s fs).length ≤ 100000000) (hi2 : (idB t gs).length ≤ 100000000) (hc : U32 c) (hd : U32 d) (mg : Bool) (hmg : mgB s t fs gs l p q m p2 q2 = mg) :
    Calls Tryd.prog 14 #[alV s y.v l c p q, alV t z.v m d p2 q2] w fun e w' => e = .returned (.tuple #[alV (outS mg s) (outZ mg y).v (outI mg (jL l m)) (outI mg (jC l c m d)) (outI mg (min p p2)) (outI mg (laterN q q2)), .bool mg]) ∧ Below w.heap.size w w' := by
  have KA := Lib.hid fun w' (hb : Below w.heap.size w w') => rright9_any P s y fs l c p q w' (h.stay hb) hs hl hfl
  have KB := Lib.hid fun w' (hb : Below w.heap.size w w') => rright9_any P' t z gs m d p2 q2 w' (h2.stay hb) hs2 hl2 hfl2
  have KI := Lib.hid fun w' (hb : Below w.heap.size w w') => rid_any P s y fs l c p q w' (h.stay hb) hi hl
  have KJ := Lib.hid fun w' (hb : Below w.heap.size w w') => rid_any P' t z gs m d p2 q2 w' (h2.stay hb) hi2 hl2
  have KL := Lib.hid fun w' => Lb.rjoin_any l c m d hc.1 hc.2 hd.1 hd.2 w'
  unfold mgB at hmg
  have hne2 : ((idN s fs : Int) != (idN t gs : Int)) = !decide (idN s fs = idN t gs) := by
    by_cases e : idN s fs = idN t gs
    · rw [e]; simp
    · rw [decide_eq_false e]; simp only [Bool.not_false, bne_iff_ne]; omega
  have HLT : Unit → laterN q q2 = if q = 0 ∨ q2 = 0 then 0 else max q q2 := fun _ => rfl
  clear h h2 hs hs2 hl hl2 hfl hfl2 hi hi2 hc hd
  generalize decide (idN s fs = idN t gs) = ie at *
  generalize (idN s fs : Int) = i1 at *
  generalize (idN t gs : Int) = i2 at *
  generalize arB s fs l p q = ra at *
  generalize arB t gs m p2 q2 = rb at *
  generalize jL l m = JL at *
  generalize jC l c m d = JC at *
  generalize laterN q q2 = LQ at *
  obtain ⟨ay, ny, ky⟩ := y
  obtain ⟨az, nz, kz⟩ := z
  unfold alV at *
  simp only [Sl.v] at KA KB KI KJ ⊢
  go_enter Tryd.func14, Tryd.ntmps14
  go_upto_region 1 with fail
  obtain ⟨rA, rB, rR, hB⟩ := put3n w 27 27 27 [.string ⟨s.toArray⟩, .slice ay ny ky, .int .i64 l, .int .u32 c, .int .i64 p, .int .i64 q] [.string ⟨t.toArray⟩, .slice az nz kz, .int .i64 m, .int .u32 d, .int .i64 p2, .int .i64 q2] [.string ⟨#[]⟩, .slice none 0 0, .int .i64 0, .int .u32 0, .int .i64 0, .int .i64 0]
  generalize ((w.alloc (.cells #[.string ⟨s.toArray⟩, .slice ay ny ky, .int .i64 l, .int .u32 c, .int .i64 p, .int .i64 q] 27)).alloc (.cells #[.string ⟨t.toArray⟩, .slice az nz kz, .int .i64 m, .int .u32 d, .int .i64 p2, .int .i64 q2] 27)).alloc (.cells #[.string ⟨#[]⟩, .slice none 0 0, .int .i64 0, .int .u32 0, .int .i64 0, .int .i64 0] 27) = w1 at *
  generalize hbR : w.heap.size + 1 + 1 = bR at rR ⊢
  generalize hbB : w.heap.size + 1 = bB at rB ⊢
  generalize hbA : w.heap.size = bA at rA ⊢
  have hne : bA ≠ bR ∧ bA ≠ bB ∧ bB ≠ bR ∧ w.heap.size ≤ bA ∧ w.heap.size ≤ bR := by omega
  have HBA : Unit → w.heap.size = bA := fun _ => hbA
  clear hbR hbB hbA
  go_cut [20] from 6 to 19 (fun u20 wx => u20 = .bool (!mg) ∧ Below w1.heap.size w1 wx)
  case first =>
    have hCL := fun w' (k : Below w1.heap.size w1 w') => (show CL w1 [(⟨bA, 0, none⟩, .string ⟨s.toArray⟩), (⟨bA, 1, none⟩, .slice ay ny ky), (⟨bA, 2, none⟩, .int .i64 l), (⟨bA, 3, none⟩, .int .u32 c), (⟨bA, 4, none⟩, .int .i64 p), (⟨bA, 5, none⟩, .int .i64 q), (⟨bB, 0, none⟩, .string ⟨t.toArray⟩), (⟨bB, 1, none⟩, .slice az nz kz), (⟨bB, 2, none⟩, .int .i64 m), (⟨bB, 3, none⟩, .int .u32 d), (⟨bB, 4, none⟩, .int .i64 p2), (⟨bB, 5, none⟩, .int .i64 q2)] w' from (((((((((((((CL.bare k).row (rB.stay k) 5 rfl).row (rB.stay k) 4 rfl).row (rB.stay k) 3 rfl).row (rB.stay k) 2 rfl).row (rB.stay k) 1 rfl).row (rB.stay k) 0 rfl).row (rA.stay k) 5 rfl).row (rA.stay k) 4 rfl).row (rA.stay k) 3 rfl).row (rA.stay k) 2 rfl).row (rA.stay k) 1 rfl).row (rA.stay k) 0 rfl))
    refine wp_region_held (S := CL w1 [(⟨bA, 0, none⟩, .string ⟨s.toArray⟩), (⟨bA, 1, none⟩, .slice ay ny ky), (⟨bA, 2, none⟩, .int .i64 l), (⟨bA, 3, none⟩, .int .u32 c), (⟨bA, 4, none⟩, .int .i64 p), (⟨bA, 5, none⟩, .int .i64 q), (⟨bB, 0, none⟩, .string ⟨t.toArray⟩), (⟨bB, 1, none⟩, .slice az nz kz), (⟨bB, 2, none⟩, .int .i64 m), (⟨bB, 3, none⟩, .int .u32 d), (⟨bB, 4, none⟩, .int .i64 p2), (⟨bB, 5, none⟩, .int .i64 q2)]) (by kernel_rfl) ?_
    have hS := hCL w1.drew ((Below.refl w1.heap.size w1).drew)
    have KA1 := Lib.hid fun w' (k : Below w1.heap.size w1 w') => KA.out w' (hB.trans (k.mono hB.size))
    have KB1 := Lib.hid fun w' (k : Below w1.heap.size w1 w') => KB.out w' (hB.trans (k.mono hB.size))
    have KI1 := Lib.hid fun w' (k : Below w1.heap.size w1 w') => KI.out w' (hB.trans (k.mono hB.size))
    have KJ1 := Lib.hid fun w' (k : Below w1.heap.size w1 w') => KJ.out w' (hB.trans (k.mono hB.size))
    change wpAnyH _ _ _ _ _ _ _ _ w1.drew
    generalize w1.drew = D1 at *
    clear rA rB rR hCL KA KB KI KJ
    refine held_val 0 rfl (by kernel_rfl) (by kernel_rfl) (by kernel_rfl) (fun _ _ _ _ h => h) (by rfl) hS ?_
    apply Exists.intro
    refine ⟨fun w' hw' => ?_, ?_⟩
    · have e0 := hw'.at 0 rfl; have e1 := hw'.at 1 rfl; have e2 := hw'.at 2 rfl; have e3 := hw'.at 3 rfl; have e4 := hw'.at 4 rfl; have e5 := hw'.at 5 rfl
      go_simp
      first | done | rfl | exact ⟨rfl, rfl⟩
    simp only [Act.put, List.setIfInBounds_toArray, List.set_cons_zero, List.set_cons_succ]
    refine held_call 1 (by kernel_rfl) rfl (by rfl) ?_
    apply Exists.intro
    apply Exists.intro
    refine ⟨?_, ?_⟩
    · go_simp
      first | done | rfl | exact ⟨rfl, rfl⟩
    refine (KA1.out _ hS.1).mono ?_
    rintro e D2 ⟨rfl, hb⟩
    replace hS := hS.go hb
    refine ⟨_, rfl, hS, ?_⟩
    clear hb
    simp only [Act.put, List.setIfInBounds_toArray, List.set_cons_zero, List.set_cons_succ]
    cases ra with
    | false =>
      rw [Bool.false_and] at hmg
      subst hmg
      refine held_val 2 rfl (by kernel_rfl) (by kernel_rfl) (by kernel_rfl) (fun _ _ _ _ h => h) (by rfl) hS ?_
      apply Exists.intro
      refine ⟨fun w' hw' => ?_, ?_⟩
      · skip
        go_simp
        first | done | rfl | exact ⟨rfl, rfl⟩
      simp only [Act.put, List.setIfInBounds_toArray, List.set_cons_zero, List.set_cons_succ]
      refine held_val 3 rfl (by kernel_rfl) (by kernel_rfl) (by kernel_rfl) (fun _ _ _ _ h => h) (by rfl) hS ?_
      apply Exists.intro
      refine ⟨fun w' hw' => ?_, ?_⟩
      · skip
        go_simp
        first | done | rfl | exact ⟨rfl, rfl⟩
      simp only [Act.put, List.setIfInBounds_toArray, List.set_cons_zero, List.set_cons_succ]
      refine held_skip 4 rfl (by kernel_rfl) (by kernel_rfl) (by kernel_rfl) (fun _ _ _ _ h => h) (by rfl) hS ?_
      simp only [Act.put, List.setIfInBounds_toArray, List.set_cons_zero, List.set_cons_succ]
      refine held_skip 5 rfl (by kernel_rfl) (by kernel_rfl) (by kernel_rfl) (fun _ _ _ _ h => h) (by rfl) hS ?_
      simp only [Act.put, List.setIfInBounds_toArray, List.set_cons_zero, List.set_cons_succ]
      refine held_skip 6 rfl (by kernel_rfl) (by kernel_rfl) (by kernel_rfl) (fun _ _ _ _ h => h) (by rfl) hS ?_
      simp only [Act.put, List.setIfInBounds_toArray, List.set_cons_zero, List.set_cons_succ]
      refine held_val 7 rfl (by kernel_rfl) (by kernel_rfl) (by kernel_rfl) (fun _ _ _ _ h => h) (by rfl) hS ?_
      apply Exists.intro
      refine ⟨fun w' hw' => ?_, ?_⟩
      · skip
        go_simp
        first | done | rfl | exact ⟨rfl, rfl⟩
      simp only [Act.put, List.setIfInBounds_toArray, List.set_cons_zero, List.set_cons_succ]
      refine held_val 8 rfl (by kernel_rfl) (by kernel_rfl) (by kernel_rfl) (fun _ _ _ _ h => h) (by rfl) hS ?_
      apply Exists.intro
      refine ⟨fun w' hw' => ?_, ?_⟩
      · skip
        go_simp
        first | done | rfl | exact ⟨rfl, rfl⟩
      simp only [Act.put, List.setIfInBounds_toArray, List.set_cons_zero, List.set_cons_succ]
      refine held_skip 9 rfl (by kernel_rfl) (by kernel_rfl) (by kernel_rfl) (fun _ _ _ _ h => h) (by rfl) hS ?_
      simp only [Act.put, List.setIfInBounds_toArray, List.set_cons_zero, List.set_cons_succ]
      refine held_skip 10 rfl (by kernel_rfl) (by kernel_rfl) (by kernel_rfl) (fun _ _ _ _ h => h) (by rfl) hS ?_
      simp only [Act.put, List.setIfInBounds_toArray, List.set_cons_zero, List.set_cons_succ]
      refine held_skip 11 rfl (by kernel_rfl) (by kernel_rfl) (by kernel_rfl) (fun _ _ _ _ h => h) (by rfl) hS ?_
      simp only [Act.put, List.setIfInBounds_toArray, List.set_cons_zero, List.set_cons_succ]
      refine held_skip 12 rfl (by kernel_rfl) (by kernel_rfl) (by kernel_rfl) (fun _ _ _ _ h => h) (by rfl) hS ?_
      simp only [Act.put, List.setIfInBounds_toArray, List.set_cons_zero, List.set_cons_succ]
      refine held_skip 13 rfl (by kernel_rfl) (by kernel_rfl) (by kernel_rfl) (fun _ _ _ _ h => h) (by rfl) hS ?_
      simp only [Act.put, List.setIfInBounds_toArray, List.set_cons_zero, List.set_cons_succ]
      refine held_val 14 rfl (by kernel_rfl) (by kernel_rfl) (by kernel_rfl) (fun _ _ _ _ h => h) (by rfl) hS ?_
      apply Exists.intro
      refine ⟨fun w' hw' => ?_, ?_⟩
      · skip
        go_simp
        first | done | rfl | exact ⟨rfl, rfl⟩
      simp only [Act.put, List.setIfInBounds_toArray, List.set_cons_zero, List.set_cons_succ]
      refine wpAnyH_done (by kernel_rfl) ?_ _
      have hb := hS.1
      go_wp2_with fail
      go_meet
      exact ⟨rfl, hb⟩
    | true =>
      rw [Bool.true_and] at hmg
      refine held_val 2 rfl (by kernel_rfl) (by kernel_rfl) (by kernel_rfl) (fun _ _ _ _ h => h) (by rfl) hS ?_
      apply Exists.intro
      refine ⟨fun w' hw' => ?_, ?_⟩
      · skip
        go_simp
        first | done | rfl | exact ⟨rfl, rfl⟩
      simp only [Act.put, List.setIfInBounds_toArray, List.set_cons_zero, List.set_cons_succ]
      refine held_val 3 rfl (by kernel_rfl) (by kernel_rfl) (by kernel_rfl) (fun _ _ _ _ h => h) (by rfl) hS ?_
      apply Exists.intro
      refine ⟨fun w' hw' => ?_, ?_⟩
      · skip
        go_simp
        first | done | rfl | exact ⟨rfl, rfl⟩
      simp only [Act.put, List.setIfInBounds_toArray, List.set_cons_zero, List.set_cons_succ]
      refine held_val 4 rfl (by kernel_rfl) (by kernel_rfl) (by kernel_rfl) (fun _ _ _ _ h => h) (by rfl) hS ?_
      apply Exists.intro
      refine ⟨fun w' hw' => ?_, ?_⟩
      · have e0 := hw'.at 6 rfl; have e1 := hw'.at 7 rfl; have e2 := hw'.at 8 rfl; have e3 := hw'.at 9 rfl; have e4 := hw'.at 10 rfl; have e5 := hw'.at 11 rfl
        go_simp
        first | done | rfl | exact ⟨rfl, rfl⟩
      simp only [Act.put, List.setIfInBounds_toArray, List.set_cons_zero, List.set_cons_succ]
      refine held_call 5 (by kernel_rfl) rfl (by rfl) ?_
      apply Exists.intro
      apply Exists.intro
      refine ⟨?_, ?_⟩
      · go_simp
        first | done | rfl | exact ⟨rfl, rfl⟩
      refine (KB1.out _ hS.1).mono ?_
      rintro e D3 ⟨rfl, hb⟩
      replace hS := hS.go hb
      refine ⟨_, rfl, hS, ?_⟩
      clear hb
      simp only [Act.put, List.setIfInBounds_toArray, List.set_cons_zero, List.set_cons_succ]
      cases rb with
      | false =>
        rw [Bool.false_and] at hmg
        subst hmg
        refine held_val 6 rfl (by kernel_rfl) (by kernel_rfl) (by kernel_rfl) (fun _ _ _ _ h => h) (by rfl) hS ?_
        apply Exists.intro
        refine ⟨fun w' hw' => ?_, ?_⟩
        · skip
          go_simp
          first | done | rfl | exact ⟨rfl, rfl⟩
        simp only [Act.put, List.setIfInBounds_toArray, List.set_cons_zero, List.set_cons_succ]
        refine held_val 7 rfl (by kernel_rfl) (by kernel_rfl) (by kernel_rfl) (fun _ _ _ _ h => h) (by rfl) hS ?_
        apply Exists.intro
        refine ⟨fun w' hw' => ?_, ?_⟩
        · skip
          go_simp
          first | done | rfl | exact ⟨rfl, rfl⟩
        simp only [Act.put, List.setIfInBounds_toArray, List.set_cons_zero, List.set_cons_succ]
        refine held_val 8 rfl (by kernel_rfl) (by kernel_rfl) (by kernel_rfl) (fun _ _ _ _ h => h) (by rfl) hS ?_
        apply Exists.intro
        refine ⟨fun w' hw' => ?_, ?_⟩
        · skip
          go_simp
          first | done | rfl | exact ⟨rfl, rfl⟩
        simp only [Act.put, List.setIfInBounds_toArray, List.set_cons_zero, List.set_cons_succ]
        refine held_skip 9 rfl (by kernel_rfl) (by kernel_rfl) (by kernel_rfl) (fun _ _ _ _ h => h) (by rfl) hS ?_
        simp only [Act.put, List.setIfInBounds_toArray, List.set_cons_zero, List.set_cons_succ]
        refine held_skip 10 rfl (by kernel_rfl) (by kernel_rfl) (by kernel_rfl) (fun _ _ _ _ h => h) (by rfl) hS ?_
        simp only [Act.put, List.setIfInBounds_toArray, List.set_cons_zero, List.set_cons_succ]
        refine held_skip 11 rfl (by kernel_rfl) (by kernel_rfl) (by kernel_rfl) (fun _ _ _ _ h => h) (by rfl) hS ?_
        simp only [Act.put, List.setIfInBounds_toArray, List.set_cons_zero, List.set_cons_succ]
        refine held_skip 12 rfl (by kernel_rfl) (by kernel_rfl) (by kernel_rfl) (fun _ _ _ _ h => h) (by rfl) hS ?_
        simp only [Act.put, List.setIfInBounds_toArray, List.set_cons_zero, List.set_cons_succ]
        refine held_skip 13 rfl (by kernel_rfl) (by kernel_rfl) (by kernel_rfl) (fun _ _ _ _ h => h) (by rfl) hS ?_
        simp only [Act.put, List.setIfInBounds_toArray, List.set_cons_zero, List.set_cons_succ]
        refine held_val 14 rfl (by kernel_rfl) (by kernel_rfl) (by kernel_rfl) (fun _ _ _ _ h => h) (by rfl) hS ?_
        apply Exists.intro
        refine ⟨fun w' hw' => ?_, ?_⟩
        · skip
          go_simp
          first | done | rfl | exact ⟨rfl, rfl⟩
        simp only [Act.put, List.setIfInBounds_toArray, List.set_cons_zero, List.set_cons_succ]
        refine wpAnyH_done (by kernel_rfl) ?_ _
        have hb := hS.1
        go_wp2_with fail
        go_meet
        exact ⟨rfl, hb⟩
      | true =>
        rw [Bool.true_and] at hmg
        subst hmg
        refine held_val 6 rfl (by kernel_rfl) (by kernel_rfl) (by kernel_rfl) (fun _ _ _ _ h => h) (by rfl) hS ?_
        apply Exists.intro
        refine ⟨fun w' hw' => ?_, ?_⟩
        · skip
          go_simp
          first | done | rfl | exact ⟨rfl, rfl⟩
        simp only [Act.put, List.setIfInBounds_toArray, List.set_cons_zero, List.set_cons_succ]
        refine held_val 7 rfl (by kernel_rfl) (by kernel_rfl) (by kernel_rfl) (fun _ _ _ _ h => h) (by rfl) hS ?_
        apply Exists.intro
        refine ⟨fun w' hw' => ?_, ?_⟩
        · skip
          go_simp
          first | done | rfl | exact ⟨rfl, rfl⟩
        simp only [Act.put, List.setIfInBounds_toArray, List.set_cons_zero, List.set_cons_succ]
        refine held_val 8 rfl (by kernel_rfl) (by kernel_rfl) (by kernel_rfl) (fun _ _ _ _ h => h) (by rfl) hS ?_
        apply Exists.intro
        refine ⟨fun w' hw' => ?_, ?_⟩
        · skip
          go_simp
          first | done | rfl | exact ⟨rfl, rfl⟩
        simp only [Act.put, List.setIfInBounds_toArray, List.set_cons_zero, List.set_cons_succ]
        refine held_val 9 rfl (by kernel_rfl) (by kernel_rfl) (by kernel_rfl) (fun _ _ _ _ h => h) (by rfl) hS ?_
        apply Exists.intro
        refine ⟨fun w' hw' => ?_, ?_⟩
        · have e0 := hw'.at 0 rfl; have e1 := hw'.at 1 rfl; have e2 := hw'.at 2 rfl; have e3 := hw'.at 3 rfl; have e4 := hw'.at 4 rfl; have e5 := hw'.at 5 rfl
          go_simp
          first | done | rfl | exact ⟨rfl, rfl⟩
        simp only [Act.put, List.setIfInBounds_toArray, List.set_cons_zero, List.set_cons_succ]
        refine held_val 11 rfl (by kernel_rfl) (by kernel_rfl) (by kernel_rfl) (fun _ _ _ _ h => h) (by rfl) hS ?_
        apply Exists.intro
        refine ⟨fun w' hw' => ?_, ?_⟩
        · have e0 := hw'.at 6 rfl; have e1 := hw'.at 7 rfl; have e2 := hw'.at 8 rfl; have e3 := hw'.at 9 rfl; have e4 := hw'.at 10 rfl; have e5 := hw'.at 11 rfl
          go_simp
          first | done | rfl | exact ⟨rfl, rfl⟩
        simp only [Act.put, List.setIfInBounds_toArray, List.set_cons_zero, List.set_cons_succ]
        refine held_call 10 (by kernel_rfl) rfl (by rfl) ?_
        apply Exists.intro
        apply Exists.intro
        refine ⟨?_, ?_⟩
        · go_simp
          first | done | rfl | exact ⟨rfl, rfl⟩
        refine (KI1.out _ hS.1).mono ?_
        rintro e D4 ⟨rfl, hb⟩
        replace hS := hS.go hb
        refine ⟨_, rfl, hS, ?_⟩
        clear hb
        simp only [Act.put, List.setIfInBounds_toArray, List.set_cons_zero, List.set_cons_succ]
        refine held_call 12 (by kernel_rfl) rfl (by rfl) ?_
        apply Exists.intro
        apply Exists.intro
        refine ⟨?_, ?_⟩
        · go_simp
          first | done | rfl | exact ⟨rfl, rfl⟩
        refine (KJ1.out _ hS.1).mono ?_
        rintro e D5 ⟨rfl, hb⟩
        replace hS := hS.go hb
        refine ⟨_, rfl, hS, ?_⟩
        clear hb
        simp only [Act.put, List.setIfInBounds_toArray, List.set_cons_zero, List.set_cons_succ]
        refine held_val 13 rfl (by kernel_rfl) (by kernel_rfl) (by kernel_rfl) (fun _ _ _ _ h => h) (by rfl) hS ?_
        apply Exists.intro
        refine ⟨fun w' hw' => ?_, ?_⟩
        · skip
          go_simp
          first | done | rfl | exact ⟨rfl, rfl⟩
        simp only [Act.put, List.setIfInBounds_toArray, List.set_cons_zero, List.set_cons_succ]
        try simp only [hne2]
        refine held_val 14 rfl (by kernel_rfl) (by kernel_rfl) (by kernel_rfl) (fun _ _ _ _ h => h) (by rfl) hS ?_
        apply Exists.intro
        refine ⟨fun w' hw' => ?_, ?_⟩
        · skip
          go_simp
          first | done | rfl | exact ⟨rfl, rfl⟩
        simp only [Act.put, List.setIfInBounds_toArray, List.set_cons_zero, List.set_cons_succ]
        refine wpAnyH_done (by kernel_rfl) ?_ _
        have hb := hS.1
        go_wp2_with fail
        go_meet
        exact ⟨rfl, hb⟩
  case rest =>
    obtain ⟨rfl, hb⟩ := hcut
    generalize wc = w2 at *
    replace hB := hB.trans (hb.mono hB.size)
    replace rA := rA.stay hb
    replace rB := rB.stay hb
    replace rR := rR.stay hb
    clear hb KA KB KI KJ hne2 hmg
    cases mg with
    | false =>
      have z0 := Rw.frozen rR 0
      have z1 := Rw.frozen rR 1
      have z2 := Rw.frozen rR 2
      have z3 := Rw.frozen rR 3
      have z4 := Rw.frozen rR 4
      have z5 := Rw.frozen rR 5
      have u0 := Rw.cell rR 0
      have u1 := Rw.cell rR 1
      have u2 := Rw.cell rR 2
      have u3 := Rw.cell rR 3
      have u4 := Rw.cell rR 4
      have u5 := Rw.cell rR 5
      simp only [List.getElem?_cons_zero, List.getElem?_cons_succ] at u0 u1 u2 u3 u4 u5
      go_wp2_with fail
      refine bodyPost_ret (v := .tuple #[alV [] (.slice none 0 0) 0 0 0 0, .bool false]) (by simp [results, Tryd.results14, go_sem, u0, u1, u2, u3, u4, u5, alV]) rfl ?_
      exact ⟨rfl, below_set6 hB hne.2.2.2.2 _ _ _ _ _ _⟩
    | true =>
      have a4 := Rw.cell rA 4
      have b4 := Rw.cell rB 4
      have z4 := Rw.frozen rA 4
      simp only [List.getElem?_cons_zero, List.getElem?_cons_succ] at a4 b4
      go_upto_region 4 with fail
      replace rB := Rw.other rB (k := bA) hne.2.1.symm 4 (.int .i64 (min p p2))
      replace rR := Rw.other rR (k := bA) hne.1.symm 4 (.int .i64 (min p p2))
      replace rA := Rw.setCell rA 4 (.int .i64 (min p p2))
      replace hB := hB.setCell (p := ⟨bA, 4, none⟩) hne.2.2.2.1 (.int .i64 (min p p2))
      simp only [List.set_cons_zero, List.set_cons_succ] at rA
      generalize w2.setCell ⟨bA, 4, none⟩ (.int .i64 (min p p2)) = w3 at *
      clear a4 b4 z4

      have a5 := Rw.cell rA 5
      have b5 := Rw.cell rB 5
      have z5 := Rw.frozen rA 5
      simp only [List.getElem?_cons_zero, List.getElem?_cons_succ] at a5 b5

      by_cases hq : q = 0
      · have e : LQ = 0 := by rw [HLT (), if_pos (.inl hq)]
        subst e
        subst hq
        go_upto_region 7 with fail
        replace rB := Rw.other rB (k := bA) hne.2.1.symm 5 (.int .i64 0)
        replace rR := Rw.other rR (k := bA) hne.1.symm 5 (.int .i64 0)
        replace rA := Rw.setCell rA 5 (.int .i64 0)
        replace hB := hB.setCell (p := ⟨bA, 5, none⟩) hne.2.2.2.1 (.int .i64 0)
        simp only [List.set_cons_zero, List.set_cons_succ] at rA
        generalize w3.setCell ⟨bA, 5, none⟩ (.int .i64 0) = w4 at *
        clear a5 b5 z5
        have a2 := Rw.cell rA 2
        have a3 := Rw.cell rA 3
        simp only [List.getElem?_cons_zero, List.getElem?_cons_succ] at a2 a3
        have b2 := Rw.cell rB 2
        have b3 := Rw.cell rB 3
        simp only [List.getElem?_cons_zero, List.getElem?_cons_succ] at b2 b3
        go_wp2_with fail
        refine (KL.out _).mono ?_
        rintro e w5 ⟨rfl, hb⟩
        replace hB := hB.trans (hb.mono hB.size)
        replace rA := rA.stay hb
        replace rR := rR.stay hb
        clear hb KL rB a2 a3 b2 b3
        have a2 := Rw.cell rA 2
        have a3 := Rw.cell rA 3
        have z2 := Rw.frozen rA 2
        have z3 := Rw.frozen rA 3
        simp only [List.getElem?_cons_zero, List.getElem?_cons_succ] at a2 a3
        go_upto_region 8 with fail
        replace rR := Rw.other (Rw.other rR (k := bA) hne.1.symm 2 (.int .i64 JL)) (k := bA) hne.1.symm 3 (.int .u32 JC)
        replace rA := Rw.setCell (Rw.setCell rA 2 (.int .i64 JL)) 3 (.int .u32 JC)
        replace hB := (hB.setCell (p := ⟨bA, 2, none⟩) hne.2.2.2.1 (.int .i64 JL)).setCell (p := ⟨bA, 3, none⟩) hne.2.2.2.1 (.int .u32 JC)
        simp only [List.set_cons_zero, List.set_cons_succ] at rA
        generalize (w5.setCell ⟨bA, 2, none⟩ (.int .i64 JL)).setCell ⟨bA, 3, none⟩ (.int .u32 JC) = w6 at *
        clear a2 a3 z2 z3
        have a0 := Rw.cell rA 0
        have a1 := Rw.cell rA 1
        have a2 := Rw.cell rA 2
        have a3 := Rw.cell rA 3
        have a4 := Rw.cell rA 4
        have a5 := Rw.cell rA 5
        simp only [List.getElem?_cons_zero, List.getElem?_cons_succ] at a0 a1 a2 a3 a4 a5
        have z0 := Rw.frozen rR 0
        have z1 := Rw.frozen rR 1
        have z2 := Rw.frozen rR 2
        have z3 := Rw.frozen rR 3
        have z4 := Rw.frozen rR 4
        have z5 := Rw.frozen rR 5
        have u0 := Rw.cell rR 0
        have u1 := Rw.cell rR 1
        have u2 := Rw.cell rR 2
        have u3 := Rw.cell rR 3
        have u4 := Rw.cell rR 4
        have u5 := Rw.cell rR 5
        simp only [List.getElem?_cons_zero, List.getElem?_cons_succ] at u0 u1 u2 u3 u4 u5
        go_wp2_with fail
        refine bodyPost_ret (v := .tuple #[.agg #[.string ⟨s.toArray⟩, .slice ay ny ky, .int .i64 JL, .int .u32 JC, .int .i64 (min p p2), .int .i64 0], .bool true]) (by simp [results, Tryd.results14, go_sem, u0, u1, u2, u3, u4, u5]) rfl ?_
        exact ⟨rfl, below_set6 hB hne.2.2.2.2 _ _ _ _ _ _⟩
      · have hqb : (q == 0) = false := beq_false_of_ne hq
        by_cases hq2 : q2 = 0
        · have e : LQ = 0 := by rw [HLT (), if_pos (.inr hq2)]
          subst e
          subst hq2
          go_upto_region 7 with fail
          replace rB := Rw.other rB (k := bA) hne.2.1.symm 5 (.int .i64 0)
          replace rR := Rw.other rR (k := bA) hne.1.symm 5 (.int .i64 0)
          replace rA := Rw.setCell rA 5 (.int .i64 0)
          replace hB := hB.setCell (p := ⟨bA, 5, none⟩) hne.2.2.2.1 (.int .i64 0)
          simp only [List.set_cons_zero, List.set_cons_succ] at rA
          generalize w3.setCell ⟨bA, 5, none⟩ (.int .i64 0) = w4 at *
          clear a5 b5 z5
          have a2 := Rw.cell rA 2
          have a3 := Rw.cell rA 3
          simp only [List.getElem?_cons_zero, List.getElem?_cons_succ] at a2 a3
          have b2 := Rw.cell rB 2
          have b3 := Rw.cell rB 3
          simp only [List.getElem?_cons_zero, List.getElem?_cons_succ] at b2 b3
          go_wp2_with fail
          refine (KL.out _).mono ?_
          rintro e w5 ⟨rfl, hb⟩
          replace hB := hB.trans (hb.mono hB.size)
          replace rA := rA.stay hb
          replace rR := rR.stay hb
          clear hb KL rB a2 a3 b2 b3
          have a2 := Rw.cell rA 2
          have a3 := Rw.cell rA 3
          have z2 := Rw.frozen rA 2
          have z3 := Rw.frozen rA 3
          simp only [List.getElem?_cons_zero, List.getElem?_cons_succ] at a2 a3
          go_upto_region 8 with fail
          replace rR := Rw.other (Rw.other rR (k := bA) hne.1.symm 2 (.int .i64 JL)) (k := bA) hne.1.symm 3 (.int .u32 JC)
          replace rA := Rw.setCell (Rw.setCell rA 2 (.int .i64 JL)) 3 (.int .u32 JC)
          replace hB := (hB.setCell (p := ⟨bA, 2, none⟩) hne.2.2.2.1 (.int .i64 JL)).setCell (p := ⟨bA, 3, none⟩) hne.2.2.2.1 (.int .u32 JC)
          simp only [List.set_cons_zero, List.set_cons_succ] at rA
          generalize (w5.setCell ⟨bA, 2, none⟩ (.int .i64 JL)).setCell ⟨bA, 3, none⟩ (.int .u32 JC) = w6 at *
          clear a2 a3 z2 z3
          have a0 := Rw.cell rA 0
          have a1 := Rw.cell rA 1
          have a2 := Rw.cell rA 2
          have a3 := Rw.cell rA 3
          have a4 := Rw.cell rA 4
          have a5 := Rw.cell rA 5
          simp only [List.getElem?_cons_zero, List.getElem?_cons_succ] at a0 a1 a2 a3 a4 a5
          have z0 := Rw.frozen rR 0
          have z1 := Rw.frozen rR 1
          have z2 := Rw.frozen rR 2
          have z3 := Rw.frozen rR 3
          have z4 := Rw.frozen rR 4
          have z5 := Rw.frozen rR 5
          have u0 := Rw.cell rR 0
          have u1 := Rw.cell rR 1
          have u2 := Rw.cell rR 2
          have u3 := Rw.cell rR 3
          have u4 := Rw.cell rR 4
          have u5 := Rw.cell rR 5
          simp only [List.getElem?_cons_zero, List.getElem?_cons_succ] at u0 u1 u2 u3 u4 u5
          go_wp2_with fail
          refine bodyPost_ret (v := .tuple #[.agg #[.string ⟨s.toArray⟩, .slice ay ny ky, .int .i64 JL, .int .u32 JC, .int .i64 (min p p2), .int .i64 0], .bool true]) (by simp [results, Tryd.results14, go_sem, u0, u1, u2, u3, u4, u5]) rfl ?_
          exact ⟨rfl, below_set6 hB hne.2.2.2.2 _ _ _ _ _ _⟩
        · have hqb2 : (q2 == 0) = false := beq_false_of_ne hq2
          have e : LQ = max q q2 := by rw [HLT (), if_neg (by simp [hq, hq2])]
          subst e
          go_upto_region 7 with fail

          replace rB := Rw.other rB (k := bA) hne.2.1.symm 5 (.int .i64 (max q q2))
          replace rR := Rw.other rR (k := bA) hne.1.symm 5 (.int .i64 (max q q2))
          replace rA := Rw.setCell rA 5 (.int .i64 (max q q2))
          replace hB := hB.setCell (p := ⟨bA, 5, none⟩) hne.2.2.2.1 (.int .i64 (max q q2))
          simp only [List.set_cons_zero, List.set_cons_succ] at rA
          generalize w3.setCell ⟨bA, 5, none⟩ (.int .i64 (max q q2)) = w4 at *
          clear a5 b5 z5
          have a2 := Rw.cell rA 2
          have a3 := Rw.cell rA 3
          simp only [List.getElem?_cons_zero, List.getElem?_cons_succ] at a2 a3
          have b2 := Rw.cell rB 2
          have b3 := Rw.cell rB 3
          simp only [List.getElem?_cons_zero, List.getElem?_cons_succ] at b2 b3
          go_wp2_with fail
          refine (KL.out _).mono ?_
          rintro e w5 ⟨rfl, hb⟩
          replace hB := hB.trans (hb.mono hB.size)
          replace rA := rA.stay hb
          replace rR := rR.stay hb
          clear hb KL rB a2 a3 b2 b3
          have a2 := Rw.cell rA 2
          have a3 := Rw.cell rA 3
          have z2 := Rw.frozen rA 2
          have z3 := Rw.frozen rA 3
          simp only [List.getElem?_cons_zero, List.getElem?_cons_succ] at a2 a3
          go_upto_region 8 with fail
          replace rR := Rw.other (Rw.other rR (k := bA) hne.1.symm 2 (.int .i64 JL)) (k := bA) hne.1.symm 3 (.int .u32 JC)
          replace rA := Rw.setCell (Rw.setCell rA 2 (.int .i64 JL)) 3 (.int .u32 JC)
          replace hB := (hB.setCell (p := ⟨bA, 2, none⟩) hne.2.2.2.1 (.int .i64 JL)).setCell (p := ⟨bA, 3, none⟩) hne.2.2.2.1 (.int .u32 JC)
          simp only [List.set_cons_zero, List.set_cons_succ] at rA
          generalize (w5.setCell ⟨bA, 2, none⟩ (.int .i64 JL)).setCell ⟨bA, 3, none⟩ (.int .u32 JC) = w6 at *
          clear a2 a3 z2 z3
          have a0 := Rw.cell rA 0
          have a1 := Rw.cell rA 1
          have a2 := Rw.cell rA 2
          have a3 := Rw.cell rA 3
          have a4 := Rw.cell rA 4
          have a5 := Rw.cell rA 5
          simp only [List.getElem?_cons_zero, List.getElem?_cons_succ] at a0 a1 a2 a3 a4 a5
          have z0 := Rw.frozen rR 0
          have z1 := Rw.frozen rR 1
          have z2 := Rw.frozen rR 2
          have z3 := Rw.frozen rR 3
          have z4 := Rw.frozen rR 4
          have z5 := Rw.frozen rR 5
          have u0 := Rw.cell rR 0
          have u1 := Rw.cell rR 1
          have u2 := Rw.cell rR 2
          have u3 := Rw.cell rR 3
          have u4 := Rw.cell rR 4
          have u5 := Rw.cell rR 5
          simp only [List.getElem?_cons_zero, List.getElem?_cons_succ] at u0 u1 u2 u3 u4 u5
          go_wp2_with fail
          refine bodyPost_ret (v := .tuple #[.agg #[.string ⟨s.toArray⟩, .slice ay ny ky, .int .i64 JL, .int .u32 JC, .int .i64 (min p p2), .int .i64 (max q q2)], .bool true]) (by simp [results, Tryd.results14, go_sem, u0, u1, u2, u3, u4, u5]) rfl ?_
          exact ⟨rfl, below_set6 hB hne.2.2.2.2 _ _ _ _ _ _⟩
end Go.Proofs.YtknhkmlihbgjpaaDoor
