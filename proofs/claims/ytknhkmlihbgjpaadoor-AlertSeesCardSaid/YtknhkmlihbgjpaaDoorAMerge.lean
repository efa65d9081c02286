/- alert.Merge: two alerts as one. -/
import Derived.Test.YtknhkmlihbgjpaaDoorAClone
import Derived.Test.YtknhkmlihbgjpaaDoorAId
import Derived.Test.YtknhkmlihbgjpaaDoorLG
import Derived.Lib.MinMax
namespace Go.Proofs.YtknhkmlihbgjpaaDoor
open Go.ChangeShapes Go.WideShapes Go.RowKit

/-- May they be one? -/
def mgB (s t : Bs) (fs gs : List (Bs × Bs)) (l p q m p2 q2 : Int) : Bool := arB s fs l p q && (arB t gs m p2 q2 && decide (idN s fs = idN t gs))
def MergeP (s t : Bs) (fs gs : List (Bs × Bs)) (l c p q m d p2 q2 : Int) (w : World) (e : Ending) (w' : World) : Prop := Below w.heap.size w w' ∧
  ((mgB s t fs gs l p q m p2 q2 = false ∧ e = .returned (.tuple #[alV [] (.slice none 0 0) 0 0 0 0, .bool false])) ∨
   (mgB s t fs gs l p q m p2 q2 = true ∧ ∃ z : Sl, e = .returned (.tuple #[alV s z.v (jL l m) (jC l c m d) (min p p2) (laterN q q2), .bool true]) ∧ FldsAt (fun k => w.heap.size ≤ k) w' z.v fs))
set_option maxHeartbeats 12800000 in
set_option maxRecDepth 100000 in
theorem merge_any (P P' : Nat → Prop) (s t : Bs) (y z : Sl) (fs gs : List (Bs × Bs)) (l c p q m d p2 q2 : Int) (w : World) (ht : Dg.Tabs w) (h : FldsAt P w y.v fs) (h2 : FldsAt P' w z.v gs) (hs : s.length ≤ 9223372036854775807) (hs2 : t.length ≤ 9223372036854775807) (hl : fs.length ≤ 100000) (hl2 : gs.length ≤ 100000)
    (hfl : ∀ f ∈ fs, f.1.length ≤ 9223372036854775807 ∧ f.2.length ≤ 9223372036854775807) (hfl2 : ∀ f ∈ gs, f.1.length ≤ 9223372036854775807 ∧ f.2.length ≤ 9223372036854775807) (hi : (idB s fs).length ≤ 70368744177664) (hi2 : (idB t gs).length ≤ 70368744177664) (hc : U32 c) (hd : U32 d) :
    Calls Tryd.prog 13 #[alV s y.v l c p q, alV t z.v m d p2 q2] w (MergeP s t fs gs l c p q m d p2 q2 w) := by
  have KA := Lib.hid fun w' (hb : Below w.heap.size w w') => aright_any P s y fs l c p q w' (h.stay hb) hs (by omega) hfl
  have KB := Lib.hid fun w' (hb : Below w.heap.size w w') => aright_any P' t z gs m d p2 q2 w' (h2.stay hb) hs2 (by omega) hfl2
  have KI := Lib.hid fun w' (hb : Below w.heap.size w w') => id_any P s y fs l c p q w' (ht.keep hb) (h.stay hb) hi (by omega)
  have KJ := Lib.hid fun w' (hb : Below w.heap.size w w') => id_any P' t z gs m d p2 q2 w' (ht.keep hb) (h2.stay hb) hi2 (by omega)
  have KC := Lib.hid fun w' (hb : Below w.heap.size w w') => clone_any P y.v fs w' (h.stay hb) hl
  have KL := Lib.hid fun w' => join_any l c m d hc.1 hc.2 hd.1 hd.2 w'
  have KE := Lib.hid fun w' => later_any q q2 w'
  clear h h2 hs hs2 hl hl2 hfl hfl2 hi hi2 hc hd ht
  have HCB : Unit → mgB s t fs gs l p q m p2 q2 = (arB s fs l p q && (arB t gs m p2 q2 && decide (idN s fs = idN t gs))) := fun _ => rfl
  have HCP : ∀ e w', MergeP s t fs gs l c p q m d p2 q2 w e w' = (Below w.heap.size w w' ∧
  ((mgB s t fs gs l p q m p2 q2 = false ∧ e = .returned (.tuple #[alV [] (.slice none 0 0) 0 0 0 0, .bool false])) ∨
   (mgB s t fs gs l p q m p2 q2 = true ∧ ∃ z : Sl, e = .returned (.tuple #[alV s z.v (jL l m) (jC l c m d) (min p p2) (laterN q q2), .bool true]) ∧ FldsAt (fun k => w.heap.size ≤ k) w' z.v fs))) := fun _ _ => rfl
  replace HCP := Lib.hid HCP
  generalize MergeP s t fs gs l c p q m d p2 q2 w = MP at *
  generalize mgB s t fs gs l p q m p2 q2 = O at *
  generalize arB s fs l p q = ra at *
  generalize arB t gs m p2 q2 = rb at *
  generalize idN s fs = i1 at *
  generalize idN t gs = i2 at *
  generalize jL l m = JL at *
  generalize jC l c m d = JC at *
  generalize laterN q q2 = LQ at *
  obtain ⟨ay, ny, ky⟩ := y
  obtain ⟨az, nz, kz⟩ := z
  unfold alV at *
  simp only [Sl.v] at KA KB KI KJ KC ⊢
  go_enter Tryd.func13, Tryd.ntmps13
  go_upto_region 1 with fail
  obtain ⟨rA, rB, rR, hB⟩ := put3n w 29 29 29 [.string ⟨s.toArray⟩, .slice ay ny ky, .int .i64 l, .int .u32 c, .int .i64 p, .int .i64 q] [.string ⟨t.toArray⟩, .slice az nz kz, .int .i64 m, .int .u32 d, .int .i64 p2, .int .i64 q2] [.string ⟨#[]⟩, .slice none 0 0, .int .i64 0, .int .u32 0, .int .i64 0, .int .i64 0]
  generalize ((w.alloc (.cells #[.string ⟨s.toArray⟩, .slice ay ny ky, .int .i64 l, .int .u32 c, .int .i64 p, .int .i64 q] 29)).alloc (.cells #[.string ⟨t.toArray⟩, .slice az nz kz, .int .i64 m, .int .u32 d, .int .i64 p2, .int .i64 q2] 29)).alloc (.cells #[.string ⟨#[]⟩, .slice none 0 0, .int .i64 0, .int .u32 0, .int .i64 0, .int .i64 0] 29) = w1 at *
  generalize hbR : w.heap.size + 1 + 1 = bR at rR ⊢
  generalize hbB : w.heap.size + 1 = bB at rB ⊢
  generalize hbA : w.heap.size = bA at rA ⊢
  have hne : bA ≠ bR ∧ bA ≠ bB ∧ bB ≠ bR ∧ w.heap.size ≤ bA ∧ w.heap.size ≤ bR := by omega
  have hAR : bA < bR := by omega
  have HBA : Unit → w.heap.size = bA := fun _ => hbA
  clear hbR hbB hbA
  refine wp_region_held (S := CL w1 [(⟨bA, 0, none⟩, .string ⟨s.toArray⟩), (⟨bA, 1, none⟩, .slice ay ny ky), (⟨bA, 2, none⟩, .int .i64 l), (⟨bA, 3, none⟩, .int .u32 c), (⟨bA, 4, none⟩, .int .i64 p), (⟨bA, 5, none⟩, .int .i64 q), (⟨bB, 0, none⟩, .string ⟨t.toArray⟩), (⟨bB, 1, none⟩, .slice az nz kz), (⟨bB, 2, none⟩, .int .i64 m), (⟨bB, 3, none⟩, .int .u32 d), (⟨bB, 4, none⟩, .int .i64 p2), (⟨bB, 5, none⟩, .int .i64 q2)]) (by kernel_rfl) ?_
  have hS : CL w1 [(⟨bA, 0, none⟩, .string ⟨s.toArray⟩), (⟨bA, 1, none⟩, .slice ay ny ky), (⟨bA, 2, none⟩, .int .i64 l), (⟨bA, 3, none⟩, .int .u32 c), (⟨bA, 4, none⟩, .int .i64 p), (⟨bA, 5, none⟩, .int .i64 q), (⟨bB, 0, none⟩, .string ⟨t.toArray⟩), (⟨bB, 1, none⟩, .slice az nz kz), (⟨bB, 2, none⟩, .int .i64 m), (⟨bB, 3, none⟩, .int .u32 d), (⟨bB, 4, none⟩, .int .i64 p2), (⟨bB, 5, none⟩, .int .i64 q2)] w1.drew := (((((((((((((CL.nil w1).row rB 5 rfl).row rB 4 rfl).row rB 3 rfl).row rB 2 rfl).row rB 1 rfl).row rB 0 rfl).row rA 5 rfl).row rA 4 rfl).row rA 3 rfl).row rA 2 rfl).row rA 1 rfl).row rA 0 rfl).drew
  have HEND : ∀ D, CL w1 [(⟨bA, 0, none⟩, .string ⟨s.toArray⟩), (⟨bA, 1, none⟩, .slice ay ny ky), (⟨bA, 2, none⟩, .int .i64 l), (⟨bA, 3, none⟩, .int .u32 c), (⟨bA, 4, none⟩, .int .i64 p), (⟨bA, 5, none⟩, .int .i64 q), (⟨bB, 0, none⟩, .string ⟨t.toArray⟩), (⟨bB, 1, none⟩, .slice az nz kz), (⟨bB, 2, none⟩, .int .i64 m), (⟨bB, 3, none⟩, .int .u32 d), (⟨bB, 4, none⟩, .int .i64 p2), (⟨bB, 5, none⟩, .int .i64 q2)] D → Below w1.heap.size w1 D := fun _ h => h.1
  replace HEND := Lib.hid HEND
  change wpAnyH _ _ _ _ _ _ _ _ w1.drew
  generalize w1.drew = D0 at *
  refine held_val 0 rfl (by kernel_rfl) (by kernel_rfl) (by kernel_rfl) (fun _ _ _ _ h => h) (by rfl) hS ?_
  apply Exists.intro
  refine ⟨fun w' hw' => ?_, ?_⟩
  · have e0 := hw'.at 0 rfl; have e1 := hw'.at 1 rfl; have e2 := hw'.at 2 rfl; have e3 := hw'.at 3 rfl; have e4 := hw'.at 4 rfl; have e5 := hw'.at 5 rfl
    go_simp
    first | done | rfl | exact ⟨rfl, rfl⟩
  simp only [Act.put, List.setIfInBounds_toArray, List.set_cons_zero, List.set_cons_succ]
  refine held_call 1 (by kernel_rfl) rfl (by rfl) ?_
  apply Exists.intro
  apply Exists.intro
  refine ⟨?_, ?_⟩
  · go_simp
    first | done | rfl | exact ⟨rfl, rfl⟩
  refine (KA.out D0 (hB.trans (hS.1.mono hB.size))).mono ?_
  rintro e D1 ⟨rfl, hb⟩
  replace hS := hS.go hb
  refine ⟨_, rfl, hS, ?_⟩
  clear hb
  simp only [Act.put, List.setIfInBounds_toArray, List.set_cons_zero, List.set_cons_succ]
  refine held_val 2 rfl (by kernel_rfl) (by kernel_rfl) (by kernel_rfl) (fun _ _ _ _ h => h) (by rfl) hS ?_
  apply Exists.intro
  refine ⟨fun w' hw' => ?_, ?_⟩
  · skip
    go_simp
    first | done | rfl | exact ⟨rfl, rfl⟩
  simp only [Act.put, List.setIfInBounds_toArray, List.set_cons_zero, List.set_cons_succ]
  refine held_val 3 rfl (by kernel_rfl) (by kernel_rfl) (by kernel_rfl) (fun _ _ _ _ h => h) (by rfl) hS ?_
  apply Exists.intro
  refine ⟨fun w' hw' => ?_, ?_⟩
  · skip
    go_simp
    first | done | rfl | exact ⟨rfl, rfl⟩
  simp only [Act.put, List.setIfInBounds_toArray, List.set_cons_zero, List.set_cons_succ]
  cases ra with
  | false =>
    have hO : O = false := by rw [HCB ()]; rfl
    clear HCB
    refine held_skip 4 rfl (by kernel_rfl) (by kernel_rfl) (by kernel_rfl) (fun _ _ _ _ h => h) (by rfl) hS ?_
    simp only [Act.put, List.setIfInBounds_toArray, List.set_cons_zero, List.set_cons_succ]
    refine held_skip 5 rfl (by kernel_rfl) (by kernel_rfl) (by kernel_rfl) (fun _ _ _ _ h => h) (by rfl) hS ?_
    simp only [Act.put, List.setIfInBounds_toArray, List.set_cons_zero, List.set_cons_succ]
    refine held_skip 6 rfl (by kernel_rfl) (by kernel_rfl) (by kernel_rfl) (fun _ _ _ _ h => h) (by rfl) hS ?_
    simp only [Act.put, List.setIfInBounds_toArray, List.set_cons_zero, List.set_cons_succ]
    refine held_val 7 rfl (by kernel_rfl) (by kernel_rfl) (by kernel_rfl) (fun _ _ _ _ h => h) (by rfl) hS ?_
    apply Exists.intro
    refine ⟨fun w' hw' => ?_, ?_⟩
    · skip
      go_simp
      first | done | rfl | exact ⟨rfl, rfl⟩
    simp only [Act.put, List.setIfInBounds_toArray, List.set_cons_zero, List.set_cons_succ]
    refine held_val 8 rfl (by kernel_rfl) (by kernel_rfl) (by kernel_rfl) (fun _ _ _ _ h => h) (by rfl) hS ?_
    apply Exists.intro
    refine ⟨fun w' hw' => ?_, ?_⟩
    · skip
      go_simp
      first | done | rfl | exact ⟨rfl, rfl⟩
    simp only [Act.put, List.setIfInBounds_toArray, List.set_cons_zero, List.set_cons_succ]
    refine held_skip 9 rfl (by kernel_rfl) (by kernel_rfl) (by kernel_rfl) (fun _ _ _ _ h => h) (by rfl) hS ?_
    simp only [Act.put, List.setIfInBounds_toArray, List.set_cons_zero, List.set_cons_succ]
    refine held_skip 10 rfl (by kernel_rfl) (by kernel_rfl) (by kernel_rfl) (fun _ _ _ _ h => h) (by rfl) hS ?_
    simp only [Act.put, List.setIfInBounds_toArray, List.set_cons_zero, List.set_cons_succ]
    refine held_skip 11 rfl (by kernel_rfl) (by kernel_rfl) (by kernel_rfl) (fun _ _ _ _ h => h) (by rfl) hS ?_
    simp only [Act.put, List.setIfInBounds_toArray, List.set_cons_zero, List.set_cons_succ]
    refine held_skip 12 rfl (by kernel_rfl) (by kernel_rfl) (by kernel_rfl) (fun _ _ _ _ h => h) (by rfl) hS ?_
    simp only [Act.put, List.setIfInBounds_toArray, List.set_cons_zero, List.set_cons_succ]
    refine held_skip 13 rfl (by kernel_rfl) (by kernel_rfl) (by kernel_rfl) (fun _ _ _ _ h => h) (by rfl) hS ?_
    simp only [Act.put, List.setIfInBounds_toArray, List.set_cons_zero, List.set_cons_succ]
    refine held_val 14 rfl (by kernel_rfl) (by kernel_rfl) (by kernel_rfl) (fun _ _ _ _ h => h) (by rfl) hS ?_
    apply Exists.intro
    refine ⟨fun w' hw' => ?_, ?_⟩
    · skip
      go_simp
      first | done | rfl | exact ⟨rfl, rfl⟩
    simp only [Act.put, List.setIfInBounds_toArray, List.set_cons_zero, List.set_cons_succ]
    refine wpAnyH_done (by kernel_rfl) ?_ _
    have hB1 := HEND.out D1 hS
    replace rA := rA.stay hB1
    replace rB := rB.stay hB1
    replace rR := rR.stay hB1
    replace hB := hB.trans (hB1.mono hB.size)
    clear hS HEND hB1 KA KB KI KJ
    have z0 := Rw.frozen rR 0
    have z1 := Rw.frozen rR 1
    have z2 := Rw.frozen rR 2
    have z3 := Rw.frozen rR 3
    have z4 := Rw.frozen rR 4
    have z5 := Rw.frozen rR 5
    have u0 := Rw.cell rR 0
    have u1 := Rw.cell rR 1
    have u2 := Rw.cell rR 2
    have u3 := Rw.cell rR 3
    have u4 := Rw.cell rR 4
    have u5 := Rw.cell rR 5
    simp only [List.getElem?_cons_zero, List.getElem?_cons_succ] at u0 u1 u2 u3 u4 u5
    go_wp2_with fail
    refine bodyPost_ret (v := .tuple #[.agg #[.string ⟨#[]⟩, .slice none 0 0, .int .i64 0, .int .u32 0, .int .i64 0, .int .i64 0], .bool false]) (by simp [results, Tryd.results13, go_sem, u0, u1, u2, u3, u4, u5]) rfl ?_
    rw [HCP.out]
    exact ⟨((((((hB.setCell (p := ⟨bR, 0, none⟩) hne.2.2.2.2 _).setCell (p := ⟨bR, 1, none⟩) hne.2.2.2.2 _).setCell (p := ⟨bR, 2, none⟩) hne.2.2.2.2 _).setCell (p := ⟨bR, 3, none⟩) hne.2.2.2.2 _).setCell (p := ⟨bR, 4, none⟩) hne.2.2.2.2 _).setCell (p := ⟨bR, 5, none⟩) hne.2.2.2.2 _), .inl ⟨hO, rfl⟩⟩
  | true =>
    refine held_val 4 rfl (by kernel_rfl) (by kernel_rfl) (by kernel_rfl) (fun _ _ _ _ h => h) (by rfl) hS ?_
    apply Exists.intro
    refine ⟨fun w' hw' => ?_, ?_⟩
    · have e0 := hw'.at 6 rfl; have e1 := hw'.at 7 rfl; have e2 := hw'.at 8 rfl; have e3 := hw'.at 9 rfl; have e4 := hw'.at 10 rfl; have e5 := hw'.at 11 rfl
      go_simp
      first | done | rfl | exact ⟨rfl, rfl⟩
    simp only [Act.put, List.setIfInBounds_toArray, List.set_cons_zero, List.set_cons_succ]
    refine held_call 5 (by kernel_rfl) rfl (by rfl) ?_
    apply Exists.intro
    apply Exists.intro
    refine ⟨?_, ?_⟩
    · go_simp
      first | done | rfl | exact ⟨rfl, rfl⟩
    refine (KB.out D1 (hB.trans (hS.1.mono hB.size))).mono ?_
    rintro e D2 ⟨rfl, hb⟩
    replace hS := hS.go hb
    refine ⟨_, rfl, hS, ?_⟩
    clear hb
    simp only [Act.put, List.setIfInBounds_toArray, List.set_cons_zero, List.set_cons_succ]
    refine held_val 6 rfl (by kernel_rfl) (by kernel_rfl) (by kernel_rfl) (fun _ _ _ _ h => h) (by rfl) hS ?_
    apply Exists.intro
    refine ⟨fun w' hw' => ?_, ?_⟩
    · skip
      go_simp
      first | done | rfl | exact ⟨rfl, rfl⟩
    simp only [Act.put, List.setIfInBounds_toArray, List.set_cons_zero, List.set_cons_succ]
    refine held_val 7 rfl (by kernel_rfl) (by kernel_rfl) (by kernel_rfl) (fun _ _ _ _ h => h) (by rfl) hS ?_
    apply Exists.intro
    refine ⟨fun w' hw' => ?_, ?_⟩
    · skip
      go_simp
      first | done | rfl | exact ⟨rfl, rfl⟩
    simp only [Act.put, List.setIfInBounds_toArray, List.set_cons_zero, List.set_cons_succ]
    refine held_val 8 rfl (by kernel_rfl) (by kernel_rfl) (by kernel_rfl) (fun _ _ _ _ h => h) (by rfl) hS ?_
    apply Exists.intro
    refine ⟨fun w' hw' => ?_, ?_⟩
    · skip
      go_simp
      first | done | rfl | exact ⟨rfl, rfl⟩
    simp only [Act.put, List.setIfInBounds_toArray, List.set_cons_zero, List.set_cons_succ]
    cases rb with
    | false =>
      have hO : O = false := by rw [HCB ()]; rfl
      clear HCB
      refine held_skip 9 rfl (by kernel_rfl) (by kernel_rfl) (by kernel_rfl) (fun _ _ _ _ h => h) (by rfl) hS ?_
      simp only [Act.put, List.setIfInBounds_toArray, List.set_cons_zero, List.set_cons_succ]
      refine held_skip 10 rfl (by kernel_rfl) (by kernel_rfl) (by kernel_rfl) (fun _ _ _ _ h => h) (by rfl) hS ?_
      simp only [Act.put, List.setIfInBounds_toArray, List.set_cons_zero, List.set_cons_succ]
      refine held_skip 11 rfl (by kernel_rfl) (by kernel_rfl) (by kernel_rfl) (fun _ _ _ _ h => h) (by rfl) hS ?_
      simp only [Act.put, List.setIfInBounds_toArray, List.set_cons_zero, List.set_cons_succ]
      refine held_skip 12 rfl (by kernel_rfl) (by kernel_rfl) (by kernel_rfl) (fun _ _ _ _ h => h) (by rfl) hS ?_
      simp only [Act.put, List.setIfInBounds_toArray, List.set_cons_zero, List.set_cons_succ]
      refine held_skip 13 rfl (by kernel_rfl) (by kernel_rfl) (by kernel_rfl) (fun _ _ _ _ h => h) (by rfl) hS ?_
      simp only [Act.put, List.setIfInBounds_toArray, List.set_cons_zero, List.set_cons_succ]
      refine held_val 14 rfl (by kernel_rfl) (by kernel_rfl) (by kernel_rfl) (fun _ _ _ _ h => h) (by rfl) hS ?_
      apply Exists.intro
      refine ⟨fun w' hw' => ?_, ?_⟩
      · skip
        go_simp
        first | done | rfl | exact ⟨rfl, rfl⟩
      simp only [Act.put, List.setIfInBounds_toArray, List.set_cons_zero, List.set_cons_succ]
      refine wpAnyH_done (by kernel_rfl) ?_ _
      have hB1 := HEND.out D2 hS
      replace rA := rA.stay hB1
      replace rB := rB.stay hB1
      replace rR := rR.stay hB1
      replace hB := hB.trans (hB1.mono hB.size)
      clear hS HEND hB1 KA KB KI KJ
      have z0 := Rw.frozen rR 0
      have z1 := Rw.frozen rR 1
      have z2 := Rw.frozen rR 2
      have z3 := Rw.frozen rR 3
      have z4 := Rw.frozen rR 4
      have z5 := Rw.frozen rR 5
      have u0 := Rw.cell rR 0
      have u1 := Rw.cell rR 1
      have u2 := Rw.cell rR 2
      have u3 := Rw.cell rR 3
      have u4 := Rw.cell rR 4
      have u5 := Rw.cell rR 5
      simp only [List.getElem?_cons_zero, List.getElem?_cons_succ] at u0 u1 u2 u3 u4 u5
      go_wp2_with fail
      refine bodyPost_ret (v := .tuple #[.agg #[.string ⟨#[]⟩, .slice none 0 0, .int .i64 0, .int .u32 0, .int .i64 0, .int .i64 0], .bool false]) (by simp [results, Tryd.results13, go_sem, u0, u1, u2, u3, u4, u5]) rfl ?_
      rw [HCP.out]
      exact ⟨((((((hB.setCell (p := ⟨bR, 0, none⟩) hne.2.2.2.2 _).setCell (p := ⟨bR, 1, none⟩) hne.2.2.2.2 _).setCell (p := ⟨bR, 2, none⟩) hne.2.2.2.2 _).setCell (p := ⟨bR, 3, none⟩) hne.2.2.2.2 _).setCell (p := ⟨bR, 4, none⟩) hne.2.2.2.2 _).setCell (p := ⟨bR, 5, none⟩) hne.2.2.2.2 _), .inl ⟨hO, rfl⟩⟩
    | true =>
      refine held_val 9 rfl (by kernel_rfl) (by kernel_rfl) (by kernel_rfl) (fun _ _ _ _ h => h) (by rfl) hS ?_
      apply Exists.intro
      refine ⟨fun w' hw' => ?_, ?_⟩
      · have e0 := hw'.at 0 rfl; have e1 := hw'.at 1 rfl; have e2 := hw'.at 2 rfl; have e3 := hw'.at 3 rfl; have e4 := hw'.at 4 rfl; have e5 := hw'.at 5 rfl
        go_simp
        first | done | rfl | exact ⟨rfl, rfl⟩
      simp only [Act.put, List.setIfInBounds_toArray, List.set_cons_zero, List.set_cons_succ]
      refine held_val 11 rfl (by kernel_rfl) (by kernel_rfl) (by kernel_rfl) (fun _ _ _ _ h => h) (by rfl) hS ?_
      apply Exists.intro
      refine ⟨fun w' hw' => ?_, ?_⟩
      · have e0 := hw'.at 6 rfl; have e1 := hw'.at 7 rfl; have e2 := hw'.at 8 rfl; have e3 := hw'.at 9 rfl; have e4 := hw'.at 10 rfl; have e5 := hw'.at 11 rfl
        go_simp
        first | done | rfl | exact ⟨rfl, rfl⟩
      simp only [Act.put, List.setIfInBounds_toArray, List.set_cons_zero, List.set_cons_succ]
      refine held_call 10 (by kernel_rfl) rfl (by rfl) ?_
      apply Exists.intro
      apply Exists.intro
      refine ⟨?_, ?_⟩
      · go_simp
        first | done | rfl | exact ⟨rfl, rfl⟩
      refine (KI.out D2 (hB.trans (hS.1.mono hB.size))).mono ?_
      rintro e D3 ⟨rfl, hb⟩
      replace hS := hS.go hb
      refine ⟨_, rfl, hS, ?_⟩
      clear hb
      simp only [Act.put, List.setIfInBounds_toArray, List.set_cons_zero, List.set_cons_succ]
      refine held_call 12 (by kernel_rfl) rfl (by rfl) ?_
      apply Exists.intro
      apply Exists.intro
      refine ⟨?_, ?_⟩
      · go_simp
        first | done | rfl | exact ⟨rfl, rfl⟩
      refine (KJ.out D3 (hB.trans (hS.1.mono hB.size))).mono ?_
      rintro e D4 ⟨rfl, hb⟩
      replace hS := hS.go hb
      refine ⟨_, rfl, hS, ?_⟩
      clear hb
      simp only [Act.put, List.setIfInBounds_toArray, List.set_cons_zero, List.set_cons_succ]
      by_cases hid : i1 = i2
      · subst hid
        have hO : O = true := by rw [HCB ()]; simp
        clear HCB
        refine held_val 13 rfl (by kernel_rfl) (by kernel_rfl) (by kernel_rfl) (fun _ _ _ _ h => h) (by rfl) hS ?_
        apply Exists.intro
        refine ⟨fun w' hw' => ?_, ?_⟩
        · skip
          go_simp
          first | done | rfl | exact ⟨rfl, rfl⟩
        simp only [Act.put, List.setIfInBounds_toArray, List.set_cons_zero, List.set_cons_succ]
        refine held_val 14 rfl (by kernel_rfl) (by kernel_rfl) (by kernel_rfl) (fun _ _ _ _ h => h) (by rfl) hS ?_
        apply Exists.intro
        refine ⟨fun w' hw' => ?_, ?_⟩
        · skip
          go_simp
          first | done | rfl | exact ⟨rfl, rfl⟩
        simp only [Act.put, List.setIfInBounds_toArray, List.set_cons_zero, List.set_cons_succ]
        refine wpAnyH_done (by kernel_rfl) ?_ _
        have hB1 := HEND.out D4 hS
        replace rA := rA.stay hB1
        replace rB := rB.stay hB1
        replace rR := rR.stay hB1
        replace hB := hB.trans (hB1.mono hB.size)
        clear hS HEND hB1 KA KB KI KJ
        have hRl := rR.lt
        have hAl := rA.lt
        clear HBA
        go_upto_region 3 with fail
        have a1 := Rw.cell rA 1
        simp only [List.getElem?_cons_zero, List.getElem?_cons_succ] at a1
        go_wp2_with fail
        refine (KC.out _ hB).mono ?_
        rintro e w2 ⟨⟨ax, nx, kx⟩, rfl, hz, hb⟩
        have hB2 := hB.trans (hb.mono hB.size)
        replace hz := hz.mono (P' := fun k => bR < k) (fun i hi _ => by have h0 : D4.heap.size ≤ i := hi; show bR < i; omega)
        replace rA := rA.stay hb
        replace rB := rB.stay hb
        replace rR := rR.stay hb
        simp only at hz ⊢
        clear KC hb hB a1 hRl hAl
        have z1 := Rw.frozen rA 1
        have a1 := Rw.cell rA 1
        simp only [List.getElem?_cons_zero, List.getElem?_cons_succ] at a1
        go_upto_region 4 with fail
        clear a1 z1
        replace hz := hz.keepN (S := fun j => j = bA) (Asd.one w2 bA 1 (.slice ax nx kx)) (fun i hi _ e => by have h0 : bR < i := hi; omega)
        replace rB := Rw.other rB (k := bA) hne.2.1.symm 1 (.slice ax nx kx)
        replace rR := Rw.other rR (k := bA) hne.1.symm 1 (.slice ax nx kx)
        replace rA := Rw.setCell rA 1 (.slice ax nx kx)
        replace hB2 := hB2.setCell (p := ⟨bA, 1, none⟩) hne.2.2.2.1 (.slice ax nx kx)
        simp only [List.set_cons_zero, List.set_cons_succ] at rA
        generalize w2.setCell ⟨bA, 1, none⟩ (.slice ax nx kx) = w3 at *
        have a2 := Rw.cell rA 2
        have a3 := Rw.cell rA 3
        simp only [List.getElem?_cons_zero, List.getElem?_cons_succ] at a2 a3
        have b2 := Rw.cell rB 2
        have b3 := Rw.cell rB 3
        simp only [List.getElem?_cons_zero, List.getElem?_cons_succ] at b2 b3
        go_wp2_with fail
        refine (KL.out _).mono ?_
        rintro e w4 ⟨rfl, hb⟩
        replace hB2 := hB2.trans (hb.mono hB2.size)
        replace hz := hz.stay hb
        replace rA := rA.stay hb
        replace rB := rB.stay hb
        replace rR := rR.stay hb
        clear KL hb a2 a3 b2 b3
        have z2 := Rw.frozen rA 2
        have z3 := Rw.frozen rA 3
        have a2 := Rw.cell rA 2
        have a3 := Rw.cell rA 3
        simp only [List.getElem?_cons_zero, List.getElem?_cons_succ] at a2 a3
        go_upto_region 5 with fail
        clear a2 a3 z2 z3
        replace hz := hz.keepN (S := fun j => j = bA) (Asd.one w4 bA 2 (.int .i64 JL)) (fun i hi _ e => by have h0 : bR < i := hi; omega)
        replace rB := Rw.other rB (k := bA) hne.2.1.symm 2 (.int .i64 JL)
        replace rR := Rw.other rR (k := bA) hne.1.symm 2 (.int .i64 JL)
        replace rA := Rw.setCell rA 2 (.int .i64 JL)
        replace hB2 := hB2.setCell (p := ⟨bA, 2, none⟩) hne.2.2.2.1 (.int .i64 JL)
        simp only [List.set_cons_zero, List.set_cons_succ] at rA
        generalize w4.setCell ⟨bA, 2, none⟩ (.int .i64 JL) = w5 at *
        replace hz := hz.keepN (S := fun j => j = bA) (Asd.one w5 bA 3 (.int .u32 JC)) (fun i hi _ e => by have h0 : bR < i := hi; omega)
        replace rB := Rw.other rB (k := bA) hne.2.1.symm 3 (.int .u32 JC)
        replace rR := Rw.other rR (k := bA) hne.1.symm 3 (.int .u32 JC)
        replace rA := Rw.setCell rA 3 (.int .u32 JC)
        replace hB2 := hB2.setCell (p := ⟨bA, 3, none⟩) hne.2.2.2.1 (.int .u32 JC)
        simp only [List.set_cons_zero, List.set_cons_succ] at rA
        generalize w5.setCell ⟨bA, 3, none⟩ (.int .u32 JC) = w6 at *
        have a4 := Rw.cell rA 4
        simp only [List.getElem?_cons_zero, List.getElem?_cons_succ] at a4
        have b4 := Rw.cell rB 4
        simp only [List.getElem?_cons_zero, List.getElem?_cons_succ] at b4
        have z4 := Rw.frozen rA 4
        go_upto_region 6 with fail
        clear a4 b4 z4
        replace hz := hz.keepN (S := fun j => j = bA) (Asd.one w6 bA 4 (.int .i64 (min p p2))) (fun i hi _ e => by have h0 : bR < i := hi; omega)
        replace rB := Rw.other rB (k := bA) hne.2.1.symm 4 (.int .i64 (min p p2))
        replace rR := Rw.other rR (k := bA) hne.1.symm 4 (.int .i64 (min p p2))
        replace rA := Rw.setCell rA 4 (.int .i64 (min p p2))
        replace hB2 := hB2.setCell (p := ⟨bA, 4, none⟩) hne.2.2.2.1 (.int .i64 (min p p2))
        simp only [List.set_cons_zero, List.set_cons_succ] at rA
        generalize w6.setCell ⟨bA, 4, none⟩ (.int .i64 (min p p2)) = w7 at *
        have a5 := Rw.cell rA 5
        simp only [List.getElem?_cons_zero, List.getElem?_cons_succ] at a5
        have b5 := Rw.cell rB 5
        simp only [List.getElem?_cons_zero, List.getElem?_cons_succ] at b5
        go_wp2_with fail
        refine (KE.out _).mono ?_
        rintro e w8 ⟨rfl, rfl⟩
        have z5 := Rw.frozen rA 5
        go_upto_region 7 with fail
        clear a5 b5 z5 KE
        replace hz := hz.keepN (S := fun j => j = bA) (Asd.one w8 bA 5 (.int .i64 LQ)) (fun i hi _ e => by have h0 : bR < i := hi; omega)
        replace rB := Rw.other rB (k := bA) hne.2.1.symm 5 (.int .i64 LQ)
        replace rR := Rw.other rR (k := bA) hne.1.symm 5 (.int .i64 LQ)
        replace rA := Rw.setCell rA 5 (.int .i64 LQ)
        replace hB2 := hB2.setCell (p := ⟨bA, 5, none⟩) hne.2.2.2.1 (.int .i64 LQ)
        simp only [List.set_cons_zero, List.set_cons_succ] at rA
        generalize w8.setCell ⟨bA, 5, none⟩ (.int .i64 LQ) = w9 at *
        have a0 := Rw.cell rA 0
        have a1 := Rw.cell rA 1
        have a2 := Rw.cell rA 2
        have a3 := Rw.cell rA 3
        have a4 := Rw.cell rA 4
        have a5 := Rw.cell rA 5
        simp only [List.getElem?_cons_zero, List.getElem?_cons_succ] at a0 a1 a2 a3 a4 a5
        have z0 := Rw.frozen rR 0
        have z1 := Rw.frozen rR 1
        have z2 := Rw.frozen rR 2
        have z3 := Rw.frozen rR 3
        have z4 := Rw.frozen rR 4
        have z5 := Rw.frozen rR 5
        have u0 := Rw.cell rR 0
        have u1 := Rw.cell rR 1
        have u2 := Rw.cell rR 2
        have u3 := Rw.cell rR 3
        have u4 := Rw.cell rR 4
        have u5 := Rw.cell rR 5
        simp only [List.getElem?_cons_zero, List.getElem?_cons_succ] at u0 u1 u2 u3 u4 u5
        have hz9 := hz.keepN (S := fun j => j = bR) ((((((Asd.one w9 bR 0 (.string ⟨s.toArray⟩)).set1 1 (.slice ax nx kx)).set1 2 (.int .i64 JL)).set1 3 (.int .u32 JC)).set1 4 (.int .i64 (min p p2))).set1 5 (.int .i64 LQ)) (fun i hi _ e => by have h0 : bR < i := hi; omega)
        go_wp2_with fail
        refine bodyPost_ret (v := .tuple #[.agg #[.string ⟨s.toArray⟩, .slice ax nx kx, .int .i64 JL, .int .u32 JC, .int .i64 (min p p2), .int .i64 LQ], .bool true]) (by simp [results, Tryd.results13, go_sem, u0, u1, u2, u3, u4, u5]) rfl ?_
        rw [HCP.out]
        exact ⟨((((((hB2.setCell (p := ⟨bR, 0, none⟩) hne.2.2.2.2 _).setCell (p := ⟨bR, 1, none⟩) hne.2.2.2.2 _).setCell (p := ⟨bR, 2, none⟩) hne.2.2.2.2 _).setCell (p := ⟨bR, 3, none⟩) hne.2.2.2.2 _).setCell (p := ⟨bR, 4, none⟩) hne.2.2.2.2 _).setCell (p := ⟨bR, 5, none⟩) hne.2.2.2.2 _), .inr ⟨hO, ⟨ax, nx, kx⟩, rfl, hz9.mono (fun i hi _ => by have h0 : bR < i := hi; show w.heap.size ≤ i; omega)⟩⟩
      · have hO : O = false := by rw [HCB ()]; simp [hid]
        clear HCB
        have hne3 : (i1 : Int) ≠ (i2 : Int) := by omega
        have hne4 : ((i1 : Int) == (i2 : Int)) = false := beq_false_of_ne hne3
        refine held_val 13 rfl (by kernel_rfl) (by kernel_rfl) (by kernel_rfl) (fun _ _ _ _ h => h) (by rfl) hS ?_
        apply Exists.intro
        refine ⟨fun w' hw' => ?_, ?_⟩
        · skip
          go_simp
          first | done | rfl | exact ⟨rfl, rfl⟩
        simp only [Act.put, List.setIfInBounds_toArray, List.set_cons_zero, List.set_cons_succ]
        refine held_val 14 rfl (by kernel_rfl) (by kernel_rfl) (by kernel_rfl) (fun _ _ _ _ h => h) (by rfl) hS ?_
        apply Exists.intro
        refine ⟨fun w' hw' => ?_, ?_⟩
        · skip
          go_simp
          first | done | rfl | exact ⟨rfl, rfl⟩
        simp only [Act.put, List.setIfInBounds_toArray, List.set_cons_zero, List.set_cons_succ]
        refine wpAnyH_done (by kernel_rfl) ?_ _
        have hB1 := HEND.out D4 hS
        replace rA := rA.stay hB1
        replace rB := rB.stay hB1
        replace rR := rR.stay hB1
        replace hB := hB.trans (hB1.mono hB.size)
        clear hS HEND hB1 KA KB KI KJ
        have z0 := Rw.frozen rR 0
        have z1 := Rw.frozen rR 1
        have z2 := Rw.frozen rR 2
        have z3 := Rw.frozen rR 3
        have z4 := Rw.frozen rR 4
        have z5 := Rw.frozen rR 5
        have u0 := Rw.cell rR 0
        have u1 := Rw.cell rR 1
        have u2 := Rw.cell rR 2
        have u3 := Rw.cell rR 3
        have u4 := Rw.cell rR 4
        have u5 := Rw.cell rR 5
        simp only [List.getElem?_cons_zero, List.getElem?_cons_succ] at u0 u1 u2 u3 u4 u5
        go_wp2_with fail
        refine bodyPost_ret (v := .tuple #[.agg #[.string ⟨#[]⟩, .slice none 0 0, .int .i64 0, .int .u32 0, .int .i64 0, .int .i64 0], .bool false]) (by simp [results, Tryd.results13, go_sem, u0, u1, u2, u3, u4, u5]) rfl ?_
        rw [HCP.out]
        exact ⟨((((((hB.setCell (p := ⟨bR, 0, none⟩) hne.2.2.2.2 _).setCell (p := ⟨bR, 1, none⟩) hne.2.2.2.2 _).setCell (p := ⟨bR, 2, none⟩) hne.2.2.2.2 _).setCell (p := ⟨bR, 3, none⟩) hne.2.2.2.2 _).setCell (p := ⟨bR, 4, none⟩) hne.2.2.2.2 _).setCell (p := ⟨bR, 5, none⟩) hne.2.2.2.2 _), .inl ⟨hO, rfl⟩⟩
end Go.Proofs.YtknhkmlihbgjpaaDoor
