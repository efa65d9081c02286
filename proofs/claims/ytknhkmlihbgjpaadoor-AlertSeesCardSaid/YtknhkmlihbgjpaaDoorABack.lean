/- back: an alert as the program has it. -/
import Derived.Test.YtknhkmlihbgjpaaDoorALives
namespace Go.Proofs.YtknhkmlihbgjpaaDoor
open Go.ChangeShapes Go.WideShapes Go.RowKit

theorem FldsAt.upto {P : Nat → Prop} {w : World} {a : Option Addr} {n c : Nat} {fs : List (Bs × Bs)} (h : FldsAt P w (.slice a n c) fs) {k : Nat} (hk : k ≤ fs.length) : FldsAt P w (.slice a k c) (fs.take k) := by
  rcases h with ⟨e, _⟩ | ⟨g, o, c', e, hle, hp, hg, hc⟩
  · have e2 : fs = [] := by simpa using e
    subst e2
    obtain rfl : k = 0 := by simpa using hk
    exact .inl ⟨rfl, a, c, rfl⟩
  · injection e with e1 _ e3
    subst e1 e3
    rw [List.length_map] at hle
    refine .inr ⟨g, o, c, by rw [List.length_map, List.length_take, Nat.min_eq_left hk], by rw [List.length_map, List.length_take]; omega, hp, hg, fun j s hj => hc j s ?_⟩
    rw [List.map_take] at hj
    exact (List.getElem?_take_of_lt (by have := (List.getElem?_eq_some_iff.1 hj).1; rw [List.length_take] at this; omega)).symm.trans hj
theorem cut_flds (a : Option Addr) (n c : Nat) (hn : min n 12 ≤ c) (w : World) : (Instr.slice 22 (.slice a n c) none (some (.int .i64 (min (n : Int) 12))) none).run Tryd.prog w = .ok (.slice a (min n 12) c) w := by
  have hs : ∀ w, (sizeOf 64).run Tryd.prog w = .ok 2 w := fun w => by kernel_rfl
  obtain ⟨k, hk⟩ : ∃ k, min n 12 = k := ⟨_, rfl⟩
  have e : min (n : Int) 12 = (k : Int) := by omega
  rw [e, hk]
  rw [hk] at hn
  have h0 : ∀ b : Addr, b.add 0 = b := fun b => by unfold Addr.add; simp
  cases a with
  | none => simp [Instr.slice, Sem.run_bind, run_underlying Tryd.underlying22, Instr.sliceBounds, run_sliceBound, hs, show (k : Int) ≤ (c : Int) by omega, show (0 : Int) ≤ (k : Int) by omega]
  | some b => simp [Instr.slice, Sem.run_bind, run_underlying Tryd.underlying22, Instr.sliceBounds, run_sliceBound, hs, show (k : Int) ≤ (c : Int) by omega, show (0 : Int) ≤ (k : Int) by omega, h0]
theorem FldsAt.cap {P : Nat → Prop} {w : World} {a : Option Addr} {n c : Nat} {fs : List (Bs × Bs)} (h : FldsAt P w (.slice a n c) fs) : n = fs.length ∧ min n 12 ≤ c := by
  rcases h with ⟨e, a', c', e2⟩ | ⟨g, o, c', e, hle, _⟩
  · have e3 : fs = [] := by simpa using e
    subst e3
    injection e2 with _ e4 _
    exact ⟨e4, by omega⟩
  · injection e with _ e1 e3
    rw [List.length_map] at hle e1
    omega
theorem wp_skip {o : Oper} {a : Act} {w w' : World} {K : Act → World → Prop} {Q : Exit → Act → World → Prop} (hrun : (execOp a.eval o).run Tryd.prog w = .ok .skip w') (hd : o.dst = none) (h : K a w') : o.wp Tryd.prog a w K Q := by
  unfold Oper.wp
  rw [hrun]
  show K (a.put o.dst undef) w'
  rw [hd]
  exact h
set_option maxHeartbeats 3200000 in
set_option maxRecDepth 100000 in
theorem back_full (P : Nat → Prop) (s : Bs) (y : Sl) (fs : List (Bs × Bs)) (l c p q : Int) (w : World) (h : FldsAt P w y.v fs) (hl : fs.length ≤ 9223372036854775807) :
    Calls Tryd.prog 12 #[alV s y.v l c p q] w fun e w' => e = .returned (alV s (.slice y.a (min y.n 12) y.c) l c p q) ∧ FldsAt P w' (.slice y.a (min y.n 12) y.c) (fs.take 12) ∧ Below w.heap.size w w' := by
  obtain ⟨ay, ny, ky⟩ := y
  obtain ⟨e1, hcap⟩ := FldsAt.cap h
  simp only at e1 hcap hl
  have hcut := fun w => cut_flds ay ny ky hcap w
  have hup : FldsAt P w (.slice ay (min ny 12) ky) (fs.take 12) := by
    have e := FldsAt.upto h (k := min ny 12) (by omega)
    have e2 : fs.take (min ny 12) = fs.take 12 := by
      rcases Nat.le_total fs.length 12 with h1 | h1
      · rw [e1, Nat.min_eq_left h1, List.take_length, List.take_of_length_le h1]
      · rw [e1, Nat.min_eq_right h1]
    rw [e2] at e
    exact e
  rw [← e1] at hl
  have hni : (ny : Int) ≤ 9223372036854775807 := by omega
  clear h e1 hcap
  generalize min ny 12 = nz at *
  unfold alV
  simp only [Sl.v]
  go_enter Tryd.func12, Tryd.ntmps12
  go_upto_region 1 with fail
  obtain ⟨rA, rR, hB⟩ := put2n w 27 29 [.string ⟨s.toArray⟩, .slice ay ny ky, .int .i64 l, .int .u32 c, .int .i64 p, .int .i64 q] [.string ⟨#[]⟩, .slice none 0 0, .int .i64 0, .int .u32 0, .int .i64 0, .int .i64 0]
  generalize (w.alloc (.cells #[.string ⟨s.toArray⟩, .slice ay ny ky, .int .i64 l, .int .u32 c, .int .i64 p, .int .i64 q] 27)).alloc (.cells #[.string ⟨#[]⟩, .slice none 0 0, .int .i64 0, .int .u32 0, .int .i64 0, .int .i64 0] 29) = w1 at *
  generalize hbR : w.heap.size + 1 = bR at *
  have hge : w.heap.size < bR := by omega
  clear hbR
  generalize hbA : w.heap.size = bA at rA ⊢
  have HBA : Unit → w.heap.size = bA := fun _ => hbA
  clear hbA
  have hne : bA ≠ bR := by have := HBA (); omega
  refine wp_region_held (S := CS [(⟨bA, 0, none⟩, .string ⟨s.toArray⟩), (⟨bA, 1, none⟩, .slice ay ny ky), (⟨bA, 2, none⟩, .int .i64 l), (⟨bA, 3, none⟩, .int .u32 c), (⟨bA, 4, none⟩, .int .i64 p), (⟨bA, 5, none⟩, .int .i64 q)]) (by kernel_rfl) ?_
  have hS : CS [(⟨bA, 0, none⟩, .string ⟨s.toArray⟩), (⟨bA, 1, none⟩, .slice ay ny ky), (⟨bA, 2, none⟩, .int .i64 l), (⟨bA, 3, none⟩, .int .u32 c), (⟨bA, 4, none⟩, .int .i64 p), (⟨bA, 5, none⟩, .int .i64 q)] w1.drew := ((((((CS.nil w1).row rA 5 rfl).row rA 4 rfl).row rA 3 rfl).row rA 2 rfl).row rA 1 rfl).row rA 0 rfl
  have rA2 := rA.stay ((Below.refl w1.heap.size w1).drew)
  have rR2 := rR.stay ((Below.refl w1.heap.size w1).drew)
  have hB2 := hB.drew
  change wpAnyH _ _ _ _ _ _ _ _ w1.drew
  generalize w1.drew = D1 at *
  clear rA rR hB
  refine held_val 0 rfl (by kernel_rfl) (by kernel_rfl) (by kernel_rfl) (fun _ _ _ _ h => h) (by rfl) hS ?_
  apply Exists.intro
  refine ⟨fun w' hw' => ?_, ?_⟩
  · have e0 := hw'.at 0 rfl; have e1 := hw'.at 1 rfl; have e2 := hw'.at 2 rfl; have e3 := hw'.at 3 rfl; have e4 := hw'.at 4 rfl; have e5 := hw'.at 5 rfl
    go_simp
    first | done | rfl | exact ⟨rfl, rfl⟩
  simp only [Act.put, List.setIfInBounds_toArray, List.set_cons_zero, List.set_cons_succ]
  refine held_val 1 rfl (by kernel_rfl) (by kernel_rfl) (by kernel_rfl) (fun _ _ _ _ h => h) (by rfl) hS ?_
  apply Exists.intro
  refine ⟨fun w' hw' => ?_, ?_⟩
  · have e0 := hw'.at 0 rfl; have e1 := hw'.at 1 rfl; have e2 := hw'.at 2 rfl; have e3 := hw'.at 3 rfl; have e4 := hw'.at 4 rfl; have e5 := hw'.at 5 rfl
    go_simp
    first | done | rfl | exact ⟨rfl, rfl⟩
  simp only [Act.put, List.setIfInBounds_toArray, List.set_cons_zero, List.set_cons_succ]
  refine held_val 2 rfl (by kernel_rfl) (by kernel_rfl) (by kernel_rfl) (fun _ _ _ _ h => h) (by rfl) hS ?_
  apply Exists.intro
  refine ⟨fun w' hw' => ?_, ?_⟩
  · have e0 := hw'.at 0 rfl; have e1 := hw'.at 1 rfl; have e2 := hw'.at 2 rfl; have e3 := hw'.at 3 rfl; have e4 := hw'.at 4 rfl; have e5 := hw'.at 5 rfl
    go_simp
    first | done | rfl | exact ⟨rfl, rfl⟩
  simp only [Act.put, List.setIfInBounds_toArray, List.set_cons_zero, List.set_cons_succ]
  refine held_val 3 rfl (by kernel_rfl) (by kernel_rfl) (by kernel_rfl) (fun _ _ _ _ h => h) (by rfl) hS ?_
  apply Exists.intro
  refine ⟨fun w' hw' => ?_, ?_⟩
  · have e0 := hw'.at 0 rfl; have e1 := hw'.at 1 rfl; have e2 := hw'.at 2 rfl; have e3 := hw'.at 3 rfl; have e4 := hw'.at 4 rfl; have e5 := hw'.at 5 rfl
    go_simp
    first | done | rfl | exact ⟨rfl, rfl⟩
  simp only [Act.put, List.setIfInBounds_toArray, List.set_cons_zero, List.set_cons_succ]
  refine held_val 4 rfl (by kernel_rfl) (by kernel_rfl) (by kernel_rfl) (fun _ _ _ _ h => h) (by rfl) hS ?_
  apply Exists.intro
  refine ⟨fun w' hw' => ?_, ?_⟩
  · have e0 := hw'.at 0 rfl; have e1 := hw'.at 1 rfl; have e2 := hw'.at 2 rfl; have e3 := hw'.at 3 rfl; have e4 := hw'.at 4 rfl; have e5 := hw'.at 5 rfl
    go_simp
    first | done | rfl | exact ⟨rfl, rfl⟩
  simp only [Act.put, List.setIfInBounds_toArray, List.set_cons_zero, List.set_cons_succ]
  refine held_val 5 rfl (by kernel_rfl) (by kernel_rfl) (by kernel_rfl) (fun _ _ _ _ h => h) (by rfl) hS ?_
  apply Exists.intro
  refine ⟨fun w' hw' => ?_, ?_⟩
  · have e0 := hw'.at 0 rfl; have e1 := hw'.at 1 rfl; have e2 := hw'.at 2 rfl; have e3 := hw'.at 3 rfl; have e4 := hw'.at 4 rfl; have e5 := hw'.at 5 rfl
    go_simp
    first | done | rfl | exact ⟨rfl, rfl⟩
  simp only [Act.put, List.setIfInBounds_toArray, List.set_cons_zero, List.set_cons_succ]
  refine held_val 6 rfl (by kernel_rfl) (by kernel_rfl) (by kernel_rfl) (fun _ _ _ _ h => h) (by rfl) hS ?_
  apply Exists.intro
  refine ⟨fun w' hw' => ?_, ?_⟩
  · have e0 := hw'.at 0 rfl; have e1 := hw'.at 1 rfl; have e2 := hw'.at 2 rfl; have e3 := hw'.at 3 rfl; have e4 := hw'.at 4 rfl; have e5 := hw'.at 5 rfl
    go_simp
    first | done | rfl | exact ⟨rfl, rfl⟩
  simp only [Act.put, List.setIfInBounds_toArray, List.set_cons_zero, List.set_cons_succ]
  refine held_val 7 rfl (by kernel_rfl) (by kernel_rfl) (by kernel_rfl) (fun _ _ _ _ h => h) (by rfl) hS ?_
  apply Exists.intro
  refine ⟨fun w' hw' => ?_, ?_⟩
  · have e0 := hw'.at 0 rfl; have e1 := hw'.at 1 rfl; have e2 := hw'.at 2 rfl; have e3 := hw'.at 3 rfl; have e4 := hw'.at 4 rfl; have e5 := hw'.at 5 rfl
    go_simp
    first | done | rfl | exact ⟨rfl, rfl⟩
  simp only [Act.put, List.setIfInBounds_toArray, List.set_cons_zero, List.set_cons_succ]
  refine held_val 8 rfl (by kernel_rfl) (by kernel_rfl) (by kernel_rfl) (fun _ _ _ _ h => h) (by rfl) hS ?_
  apply Exists.intro
  refine ⟨fun w' hw' => ?_, ?_⟩
  · have e0 := hw'.at 0 rfl; have e1 := hw'.at 1 rfl; have e2 := hw'.at 2 rfl; have e3 := hw'.at 3 rfl; have e4 := hw'.at 4 rfl; have e5 := hw'.at 5 rfl
    go_simp
    first | done | rfl | exact ⟨rfl, rfl⟩
  simp only [Act.put, List.setIfInBounds_toArray, List.set_cons_zero, List.set_cons_succ]
  refine held_val 9 rfl (by kernel_rfl) (by kernel_rfl) (by kernel_rfl) (fun _ _ _ _ h => h) (by rfl) hS ?_
  apply Exists.intro
  refine ⟨fun w' hw' => ?_, ?_⟩
  · have e0 := hw'.at 0 rfl; have e1 := hw'.at 1 rfl; have e2 := hw'.at 2 rfl; have e3 := hw'.at 3 rfl; have e4 := hw'.at 4 rfl; have e5 := hw'.at 5 rfl
    go_simp
    first | done | rfl | exact ⟨rfl, rfl⟩
  simp only [Act.put, List.setIfInBounds_toArray, List.set_cons_zero, List.set_cons_succ]
  refine held_val 10 rfl (by kernel_rfl) (by kernel_rfl) (by kernel_rfl) (fun _ _ _ _ h => h) (by rfl) hS ?_
  apply Exists.intro
  refine ⟨fun w' hw' => ?_, ?_⟩
  · have e0 := hw'.at 0 rfl; have e1 := hw'.at 1 rfl; have e2 := hw'.at 2 rfl; have e3 := hw'.at 3 rfl; have e4 := hw'.at 4 rfl; have e5 := hw'.at 5 rfl
    go_simp
    first | done | rfl | exact ⟨rfl, rfl⟩
  simp only [Act.put, List.setIfInBounds_toArray, List.set_cons_zero, List.set_cons_succ]
  refine held_val 11 rfl (by kernel_rfl) (by kernel_rfl) (by kernel_rfl) (fun _ _ _ _ h => h) (by rfl) hS ?_
  apply Exists.intro
  refine ⟨fun w' hw' => ?_, ?_⟩
  · have e0 := hw'.at 0 rfl; have e1 := hw'.at 1 rfl; have e2 := hw'.at 2 rfl; have e3 := hw'.at 3 rfl; have e4 := hw'.at 4 rfl; have e5 := hw'.at 5 rfl
    go_simp
    first | done | rfl | exact ⟨rfl, rfl⟩
  simp only [Act.put, List.setIfInBounds_toArray, List.set_cons_zero, List.set_cons_succ]
  refine held_val 12 rfl (by kernel_rfl) (by kernel_rfl) (by kernel_rfl) (fun _ _ _ _ h => h) (by rfl) hS ?_
  apply Exists.intro
  refine ⟨fun w' hw' => ?_, ?_⟩
  · have e0 := hw'.at 0 rfl; have e1 := hw'.at 1 rfl; have e2 := hw'.at 2 rfl; have e3 := hw'.at 3 rfl; have e4 := hw'.at 4 rfl; have e5 := hw'.at 5 rfl
    go_simp
    first | done | rfl | exact ⟨rfl, rfl⟩
  simp only [Act.put, List.setIfInBounds_toArray, List.set_cons_zero, List.set_cons_succ]
  refine held_val 13 rfl (by kernel_rfl) (by kernel_rfl) (by kernel_rfl) (fun _ _ _ _ h => h) (by rfl) hS ?_
  apply Exists.intro
  refine ⟨fun w' hw' => ?_, ?_⟩
  · have e0 := hw'.at 0 rfl; have e1 := hw'.at 1 rfl; have e2 := hw'.at 2 rfl; have e3 := hw'.at 3 rfl; have e4 := hw'.at 4 rfl; have e5 := hw'.at 5 rfl
    go_simp
    first | done | rfl | exact ⟨rfl, rfl⟩
  simp only [Act.put, List.setIfInBounds_toArray, List.set_cons_zero, List.set_cons_succ]
  refine held_val 14 rfl (by kernel_rfl) (by kernel_rfl) (by kernel_rfl) (fun _ _ _ _ h => h) (by rfl) hS ?_
  apply Exists.intro
  refine ⟨fun w' hw' => ?_, ?_⟩
  · have e0 := hw'.at 0 rfl; have e1 := hw'.at 1 rfl; have e2 := hw'.at 2 rfl; have e3 := hw'.at 3 rfl; have e4 := hw'.at 4 rfl; have e5 := hw'.at 5 rfl
    go_simp
    first | done | rfl | exact ⟨rfl, rfl⟩
  simp only [Act.put, List.setIfInBounds_toArray, List.set_cons_zero, List.set_cons_succ]
  refine held_val 15 rfl (by kernel_rfl) (by kernel_rfl) (by kernel_rfl) (fun _ _ _ _ h => h) (by rfl) hS ?_
  apply Exists.intro
  refine ⟨fun w' hw' => ?_, ?_⟩
  · have e0 := hw'.at 0 rfl; have e1 := hw'.at 1 rfl; have e2 := hw'.at 2 rfl; have e3 := hw'.at 3 rfl; have e4 := hw'.at 4 rfl; have e5 := hw'.at 5 rfl
    go_simp
    first | done | rfl | exact ⟨rfl, rfl⟩
  simp only [Act.put, List.setIfInBounds_toArray, List.set_cons_zero, List.set_cons_succ]
  have z0 := Rw.frozen rR2 0
  have z1 := Rw.frozen rR2 1
  have z2 := Rw.frozen rR2 2
  have z3 := Rw.frozen rR2 3
  have z4 := Rw.frozen rR2 4
  have z5 := Rw.frozen rR2 5
  have u0 := Rw.cell rR2 0
  have u1 := Rw.cell rR2 1
  have u2 := Rw.cell rR2 2
  have u3 := Rw.cell rR2 3
  have u4 := Rw.cell rR2 4
  have u5 := Rw.cell rR2 5
  simp only [List.getElem?_cons_zero, List.getElem?_cons_succ] at u0 u1 u2 u3 u4 u5
  refine held_one 16 (by kernel_rfl) rfl (by rfl) ?_
  refine wp_skip (w' := (((((D1.setCell ⟨bR, 0, none⟩ (.string ⟨s.toArray⟩)).setCell ⟨bR, 1, none⟩ (.slice ay nz ky)).setCell ⟨bR, 2, none⟩ (.int .i64 l)).setCell ⟨bR, 3, none⟩ (.int .u32 c)).setCell ⟨bR, 4, none⟩ (.int .i64 p)).setCell ⟨bR, 5, none⟩ (.int .i64 q)) ?_ rfl ?_
  · go_simp
    done
  have rA3 := (((((rA2.other hne 0 (.string ⟨s.toArray⟩)).other hne 1 (.slice ay nz ky)).other hne 2 (.int .i64 l)).other hne 3 (.int .u32 c)).other hne 4 (.int .i64 p)).other hne 5 (.int .i64 q)
  refine ⟨((((((CS.nil _).row rA3 5 rfl).row rA3 4 rfl).row rA3 3 rfl).row rA3 2 rfl).row rA3 1 rfl).row rA3 0 rfl, ?_⟩
  refine wpAnyH_done (by kernel_rfl) ?_ _
  clear hS rA3 hcut
  go_wp2_with fail
  refine bodyPost_ret (v := .agg #[.string ⟨s.toArray⟩, .slice ay nz ky, .int .i64 l, .int .u32 c, .int .i64 p, .int .i64 q]) (by simp [results, Tryd.results12, go_sem, u0, u1, u2, u3, u4, u5]) rfl ?_
  have hge2 := Nat.le_of_lt hge
  have hB3 := (((((hB2.setCell (p := ⟨bR, 0, none⟩) hge2 (.string ⟨s.toArray⟩)).setCell (p := ⟨bR, 1, none⟩) hge2 (.slice ay nz ky)).setCell (p := ⟨bR, 2, none⟩) hge2 (.int .i64 l)).setCell (p := ⟨bR, 3, none⟩) hge2 (.int .u32 c)).setCell (p := ⟨bR, 4, none⟩) hge2 (.int .i64 p)).setCell (p := ⟨bR, 5, none⟩) hge2 (.int .i64 q)
  exact ⟨rfl, hup.stay hB3, hB3⟩
theorem back_any (P : Nat → Prop) (s : Bs) (y : Sl) (fs : List (Bs × Bs)) (l c p q : Int) (w : World) (h : FldsAt P w y.v fs) (hl : fs.length ≤ 9223372036854775807) :
    Calls Tryd.prog 12 #[alV s y.v l c p q] w fun e w' => ∃ z : Sl, e = .returned (alV s z.v l c p q) ∧ FldsAt P w' z.v (fs.take 12) ∧ Below w.heap.size w w' :=
  (back_full P s y fs l c p q w h hl).mono fun _ _ ⟨h1, h2, h3⟩ => ⟨⟨y.a, min y.n 12, y.c⟩, h1, h2, h3⟩
end Go.Proofs.YtknhkmlihbgjpaaDoor
