/- slices.Sort of numbers that are in order: nothing is changed. -/
import Derived.Test.YtknhkmlihbgjpaaDoorAOwn
namespace Go.Proofs.YtknhkmlihbgjpaaDoor
open Go.ChangeShapes Go.WideShapes Go.RowKit

def uv (x : Nat) : Value := .int .u64 (x : Int)
set_option maxHeartbeats 800000 in
theorem nan_any (x : Nat) (w : World) : Calls Tryd.prog 104 #[uv x] w fun e w' => e = .returned (.bool false) ∧ w' = w := by
  unfold uv
  go_enter Tryd.func104, Tryd.ntmps104
  go_wp2_with fail
  go_ret
  exact ⟨by simp, rfl⟩
set_option maxHeartbeats 1600000 in
theorem less_any (x y : Nat) (w : World) : Calls Tryd.prog 90 #[uv x, uv y] w fun e w' => e = .returned (.bool (decide (x < y))) ∧ w' = w := by
  have K := Lib.hid (nan_any x w)
  unfold uv at *
  go_enter Tryd.func90, Tryd.ntmps90
  go_wp2_with fail
  refine K.out.mono ?_
  rintro e w' ⟨rfl, rfl⟩
  go_wp2_with fail
  go_ret
  refine ⟨?_, rfl⟩
  congr 2
set_option maxHeartbeats 1600000 in
set_option maxRecDepth 100000 in
theorem len64_one (w : World) : Calls Tryd.prog 94 #[.int .u64 1] w fun e w' => e = .returned (.int .i64 1) ∧ w' = w := by
  go_enter Tryd.func94, Tryd.ntmps94
  go_wp2_with fail
  go_ret
  exact ⟨by kernel_rfl, rfl⟩
set_option maxHeartbeats 1600000 in
set_option maxRecDepth 100000 in
theorem len64_two (w : World) : Calls Tryd.prog 94 #[.int .u64 2] w fun e w' => e = .returned (.int .i64 2) ∧ w' = w := by
  go_enter Tryd.func94, Tryd.ntmps94
  go_wp2_with fail
  go_ret
  exact ⟨by kernel_rfl, rfl⟩
set_option maxHeartbeats 1600000 in
theorem len_small (n : Nat) (h : n = 1 ∨ n = 2) (w : World) : Calls Tryd.prog 77 #[.int .u64 (n : Int)] w fun e w' => e = .returned (.int .i64 (n : Int)) ∧ w' = w := by
  have K : Hid (∀ w, Calls Tryd.prog 94 #[.int .u64 (n : Int)] w fun e w' => e = .returned (.int .i64 (n : Int)) ∧ w' = w) := Lib.hid fun w => by
    rcases h with rfl | rfl
    · exact len64_one w
    · exact len64_two w
  clear h
  go_enter Tryd.func77, Tryd.ntmps77
  go_wp2_with fail
  refine (K.out _).mono ?_
  rintro e w' ⟨rfl, rfl⟩
  go_wp2_with fail
  go_ret
  exact ⟨rfl, rfl⟩
/-- Numbers in a row. -/
def NumsAt (w : World) (g n cap : Nat) (xs : List Nat) : Prop := xs.length = n ∧ n ≤ cap ∧ ∀ (j x : Nat), xs[j]? = some x → w.cell? ⟨g, j, none⟩ = some (uv x)
theorem NumsAt.stay {w w' : World} {g n cap : Nat} {xs : List Nat} (h : NumsAt w g n cap xs) (k : Below w.heap.size w w') : NumsAt w' g n cap xs :=
  ⟨h.1, h.2.1, fun j x hx => (k.cell (World.block_lt_of_cell? w _ (h.2.2 j x hx))).trans (h.2.2 j x hx)⟩
/-- No number is smaller than the one ahead of it. -/
def Up (xs : List Nat) : Prop := ∀ (j x y : Nat), xs[j]? = some x → xs[j + 1]? = some y → x ≤ y
set_option maxHeartbeats 3200000 in
set_option maxRecDepth 100000 in
theorem insert_any (g n cap : Nat) (xs : List Nat) (w : World) (h : NumsAt w g n cap xs) (hu : Up xs) (hn : n ≤ 1000000) :
    Calls Tryd.prog 84 #[.slice (some ⟨g, 0, none⟩) n cap, .int .i64 0, .int .i64 (n : Int)] w fun e w' => e = .returned (.tuple #[]) ∧ Below w.heap.size w w' := by
  go_enter Tryd.func84, Tryd.ntmps84
  go_upto_region 1 with fail
  go_loopw [6] (fun u6 wr => ∃ i : Nat, u6 = .int .i64 (i : Int) ∧ 1 ≤ i ∧ i ≤ n + 1 ∧ Below w.heap.size w wr) (fun u6 _ => n + 1 - (intOf u6).toNat)
  case atStart => exact ⟨1, rfl, Nat.le_refl _, by omega, Below.refl _ _⟩
  case round =>
    obtain ⟨i, rfl, hi1, hin, hB⟩ := hrel
    by_cases hlt : i < n
    · have hki : (i : Int) < (n : Int) := by omega
      obtain ⟨y, hy⟩ : ∃ y, xs[i]? = some y := ⟨_, List.getElem?_eq_getElem (by have := h.1; omega)⟩
      obtain ⟨j, rfl⟩ : ∃ j, i = j + 1 := ⟨i - 1, by omega⟩
      obtain ⟨x, hx⟩ : ∃ x, xs[j]? = some x := ⟨_, List.getElem?_eq_getElem (by have := h.1; omega)⟩
      have hxy := hu j x y hx hy
      have c1 := (h.stay hB).2.2 _ _ hy
      have c0 := (h.stay hB).2.2 _ _ hx
      have KL := less_any y x
      rw [decide_eq_false (by omega : ¬ y < x)] at KL
      replace KL := Lib.hid KL
      have hjw : IntKind.i64.wrap (j : Int) = (j : Int) := by simp only [IntKind.wrap, IntKind.signed, IntKind.bits]; simp; omega
      have hjn : (j : Int) < (n : Int) := by omega
      go_upto_region 4 with fail
      go_loopw [7] (fun u7 wz => u7 = .int .i64 ((j + 1 : Nat) : Int) ∧ Below wr.heap.size wr wz) (fun _ _ => 0)
      case atStart => exact ⟨rfl, Below.refl _ _⟩
      case round =>
        obtain ⟨rfl, hBz⟩ := hrel
        have d1 := (hBz.cell (World.block_lt_of_cell? _ _ c1)).trans c1
        have d0 := (hBz.cell (World.block_lt_of_cell? _ _ c0)).trans c0
        go_upto_region 4 with fail
        go_cut [30] from 16 to 29 (fun u30 wx => u30 = .bool false ∧ Below wr.heap.size wr wx)
        case first =>
          unfold uv at *
          refine wp_region_held (S := CL wr [(⟨g, j + 1, none⟩, .int .u64 (y : Int)), (⟨g, j, none⟩, .int .u64 (x : Int))]) (by kernel_rfl) ?_
          have hS : CL wr [(⟨g, j + 1, none⟩, .int .u64 (y : Int)), (⟨g, j, none⟩, .int .u64 (x : Int))] { wr with drawn := wr.drawn + 1 } := CL.drew ⟨Below.refl _ _, fun p hp => by
            rcases List.mem_cons.1 hp with rfl | hp
            · exact d1
            · rw [List.mem_singleton.1 hp]; exact d0⟩
          generalize { wr with drawn := wr.drawn + 1 } = D1 at *
          refine held_val 0 rfl (by kernel_rfl) (by kernel_rfl) (by kernel_rfl) (fun _ _ _ _ h => h) (by rfl) hS ?_
          apply Exists.intro
          refine ⟨fun w' hw' => ?_, ?_⟩
          · have e0 := hw'.at 0 rfl; have e2 := hw'.at 1 rfl
            go_simp
            first | done | rfl | exact ⟨rfl, rfl⟩
          simp only [Act.put, List.setIfInBounds_toArray, List.set_cons_zero, List.set_cons_succ]
          refine held_val 1 rfl (by kernel_rfl) (by kernel_rfl) (by kernel_rfl) (fun _ _ _ _ h => h) (by rfl) hS ?_
          apply Exists.intro
          refine ⟨fun w' hw' => ?_, ?_⟩
          · have e0 := hw'.at 0 rfl; have e2 := hw'.at 1 rfl
            go_simp
            first | done | rfl | exact ⟨rfl, rfl⟩
          simp only [Act.put, List.setIfInBounds_toArray, List.set_cons_zero, List.set_cons_succ]
          refine held_val 2 rfl (by kernel_rfl) (by kernel_rfl) (by kernel_rfl) (fun _ _ _ _ h => h) (by rfl) hS ?_
          apply Exists.intro
          refine ⟨fun w' hw' => ?_, ?_⟩
          · have e0 := hw'.at 0 rfl; have e2 := hw'.at 1 rfl
            go_simp
            first | done | rfl | exact ⟨rfl, rfl⟩
          simp only [Act.put, List.setIfInBounds_toArray, List.set_cons_zero, List.set_cons_succ]
          refine held_val 3 rfl (by kernel_rfl) (by kernel_rfl) (by kernel_rfl) (fun _ _ _ _ h => h) (by rfl) hS ?_
          apply Exists.intro
          refine ⟨fun w' hw' => ?_, ?_⟩
          · have e0 := hw'.at 0 rfl; have e2 := hw'.at 1 rfl
            go_simp
            first | done | rfl | exact ⟨rfl, rfl⟩
          simp only [Act.put, List.setIfInBounds_toArray, List.set_cons_zero, List.set_cons_succ]
          refine held_val 4 rfl (by kernel_rfl) (by kernel_rfl) (by kernel_rfl) (fun _ _ _ _ h => h) (by rfl) hS ?_
          apply Exists.intro
          refine ⟨fun w' hw' => ?_, ?_⟩
          · have e0 := hw'.at 0 rfl; have e2 := hw'.at 1 rfl
            go_simp
            first | done | rfl | exact ⟨rfl, rfl⟩
          simp only [Act.put, List.setIfInBounds_toArray, List.set_cons_zero, List.set_cons_succ]
          refine held_val 5 rfl (by kernel_rfl) (by kernel_rfl) (by kernel_rfl) (fun _ _ _ _ h => h) (by rfl) hS ?_
          apply Exists.intro
          refine ⟨fun w' hw' => ?_, ?_⟩
          · have e0 := hw'.at 0 rfl; have e2 := hw'.at 1 rfl
            go_simp
            first | done | rfl | exact ⟨rfl, rfl⟩
          simp only [Act.put, List.setIfInBounds_toArray, List.set_cons_zero, List.set_cons_succ]
          refine held_val 6 rfl (by kernel_rfl) (by kernel_rfl) (by kernel_rfl) (fun _ _ _ _ h => h) (by rfl) hS ?_
          apply Exists.intro
          refine ⟨fun w' hw' => ?_, ?_⟩
          · have e0 := hw'.at 0 rfl; have e2 := hw'.at 1 rfl
            go_simp
            first | done | rfl | exact ⟨rfl, rfl⟩
          simp only [Act.put, List.setIfInBounds_toArray, List.set_cons_zero, List.set_cons_succ]
          refine held_val 7 rfl (by kernel_rfl) (by kernel_rfl) (by kernel_rfl) (fun _ _ _ _ h => h) (by rfl) hS ?_
          apply Exists.intro
          refine ⟨fun w' hw' => ?_, ?_⟩
          · have e0 := hw'.at 0 rfl; have e2 := hw'.at 1 rfl
            go_simp
            first | done | rfl | exact ⟨rfl, rfl⟩
          simp only [Act.put, List.setIfInBounds_toArray, List.set_cons_zero, List.set_cons_succ]
          refine held_val 8 rfl (by kernel_rfl) (by kernel_rfl) (by kernel_rfl) (fun _ _ _ _ h => h) (by rfl) hS ?_
          apply Exists.intro
          refine ⟨fun w' hw' => ?_, ?_⟩
          · have e0 := hw'.at 0 rfl; have e2 := hw'.at 1 rfl
            go_simp
            first | done | rfl | exact ⟨rfl, rfl⟩
          simp only [Act.put, List.setIfInBounds_toArray, List.set_cons_zero, List.set_cons_succ]
          refine held_val 9 rfl (by kernel_rfl) (by kernel_rfl) (by kernel_rfl) (fun _ _ _ _ h => h) (by rfl) hS ?_
          apply Exists.intro
          refine ⟨fun w' hw' => ?_, ?_⟩
          · have e0 := hw'.at 0 rfl; have e2 := hw'.at 1 rfl
            go_simp
            first | done | rfl | exact ⟨rfl, rfl⟩
          simp only [Act.put, List.setIfInBounds_toArray, List.set_cons_zero, List.set_cons_succ]
          refine held_val 10 rfl (by kernel_rfl) (by kernel_rfl) (by kernel_rfl) (fun _ _ _ _ h => h) (by rfl) hS ?_
          apply Exists.intro
          refine ⟨fun w' hw' => ?_, ?_⟩
          · have e0 := hw'.at 0 rfl; have e2 := hw'.at 1 rfl
            go_simp
            first | done | rfl | exact ⟨rfl, rfl⟩
          simp only [Act.put, List.setIfInBounds_toArray, List.set_cons_zero, List.set_cons_succ]
          refine held_val 11 rfl (by kernel_rfl) (by kernel_rfl) (by kernel_rfl) (fun _ _ _ _ h => h) (by rfl) hS ?_
          apply Exists.intro
          refine ⟨fun w' hw' => ?_, ?_⟩
          · have e0 := hw'.at 0 rfl; have e2 := hw'.at 1 rfl
            go_simp
            first | done | rfl | exact ⟨rfl, rfl⟩
          simp only [Act.put, List.setIfInBounds_toArray, List.set_cons_zero, List.set_cons_succ]
          refine held_val 12 rfl (by kernel_rfl) (by kernel_rfl) (by kernel_rfl) (fun _ _ _ _ h => h) (by rfl) hS ?_
          apply Exists.intro
          refine ⟨fun w' hw' => ?_, ?_⟩
          · have e0 := hw'.at 0 rfl; have e2 := hw'.at 1 rfl
            go_simp
            first | done | rfl | exact ⟨rfl, rfl⟩
          simp only [Act.put, List.setIfInBounds_toArray, List.set_cons_zero, List.set_cons_succ]
          refine held_call 13 (by kernel_rfl) rfl (by rfl) ?_
          apply Exists.intro
          apply Exists.intro
          refine ⟨?_, ?_⟩
          · go_simp
            first | done | rfl | exact ⟨rfl, rfl⟩
          refine (KL.out _).mono ?_
          rintro e wA ⟨heA, rfl⟩
          refine ⟨_, heA, hS, ?_⟩
          simp only [Act.put, List.setIfInBounds_toArray, List.set_cons_zero, List.set_cons_succ]
          refine held_val 14 rfl (by kernel_rfl) (by kernel_rfl) (by kernel_rfl) (fun _ _ _ _ h => h) (by rfl) hS ?_
          apply Exists.intro
          refine ⟨fun w' hw' => ?_, ?_⟩
          · skip
            go_simp
            first | done | rfl | exact ⟨rfl, rfl⟩
          simp only [Act.put, List.setIfInBounds_toArray, List.set_cons_zero, List.set_cons_succ]
          refine wpAnyH_done (by kernel_rfl) ?_ _
          have hb5 := hS.1
          go_wp2_with fail
          go_meet
          exact ⟨rfl, hb5⟩
        case rest =>
          obtain ⟨rfl, hB6⟩ := hcut
          have hB7 := hB.trans ((hBz.trans (hB6.mono hBz.size)).mono hB.size)
          go_wp2_with fail
          go_roundw
          case rel => exact ⟨j + 1 + 1, by go_num, by omega, by omega, hB7⟩
          case measure => simp [intOf]; omega
    · have hki : ¬ (i : Int) < (n : Int) := by omega
      go_wp2_with fail
      go_end0
      exact ⟨rfl, hB⟩
set_option maxHeartbeats 6400000 in
set_option maxRecDepth 100000 in
theorem pdq_any (g n cap : Nat) (xs : List Nat) (k : Int) (w : World) (h : NumsAt w g n cap xs) (hu : Up xs) (hn : n ≤ 12) :
    Calls Tryd.prog 76 #[.slice (some ⟨g, 0, none⟩) n cap, .int .i64 0, .int .i64 (n : Int), .int .i64 k] w fun e w' => e = .returned (.tuple #[]) ∧ Below w.heap.size w w' := by
  have K := Lib.hid (insert_any g n cap xs w h hu (by omega))
  have hw : IntKind.i64.wrap (n : Int) = (n : Int) := by simp only [IntKind.wrap, IntKind.signed, IntKind.bits]; simp; omega
  have hn2 : (n : Int) ≤ 12 := by omega
  clear h hu
  go_enter Tryd.func76, Tryd.ntmps76
  go_upto_region 2 with fail
  go_loopw [1, 2, 3, 8, 9] (fun u1 u2 u3 u8 u9 wr => u1 = .int .i64 0 ∧ u2 = .int .i64 (n : Int) ∧ u3 = .int .i64 k ∧ u8 = .bool true ∧ u9 = .bool true ∧ wr = w) (fun _ _ _ _ _ _ => 0)
  case atStart => exact ⟨rfl, rfl, rfl, rfl, rfl, rfl⟩
  case round =>
    obtain ⟨rfl, rfl, rfl, rfl, rfl, rfl⟩ := hrel
    go_wp2_with fail
    refine K.out.mono ?_
    rintro e w1 ⟨rfl, hb⟩
    go_wp2_with fail
    refine bodyPost_ret (results_none rfl _ _ _) rfl ?_
    exact ⟨rfl, hb⟩
set_option maxHeartbeats 1600000 in
theorem sort_any (g n cap : Nat) (xs : List Nat) (w : World) (h : NumsAt w g n cap xs) (hu : Up xs) (hn : n = 1 ∨ n = 2) :
    Calls Tryd.prog 55 #[.slice (some ⟨g, 0, none⟩) n cap] w fun e w' => e = .returned (.tuple #[]) ∧ Below w.heap.size w w' := by
  have KL := Lib.hid (len_small n hn w)
  have KP := Lib.hid fun k => pdq_any g n cap xs k w h hu (by omega)
  have hw : IntKind.u64.wrap (n : Int) = (n : Int) := by simp only [IntKind.wrap, IntKind.signed, IntKind.bits]; simp; omega
  clear h hu hn
  go_enter Tryd.func55, Tryd.ntmps55
  go_wp2_with fail
  refine KL.out.mono ?_
  rintro e w1 ⟨rfl, rfl⟩
  go_wp2_with fail
  refine (KP.out _).mono ?_
  rintro e w2 ⟨rfl, hb⟩
  go_wp2_with fail
  go_end0
  exact ⟨rfl, hb⟩
end Go.Proofs.YtknhkmlihbgjpaaDoor
