/- slices.Compact of one number, and of a number that stands there twice. -/
import Derived.Test.YtknhkmlihbgjpaaDoorASort
namespace Go.Proofs.YtknhkmlihbgjpaaDoor
open Go.ChangeShapes Go.WideShapes Go.RowKit

theorem clear_one (g o c : Nat) (w : World) (u : Value) (hc : w.cell? ⟨g, o, none⟩ = some u) (hf : w.frozen? ⟨g, o, none⟩ = false) : (Builtin.clear_ #[59] 0 #[.slice (some ⟨g, o, none⟩) 1 c]).run Tryd.prog w = .ok (.tuple #[]) (w.setCell ⟨g, o, none⟩ (.int .u64 0)) := by
  have hz : ∀ w, (zeroValue 38).run Tryd.prog w = .ok (.int .u64 0) w := fun w => by kernel_rfl
  have hs : (store ((⟨g, o, none⟩ : Addr).add 0) (.int .u64 0)).run Tryd.prog w = .ok () (w.setCell ⟨g, o, none⟩ (.int .u64 0)) := by
    rw [add_at, Nat.add_zero, run_store Tryd.prog w _ _ _ rfl, hc]
    simp only [hf]
    rfl
  have h1 : (Builtin.zeroCells (Value.int .u64 0).cells 1).toList = [.int .u64 0] := by kernel_rfl
  unfold Builtin.clear_
  simp [Sem.run_bind, run_underlying Tryd.underlying59, hz, h1, storeCells, hs, Result.andThen]
set_option maxHeartbeats 1600000 in
set_option maxRecDepth 100000 in
theorem compact_one (g cap : Nat) (w : World) :
    Calls Tryd.prog 56 #[.slice (some ⟨g, 0, none⟩) 1 cap] w fun e w' => e = .returned (.slice (some ⟨g, 0, none⟩) 1 cap) ∧ w' = w := by
  go_enter Tryd.func56, Tryd.ntmps56
  go_wp2_with fail
  go_ret
  exact ⟨rfl, rfl⟩
set_option maxHeartbeats 6400000 in
set_option maxRecDepth 100000 in
theorem compact_two (g cap x : Nat) (w : World) (hc : 2 ≤ cap) (h0 : w.cell? ⟨g, 0, none⟩ = some (uv x)) (h1 : w.cell? ⟨g, 1, none⟩ = some (uv x)) (f1 : w.frozen? ⟨g, 1, none⟩ = false) :
    Calls Tryd.prog 56 #[.slice (some ⟨g, 0, none⟩) 2 cap] w fun e w' => e = .returned (.slice (some ⟨g, 0, none⟩) 1 cap) ∧ Asd (· = g) w w' := by
  unfold uv at *
  have hc1 : (1 : Int) ≤ (cap : Int) := by omega
  have hc2 : (2 : Int) ≤ (cap : Int) := by omega
  have hlt := World.block_lt_of_cell? _ _ h0
  have hw0 : IntKind.i64.wrap 0 = 0 := by decide
  go_enter Tryd.func56, Tryd.ntmps56
  go_upto_region 4 with fail
  go_loopw [3] (fun u3 wr => u3 = .int .i64 1 ∧ wr = w) (fun _ _ => 0)
  case atStart => exact ⟨rfl, rfl⟩
  case round =>
    obtain ⟨rfl, rfl⟩ := hrel
    go_upto_region 6 with fail
    go_cut [25] from 16 to 24 (fun u25 wx => u25 = .bool true ∧ Below wr.heap.size wr wx ∧ wx.cell? ⟨g, 1, none⟩ = some (.int .u64 (x : Int)) ∧ wx.frozen? ⟨g, 1, none⟩ = false)
    case first =>
      refine wp_region_held (S := CL wr [(⟨g, 0, none⟩, .int .u64 (x : Int)), (⟨g, 1, none⟩, .int .u64 (x : Int))]) (by kernel_rfl) ?_
      have hS : CL wr [(⟨g, 0, none⟩, .int .u64 (x : Int)), (⟨g, 1, none⟩, .int .u64 (x : Int))] { wr with drawn := wr.drawn + 1 } := CL.drew ⟨Below.refl _ _, fun p hp => by
        rcases List.mem_cons.1 hp with rfl | hp
        · exact h0
        · rw [List.mem_singleton.1 hp]; exact h1⟩
      have hfz : ({ wr with drawn := wr.drawn + 1 } : World).frozen? ⟨g, 1, none⟩ = false := f1
      generalize { wr with drawn := wr.drawn + 1 } = D1 at *
      refine held_val 0 rfl (by kernel_rfl) (by kernel_rfl) (by kernel_rfl) (fun _ _ _ _ h => h) (by rfl) hS ?_
      apply Exists.intro
      refine ⟨fun w' hw' => ?_, ?_⟩
      · have e0 := hw'.at 0 rfl; have e2 := hw'.at 1 rfl
        go_simp
        first | done | rfl | exact ⟨rfl, rfl⟩
      simp only [Act.put, List.setIfInBounds_toArray, List.set_cons_zero, List.set_cons_succ]
      refine held_val 1 rfl (by kernel_rfl) (by kernel_rfl) (by kernel_rfl) (fun _ _ _ _ h => h) (by rfl) hS ?_
      apply Exists.intro
      refine ⟨fun w' hw' => ?_, ?_⟩
      · have e0 := hw'.at 0 rfl; have e2 := hw'.at 1 rfl
        go_simp
        first | done | rfl | exact ⟨rfl, rfl⟩
      simp only [Act.put, List.setIfInBounds_toArray, List.set_cons_zero, List.set_cons_succ]
      refine held_val 2 rfl (by kernel_rfl) (by kernel_rfl) (by kernel_rfl) (fun _ _ _ _ h => h) (by rfl) hS ?_
      apply Exists.intro
      refine ⟨fun w' hw' => ?_, ?_⟩
      · have e0 := hw'.at 0 rfl; have e2 := hw'.at 1 rfl
        go_simp
        first | done | rfl | exact ⟨rfl, rfl⟩
      simp only [Act.put, List.setIfInBounds_toArray, List.set_cons_zero, List.set_cons_succ]
      refine held_val 3 rfl (by kernel_rfl) (by kernel_rfl) (by kernel_rfl) (fun _ _ _ _ h => h) (by rfl) hS ?_
      apply Exists.intro
      refine ⟨fun w' hw' => ?_, ?_⟩
      · have e0 := hw'.at 0 rfl; have e2 := hw'.at 1 rfl
        go_simp
        first | done | rfl | exact ⟨rfl, rfl⟩
      simp only [Act.put, List.setIfInBounds_toArray, List.set_cons_zero, List.set_cons_succ]
      refine held_val 4 rfl (by kernel_rfl) (by kernel_rfl) (by kernel_rfl) (fun _ _ _ _ h => h) (by rfl) hS ?_
      apply Exists.intro
      refine ⟨fun w' hw' => ?_, ?_⟩
      · have e0 := hw'.at 0 rfl; have e2 := hw'.at 1 rfl
        go_simp
        first | done | rfl | exact ⟨rfl, rfl⟩
      simp only [Act.put, List.setIfInBounds_toArray, List.set_cons_zero, List.set_cons_succ]
      refine held_val 5 rfl (by kernel_rfl) (by kernel_rfl) (by kernel_rfl) (fun _ _ _ _ h => h) (by rfl) hS ?_
      apply Exists.intro
      refine ⟨fun w' hw' => ?_, ?_⟩
      · have e0 := hw'.at 0 rfl; have e2 := hw'.at 1 rfl
        go_simp
        first | done | rfl | exact ⟨rfl, rfl⟩
      simp only [Act.put, List.setIfInBounds_toArray, List.set_cons_zero, List.set_cons_succ]
      refine held_val 6 rfl (by kernel_rfl) (by kernel_rfl) (by kernel_rfl) (fun _ _ _ _ h => h) (by rfl) hS ?_
      apply Exists.intro
      refine ⟨fun w' hw' => ?_, ?_⟩
      · have e0 := hw'.at 0 rfl; have e2 := hw'.at 1 rfl
        go_simp
        first | done | rfl | exact ⟨rfl, rfl⟩
      simp only [Act.put, List.setIfInBounds_toArray, List.set_cons_zero, List.set_cons_succ]
      refine held_val 7 rfl (by kernel_rfl) (by kernel_rfl) (by kernel_rfl) (fun _ _ _ _ h => h) (by rfl) hS ?_
      apply Exists.intro
      refine ⟨fun w' hw' => ?_, ?_⟩
      · have e0 := hw'.at 0 rfl; have e2 := hw'.at 1 rfl
        go_simp
        first | done | rfl | exact ⟨rfl, rfl⟩
      simp only [Act.put, List.setIfInBounds_toArray, List.set_cons_zero, List.set_cons_succ]
      refine held_val 8 rfl (by kernel_rfl) (by kernel_rfl) (by kernel_rfl) (fun _ _ _ _ h => h) (by rfl) hS ?_
      apply Exists.intro
      refine ⟨fun w' hw' => ?_, ?_⟩
      · have e0 := hw'.at 0 rfl; have e2 := hw'.at 1 rfl
        go_simp
        first | done | rfl | exact ⟨rfl, rfl⟩
      simp only [Act.put, List.setIfInBounds_toArray, List.set_cons_zero, List.set_cons_succ]
      refine held_val 9 rfl (by kernel_rfl) (by kernel_rfl) (by kernel_rfl) (fun _ _ _ _ h => h) (by rfl) hS ?_
      apply Exists.intro
      refine ⟨fun w' hw' => ?_, ?_⟩
      · have e0 := hw'.at 0 rfl; have e2 := hw'.at 1 rfl
        go_simp
        first | done | rfl | exact ⟨rfl, rfl⟩
      simp only [Act.put, List.setIfInBounds_toArray, List.set_cons_zero, List.set_cons_succ]
      refine wpAnyH_done (by kernel_rfl) ?_ _
      have hb5 := hS.1
      have e2 := hS.at 1 rfl
      go_wp2_with fail
      go_meet
      exact ⟨rfl, hb5, e2, hfz⟩
    case rest =>
      obtain ⟨rfl, hB6, c1, f2⟩ := hcut
      go_upto_region 9 with fail
      go_loopw [3, 5] (fun u3 u5 wz => u3 = .int .i64 1 ∧ u5 = .int .i64 1 ∧ wz = wc) (fun _ _ _ => 0)
      case atStart => exact ⟨rfl, rfl, rfl⟩
      case round =>
        obtain ⟨rfl, rfl, rfl⟩ := hrel
        have hcl := clear_one g 1 (cap - 1) wr _ c1 f2
        go_wp2_with fail
        go_ret
        exact ⟨rfl, (Asd.of_below hB6).set1 1 _⟩
end Go.Proofs.YtknhkmlihbgjpaaDoor
