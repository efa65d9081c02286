/- Room for fields: slices.Grow of nothing. -/
import Derived.Test.YteooofakpkbgoaaDoorMPickR
import Derived.Lib.AppendZeros
namespace Go.Proofs.YteooofakpkbgoaaDoor
open Go.ChangeShapes Go.WideShapes Go.RowKit

theorem zeroCells_size (z : Array Value) (n : Nat) : (Builtin.zeroCells z n).size = n * z.size := by simp [Builtin.zeroCells]
set_option maxHeartbeats 3200000 in
set_option maxRecDepth 100000 in
theorem grow_nil (N : Nat) (w : World) (h1 : 0 < N) (h2 : N ≤ 2000) :
    Calls Tryd.prog 67 #[.slice none 0 0, .int .i64 (N : Int)] w fun e w' => ∃ v', e = .returned v' ∧ w'.ownsRow w.heap.size 28 2 v' 0 [] ∧ Below w.heap.size w w' := by
  obtain ⟨i0, hi, hz0, hz1, hz2⟩ := info_parts0 info_fld
  have KA := Lib.hid fun w => Lib.run_append_nil_zeros (P := Tryd.prog) w 22 3 22 28 i0 _ .i64 .i64 Tryd.underlying22 Tryd.underlying3 hi hz0 N h1 (by rw [hz1]; decide) (by omega) (by rw [hz2]; omega)
  have hge := fun w => grownCap_ge w N 0 28
  have hle := fun w => grownCap_le_maxLen w N 0 28 (by unfold maxLen; omega)
  have HGE : Unit → ∀ w, N ≤ grownCap w N 0 28 := fun _ => hge
  have HLE : Unit → ∀ w, grownCap w N 0 28 ≤ maxLen := fun _ => hle
  clear hge hle hi hz0 hz1 hz2
  have hN0 : ¬ (N : Int) < 0 := by omega
  have hN1 : (0 : Int) < (N : Int) := by omega
  go_enter Tryd.func67, Tryd.ntmps67
  go_wp2_with (refine Lib.wpList_append_run _ rfl _ _ _ _ rfl _ _ rfl rfl _ _ (KA.out _) ?_)
  go_ret
  refine ⟨_, rfl, ⟨rfl, .inr ⟨w.heap.size, grownCap w N 0 28, _, rfl, Nat.le_refl _, heap_alloc_last w _, Nat.zero_le _, HLE () w, ?_, by simp⟩⟩, ((Below.refl _ _).alloc (Nat.le_refl _) _).drew⟩
  rw [Array.size_append, zeroCells_size, zeroCells_size]
  have := HGE () w
  show N * 2 + (grownCap w N 0 28 - N) * 2 = grownCap w N 0 28 * 2
  omega
end Go.Proofs.YteooofakpkbgoaaDoor
