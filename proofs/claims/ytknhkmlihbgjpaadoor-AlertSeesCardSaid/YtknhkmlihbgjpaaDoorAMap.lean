/- A map whose keys are labels: what its operations do, at the keys at hand. -/
import Derived.Test.YtknhkmlihbgjpaaDoorACompact
import Derived.Maps.RangeRun
namespace Go.Proofs.YtknhkmlihbgjpaaDoor
open Go.ChangeShapes Go.WideShapes Go.RowKit
open Go.ChangeMaps (setBlock)

def labV (l c : Int) : Value := .agg #[.int .i64 l, .int .u32 c]
theorem block_at {w : World} {m : Nat} {o o' : Obj} (h : w.heap[m]? = some o) : (setBlock w m o').heap[m]? = some o' := (MapKept.heap_set h).1
theorem Asd.mblock {a w : World} {S : Nat → Prop} (h : Asd S a w) {m : Nat} (hm : S m ∨ a.heap.size ≤ m) (o : Obj) : Asd S a (setBlock w m o) :=
  ⟨h.os, h.tape, h.output, by have := h.size; simpa [setBlock] using this, fun k hk hn => by
    have e : (setBlock w m o).heap[k]? = w.heap[k]? := by
      unfold setBlock
      rw [Array.getElem?_setIfInBounds_ne]
      intro e; subst e; rcases hm with hm | hm
      · exact hn hm
      · omega
    rw [e]; exact h.block k hk hn⟩
theorem chk_lab (l c : Int) (w : World) : (Instr.checkKey false 10000 25 (labV l c)).run Tryd.prog w = .ok () w := by kernel_rfl
theorem find_none (w : World) : (Instr.findKey 25 (labV 2 0) []).run Tryd.prog w = .ok none w := by kernel_rfl
theorem find_other (v : Value) (w : World) : (Instr.findKey 25 (labV 4 0) [⟨labV 2 0, v, 0⟩]).run Tryd.prog w = .ok none w := by kernel_rfl
theorem find_first (v u : Value) (w : World) : (Instr.findKey 25 (labV 2 0) [⟨labV 2 0, v, 0⟩, ⟨labV 4 0, u, 1⟩]).run Tryd.prog w = .ok (some (0, v)) w := by kernel_rfl
theorem find_second (v u : Value) (w : World) : (Instr.findKey 25 (labV 4 0) [⟨labV 2 0, v, 0⟩, ⟨labV 4 0, u, 1⟩]).run Tryd.prog w = .ok (some (1, u)) w := by kernel_rfl
theorem stays2 (w : World) : (Instr.keyThatStays (labV 2 0) (labV 2 0)).run Tryd.prog w = .ok (labV 2 0) w := by kernel_rfl
theorem stays4 (w : World) : (Instr.keyThatStays (labV 4 0) (labV 4 0)).run Tryd.prog w = .ok (labV 4 0) w := by kernel_rfl
def E1 (v : Value) : Array MapEntry := #[⟨labV 2 0, v, 0⟩]
def E2 (v u : Value) : Array MapEntry := #[⟨labV 2 0, v, 0⟩, ⟨labV 4 0, u, 1⟩]
section
variable {m : Nat} {w : World} {v u : Value}
theorem entry_none (h : w.heap[m]? = some (.map #[] 0)) : (Instr.mapEntry 57 (.map (some m)) (labV 2 0)).run Tryd.prog w = .ok (.tuple #[.slice none 0 0, .int .i64 0]) (setBlock w m (.map (E1 (.slice none 0 0)) 1)) := by
  simp [Instr.mapEntry, run_underlying Tryd.underlying57, MapKept.run_getObj_map h, chk_lab, find_none, MapKept.run_setObj_map _ h, Result.andThen, setBlock, goInt, E1]
theorem entry_other (h : w.heap[m]? = some (.map (E1 v) 1)) : (Instr.mapEntry 57 (.map (some m)) (labV 4 0)).run Tryd.prog w = .ok (.tuple #[.slice none 0 0, .int .i64 1]) (setBlock w m (.map (E2 v (.slice none 0 0)) 2)) := by
  have hf := find_other v
  simp [Instr.mapEntry, run_underlying Tryd.underlying57, MapKept.run_getObj_map h, chk_lab, hf, MapKept.run_setObj_map _ h, Result.andThen, setBlock, goInt, E1, E2]
theorem entry_first (h : w.heap[m]? = some (.map (E2 v u) 2)) : (Instr.mapEntry 57 (.map (some m)) (labV 2 0)).run Tryd.prog w = .ok (.tuple #[v, .int .i64 0]) (setBlock w m (.map (E2 v u) 2)) := by
  have hf := find_first v u
  simp [Instr.mapEntry, run_underlying Tryd.underlying57, MapKept.run_getObj_map h, chk_lab, hf, stays2, MapKept.run_setObj_map _ h, Result.andThen, setBlock, goInt, E2]
theorem store_one (x : Value) (h : w.heap[m]? = some (.map (E1 v) 1)) : (Instr.entryStore 57 (.map (some m)) (.int .i64 0) x).run Tryd.prog w = .ok () (setBlock w m (.map (E1 x) 1)) := by
  simp [Instr.entryStore, MapKept.run_getObj_map h, asInt, asIntOf, MapKept.run_setObj_map _ h, Result.andThen, setBlock, E1]
theorem store_first (x : Value) (h : w.heap[m]? = some (.map (E2 v u) 2)) : (Instr.entryStore 57 (.map (some m)) (.int .i64 0) x).run Tryd.prog w = .ok () (setBlock w m (.map (E2 x u) 2)) := by
  simp [Instr.entryStore, MapKept.run_getObj_map h, asInt, asIntOf, List.findIdx?_cons, MapKept.run_setObj_map _ h, Result.andThen, setBlock, E2]
theorem store_second (x : Value) (h : w.heap[m]? = some (.map (E2 v u) 2)) : (Instr.entryStore 57 (.map (some m)) (.int .i64 1) x).run Tryd.prog w = .ok () (setBlock w m (.map (E2 v x) 2)) := by
  simp [Instr.entryStore, MapKept.run_getObj_map h, asInt, asIntOf, List.findIdx?_cons, MapKept.run_setObj_map _ h, Result.andThen, setBlock, E2]
theorem put_first (x : Value) (h : w.heap[m]? = some (.map (E2 v u) 2)) : (Instr.mapUpdate 57 (.map (some m)) (labV 2 0) x).run Tryd.prog w = .ok () (setBlock w m (.map (E2 x u) 2)) := by
  have hf := find_first v u
  simp [Instr.mapUpdate, run_underlying Tryd.underlying57, MapKept.run_getObj_map h, chk_lab, hf, stays2, MapKept.run_setObj_map _ h, Result.andThen, setBlock, E2]
theorem put_second (x : Value) (h : w.heap[m]? = some (.map (E2 v u) 2)) : (Instr.mapUpdate 57 (.map (some m)) (labV 4 0) x).run Tryd.prog w = .ok () (setBlock w m (.map (E2 v x) 2)) := by
  have hf := find_second v u
  simp [Instr.mapUpdate, run_underlying Tryd.underlying57, MapKept.run_getObj_map h, chk_lab, hf, stays4, MapKept.run_setObj_map _ h, Result.andThen, setBlock, E2]
end
end Go.Proofs.YtknhkmlihbgjpaaDoor
