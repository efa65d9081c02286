/- as: an alert as the document has it. -/
import Derived.Test.YtknhkmlihbgjpaaDoorABack
import Derived.Test.YtknhkmlihbgjpaaDoorAKit
namespace Go.Proofs.YtknhkmlihbgjpaaDoor
open Go.ChangeShapes Go.WideShapes Go.RowKit

set_option maxHeartbeats 3200000 in
set_option maxRecDepth 100000 in
theorem asd_any (s : Bs) (y : Sl) (l c p q : Int) (w : World) :
    Calls Tryd.prog 15 #[alV s y.v l c p q] w fun e w' => e = .returned (alV s y.v l c p q) ∧ Below w.heap.size w w' := by
  obtain ⟨ay, ny, ky⟩ := y
  unfold alV
  simp only [Sl.v]
  go_enter Tryd.func15, Tryd.ntmps15
  go_upto_region 1 with fail
  obtain ⟨rA, rR, hB⟩ := put2n w 29 27 [.string ⟨s.toArray⟩, .slice ay ny ky, .int .i64 l, .int .u32 c, .int .i64 p, .int .i64 q] [.string ⟨#[]⟩, .slice none 0 0, .int .i64 0, .int .u32 0, .int .i64 0, .int .i64 0]
  generalize (w.alloc (.cells #[.string ⟨s.toArray⟩, .slice ay ny ky, .int .i64 l, .int .u32 c, .int .i64 p, .int .i64 q] 29)).alloc (.cells #[.string ⟨#[]⟩, .slice none 0 0, .int .i64 0, .int .u32 0, .int .i64 0, .int .i64 0] 27) = w1 at *
  generalize hbR : w.heap.size + 1 = bR at *
  have hge : w.heap.size ≤ bR := by omega
  clear hbR
  generalize hbA : w.heap.size = bA at rA ⊢
  have HBA : Unit → w.heap.size = bA := fun _ => hbA
  clear hbA
  have a0 := Rw.cell rA 0
  have a1 := Rw.cell rA 1
  have a2 := Rw.cell rA 2
  have a3 := Rw.cell rA 3
  have a4 := Rw.cell rA 4
  have a5 := Rw.cell rA 5
  have z0 := Rw.frozen rR 0
  have z1 := Rw.frozen rR 1
  have z2 := Rw.frozen rR 2
  have z3 := Rw.frozen rR 3
  have z4 := Rw.frozen rR 4
  have z5 := Rw.frozen rR 5
  have u0 := Rw.cell rR 0
  have u1 := Rw.cell rR 1
  have u2 := Rw.cell rR 2
  have u3 := Rw.cell rR 3
  have u4 := Rw.cell rR 4
  have u5 := Rw.cell rR 5
  simp only [List.getElem?_cons_zero, List.getElem?_cons_succ] at a0 a1 a2 a3 a4 a5 u0 u1 u2 u3 u4 u5
  go_wp2_with fail
  refine bodyPost_ret (v := .agg #[.string ⟨s.toArray⟩, .slice ay ny ky, .int .i64 l, .int .u32 c, .int .i64 p, .int .i64 q]) (by simp [results, Tryd.results15, go_sem, u0, u1, u2, u3, u4, u5]) rfl ?_
  exact ⟨rfl, below_set6 hB hge _ _ _ _ _ _⟩
end Go.Proofs.YtknhkmlihbgjpaaDoor
