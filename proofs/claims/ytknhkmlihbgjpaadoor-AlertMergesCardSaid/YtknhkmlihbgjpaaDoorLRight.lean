/- label.Right and label.Flows: what each call returns, of whatever labels; old memory stays as it was. -/
import Derived.Test.YtknhkmlihbgjpaaDoorProg
import Derived.Test.YtknhkmlihbgjpaaDoorLPlain
import Derived.WalkKit
import Derived.ProofKit
import Derived.Lib.Hide

namespace Go.Proofs.YtknhkmlihbgjpaaDoor
open Go.ChangeShapes Go.WideShapes Go.RowKit

theorem ret_bool {a b : Bool} (h : a = b) : Ending.returned (.bool a) = .returned (.bool b) := by rw [h]
theorem bcell {W w1 : World} (hb : Below W.heap.size W w1) : (∀ b o, b < W.heap.size → w1.cell? ⟨b, o, none⟩ = W.cell? ⟨b, o, none⟩) ∧ (∀ b o, b < W.heap.size → w1.frozen? ⟨b, o, none⟩ = W.frozen? ⟨b, o, none⟩) :=
  ⟨fun b o h => hb.cell (p := ⟨b, o, none⟩) h, fun b o h => hb.frozen (p := ⟨b, o, none⟩) h⟩
theorem Below.keeps {w w' : World} (h : Below w.heap.size w w') {a : Addr} {v : Value} (hc : w.cell? a = some v) : w'.cell? a = some v := by rw [h.cell (World.block_lt_of_cell? w a hc)]; exact hc
/-- A label lies at the head of block b. -/
def LabAt (w : World) (b : Nat) (l c : Int) : Prop := w.cell? ⟨b, 0, none⟩ = some (.int .i64 l) ∧ w.cell? ⟨b, 1, none⟩ = some (.int .u32 c)
theorem LabAt.keep {w w' : World} {b : Nat} {l c : Int} (h : LabAt w b l c) (hb : Below w.heap.size w w') : LabAt w' b l c := ⟨Below.keeps hb h.1, Below.keeps hb h.2⟩
theorem LabAt.one (w : World) (l c : Int) : LabAt (w.alloc (.cells #[.int .i64 l, .int .u32 c] 25)) w.heap.size l c := by constructor <;> simp [go_sem]
theorem LabAt.later {w : World} {b : Nat} {l c : Int} (h : LabAt w b l c) (o : Obj) : LabAt (w.alloc o) b l c := h.keep ((Below.refl _ _).alloc (Nat.le_refl _) _)
theorem below_two {w w1 : World} {x y : Obj} (hb : Below ((w.alloc x).alloc y).heap.size ((w.alloc x).alloc y) w1) : Below w.heap.size w w1 :=
  (((Below.refl _ _).alloc (Nat.le_refl _) _).alloc (by simp) _).trans (hb.mono (by simp; omega))

set_option maxHeartbeats 400000 in
theorem right_any (l c : Int) (w : World) :
    Calls Tryd.prog 43 #[.agg #[.int .i64 l, .int .u32 c]] w fun e w' => e = .returned (.bool (rB l)) ∧ Below w.heap.size w w' := by
  go_enter Tryd.func43, Tryd.ntmps43
  go_wp2
  · have h0 : 0 ≤ l := by assumption
    go_ret
    exact ⟨ret_bool (by unfold rB; simp [h0]), (Below.refl _ _).alloc (Nat.le_refl _) _⟩
  · have h0 : l < 0 := by assumption
    go_ret
    exact ⟨ret_bool (by symm; rw [rB_false]; omega), (Below.refl _ _).alloc (Nat.le_refl _) _⟩

set_option maxHeartbeats 400000 in
theorem flows_any (l c m d : Int) (hc0 : 0 ≤ c) (hc1 : c < 4294967296) (hd0 : 0 ≤ d) (hd1 : d < 4294967296) (w : World) :
    Calls Tryd.prog 50 #[.agg #[.int .i64 l, .int .u32 c], .agg #[.int .i64 m, .int .u32 d]] w fun e w' => e = .returned (.bool (flB l c m d)) ∧ Below w.heap.size w w' := by
  have hand := andNot_sub c d hc0 hc1 hd0 hd1
  cases hl : rB l
  · have Hf := Lib.hid (show flB l c m d = false by unfold flB; rw [hl]; rfl)
    go_enter Tryd.func50, Tryd.ntmps50
    go_wp2_with (go_at_call 43; refine (right_any _ _ _).mono ?_; rintro e w' ⟨rfl, hb⟩)
    go_ret
    exact ⟨ret_bool Hf.out.symm, below_two hb⟩
  cases hm : rB m
  · have Hf := Lib.hid (show flB l c m d = false by unfold flB; rw [hl, hm]; rfl)
    go_enter Tryd.func50, Tryd.ntmps50
    go_wp2_with fail
    refine (right_any _ _ _).mono ?_
    rintro e w1 ⟨rfl, hb⟩
    obtain ⟨hbc, hbf⟩ := bcell hb
    go_wp2_with fail
    clear hbc hbf
    refine (right_any _ _ _).mono ?_
    rintro e w2 ⟨rfl, hb2⟩
    go_wp2
    go_ret
    exact ⟨ret_bool Hf.out.symm, (below_two hb).trans (hb2.mono (below_two hb).size)⟩
  have Hf := Lib.hid (show flB l c m d = (decide (l ≤ m) && subB c d) by unfold flB; rw [hl, hm]; rfl)
  go_enter Tryd.func50, Tryd.ntmps50
  go_wp2_with fail
  refine (right_any _ _ _).mono ?_
  rintro e w1 ⟨rfl, hb⟩
  obtain ⟨hbc, hbf⟩ := bcell hb
  go_wp2_with fail
  refine (right_any _ _ _).mono ?_
  rintro e w2 ⟨rfl, hb2⟩
  obtain ⟨a0, a1⟩ := (((LabAt.one w l c).later (.cells #[.int .i64 m, .int .u32 d] 25)).keep hb).keep hb2
  obtain ⟨b0, b1⟩ := ((LabAt.one (w.alloc (.cells #[.int .i64 l, .int .u32 c] 25)) m d).keep hb).keep hb2
  simp at b0 b1
  have hB := (below_two hb).trans (hb2.mono (below_two hb).size)
  clear hbc hbf hb hb2
  go_wp2
  · have h0 : l ≤ m := by assumption
    go_ret
    exact ⟨ret_bool (by rw [Hf.out]; simp [h0]), hB⟩
  · have h0 : m < l := by assumption
    go_ret
    exact ⟨ret_bool (by rw [Hf.out, decide_eq_false (by omega)]; rfl), hB⟩
end Go.Proofs.YtknhkmlihbgjpaaDoor
