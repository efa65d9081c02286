/- label.Join and label.Meet: what each call returns, of whatever labels; old memory stays as it was. -/
import Derived.Test.YtknhkmlihbgjpaaDoorLRight
namespace Go.Proofs.YtknhkmlihbgjpaaDoor
open Go.ChangeShapes Go.WideShapes Go.RowKit

theorem below_three {w w1 : World} {x y z : Obj} (hb : Below (((w.alloc x).alloc y).alloc z).heap.size (((w.alloc x).alloc y).alloc z) w1) : Below w.heap.size w w1 :=
  ((((Below.refl _ _).alloc (Nat.le_refl _) _).alloc (by simp) _).alloc (by simp; omega) _).trans (hb.mono (by simp; omega))

set_option maxHeartbeats 400000 in
theorem highest_any (w : World) :
    Calls Tryd.prog 66 #[] w fun e w' => e = .returned (.agg #[.int .i64 7, .int .u32 4294967295]) ∧ Below w.heap.size w w' := by
  go_enter Tryd.func66, Tryd.ntmps66
  go_wp2
  exact bodyPost_ret (v := .agg #[.int .i64 7, .int .u32 4294967295]) (by simp [results, Tryd.results66, go_sem]) rfl ⟨rfl, (Below.refl _ _).alloc (Nat.le_refl _) _⟩
/-- A label lies at the head of block b, and may be written. -/
def LabU (w : World) (b : Nat) (l c : Int) : Prop := w.cell? ⟨b, 0, none⟩ = some (.int .i64 l) ∧ w.cell? ⟨b, 1, none⟩ = some (.int .u32 c) ∧ w.frozen? ⟨b, 0, none⟩ = false ∧ w.frozen? ⟨b, 1, none⟩ = false
theorem LabU.keep {w w' : World} {b : Nat} {l c : Int} (h : LabU w b l c) (hb : Below w.heap.size w w') : LabU w' b l c :=
  ⟨Below.keeps hb h.1, Below.keeps hb h.2.1, (hb.frozen (p := ⟨b, 0, none⟩) (World.block_lt_of_cell? w _ h.1)).trans h.2.2.1, (hb.frozen (p := ⟨b, 1, none⟩) (World.block_lt_of_cell? w _ h.2.1)).trans h.2.2.2⟩
theorem LabU.one (w : World) (l c : Int) : LabU (w.alloc (.cells #[.int .i64 l, .int .u32 c] 25)) w.heap.size l c := by refine ⟨?_, ?_, ?_, ?_⟩ <;> simp [go_sem]
theorem LabU.later {w : World} {b : Nat} {l c : Int} (h : LabU w b l c) (o : Obj) : LabU (w.alloc o) b l c := h.keep ((Below.refl _ _).alloc (Nat.le_refl _) _)

set_option maxHeartbeats 400000 in
theorem join_no1 (l c m d : Int) (hl : rB l = false) (w : World) :
    Calls Tryd.prog 38 #[.agg #[.int .i64 l, .int .u32 c], .agg #[.int .i64 m, .int .u32 d]] w fun e w' => e = .returned (.agg #[.int .i64 7, .int .u32 4294967295]) ∧ Below w.heap.size w w' := by
  go_enter Tryd.func38, Tryd.ntmps38
  go_wp2_with fail
  refine (right_any _ _ _).mono ?_
  rintro e w1 ⟨rfl, hb⟩
  have hu := (LabU.one ((w.alloc (.cells #[.int .i64 l, .int .u32 c] 25)).alloc (.cells #[.int .i64 m, .int .u32 d] 25)) 0 0).keep hb
  have hB := below_three hb
  clear hb
  go_wp2_with fail
  refine (highest_any _).mono ?_
  rintro e w2 ⟨rfl, hb2⟩
  obtain ⟨u0, u1, f0, f1⟩ := hu.keep hb2
  simp at u0 u1 f0 f1
  have hB2 := hB.trans (hb2.mono hB.size)
  clear hb2 hu
  go_wp2
  exact bodyPost_ret (v := .agg #[.int .i64 7, .int .u32 4294967295]) (by simp [results, Tryd.results38, go_sem, u0, u1]) rfl ⟨rfl, (hB2.setCell (p := ⟨w.heap.size + 1 + 1, 0, none⟩) (by simp; omega) _).setCell (p := ⟨w.heap.size + 1 + 1, 1, none⟩) (by simp; omega) _⟩

set_option maxHeartbeats 400000 in
theorem join_no2 (l c m d : Int) (hl : rB l = true) (hm : rB m = false) (w : World) :
    Calls Tryd.prog 38 #[.agg #[.int .i64 l, .int .u32 c], .agg #[.int .i64 m, .int .u32 d]] w fun e w' => e = .returned (.agg #[.int .i64 7, .int .u32 4294967295]) ∧ Below w.heap.size w w' := by
  go_enter Tryd.func38, Tryd.ntmps38
  go_wp2_with fail
  refine (right_any _ _ _).mono ?_
  rintro e w1 ⟨rfl, hb⟩
  have hu := (LabU.one ((w.alloc (.cells #[.int .i64 l, .int .u32 c] 25)).alloc (.cells #[.int .i64 m, .int .u32 d] 25)) 0 0).keep hb
  obtain ⟨b0, b1, g0, g1⟩ := ((LabU.one (w.alloc (.cells #[.int .i64 l, .int .u32 c] 25)) m d).later (.cells #[.int .i64 0, .int .u32 0] 25)).keep hb
  simp at b0 b1 g0 g1
  have hB := below_three hb
  clear hb
  go_wp2_with fail
  clear b0 b1 g0 g1
  refine (right_any _ _ _).mono ?_
  rintro e w2 ⟨rfl, hb2⟩
  have hu2 := hu.keep hb2
  have hB2 := hB.trans (hb2.mono hB.size)
  clear hu hB hb2
  go_wp2_with fail
  refine (highest_any _).mono ?_
  rintro e w3 ⟨rfl, hb3⟩
  obtain ⟨u0, u1, f0, f1⟩ := hu2.keep hb3
  simp at u0 u1 f0 f1
  have hB3 := hB2.trans (hb3.mono hB2.size)
  clear hb3 hu2
  go_wp2
  exact bodyPost_ret (v := .agg #[.int .i64 7, .int .u32 4294967295]) (by simp [results, Tryd.results38, go_sem, u0, u1]) rfl ⟨rfl, (hB3.setCell (p := ⟨w.heap.size + 1 + 1, 0, none⟩) (by simp; omega) _).setCell (p := ⟨w.heap.size + 1 + 1, 1, none⟩) (by simp; omega) _⟩

set_option maxHeartbeats 400000 in
theorem join_yes (l c m d : Int) (hl : rB l = true) (hm : rB m = true) (hc0 : 0 ≤ c) (hc1 : c < 4294967296) (hd0 : 0 ≤ d) (hd1 : d < 4294967296) (w : World) :
    Calls Tryd.prog 38 #[.agg #[.int .i64 l, .int .u32 c], .agg #[.int .i64 m, .int .u32 d]] w fun e w' => e = .returned (.agg #[.int .i64 (max l m), .int .u32 ((c.toNat ||| d.toNat : Nat) : Int)]) ∧ Below w.heap.size w w' := by
  have hbit := Lib.hid (u32_or c d hc0 hc1 hd0 hd1)
  go_enter Tryd.func38, Tryd.ntmps38
  go_wp2_with fail
  refine (right_any _ _ _).mono ?_
  rintro e w1 ⟨rfl, hb⟩
  have hu := (LabU.one ((w.alloc (.cells #[.int .i64 l, .int .u32 c] 25)).alloc (.cells #[.int .i64 m, .int .u32 d] 25)) 0 0).keep hb
  have ha := (((LabU.one w l c).later (.cells #[.int .i64 m, .int .u32 d] 25)).later (.cells #[.int .i64 0, .int .u32 0] 25)).keep hb
  have hb' := ((LabU.one (w.alloc (.cells #[.int .i64 l, .int .u32 c] 25)) m d).later (.cells #[.int .i64 0, .int .u32 0] 25)).keep hb
  obtain ⟨b0, b1, g0, g1⟩ := hb'
  simp at b0 b1 g0 g1
  have hB := below_three hb
  clear hb
  go_wp2_with fail
  refine (right_any _ _ _).mono ?_
  rintro e w2 ⟨rfl, hb2⟩
  have hb' : LabU w1 (w.heap.size + 1) m d := ⟨b0, b1, g0, g1⟩
  clear b0 b1 g0 g1
  obtain ⟨u0, u1, f0, f1⟩ := hu.keep hb2
  obtain ⟨a0, a1, p0, p1⟩ := ha.keep hb2
  obtain ⟨b0, b1, g0, g1⟩ := hb'.keep hb2
  simp at u0 u1 f0 f1
  have hB2 := hB.trans (hb2.mono hB.size)
  clear hu hB hb2 ha hb'
  go_wp2
  all_goals exact bodyPost_ret (v := .agg #[.int .i64 (max l m), .int .u32 ((c.toNat ||| d.toNat : Nat) : Int)]) (by simp [results, Tryd.results38, go_sem, u0, u1, hbit.out]; omega) rfl ⟨rfl, (hB2.setCell (p := ⟨w.heap.size + 1 + 1, 0, none⟩) (by simp; omega) _).setCell (p := ⟨w.heap.size + 1 + 1, 1, none⟩) (by simp; omega) _⟩

theorem join_any (l c m d : Int) (hc0 : 0 ≤ c) (hc1 : c < 4294967296) (hd0 : 0 ≤ d) (hd1 : d < 4294967296) (w : World) :
    Calls Tryd.prog 38 #[.agg #[.int .i64 l, .int .u32 c], .agg #[.int .i64 m, .int .u32 d]] w fun e w' => e = .returned (.agg #[.int .i64 (jL l m), .int .u32 (jC l c m d)]) ∧ Below w.heap.size w w' := by
  cases hl : rB l
  · have h1 : jL l m = 7 := by unfold jL; rw [hl]; rfl
    have h2 : jC l c m d = 4294967295 := by unfold jC; rw [hl]; rfl
    rw [h1, h2]; exact join_no1 l c m d hl w
  cases hm : rB m
  · have h1 : jL l m = 7 := by unfold jL; rw [hl, hm]; rfl
    have h2 : jC l c m d = 4294967295 := by unfold jC; rw [hl, hm]; rfl
    rw [h1, h2]; exact join_no2 l c m d hl hm w
  · have h1 : jL l m = max l m := by unfold jL; rw [hl, hm]; rfl
    have h2 : jC l c m d = ((c.toNat ||| d.toNat : Nat) : Int) := by unfold jC; rw [hl, hm]; rfl
    rw [h1, h2]; exact join_yes l c m d hl hm hc0 hc1 hd0 hd1 w

end Go.Proofs.YtknhkmlihbgjpaaDoor
