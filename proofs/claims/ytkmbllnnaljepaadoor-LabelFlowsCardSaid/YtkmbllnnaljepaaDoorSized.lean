/- label.Join and label.Meet of valid labels: how much memory each call makes. -/
import Derived.Test.YtkmbllnnaljepaaDoorJoin
namespace Go.Proofs.YtkmbllnnaljepaaDoor
open Go.ChangeShapes Go.WideShapes Go.RowKit

set_option maxHeartbeats 400000 in
theorem right_one (l c : Int) (w : World) :
    Calls Tryd.prog 12 #[.agg #[.int .i64 l, .int .u32 c]] w fun e w' => e = .returned (.bool (rB l)) ∧ Below w.heap.size w w' ∧ w'.heap.size = w.heap.size + 1 := by
  go_enter Tryd.func12, Tryd.ntmps12
  go_wp2
  · have h0 : 0 ≤ l := by assumption
    go_ret
    exact ⟨ret_bool (by unfold rB; simp [h0]), (Below.refl _ _).alloc (Nat.le_refl _) _, by simp⟩
  · have h0 : l < 0 := by assumption
    go_ret
    exact ⟨ret_bool (by symm; rw [rB_false]; omega), (Below.refl _ _).alloc (Nat.le_refl _) _, by simp⟩

set_option maxHeartbeats 400000 in
theorem join_five (l c m d : Int) (hl : rB l = true) (hm : rB m = true) (hc0 : 0 ≤ c) (hc1 : c < 4294967296) (hd0 : 0 ≤ d) (hd1 : d < 4294967296) (w : World) :
    Calls Tryd.prog 16 #[.agg #[.int .i64 l, .int .u32 c], .agg #[.int .i64 m, .int .u32 d]] w fun e w' => e = .returned (.agg #[.int .i64 (max l m), .int .u32 ((c.toNat ||| d.toNat : Nat) : Int)]) ∧ Below w.heap.size w w' ∧ w'.heap.size = w.heap.size + 5 := by
  have hbit := Lib.hid (u32_or c d hc0 hc1 hd0 hd1)
  go_enter Tryd.func16, Tryd.ntmps16
  go_wp2_with fail
  refine (right_one _ _ _).mono ?_
  rintro e w1 ⟨rfl, hb, hz1⟩
  have Hz1 := Lib.hid hz1
  clear hz1
  have hu := (LabU.one ((w.alloc (.cells #[.int .i64 l, .int .u32 c] 24)).alloc (.cells #[.int .i64 m, .int .u32 d] 24)) 0 0).keep hb
  have ha := (((LabU.one w l c).later (.cells #[.int .i64 m, .int .u32 d] 24)).later (.cells #[.int .i64 0, .int .u32 0] 24)).keep hb
  have hb' := ((LabU.one (w.alloc (.cells #[.int .i64 l, .int .u32 c] 24)) m d).later (.cells #[.int .i64 0, .int .u32 0] 24)).keep hb
  obtain ⟨b0, b1, g0, g1⟩ := hb'
  simp at b0 b1 g0 g1
  have hB := below_three hb
  clear hb
  go_wp2_with fail
  refine (right_one _ _ _).mono ?_
  rintro e w2 ⟨rfl, hb2, hz2⟩
  have Hz2 := Lib.hid hz2
  clear hz2
  have hb' : LabU w1 (w.heap.size + 1) m d := ⟨b0, b1, g0, g1⟩
  clear b0 b1 g0 g1
  obtain ⟨u0, u1, f0, f1⟩ := hu.keep hb2
  obtain ⟨a0, a1, p0, p1⟩ := ha.keep hb2
  obtain ⟨b0, b1, g0, g1⟩ := hb'.keep hb2
  simp at u0 u1 f0 f1
  have hB2 := hB.trans (hb2.mono hB.size)
  clear hu hB hb2 ha hb'
  go_wp2
  all_goals exact bodyPost_ret (v := .agg #[.int .i64 (max l m), .int .u32 ((c.toNat ||| d.toNat : Nat) : Int)]) (by simp [results, Tryd.results16, go_sem, u0, u1, hbit.out]; omega) rfl ⟨rfl, (hB2.setCell (p := ⟨w.heap.size + 1 + 1, 0, none⟩) (by simp; omega) _).setCell (p := ⟨w.heap.size + 1 + 1, 1, none⟩) (by simp; omega) _, by have h1 := Hz1.out; have h2 := Hz2.out; simp [World.setCell] at h1 ⊢; omega⟩


set_option maxHeartbeats 400000 in
theorem meet_five (l c m d : Int) (hl : rB l = true) (hm : rB m = true) (hc0 : 0 ≤ c) (hc1 : c < 4294967296) (hd0 : 0 ≤ d) (hd1 : d < 4294967296) (w : World) :
    Calls Tryd.prog 18 #[.agg #[.int .i64 l, .int .u32 c], .agg #[.int .i64 m, .int .u32 d]] w fun e w' => e = .returned (.agg #[.int .i64 (min l m), .int .u32 ((c.toNat &&& d.toNat : Nat) : Int)]) ∧ Below w.heap.size w w' ∧ w'.heap.size = w.heap.size + 5 := by
  have hbit := Lib.hid (u32_and c d hc0 hc1 hd0 hd1)
  go_enter Tryd.func18, Tryd.ntmps18
  go_wp2_with fail
  refine (right_one _ _ _).mono ?_
  rintro e w1 ⟨rfl, hb, hz1⟩
  have Hz1 := Lib.hid hz1
  clear hz1
  have hu := (LabU.one ((w.alloc (.cells #[.int .i64 l, .int .u32 c] 24)).alloc (.cells #[.int .i64 m, .int .u32 d] 24)) 0 0).keep hb
  have ha := (((LabU.one w l c).later (.cells #[.int .i64 m, .int .u32 d] 24)).later (.cells #[.int .i64 0, .int .u32 0] 24)).keep hb
  have hb' := ((LabU.one (w.alloc (.cells #[.int .i64 l, .int .u32 c] 24)) m d).later (.cells #[.int .i64 0, .int .u32 0] 24)).keep hb
  obtain ⟨b0, b1, g0, g1⟩ := hb'
  simp at b0 b1 g0 g1
  have hB := below_three hb
  clear hb
  go_wp2_with fail
  refine (right_one _ _ _).mono ?_
  rintro e w2 ⟨rfl, hb2, hz2⟩
  have Hz2 := Lib.hid hz2
  clear hz2
  have hb' : LabU w1 (w.heap.size + 1) m d := ⟨b0, b1, g0, g1⟩
  clear b0 b1 g0 g1
  obtain ⟨u0, u1, f0, f1⟩ := hu.keep hb2
  obtain ⟨a0, a1, p0, p1⟩ := ha.keep hb2
  obtain ⟨b0, b1, g0, g1⟩ := hb'.keep hb2
  simp at u0 u1 f0 f1
  have hB2 := hB.trans (hb2.mono hB.size)
  clear hu hB hb2 ha hb'
  go_wp2
  all_goals exact bodyPost_ret (v := .agg #[.int .i64 (min l m), .int .u32 ((c.toNat &&& d.toNat : Nat) : Int)]) (by simp [results, Tryd.results18, go_sem, u0, u1, hbit.out]; omega) rfl ⟨rfl, (hB2.setCell (p := ⟨w.heap.size + 1 + 1, 0, none⟩) (by simp; omega) _).setCell (p := ⟨w.heap.size + 1 + 1, 1, none⟩) (by simp; omega) _, by have h1 := Hz1.out; have h2 := Hz2.out; simp [World.setCell] at h1 ⊢; omega⟩

end Go.Proofs.YtkmbllnnaljepaaDoor
