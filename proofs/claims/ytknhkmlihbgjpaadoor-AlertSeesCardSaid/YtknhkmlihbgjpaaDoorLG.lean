/- LG: several texts in one. -/
import Derived.Laws.BitsAllLaws
import Derived.Test.YtknhkmlihbgjpaaDoorProg
import Derived.WalkKit
import Derived.ProofKit
import Derived.Lib.Hide
/- Labels as pairs of numbers: which are valid, which flow where, their join and meet: plain facts, of no program. -/
namespace Go.Proofs.YtknhkmlihbgjpaaDoor
open Go

/-- A level is valid. -/
def rB (l : Int) : Bool := decide (0 ≤ l ∧ l < 8)
/-- The teams c are among the teams d. -/
def subB (c d : Int) : Bool := decide (c.toNat &&& d.toNat = c.toNat)
/-- The label l, c flows to the label m, d. -/
def flB (l c m d : Int) : Bool := rB l && (rB m && (decide (l ≤ m) && subB c d))
/-- The level and the teams of the join. -/
def jL (l m : Int) : Int := if rB l && rB m then max l m else 7
def jC (l c m d : Int) : Int := if rB l && rB m then ((c.toNat ||| d.toNat : Nat) : Int) else 4294967295
/-- The level and the teams of the meet. -/
def mL (l m : Int) : Int := if rB l && rB m then min l m else 0
def mC (l c m d : Int) : Int := if rB l && rB m then ((c.toNat &&& d.toNat : Nat) : Int) else 0

theorem rB_true {l : Int} : rB l = true ↔ 0 ≤ l ∧ l < 8 := by unfold rB; simp
theorem rB_false {l : Int} : rB l = false ↔ ¬ (0 ≤ l ∧ l < 8) := by unfold rB; exact decide_eq_false_iff_not
theorem subB_true {c d : Int} : subB c d = true ↔ c.toNat &&& d.toNat = c.toNat := by unfold subB; simp

theorem andNot_zero (a b : Nat) (ha : a < 4294967296) (hb : b < 4294967296) : (a &&& (4294967295 - b) = 0) ↔ a &&& b = a := by
  have hB : ∀ i, (4294967295 - b).testBit i = (decide (i < 32) && !b.testBit i) := by
    intro i
    have := Nat.testBit_two_pow_sub_succ (x := b) (n := 32) (by omega) i
    rw [← this]
    congr 1; omega
  constructor
  · intro h
    apply Nat.eq_of_testBit_eq
    intro i
    have hi : (a &&& (4294967295 - b)).testBit i = false := by rw [h]; simp
    rw [Nat.testBit_and, hB] at hi
    rw [Nat.testBit_and]
    by_cases h32 : i < 32
    · cases hx : a.testBit i <;> cases hy : b.testBit i <;> simp_all
    · have : a.testBit i = false := Nat.testBit_lt_two_pow (Nat.lt_of_lt_of_le ha (by have := Nat.pow_le_pow_right (n := 2) (by omega) (show 32 ≤ i by omega); omega))
      simp [this]
  · intro h
    apply Nat.eq_of_testBit_eq
    intro i
    rw [Nat.testBit_and, hB]
    have hi : (a &&& b).testBit i = a.testBit i := by rw [h]
    rw [Nat.testBit_and] at hi
    cases hx : a.testBit i <;> cases hy : b.testBit i <;> simp_all

theorem andNot_sub (c d : Int) (hc0 : 0 ≤ c) (hc1 : c < 4294967296) (hd0 : 0 ≤ d) (hd1 : d < 4294967296) : (bits .andNot .u32 c d == 0) = subB c d := by
  rw [u32_andNot c d hc0 hc1 hd0 hd1, Bool.eq_iff_iff, subB_true, ← andNot_zero c.toNat d.toNat (by omega) (by omega)]
  simp only [beq_iff_eq]
  omega

theorem subB_refl (c : Int) : subB c c = true := by rw [subB_true]; simp
theorem subB_trans {c d e : Int} (h : subB c d = true) (k : subB d e = true) : subB c e = true := by
  rw [subB_true] at *
  rw [← h, Nat.and_assoc, k]
theorem subB_antisymm {c d : Int} (hc : 0 ≤ c) (hd : 0 ≤ d) (h : subB c d = true) (k : subB d c = true) : c = d := by
  rw [subB_true] at *
  rw [Nat.and_comm] at k
  rw [h] at k
  omega

theorem flB_true {l c m d : Int} : flB l c m d = true ↔ (0 ≤ l ∧ l < 8) ∧ (0 ≤ m ∧ m < 8) ∧ l ≤ m ∧ subB c d = true := by
  unfold flB; simp [rB_true]
theorem flB_self (l c : Int) : flB l c l c = rB l := by
  unfold flB; rw [subB_refl]; cases rB l <;> simp
theorem flB_trans {l c m d n e : Int} (h : flB l c m d = true) (k : flB m d n e = true) : flB l c n e = true := by
  rw [flB_true] at *
  exact ⟨h.1, k.2.1, by omega, subB_trans h.2.2.2 k.2.2.2⟩
theorem flB_antisymm {l c m d : Int} (hc : 0 ≤ c) (hd : 0 ≤ d) (h : flB l c m d = true) (k : flB m d l c = true) : l = m ∧ c = d := by
  rw [flB_true] at *
  exact ⟨by omega, subB_antisymm hc hd h.2.2.2 k.2.2.2⟩
theorem flB_left {l c m d : Int} (h : flB l c m d = true) : rB l = true := by rw [flB_true] at h; rw [rB_true]; exact h.1
theorem flB_right {l c m d : Int} (h : flB l c m d = true) : rB m = true := by rw [flB_true] at h; rw [rB_true]; exact h.2.1

end Go.Proofs.YtknhkmlihbgjpaaDoor
/- label.Right and label.Flows: what each call returns, of whatever labels; old memory stays as it was. -/

namespace Go.Proofs.YtknhkmlihbgjpaaDoor
open Go.ChangeShapes Go.WideShapes Go.RowKit

theorem ret_bool {a b : Bool} (h : a = b) : Ending.returned (.bool a) = .returned (.bool b) := by rw [h]
theorem bcell {W w1 : World} (hb : Below W.heap.size W w1) : (∀ b o, b < W.heap.size → w1.cell? ⟨b, o, none⟩ = W.cell? ⟨b, o, none⟩) ∧ (∀ b o, b < W.heap.size → w1.frozen? ⟨b, o, none⟩ = W.frozen? ⟨b, o, none⟩) :=
  ⟨fun b o h => hb.cell (p := ⟨b, o, none⟩) h, fun b o h => hb.frozen (p := ⟨b, o, none⟩) h⟩
theorem Below.keeps {w w' : World} (h : Below w.heap.size w w') {a : Addr} {v : Value} (hc : w.cell? a = some v) : w'.cell? a = some v := by rw [h.cell (World.block_lt_of_cell? w a hc)]; exact hc
/-- A label lies at the head of block b. -/
def LabAt (w : World) (b : Nat) (l c : Int) : Prop := w.cell? ⟨b, 0, none⟩ = some (.int .i64 l) ∧ w.cell? ⟨b, 1, none⟩ = some (.int .u32 c)
theorem LabAt.keep {w w' : World} {b : Nat} {l c : Int} (h : LabAt w b l c) (hb : Below w.heap.size w w') : LabAt w' b l c := ⟨Below.keeps hb h.1, Below.keeps hb h.2⟩
theorem LabAt.one (w : World) (l c : Int) : LabAt (w.alloc (.cells #[.int .i64 l, .int .u32 c] 25)) w.heap.size l c := by constructor <;> simp [go_sem]
theorem LabAt.later {w : World} {b : Nat} {l c : Int} (h : LabAt w b l c) (o : Obj) : LabAt (w.alloc o) b l c := h.keep ((Below.refl _ _).alloc (Nat.le_refl _) _)
theorem below_two {w w1 : World} {x y : Obj} (hb : Below ((w.alloc x).alloc y).heap.size ((w.alloc x).alloc y) w1) : Below w.heap.size w w1 :=
  (((Below.refl _ _).alloc (Nat.le_refl _) _).alloc (by simp) _).trans (hb.mono (by simp; omega))

set_option maxHeartbeats 400000 in
theorem right_any (l c : Int) (w : World) :
    Calls Tryd.prog 43 #[.agg #[.int .i64 l, .int .u32 c]] w fun e w' => e = .returned (.bool (rB l)) ∧ Below w.heap.size w w' := by
  go_enter Tryd.func43, Tryd.ntmps43
  go_wp2
  · have h0 : 0 ≤ l := by assumption
    go_ret
    exact ⟨ret_bool (by unfold rB; simp [h0]), (Below.refl _ _).alloc (Nat.le_refl _) _⟩
  · have h0 : l < 0 := by assumption
    go_ret
    exact ⟨ret_bool (by symm; rw [rB_false]; omega), (Below.refl _ _).alloc (Nat.le_refl _) _⟩

set_option maxHeartbeats 400000 in
theorem flows_any (l c m d : Int) (hc0 : 0 ≤ c) (hc1 : c < 4294967296) (hd0 : 0 ≤ d) (hd1 : d < 4294967296) (w : World) :
    Calls Tryd.prog 50 #[.agg #[.int .i64 l, .int .u32 c], .agg #[.int .i64 m, .int .u32 d]] w fun e w' => e = .returned (.bool (flB l c m d)) ∧ Below w.heap.size w w' := by
  have hand := andNot_sub c d hc0 hc1 hd0 hd1
  cases hl : rB l
  · have Hf := Lib.hid (show flB l c m d = false by unfold flB; rw [hl]; rfl)
    go_enter Tryd.func50, Tryd.ntmps50
    go_wp2_with (go_at_call 43; refine (right_any _ _ _).mono ?_; rintro e w' ⟨rfl, hb⟩)
    go_ret
    exact ⟨ret_bool Hf.out.symm, below_two hb⟩
  cases hm : rB m
  · have Hf := Lib.hid (show flB l c m d = false by unfold flB; rw [hl, hm]; rfl)
    go_enter Tryd.func50, Tryd.ntmps50
    go_wp2_with fail
    refine (right_any _ _ _).mono ?_
    rintro e w1 ⟨rfl, hb⟩
    obtain ⟨hbc, hbf⟩ := bcell hb
    go_wp2_with fail
    clear hbc hbf
    refine (right_any _ _ _).mono ?_
    rintro e w2 ⟨rfl, hb2⟩
    go_wp2
    go_ret
    exact ⟨ret_bool Hf.out.symm, (below_two hb).trans (hb2.mono (below_two hb).size)⟩
  have Hf := Lib.hid (show flB l c m d = (decide (l ≤ m) && subB c d) by unfold flB; rw [hl, hm]; rfl)
  go_enter Tryd.func50, Tryd.ntmps50
  go_wp2_with fail
  refine (right_any _ _ _).mono ?_
  rintro e w1 ⟨rfl, hb⟩
  obtain ⟨hbc, hbf⟩ := bcell hb
  go_wp2_with fail
  refine (right_any _ _ _).mono ?_
  rintro e w2 ⟨rfl, hb2⟩
  obtain ⟨a0, a1⟩ := (((LabAt.one w l c).later (.cells #[.int .i64 m, .int .u32 d] 25)).keep hb).keep hb2
  obtain ⟨b0, b1⟩ := ((LabAt.one (w.alloc (.cells #[.int .i64 l, .int .u32 c] 25)) m d).keep hb).keep hb2
  simp at b0 b1
  have hB := (below_two hb).trans (hb2.mono (below_two hb).size)
  clear hbc hbf hb hb2
  go_wp2
  · have h0 : l ≤ m := by assumption
    go_ret
    exact ⟨ret_bool (by rw [Hf.out]; simp [h0]), hB⟩
  · have h0 : m < l := by assumption
    go_ret
    exact ⟨ret_bool (by rw [Hf.out, decide_eq_false (by omega)]; rfl), hB⟩
end Go.Proofs.YtknhkmlihbgjpaaDoor
/- label.Join and label.Meet: what each call returns, of whatever labels; old memory stays as it was. -/
namespace Go.Proofs.YtknhkmlihbgjpaaDoor
open Go.ChangeShapes Go.WideShapes Go.RowKit

theorem below_three {w w1 : World} {x y z : Obj} (hb : Below (((w.alloc x).alloc y).alloc z).heap.size (((w.alloc x).alloc y).alloc z) w1) : Below w.heap.size w w1 :=
  ((((Below.refl _ _).alloc (Nat.le_refl _) _).alloc (by simp) _).alloc (by simp; omega) _).trans (hb.mono (by simp; omega))

set_option maxHeartbeats 400000 in
theorem highest_any (w : World) :
    Calls Tryd.prog 66 #[] w fun e w' => e = .returned (.agg #[.int .i64 7, .int .u32 4294967295]) ∧ Below w.heap.size w w' := by
  go_enter Tryd.func66, Tryd.ntmps66
  go_wp2
  exact bodyPost_ret (v := .agg #[.int .i64 7, .int .u32 4294967295]) (by simp [results, Tryd.results66, go_sem]) rfl ⟨rfl, (Below.refl _ _).alloc (Nat.le_refl _) _⟩
/-- A label lies at the head of block b, and may be written. -/
def LabU (w : World) (b : Nat) (l c : Int) : Prop := w.cell? ⟨b, 0, none⟩ = some (.int .i64 l) ∧ w.cell? ⟨b, 1, none⟩ = some (.int .u32 c) ∧ w.frozen? ⟨b, 0, none⟩ = false ∧ w.frozen? ⟨b, 1, none⟩ = false
theorem LabU.keep {w w' : World} {b : Nat} {l c : Int} (h : LabU w b l c) (hb : Below w.heap.size w w') : LabU w' b l c :=
  ⟨Below.keeps hb h.1, Below.keeps hb h.2.1, (hb.frozen (p := ⟨b, 0, none⟩) (World.block_lt_of_cell? w _ h.1)).trans h.2.2.1, (hb.frozen (p := ⟨b, 1, none⟩) (World.block_lt_of_cell? w _ h.2.1)).trans h.2.2.2⟩
theorem LabU.one (w : World) (l c : Int) : LabU (w.alloc (.cells #[.int .i64 l, .int .u32 c] 25)) w.heap.size l c := by refine ⟨?_, ?_, ?_, ?_⟩ <;> simp [go_sem]
theorem LabU.later {w : World} {b : Nat} {l c : Int} (h : LabU w b l c) (o : Obj) : LabU (w.alloc o) b l c := h.keep ((Below.refl _ _).alloc (Nat.le_refl _) _)

set_option maxHeartbeats 400000 in
theorem join_no1 (l c m d : Int) (hl : rB l = false) (w : World) :
    Calls Tryd.prog 38 #[.agg #[.int .i64 l, .int .u32 c], .agg #[.int .i64 m, .int .u32 d]] w fun e w' => e = .returned (.agg #[.int .i64 7, .int .u32 4294967295]) ∧ Below w.heap.size w w' := by
  go_enter Tryd.func38, Tryd.ntmps38
  go_wp2_with fail
  refine (right_any _ _ _).mono ?_
  rintro e w1 ⟨rfl, hb⟩
  have hu := (LabU.one ((w.alloc (.cells #[.int .i64 l, .int .u32 c] 25)).alloc (.cells #[.int .i64 m, .int .u32 d] 25)) 0 0).keep hb
  have hB := below_three hb
  clear hb
  go_wp2_with fail
  refine (highest_any _).mono ?_
  rintro e w2 ⟨rfl, hb2⟩
  obtain ⟨u0, u1, f0, f1⟩ := hu.keep hb2
  simp at u0 u1 f0 f1
  have hB2 := hB.trans (hb2.mono hB.size)
  clear hb2 hu
  go_wp2
  exact bodyPost_ret (v := .agg #[.int .i64 7, .int .u32 4294967295]) (by simp [results, Tryd.results38, go_sem, u0, u1]) rfl ⟨rfl, (hB2.setCell (p := ⟨w.heap.size + 1 + 1, 0, none⟩) (by simp; omega) _).setCell (p := ⟨w.heap.size + 1 + 1, 1, none⟩) (by simp; omega) _⟩

set_option maxHeartbeats 400000 in
theorem join_no2 (l c m d : Int) (hl : rB l = true) (hm : rB m = false) (w : World) :
    Calls Tryd.prog 38 #[.agg #[.int .i64 l, .int .u32 c], .agg #[.int .i64 m, .int .u32 d]] w fun e w' => e = .returned (.agg #[.int .i64 7, .int .u32 4294967295]) ∧ Below w.heap.size w w' := by
  go_enter Tryd.func38, Tryd.ntmps38
  go_wp2_with fail
  refine (right_any _ _ _).mono ?_
  rintro e w1 ⟨rfl, hb⟩
  have hu := (LabU.one ((w.alloc (.cells #[.int .i64 l, .int .u32 c] 25)).alloc (.cells #[.int .i64 m, .int .u32 d] 25)) 0 0).keep hb
  obtain ⟨b0, b1, g0, g1⟩ := ((LabU.one (w.alloc (.cells #[.int .i64 l, .int .u32 c] 25)) m d).later (.cells #[.int .i64 0, .int .u32 0] 25)).keep hb
  simp at b0 b1 g0 g1
  have hB := below_three hb
  clear hb
  go_wp2_with fail
  clear b0 b1 g0 g1
  refine (right_any _ _ _).mono ?_
  rintro e w2 ⟨rfl, hb2⟩
  have hu2 := hu.keep hb2
  have hB2 := hB.trans (hb2.mono hB.size)
  clear hu hB hb2
  go_wp2_with fail
  refine (highest_any _).mono ?_
  rintro e w3 ⟨rfl, hb3⟩
  obtain ⟨u0, u1, f0, f1⟩ := hu2.keep hb3
  simp at u0 u1 f0 f1
  have hB3 := hB2.trans (hb3.mono hB2.size)
  clear hb3 hu2
  go_wp2
  exact bodyPost_ret (v := .agg #[.int .i64 7, .int .u32 4294967295]) (by simp [results, Tryd.results38, go_sem, u0, u1]) rfl ⟨rfl, (hB3.setCell (p := ⟨w.heap.size + 1 + 1, 0, none⟩) (by simp; omega) _).setCell (p := ⟨w.heap.size + 1 + 1, 1, none⟩) (by simp; omega) _⟩

set_option maxHeartbeats 400000 in
theorem join_yes (l c m d : Int) (hl : rB l = true) (hm : rB m = true) (hc0 : 0 ≤ c) (hc1 : c < 4294967296) (hd0 : 0 ≤ d) (hd1 : d < 4294967296) (w : World) :
    Calls Tryd.prog 38 #[.agg #[.int .i64 l, .int .u32 c], .agg #[.int .i64 m, .int .u32 d]] w fun e w' => e = .returned (.agg #[.int .i64 (max l m), .int .u32 ((c.toNat ||| d.toNat : Nat) : Int)]) ∧ Below w.heap.size w w' := by
  have hbit := Lib.hid (u32_or c d hc0 hc1 hd0 hd1)
  go_enter Tryd.func38, Tryd.ntmps38
  go_wp2_with fail
  refine (right_any _ _ _).mono ?_
  rintro e w1 ⟨rfl, hb⟩
  have hu := (LabU.one ((w.alloc (.cells #[.int .i64 l, .int .u32 c] 25)).alloc (.cells #[.int .i64 m, .int .u32 d] 25)) 0 0).keep hb
  have ha := (((LabU.one w l c).later (.cells #[.int .i64 m, .int .u32 d] 25)).later (.cells #[.int .i64 0, .int .u32 0] 25)).keep hb
  have hb' := ((LabU.one (w.alloc (.cells #[.int .i64 l, .int .u32 c] 25)) m d).later (.cells #[.int .i64 0, .int .u32 0] 25)).keep hb
  obtain ⟨b0, b1, g0, g1⟩ := hb'
  simp at b0 b1 g0 g1
  have hB := below_three hb
  clear hb
  go_wp2_with fail
  refine (right_any _ _ _).mono ?_
  rintro e w2 ⟨rfl, hb2⟩
  have hb' : LabU w1 (w.heap.size + 1) m d := ⟨b0, b1, g0, g1⟩
  clear b0 b1 g0 g1
  obtain ⟨u0, u1, f0, f1⟩ := hu.keep hb2
  obtain ⟨a0, a1, p0, p1⟩ := ha.keep hb2
  obtain ⟨b0, b1, g0, g1⟩ := hb'.keep hb2
  simp at u0 u1 f0 f1
  have hB2 := hB.trans (hb2.mono hB.size)
  clear hu hB hb2 ha hb'
  go_wp2
  all_goals exact bodyPost_ret (v := .agg #[.int .i64 (max l m), .int .u32 ((c.toNat ||| d.toNat : Nat) : Int)]) (by simp [results, Tryd.results38, go_sem, u0, u1, hbit.out]; omega) rfl ⟨rfl, (hB2.setCell (p := ⟨w.heap.size + 1 + 1, 0, none⟩) (by simp; omega) _).setCell (p := ⟨w.heap.size + 1 + 1, 1, none⟩) (by simp; omega) _⟩

theorem join_any (l c m d : Int) (hc0 : 0 ≤ c) (hc1 : c < 4294967296) (hd0 : 0 ≤ d) (hd1 : d < 4294967296) (w : World) :
    Calls Tryd.prog 38 #[.agg #[.int .i64 l, .int .u32 c], .agg #[.int .i64 m, .int .u32 d]] w fun e w' => e = .returned (.agg #[.int .i64 (jL l m), .int .u32 (jC l c m d)]) ∧ Below w.heap.size w w' := by
  cases hl : rB l
  · have h1 : jL l m = 7 := by unfold jL; rw [hl]; rfl
    have h2 : jC l c m d = 4294967295 := by unfold jC; rw [hl]; rfl
    rw [h1, h2]; exact join_no1 l c m d hl w
  cases hm : rB m
  · have h1 : jL l m = 7 := by unfold jL; rw [hl, hm]; rfl
    have h2 : jC l c m d = 4294967295 := by unfold jC; rw [hl, hm]; rfl
    rw [h1, h2]; exact join_no2 l c m d hl hm w
  · have h1 : jL l m = max l m := by unfold jL; rw [hl, hm]; rfl
    have h2 : jC l c m d = ((c.toNat ||| d.toNat : Nat) : Int) := by unfold jC; rw [hl, hm]; rfl
    rw [h1, h2]; exact join_yes l c m d hl hm hc0 hc1 hd0 hd1 w

end Go.Proofs.YtknhkmlihbgjpaaDoor
