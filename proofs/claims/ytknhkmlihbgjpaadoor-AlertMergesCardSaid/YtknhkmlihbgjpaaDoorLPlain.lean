/- Labels as pairs of numbers: which are valid, which flow where, their join and meet: plain facts, of no program. -/
import Derived.Laws.BitsAllLaws
namespace Go.Proofs.YtknhkmlihbgjpaaDoor
open Go

/-- A level is valid. -/
def rB (l : Int) : Bool := decide (0 ≤ l ∧ l < 8)
/-- The teams c are among the teams d. -/
def subB (c d : Int) : Bool := decide (c.toNat &&& d.toNat = c.toNat)
/-- The label l, c flows to the label m, d. -/
def flB (l c m d : Int) : Bool := rB l && (rB m && (decide (l ≤ m) && subB c d))
/-- The level and the teams of the join. -/
def jL (l m : Int) : Int := if rB l && rB m then max l m else 7
def jC (l c m d : Int) : Int := if rB l && rB m then ((c.toNat ||| d.toNat : Nat) : Int) else 4294967295
/-- The level and the teams of the meet. -/
def mL (l m : Int) : Int := if rB l && rB m then min l m else 0
def mC (l c m d : Int) : Int := if rB l && rB m then ((c.toNat &&& d.toNat : Nat) : Int) else 0

theorem rB_true {l : Int} : rB l = true ↔ 0 ≤ l ∧ l < 8 := by unfold rB; simp
theorem rB_false {l : Int} : rB l = false ↔ ¬ (0 ≤ l ∧ l < 8) := by unfold rB; exact decide_eq_false_iff_not
theorem subB_true {c d : Int} : subB c d = true ↔ c.toNat &&& d.toNat = c.toNat := by unfold subB; simp

theorem andNot_zero (a b : Nat) (ha : a < 4294967296) (hb : b < 4294967296) : (a &&& (4294967295 - b) = 0) ↔ a &&& b = a := by
  have hB : ∀ i, (4294967295 - b).testBit i = (decide (i < 32) && !b.testBit i) := by
    intro i
    have := Nat.testBit_two_pow_sub_succ (x := b) (n := 32) (by omega) i
    rw [← this]
    congr 1; omega
  constructor
  · intro h
    apply Nat.eq_of_testBit_eq
    intro i
    have hi : (a &&& (4294967295 - b)).testBit i = false := by rw [h]; simp
    rw [Nat.testBit_and, hB] at hi
    rw [Nat.testBit_and]
    by_cases h32 : i < 32
    · cases hx : a.testBit i <;> cases hy : b.testBit i <;> simp_all
    · have : a.testBit i = false := Nat.testBit_lt_two_pow (Nat.lt_of_lt_of_le ha (by have := Nat.pow_le_pow_right (n := 2) (by omega) (show 32 ≤ i by omega); omega))
      simp [this]
  · intro h
    apply Nat.eq_of_testBit_eq
    intro i
    rw [Nat.testBit_and, hB]
    have hi : (a &&& b).testBit i = a.testBit i := by rw [h]
    rw [Nat.testBit_and] at hi
    cases hx : a.testBit i <;> cases hy : b.testBit i <;> simp_all

theorem andNot_sub (c d : Int) (hc0 : 0 ≤ c) (hc1 : c < 4294967296) (hd0 : 0 ≤ d) (hd1 : d < 4294967296) : (bits .andNot .u32 c d == 0) = subB c d := by
  rw [u32_andNot c d hc0 hc1 hd0 hd1, Bool.eq_iff_iff, subB_true, ← andNot_zero c.toNat d.toNat (by omega) (by omega)]
  simp only [beq_iff_eq]
  omega

theorem subB_refl (c : Int) : subB c c = true := by rw [subB_true]; simp
theorem subB_trans {c d e : Int} (h : subB c d = true) (k : subB d e = true) : subB c e = true := by
  rw [subB_true] at *
  rw [← h, Nat.and_assoc, k]
theorem subB_antisymm {c d : Int} (hc : 0 ≤ c) (hd : 0 ≤ d) (h : subB c d = true) (k : subB d c = true) : c = d := by
  rw [subB_true] at *
  rw [Nat.and_comm] at k
  rw [h] at k
  omega

theorem flB_true {l c m d : Int} : flB l c m d = true ↔ (0 ≤ l ∧ l < 8) ∧ (0 ≤ m ∧ m < 8) ∧ l ≤ m ∧ subB c d = true := by
  unfold flB; simp [rB_true]
theorem flB_self (l c : Int) : flB l c l c = rB l := by
  unfold flB; rw [subB_refl]; cases rB l <;> simp
theorem flB_trans {l c m d n e : Int} (h : flB l c m d = true) (k : flB m d n e = true) : flB l c n e = true := by
  rw [flB_true] at *
  exact ⟨h.1, k.2.1, by omega, subB_trans h.2.2.2 k.2.2.2⟩
theorem flB_antisymm {l c m d : Int} (hc : 0 ≤ c) (hd : 0 ≤ d) (h : flB l c m d = true) (k : flB m d l c = true) : l = m ∧ c = d := by
  rw [flB_true] at *
  exact ⟨by omega, subB_antisymm hc hd h.2.2.2 k.2.2.2⟩
theorem flB_left {l c m d : Int} (h : flB l c m d = true) : rB l = true := by rw [flB_true] at h; rw [rB_true]; exact h.1
theorem flB_right {l c m d : Int} (h : flB l c m d = true) : rB m = true := by rw [flB_true] at h; rw [rB_true]; exact h.2.1

end Go.Proofs.YtknhkmlihbgjpaaDoor
