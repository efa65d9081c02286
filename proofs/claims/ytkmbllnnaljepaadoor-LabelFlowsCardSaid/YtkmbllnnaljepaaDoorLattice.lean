/- Joins and meets of labels as numbers: plain facts, of no program. -/
import Derived.Test.YtkmbllnnaljepaaDoorPlain
namespace Go.Proofs.YtkmbllnnaljepaaDoor
open Go

theorem sub_or (c d e : Nat) : ((c ||| d) &&& e = c ||| d) ↔ (c &&& e = c ∧ d &&& e = d) := by
  constructor
  · intro h
    have hb : ∀ i, (c.testBit i = true ∨ d.testBit i = true) → e.testBit i = true := by
      intro i hi
      have := congrArg (fun n => Nat.testBit n i) h
      simp only [Nat.testBit_and, Nat.testBit_or] at this
      cases hc : c.testBit i <;> cases hd : d.testBit i <;> simp_all
    constructor
    · apply Nat.eq_of_testBit_eq; intro i; rw [Nat.testBit_and]
      cases hc : c.testBit i
      · rfl
      · rw [hb i (.inl hc)]; rfl
    · apply Nat.eq_of_testBit_eq; intro i; rw [Nat.testBit_and]
      cases hd : d.testBit i
      · rfl
      · rw [hb i (.inr hd)]; rfl
  · rintro ⟨h1, h2⟩
    rw [Nat.and_or_distrib_right, h1, h2]
theorem sub_and (e c d : Nat) : (e &&& (c &&& d) = e) ↔ (e &&& c = e ∧ e &&& d = e) := by
  constructor
  · intro h
    constructor
    · rw [← h, Nat.and_assoc, Nat.and_assoc, Nat.and_comm d c, ← Nat.and_assoc c c, Nat.and_self]
    · rw [← h, Nat.and_assoc, Nat.and_assoc, Nat.and_self]
  · rintro ⟨h1, h2⟩
    rw [← Nat.and_assoc, h1, h2]
theorem flB_join (l c m d n e : Int) (hl : rB l = true) (hm : rB m = true) : flB (max l m) ((c.toNat ||| d.toNat : Nat) : Int) n e = (flB l c n e && flB m d n e) := by
  have h1 := rB_true.1 hl
  have h2 := rB_true.1 hm
  rw [Bool.eq_iff_iff, Bool.and_eq_true, flB_true, flB_true, flB_true, subB_true, subB_true, subB_true, Int.toNat_natCast, sub_or]
  constructor
  · rintro ⟨_, h4, h5, h6, h7⟩; exact ⟨⟨h1, h4, by omega, h6⟩, h2, h4, by omega, h7⟩
  · rintro ⟨⟨_, h4, h5, h6⟩, _, _, h8, h9⟩; exact ⟨by omega, h4, by omega, h6, h9⟩
theorem flB_meet (l c m d n e : Int) (hl : rB l = true) (hm : rB m = true) : flB n e (min l m) ((c.toNat &&& d.toNat : Nat) : Int) = (flB n e l c && flB n e m d) := by
  have h1 := rB_true.1 hl
  have h2 := rB_true.1 hm
  rw [Bool.eq_iff_iff, Bool.and_eq_true, flB_true, flB_true, flB_true, subB_true, subB_true, subB_true, Int.toNat_natCast, sub_and]
  constructor
  · rintro ⟨h4, _, h5, h6, h7⟩; exact ⟨⟨h4, h1, by omega, h6⟩, h4, h2, by omega, h7⟩
  · rintro ⟨⟨h4, _, h5, h6⟩, _, _, h8, h9⟩; exact ⟨h4, by omega, by omega, h6, h9⟩
theorem flB_up (l c m d : Int) (hl : rB l = true) (hm : rB m = true) : flB l c (max l m) ((c.toNat ||| d.toNat : Nat) : Int) = true ∧ flB m d (max l m) ((c.toNat ||| d.toNat : Nat) : Int) = true := by
  have h := flB_join l c m d (max l m) ((c.toNat ||| d.toNat : Nat) : Int) hl hm
  have h1 := rB_true.1 hl
  have h2 := rB_true.1 hm
  rw [flB_self, rB_true.2 (by omega), eq_comm, Bool.and_eq_true] at h
  exact h
theorem flB_down (l c m d : Int) (hl : rB l = true) (hm : rB m = true) : flB (min l m) ((c.toNat &&& d.toNat : Nat) : Int) l c = true ∧ flB (min l m) ((c.toNat &&& d.toNat : Nat) : Int) m d = true := by
  have h := flB_meet l c m d (min l m) ((c.toNat &&& d.toNat : Nat) : Int) hl hm
  have h1 := rB_true.1 hl
  have h2 := rB_true.1 hm
  rw [flB_self, rB_true.2 (by omega), eq_comm, Bool.and_eq_true] at h
  exact h
theorem or_iff_and (c d : Nat) : c ||| d = d ↔ c &&& d = c := by
  constructor
  all_goals
    intro h
    apply Nat.eq_of_testBit_eq
    intro i
    have := congrArg (fun n => Nat.testBit n i) h
    simp only [Nat.testBit_and, Nat.testBit_or] at this ⊢
    cases hc : c.testBit i <;> cases hd : d.testBit i <;> simp_all
/-- Where one flows to the other, the join is the other and the meet the one. -/
theorem flB_iff_join (l c m d : Int) (hd : 0 ≤ d) (hl : rB l = true) (hm : rB m = true) : flB l c m d = true ↔ (max l m = m ∧ ((c.toNat ||| d.toNat : Nat) : Int) = d) := by
  have h1 := rB_true.1 hl
  have h2 := rB_true.1 hm
  rw [flB_true, subB_true, ← or_iff_and]
  constructor
  · rintro ⟨_, _, h5, h6⟩; exact ⟨by omega, by omega⟩
  · rintro ⟨h5, h6⟩; exact ⟨h1, h2, by omega, by omega⟩
theorem flB_iff_meet (l c m d : Int) (hc : 0 ≤ c) (hl : rB l = true) (hm : rB m = true) : flB l c m d = true ↔ (min l m = l ∧ ((c.toNat &&& d.toNat : Nat) : Int) = c) := by
  have h1 := rB_true.1 hl
  have h2 := rB_true.1 hm
  rw [flB_true, subB_true]
  constructor
  · rintro ⟨_, _, h5, h6⟩; exact ⟨by omega, by omega⟩
  · rintro ⟨h5, h6⟩; exact ⟨h1, h2, by omega, by omega⟩
theorem or_range (c d : Int) (hc : c < 4294967296) (hd : d < 4294967296) : 0 ≤ ((c.toNat ||| d.toNat : Nat) : Int) ∧ ((c.toNat ||| d.toNat : Nat) : Int) < 4294967296 := by
  have := Nat.or_lt_two_pow (n := 32) (x := c.toNat) (y := d.toNat) (by omega) (by omega)
  omega
theorem and_range (c d : Int) (hc : c < 4294967296) : 0 ≤ ((c.toNat &&& d.toNat : Nat) : Int) ∧ ((c.toNat &&& d.toNat : Nat) : Int) < 4294967296 := by
  have := Nat.and_le_left (n := c.toNat) (m := d.toNat)
  omega
end Go.Proofs.YtkmbllnnaljepaaDoor
