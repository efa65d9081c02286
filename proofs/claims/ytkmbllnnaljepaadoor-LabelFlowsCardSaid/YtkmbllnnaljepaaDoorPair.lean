/- Two labels among the parameters, made valid: what the first steps of a statement leave. -/
import Derived.Test.YtkmbllnnaljepaaDoorLives
import Derived.Test.YtkmbllnnaljepaaDoorRTeams
import Derived.Test.YtkmbllnnaljepaaDoorLattice
namespace Go.Proofs.YtkmbllnnaljepaaDoor
open Go.ChangeShapes Go.WideShapes Go.RowKit

/-- Two labels lie in the two blocks from N on, and what lay below N lies as it lay. -/
abbrev S2 (N : Nat) (w : World) (la ca lb cb : Int) (w' : World) : Prop :=
  Below N w w' ∧ N + 1 < w'.heap.size ∧ w'.cell? ⟨N, 0, none⟩ = some (.int .i64 la) ∧ w'.cell? ⟨N, 1, none⟩ = some (.int .u32 ca) ∧ w'.cell? ⟨N + 1, 0, none⟩ = some (.int .i64 lb) ∧ w'.cell? ⟨N + 1, 1, none⟩ = some (.int .u32 cb)
theorem S2.keep {N : Nat} {w w1 w2 : World} {la ca lb cb : Int} (h : S2 N w la ca lb cb w1) (hb : Below w1.heap.size w1 w2) : S2 N w la ca lb cb w2 :=
  ⟨h.1.trans (hb.mono (by have := h.2.1; omega)), Nat.lt_of_lt_of_le h.2.1 hb.size, Below.keeps hb h.2.2.1, Below.keeps hb h.2.2.2.1, Below.keeps hb h.2.2.2.2.1, Below.keeps hb h.2.2.2.2.2⟩
theorem S2.drew {N : Nat} {w w1 : World} {la ca lb cb : Int} (h : S2 N w la ca lb cb w1) : S2 N w la ca lb cb w1.drew := ⟨h.1.drew, h.2⟩
theorem S2.start (w : World) (la ca lb cb : Int) : S2 w.heap.size w la ca lb cb ((w.alloc (.cells #[.int .i64 la, .int .u32 ca] 24)).alloc (.cells #[.int .i64 lb, .int .u32 cb] 24)) := by
  have h1 := (LabAt.one w la ca).later (.cells #[.int .i64 lb, .int .u32 cb] 24)
  have h2 := LabAt.one (w.alloc (.cells #[.int .i64 la, .int .u32 ca] 24)) lb cb
  simp only [World.size_alloc] at h2
  exact ⟨((Below.refl _ _).alloc (Nat.le_refl _) _).alloc (by simp) _, by simp, h1.1, h1.2, h2.1, h2.2⟩
/-- They may be written. -/
abbrev U2 (N : Nat) (w : World) (la ca lb cb : Int) (w' : World) : Prop := S2 N w la ca lb cb w' ∧ w'.frozen? ⟨N, 0, none⟩ = false ∧ w'.frozen? ⟨N + 1, 0, none⟩ = false
theorem U2.keep {N : Nat} {w w1 w2 : World} {la ca lb cb : Int} (h : U2 N w la ca lb cb w1) (hb : Below w1.heap.size w1 w2) : U2 N w la ca lb cb w2 :=
  ⟨h.1.keep hb, (hb.frozen (p := ⟨N, 0, none⟩) (by have := h.1.2.1; simp; omega)).trans h.2.1, (hb.frozen (p := ⟨N + 1, 0, none⟩) (by have := h.1.2.1; simp; omega)).trans h.2.2⟩
theorem U2.start (w : World) (la ca lb cb : Int) : U2 w.heap.size w la ca lb cb ((w.alloc (.cells #[.int .i64 la, .int .u32 ca] 24)).alloc (.cells #[.int .i64 lb, .int .u32 cb] 24)) := by
  have h1 := (LabU.one w la ca).later (.cells #[.int .i64 lb, .int .u32 cb] 24)
  have h2 := LabU.one (w.alloc (.cells #[.int .i64 la, .int .u32 ca] 24)) lb cb
  simp only [World.size_alloc] at h2
  exact ⟨S2.start w la ca lb cb, h1.2.2.1, h2.2.2.1⟩
theorem cell_far {w : World} {a b : Addr} {v : Value} (h : a.block ≠ b.block) : (w.setCell a v).cell? b = w.cell? b := World.cell?_of_block (Below.heap_setCell w a v b.block (Ne.symm h))
theorem lev8 (x : Int) : wrap64 ((IntKind.u64.wrap x).tmod 8) = x % 8 := by
  simp only [wrap64, IntKind.wrap, IntKind.bits, IntKind.signed]
  simp
  rw [Int.tmod_eq_emod_of_nonneg (by omega)]
  omega
theorem U2.levels {N : Nat} {w w1 : World} {la ca lb cb x y : Int} (h : U2 N w la ca lb cb w1) :
    S2 N w x ca y cb ((w1.setCell ⟨N, 0, none⟩ (.int .i64 x)).setCell ⟨N + 1, 0, none⟩ (.int .i64 y)).drew := by
  obtain ⟨⟨hB, hsz, c0, c1, c2, c3⟩, f0, f1⟩ := h
  refine S2.drew ⟨(hB.setCell (p := ⟨N, 0, none⟩) (by simp) _).setCell (p := ⟨N + 1, 0, none⟩) (by simp) _, by simpa [World.setCell] using hsz, ?_, ?_, ?_, ?_⟩
  · rw [cell_far (by simp)]; exact World.cell?_setCell_same' _ _ _ (by rw [c0]; rfl)
  · rw [cell_far (by simp), World.cell?_setCell_other _ _ _ _ (by simp)]; exact c1
  · exact World.cell?_setCell_same' _ _ _ (by rw [cell_far (by simp), c2]; rfl)
  · rw [World.cell?_setCell_other _ _ _ _ (by simp), cell_far (by simp)]; exact c3

/-- Of two sets of teams: how many are in either and in both. -/
theorem tms_count (c d : Int) (n : Nat) : (tms ((c.toNat ||| d.toNat : Nat) : Int) n).length + (tms ((c.toNat &&& d.toNat : Nat) : Int) n).length = (tms c n).length + (tms d n).length := by
  induction n with
  | zero => rfl
  | succ n ih =>
    have key : ∀ e : Int, (tms e (n + 1)).length = (tms e n).length + (if e.toNat.testBit n then 1 else 0) := by
      intro e
      cases h : e.toNat.testBit n
      · rw [tms_miss e n h]; simp
      · rw [tms_hit e n h]; simp
    rw [key, key, key, key, Int.toNat_natCast, Int.toNat_natCast, Nat.testBit_or, Nat.testBit_and]
    cases c.toNat.testBit n <;> cases d.toNat.testBit n <;> simp <;> omega
end Go.Proofs.YtkmbllnnaljepaaDoor
