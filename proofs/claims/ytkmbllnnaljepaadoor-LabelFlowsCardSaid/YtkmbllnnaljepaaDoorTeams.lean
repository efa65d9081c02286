/- label.Teams: the numbers of a label's teams, in a new slice; old memory stays as it was. -/
import Derived.Test.YtkmbllnnaljepaaDoorJoin
import Derived.BigQuiet
import Derived.Deep.QuietTactic
import Derived.Deep.AppendLies
namespace Go.Proofs.YtkmbllnnaljepaaDoor
open Go.ChangeShapes Go.WideShapes Go.RowKit

/-- Of the first k teams those in c. -/
def tms (c : Int) (k : Nat) : List Nat := (List.range k).filter fun i => c.toNat.testBit i
theorem tms_le (c : Int) (k : Nat) : (tms c k).length ≤ k := by
  have := List.length_filter_le (fun i => c.toNat.testBit i) (List.range k)
  simpa [tms] using this
theorem tms_hit (c : Int) (k : Nat) (h : c.toNat.testBit k = true) : tms c (k + 1) = tms c k ++ [k] := by simp [tms, List.range_succ, List.filter_append, h]
theorem tms_miss (c : Int) (k : Nat) (h : c.toNat.testBit k = false) : tms c (k + 1) = tms c k := by simp [tms, List.range_succ, List.filter_append, h]
def intV (n : Nat) : Value := .int .i64 (n : Int)

theorem two_pow_lt {k : Nat} (hk : k < 32) : (2 : Nat) ^ k < 4294967296 := Nat.lt_of_lt_of_eq (Nat.pow_lt_pow_right (a := 2) (by omega) hk) (by decide)
theorem two_pow_mod {k : Nat} (hk : k < 32) : ((2 : Int) ^ k % 4294967296) = ((2 ^ k : Nat) : Int) := by
  have hp := two_pow_lt hk
  rw [show ((2 : Int) ^ k) = ((2 ^ k : Nat) : Int) by simp]
  generalize (2 : Nat) ^ k = n at *
  omega
theorem and_bit (X k : Nat) : (X &&& 2 ^ k != 0) = X.testBit k := by
  cases h : X.testBit k
  · have : X &&& 2 ^ k = 0 := by
      apply Nat.eq_of_testBit_eq
      intro i
      rw [Nat.testBit_and, Nat.testBit_two_pow]
      by_cases e : k = i
      · subst e; simp [h]
      · simp [e]
    simp [this]
  · rw [bne_iff_ne]
    intro e
    have : (X &&& 2 ^ k).testBit k = false := by rw [e]; simp
    rw [Nat.testBit_and, Nat.testBit_two_pow] at this
    simp [h] at this
theorem bit_test (c : Int) (k : Nat) (hc0 : 0 ≤ c) (hc1 : c < 4294967296) (hk : k < 32) : (bits BinOp.and IntKind.u32 c (2 ^ k % 4294967296) != 0) = c.toNat.testBit k := by
  have hp := two_pow_lt hk
  rw [two_pow_mod hk, u32_and c ((2 ^ k : Nat) : Int) hc0 hc1 (Int.natCast_nonneg _) (by generalize (2 : Nat) ^ k = n at *; omega), Int.toNat_natCast, ← and_bit]
  generalize c.toNat &&& 2 ^ k = n
  rw [Bool.eq_iff_iff, bne_iff_ne, bne_iff_ne]
  omega

theorem below_drewN {B : Nat} {a w : World} (h : Below B a w) (n : Nat) : Below B a (w.drewN n) := ⟨h.os, h.tape, h.output, h.size, h.block⟩
theorem teams_round {c : Int} {k B : Nat} {w w2 w1 : World} {v v' : Value} {x : Obj} (hm : tms c (k + 1) = tms c k ++ [k]) (hB : Below B w w2) (hsz : B + 1 ≤ w2.heap.size)
    (hown : w2.ownsRow (B + 1) 3 1 v (tms c k).length ((tms c k).map intV))
    (hown' : w1.ownsRow (B + 1) 3 1 v' ((tms c k).length + 1) ((tms c k).map intV ++ [.int .i64 k])) (hgrow : (w2.alloc x).grownBy w1 v.ownBlock)
    (hcr : w2.cell? ⟨B, 1, none⟩ = some (.int .u32 c)) :
    w1.ownsRow (B + 1) 3 1 v' (tms c (k + 1)).length ((tms c (k + 1)).map intV) ∧ w1.cell? ⟨B, 1, none⟩ = some (.int .u32 c) ∧ Below B w w1 ∧ B + 1 ≤ w1.heap.size := by
  have hlt := hown.lt
  have hs := hgrow.size
  simp at hs
  refine ⟨?_, ?_, ?_, by omega⟩
  · rw [hm]; simpa [intV] using hown'
  · have hne : (some B) ≠ v.ownBlock := fun e => by have := (hlt B e.symm).1; omega
    exact hgrow.cell (a := ⟨B, 1, none⟩) (Below.keeps ((Below.refl _ _).alloc (Nat.le_refl _) _) hcr) hne
  · exact (hB.alloc (by omega) x).grown hgrow (by simp; omega) (fun j e => by have := (hlt j e).1; omega)

theorem info3 : (Tryd.prog.info? 3).map (fun i => (i.zero, i.size, i.bytes)) = some (some (.int .i64 0), 1, 8) := by kernel_rfl

set_option maxHeartbeats 800000 in
set_option maxRecDepth 100000 in
theorem teams_any (l c : Int) (hc0 : 0 ≤ c) (hc1 : c < 4294967296) (w : World) :
    Calls Tryd.prog 21 #[.agg #[.int .i64 l, .int .u32 c]] w fun e w' =>
      ∃ v, e = .returned v ∧ w'.ownsRow (w.heap.size + 1) 3 1 v (tms c 32).length ((tms c 32).map intV) ∧ Below w.heap.size w w' := by
  obtain ⟨i0, hi, hz0, hz1, hz2⟩ := info_parts info3
  go_enter Tryd.func21, Tryd.ntmps21
  go_wp2
  go_loopw [3, 5] (fun v i wr => ∃ k : Nat, k ≤ 32 ∧ i = .int .i64 k ∧ wr.ownsRow (w.heap.size + 1) 3 1 v (tms c k).length ((tms c k).map intV) ∧
      wr.cell? ⟨w.heap.size, 1, none⟩ = some (.int .u32 c) ∧ Below w.heap.size w wr ∧ w.heap.size + 1 ≤ wr.heap.size)
    (fun _ i _ => 32 - (intOf i).toNat)
  case atStart => exact ⟨0, by omega, rfl, World.ownsRow_nil _ _ _ _, by simp [go_sem], (Below.refl _ _).alloc (Nat.le_refl _) _, by simp⟩
  case round =>
    obtain ⟨k, hk, rfl, hown, hcr, hB, hsz⟩ := hrel
    by_cases hlt : k < 32
    · have hbt := bit_test c k hc0 hc1 hlt
      have hle := tms_le c k
      cases hb : c.toNat.testBit k
      · rw [hb] at hbt
        have Hm := Lib.hid (tms_miss c k hb)
        clear hb
        go_wp2
        go_quiet (fail)
        go_wp2
        go_roundw
        case rel => exact ⟨k + 1, by omega, rfl, by rw [Hm.out]; exact hown, hcr, below_drewN hB _, hsz⟩
        case measure => simp [intOf]; omega
      · rw [hb] at hbt
        have Hm := Lib.hid (tms_hit c k hb)
        clear hb
        go_wp2
        go_quiet (fail)
        go_wp2_with (at_builtin; refine wpList_append_lies _ rfl _ _ 30 rfl (w.heap.size + 1) 3 i0 (.int .i64 0) 1 8 Tryd.underlying30 hi hz0 hz1 hz2 rfl (by decide) _ _ _ rfl (World.ownsRow.alloc (w := wr.drewN _) hown _) ⟨wr.heap.size, 0, none⟩ 1 1 [.int .i64 k] rfl rfl ?c1 ?c2 (by omega) ?c3 ?c4 ?c5 (wr.heap.size + 1) (by simp) ?_)
        case c1 =>
          intro j u hj
          match j, hj with
          | 0, hj => simp at hj; subst hj; exact (World.cell?_alloc_at (w := wr.drewN _) _ _ _ _ rfl).trans rfl
        case c2 => intro u hu; simp at hu; subst hu; rfl
        case c3 => unfold maxLen; omega
        case c4 => omega
        case c5 => simp; omega
        intro g cap w1 hown' hgrow hat hlt'
        have R := teams_round Hm.out (hB := below_drewN hB _) (w2 := wr.drewN _) hsz hown hown' hgrow hcr
        clear hown' hgrow hown hcr hat hlt'
        go_wp2
        go_roundw
        case rel => exact ⟨k + 1, by omega, by go_num, R.1, R.2.1, R.2.2.1, R.2.2.2⟩
        case measure => simp [intOf]; omega
    · have : k = 32 := by omega
      subst this
      go_wp2
      go_ret
      exact ⟨_, rfl, hown, hB⟩
end Go.Proofs.YtkmbllnnaljepaaDoor
