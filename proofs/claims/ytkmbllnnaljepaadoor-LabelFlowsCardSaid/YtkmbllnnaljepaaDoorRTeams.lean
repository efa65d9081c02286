/- The document's own Teams and Right, and SameInts: what each call returns. -/
import Derived.Test.YtkmbllnnaljepaaDoorHas
namespace Go.Proofs.YtkmbllnnaljepaaDoor
open Go.ChangeShapes Go.WideShapes Go.RowKit

set_option maxHeartbeats 400000 in
theorem rright_any (l c : Int) (w : World) :
    Calls Tryd.prog 13 #[.agg #[.int .i64 l, .int .u32 c]] w fun e w' => e = .returned (.bool (rB l)) ∧ Below w.heap.size w w' := by
  go_enter Tryd.func13, Tryd.ntmps13
  go_wp2
  · have h0 : 0 ≤ l := by assumption
    go_ret
    exact ⟨ret_bool (by unfold rB; rw [Bool.eq_iff_iff]; simp; omega), (Below.refl _ _).alloc (Nat.le_refl _) _⟩
  · have h0 : l < 0 := by assumption
    go_ret
    exact ⟨ret_bool (by symm; rw [rB_false]; omega), (Below.refl _ _).alloc (Nat.le_refl _) _⟩

/-- A number of 32 bits. -/
def U32 (m : Nat) : Prop := m < 4294967296
theorem half_bit (C k : Nat) : ((C / 2 ^ k) % 2 == 1) = C.testBit k := by
  rw [Nat.testBit_eq_decide_div_mod_eq, Bool.eq_iff_iff]; simp
theorem half_succ (C k : Nat) : C / 2 ^ k / 2 = C / 2 ^ (k + 1) := by rw [Nat.div_div_eq_div_mul, Nat.pow_succ]

set_option maxHeartbeats 800000 in
set_option maxRecDepth 100000 in
theorem rteams_own (l c : Int) (hc0 : 0 ≤ c) (hc1 : c < 4294967296) (w : World) :
    Calls Tryd.prog 22 #[.agg #[.int .i64 l, .int .u32 c]] w fun e w' =>
      ∃ v, e = .returned v ∧ w'.ownsRow (w.heap.size + 1) 3 1 v (tms c 32).length ((tms c 32).map intV) ∧ Below w.heap.size w w' := by
  obtain ⟨C, rfl⟩ := Int.eq_ofNat_of_zero_le hc0
  have hC : U32 C := by unfold U32; omega
  clear hc1 hc0
  obtain ⟨i0, hi, hz0, hz1, hz2⟩ := info_parts info3
  go_enter Tryd.func22, Tryd.ntmps22
  go_wp2
  go_loopw [3, 4, 5] (fun v r i wr => ∃ k m : Nat, k ≤ 32 ∧ i = .int .i64 k ∧ r = .int .u32 m ∧ Hid (m = C / 2 ^ k) ∧ U32 m ∧ wr.ownsRow (w.heap.size + 1) 3 1 v (tms (C : Int) k).length ((tms (C : Int) k).map intV) ∧
      wr.cell? ⟨w.heap.size, 1, none⟩ = some (.int .u32 (C : Int)) ∧ Below w.heap.size w wr ∧ w.heap.size + 1 ≤ wr.heap.size)
    (fun _ _ i _ => 32 - (intOf i).toNat)
  case atStart => exact ⟨0, C, by omega, rfl, rfl, (by show C = C / 2 ^ 0; simp), hC, World.ownsRow_nil _ _ _ _, by simp [go_sem], (Below.refl _ _).alloc (Nat.le_refl _) _, by simp⟩
  case round =>
    obtain ⟨k, m, hk, rfl, rfl, hm, hm2, hown, hcr, hB, hsz⟩ := hrel
    by_cases hlt : k < 32
    · have hle := tms_le (C : Int) k
      have Hs := Lib.hid (show m / 2 = C / 2 ^ (k + 1) by rw [hm.out, half_succ])
      have Hb := Lib.hid (show ((m : Int) % 2 == 1) = C.testBit k by
        rw [← half_bit C k, ← hm.out, Bool.eq_iff_iff, beq_iff_eq, beq_iff_eq]; omega)
      go_wp2_with (at_builtin; refine wpList_append_lies _ rfl _ _ 30 rfl (w.heap.size + 1) 3 i0 (.int .i64 0) 1 8 Tryd.underlying30 hi hz0 hz1 hz2 rfl (by decide) _ _ _ rfl (World.ownsRow.alloc hown _) ⟨wr.heap.size, 0, none⟩ 1 1 [.int .i64 k] rfl rfl ?c1 ?c2 (by omega) ?c3 ?c4 ?c5 (wr.heap.size + 1) (by simp) ?_)
      case c1 =>
        intro j u hj
        match j, hj with
        | 0, hj => simp at hj; subst hj; exact (World.cell?_alloc_at _ _ _ _ rfl).trans rfl
      case c2 => intro u hu; simp at hu; subst hu; rfl
      case c3 => unfold maxLen; omega
      case c4 => omega
      case c5 => simp; omega
      · intro g cap w1 hown' hgrow hat hlt'
        have hbt : ((m : Int) % 2 == 1) = true := by assumption
        have R := teams_round (tms_hit (C : Int) k (Hb.out.symm.trans hbt)) (hB := hB) hsz hown hown' hgrow hcr
        clear hown' hgrow hown hcr hat hlt' hbt
        go_wp2
        go_roundw
        case rel => exact ⟨k + 1, m / 2, by omega, by go_num, (by unfold U32 at hm2; go_num), Hs.out, (by unfold U32 at hm2 ⊢; omega), R.1, R.2.1, R.2.2.1, R.2.2.2⟩
        case measure => simp [intOf]; omega
      · have hbt : ((m : Int) % 2 == 1) = false := by assumption
        have Hm := Lib.hid (tms_miss (C : Int) k (Hb.out.symm.trans hbt))
        clear hbt
        go_roundw
        case rel => exact ⟨k + 1, m / 2, by omega, by go_num, (by unfold U32 at hm2; go_num), Hs.out, (by unfold U32 at hm2 ⊢; omega), by rw [Hm.out]; exact hown, hcr, hB, hsz⟩
        case measure => simp [intOf]; omega
    · have : k = 32 := by omega
      subst this
      go_wp2
      go_ret
      exact ⟨_, rfl, hown, hB⟩

/-- What both Teams answer: a slice that holds the teams' numbers. -/
def TeamsRet (c : Int) (w : World) (e : Ending) (w' : World) : Prop := ∃ v, e = .returned v ∧ IntsAt w' v (tms c 32) ∧ Below w.heap.size w w'
theorem teams_ints (l c : Int) (hc0 : 0 ≤ c) (hc1 : c < 4294967296) (w : World) : Calls Tryd.prog 21 #[.agg #[.int .i64 l, .int .u32 c]] w (TeamsRet c w) :=
  (teams_any l c hc0 hc1 w).mono fun _ _ ⟨v, he, ho, hb⟩ => ⟨v, he, IntsAt.of_own ho, hb⟩
theorem rteams_ints (l c : Int) (hc0 : 0 ≤ c) (hc1 : c < 4294967296) (w : World) : Calls Tryd.prog 22 #[.agg #[.int .i64 l, .int .u32 c]] w (TeamsRet c w) :=
  (rteams_own l c hc0 hc1 w).mono fun _ _ ⟨v, he, ho, hb⟩ => ⟨v, he, IntsAt.of_own ho, hb⟩
end Go.Proofs.YtkmbllnnaljepaaDoor
