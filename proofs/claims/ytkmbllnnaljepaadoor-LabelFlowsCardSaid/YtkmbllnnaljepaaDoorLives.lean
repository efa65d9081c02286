/- lives: a join and its text are as they should be, in whatever memory. -/
import Derived.Test.YtkmbllnnaljepaaDoorBack
import Derived.Deep.RegionHeld3
import Derived.Deep.DrawnRows
namespace Go.Proofs.YtkmbllnnaljepaaDoor
open Go.ChangeShapes Go.WideShapes Go.RowKit
attribute [local go_sem ↓] Go.wp_at_zero Go.wp_at_succ

theorem tms9 : tms 9 32 = [0, 3] := by decide
theorem text29 : txtL 2 (tms 9 32) = [50, 43, 48, 44, 51] := by
  rw [tms9]
  simp only [txtL, tailT, List.flatMap_cons, List.flatMap_nil, List.append_nil]
  rw [dig_small 2 (by omega), dig_small 0 (by omega), dig_small 3 (by omega)]
  rfl
theorem read29 : rdAll [50, 43, 48, 44, 51] = some (2, 9) := by
  rw [rdAll_some]; exact ⟨by omega, by omega, text29.symm⟩

theorem join_l (w : World) : Calls Tryd.prog 16 #[.agg #[.int .i64 1, .int .u32 8], .agg #[.int .i64 2, .int .u32 1]] w fun e w' => e = .returned (.agg #[.int .i64 2, .int .u32 9]) ∧ Below w.heap.size w w' :=
  join_any 1 8 2 1 (by omega) (by omega) (by omega) (by omega) w
theorem text_l (w : World) : Calls Tryd.prog 23 #[.agg #[.int .i64 2, .int .u32 9]] w fun e w' => e = .returned (.tuple #[.string ⟨#[50, 43, 48, 44, 51]⟩, .int .i64 0]) ∧ Below w.heap.size w w' := by
  have h := text_right 2 9 (by decide) (by omega) (by omega) w
  rw [show (2 : Int).toNat = 2 from rfl, text29] at h
  exact h
theorem read_l (w : World) (he : Errs w) : Calls Tryd.prog 25 #[.string ⟨#[50, 43, 48, 44, 51]⟩] w fun e w' => e = .returned (.tuple #[.agg #[.int .i64 2, .int .u32 9], .int .i64 0]) ∧ Below w.heap.size w w' := by
  have h := read_any ⟨#[50, 43, 48, 44, 51]⟩ (by decide) w he
  rw [show (⟨#[50, 43, 48, 44, 51]⟩ : ByteArray).data.toList = [50, 43, 48, 44, 51] from rfl, read29] at h
  exact h
theorem flows_l (w : World) : Calls Tryd.prog 14 #[.agg #[.int .i64 1, .int .u32 8], .agg #[.int .i64 2, .int .u32 9]] w fun e w' => e = .returned (.bool true) ∧ Below w.heap.size w w' :=
  flows_any 1 8 2 9 (by omega) (by omega) (by omega) (by omega) w
theorem flows_r (w : World) : Calls Tryd.prog 14 #[.agg #[.int .i64 2, .int .u32 9], .agg #[.int .i64 1, .int .u32 8]] w fun e w' => e = .returned (.bool false) ∧ Below w.heap.size w w' :=
  flows_any 2 9 1 8 (by omega) (by omega) (by omega) (by omega) w

set_option maxHeartbeats 600000 in
set_option maxRecDepth 100000 in
theorem lives_any (w : World) (he : Errs w) :
    Calls Tryd.prog 11 #[] w fun e w' => e = .returned (.bool true) ∧ Below w.heap.size w w' := by
  go_enter Tryd.func11, Tryd.ntmps11
  go_wp2_with fail
  refine (join_l _).mono ?_
  rintro e w1 ⟨rfl, hb1⟩
  have ha1 := ((LabAt.one w 1 8).later (.cells #[.int .i64 2, .int .u32 1] 24)).keep hb1
  have hb1' := (LabAt.one (w.alloc (.cells #[.int .i64 1, .int .u32 8] 24)) 2 1).keep hb1
  have hB1 := below_two hb1
  clear hb1
  simp only [World.size_alloc] at hb1'
  go_wp2_with fail
  refine (text_l _).mono ?_
  rintro e w2 ⟨rfl, hb2⟩
  have ha2 := ha1.keep hb2
  have hb2' := hb1'.keep hb2
  have hB2 := hB1.trans (hb2.mono hB1.size)
  clear ha1 hb1' hB1 hb2
  go_wp2_with fail
  refine (read_l _ (he.keep hB2)).mono ?_
  rintro e w3 ⟨rfl, hb3⟩
  have ha3 := (ha2.keep hb3).later (.cells #[.int .i64 2, .int .u32 9] 24)
  have hb3' := (hb2'.keep hb3).later (.cells #[.int .i64 2, .int .u32 9] 24)
  have hc3 := LabAt.one w3 2 9
  have hB3 := (hB2.trans (hb3.mono hB2.size)).alloc (hB2.trans (hb3.mono hB2.size)).size (.cells #[.int .i64 2, .int .u32 9] 24)
  clear ha2 hb2' hB2 hb3
  obtain ⟨a0, a1⟩ := ha3
  obtain ⟨b0, b1⟩ := hb3'
  obtain ⟨c0, c1⟩ := hc3
  go_wp2
  generalize w3.alloc (.cells #[.int .i64 2, .int .u32 9] 24) = w4 at *
  generalize w3.heap.size = C at *
  generalize hN : w.heap.size = N at *
  have HN := Lib.hid hN
  clear hN
  have hf1 : flB 1 8 2 9 = true := by decide
  have hf2 : flB 2 9 1 8 = false := by decide
  have hN4 : N ≤ w4.heap.size := by have := World.block_lt_of_cell? w4 _ a0; simp at this; omega
  go_region_held3 (fun w' => Below N w w' ∧ N ≤ w'.heap.size ∧ w'.cell? ⟨N, 0, none⟩ = some (.int .i64 1) ∧ w'.cell? ⟨N, 1, none⟩ = some (.int .u32 8) ∧ w'.cell? ⟨N + 1, 0, none⟩ = some (.int .i64 2) ∧ w'.cell? ⟨N + 1, 1, none⟩ = some (.int .u32 1) ∧ w'.cell? ⟨C, 0, none⟩ = some (.int .i64 2) ∧ w'.cell? ⟨C, 1, none⟩ = some (.int .u32 9))
    (first | (go_split_ands; exact ⟨Below.drew (by assumption), by assumption, by assumption, by assumption, by assumption, by assumption, by assumption, by assumption⟩) | (have hh := ‹Below N w _ ∧ N ≤ _ ∧ _›; exact ⟨hh.1.trans (hb.mono hh.2.1), Nat.le_trans hh.2.1 hb.size, Below.keeps hb hh.2.2.1, Below.keeps hb hh.2.2.2.1, Below.keeps hb hh.2.2.2.2.1, Below.keeps hb hh.2.2.2.2.2.1, Below.keeps hb hh.2.2.2.2.2.2.1, Below.keeps hb hh.2.2.2.2.2.2.2⟩))
    (first | (go_at_call 16; refine (join_l _).mono ?_; rintro e w' ⟨rfl, hb⟩) | (go_at_call 14; refine (flows_any _ _ _ _ (by omega) (by omega) (by omega) (by omega) _).mono ?_; rintro e w' ⟨rfl, hb⟩))
  have hh := ‹Below N w _ ∧ N ≤ _ ∧ _›
  have hBf := hh.1
  clear hh
  go_wp2
  go_ret
  exact ⟨rfl, by rw [HN.out]; exact hBf⟩
end Go.Proofs.YtkmbllnnaljepaaDoor
