/- Which place a byte leads to: the walk. -/
import Derived.Test.YtcljijcggnfemaaDoorWPlain
namespace Go.Proofs.YtcljijcggnfemaaDoor
open Go.ChangeShapes Go.WideShapes Go.RowKit

set_option maxHeartbeats 3200000 in
theorem next_two (n : Nat) (hn : n < 256) (w : World) : Calls Tryd.prog 27 #[.int .i64 2, .int .u8 (n : Int)] w fun e w' => e = .returned (.int .i64 (nextN 2 n : Nat)) ∧ w' = w := by
  have HQ := Lib.hid (quotes_any n hn w)
  rcases (show (n < 32 ∧ n ≠ 9) ∨ (32 ≤ n ∨ n = 9) by omega) with ⟨h1, h2⟩ | h1
  · have i1 : (n : Int) < 32 := by omega
    have i2 : ((n : Int) != 9) = true := by rw [bne_iff_ne]; omega
    go_enter Tryd.func27, Tryd.ntmps27
    go_wp2_with fail
    go_ret
    refine ⟨?_, rfl⟩
    simp [nextN, h1, h2]
  · have e : nextN 2 n = nextQ n := by
      have h : ¬ (n < 32 ∧ n ≠ 9) := by omega
      simp [nextN, h]
    rw [e]
    rcases h1 with h1 | rfl
    · have i1 : ¬ (n : Int) < 32 := by omega
      go_enter Tryd.func27, Tryd.ntmps27
      go_wp2_with fail
      refine HQ.out.mono ?_
      rintro e w1 ⟨rfl, rfl⟩
      go_wp2_with fail
      go_ret
      exact ⟨rfl, rfl⟩
    · go_enter Tryd.func27, Tryd.ntmps27
      go_wp2_with fail
      refine HQ.out.mono ?_
      rintro e w1 ⟨rfl, rfl⟩
      go_wp2_with fail
      go_ret
      exact ⟨rfl, rfl⟩
set_option maxHeartbeats 6400000 in
theorem next_low (p n : Nat) (hp : p ≤ 5) (h1 : n < 32) (h2 : n ≠ 9) (w : World) : Calls Tryd.prog 27 #[.int .i64 (p : Int), .int .u8 (n : Int)] w fun e w' => e = .returned (.int .i64 (nextN p n : Nat)) ∧ w' = w := by
  have e : nextN p n = 5 := by simp [nextN, h1, h2]
  rw [e]
  have i1 : (n : Int) < 32 := by omega
  have i2 : ((n : Int) != 9) = true := by rw [bne_iff_ne]; omega
  by_cases h5 : p = 5
  · subst h5
    go_enter Tryd.func27, Tryd.ntmps27
    go_wp2_with fail
    go_ret
    exact ⟨rfl, rfl⟩
  · have i3 : ((p : Int) == 5) = false := by rw [beq_eq_false_iff_ne]; omega
    go_enter Tryd.func27, Tryd.ntmps27
    go_wp2_with fail
    go_ret
    exact ⟨rfl, rfl⟩
set_option maxHeartbeats 6400000 in
theorem next_any (p n : Nat) (hp : p ≤ 5) (hn : n < 256) (w : World) : Calls Tryd.prog 27 #[.int .i64 (p : Int), .int .u8 (n : Int)] w fun e w' => e = .returned (.int .i64 (nextN p n : Nat)) ∧ w' = w := by
  by_cases hlow : n < 32 ∧ n ≠ 9
  · exact next_low p n hp hlow.1 hlow.2 w
  have h9 : 32 ≤ n ∨ n = 9 := by omega
  rcases (show p = 0 ∨ p = 1 ∨ p = 2 ∨ p = 3 ∨ p = 4 ∨ p = 5 by omega) with rfl | rfl | rfl | rfl | rfl | rfl
  case inr.inr.inl => exact next_two n hn w
  case inr.inr.inr.inr.inr =>
    go_enter Tryd.func27, Tryd.ntmps27
    go_wp2_with fail
    go_ret
    exact ⟨by simp [nextN], rfl⟩
  case inr.inr.inr.inr.inl =>
    have e : nextN 4 n = 4 := by simp [nextN, hlow]
    rw [e]
    rcases h9 with h9 | rfl
    · have i1 : ¬ (n : Int) < 32 := by omega
      go_enter Tryd.func27, Tryd.ntmps27
      go_wp2_with fail
      go_ret
      exact ⟨rfl, rfl⟩
    · go_enter Tryd.func27, Tryd.ntmps27
      go_wp2_with fail
      go_ret
      exact ⟨rfl, rfl⟩
  case inr.inr.inr.inl =>
    have e : nextN 3 n = 2 := by simp [nextN, hlow]
    rw [e]
    rcases h9 with h9 | rfl
    · have i1 : ¬ (n : Int) < 32 := by omega
      go_enter Tryd.func27, Tryd.ntmps27
      go_wp2_with fail
      go_ret
      exact ⟨rfl, rfl⟩
    · go_enter Tryd.func27, Tryd.ntmps27
      go_wp2_with fail
      go_ret
      exact ⟨rfl, rfl⟩
  all_goals
    clear h9
    rcases (show n = 9 ∨ n = 32 ∨ n = 34 ∨ n = 35 ∨ (32 < n ∧ n ≠ 34 ∧ n ≠ 35) by omega) with rfl | rfl | rfl | rfl | ⟨h1, h2, h3⟩
  all_goals first
    | (have h4 : ¬ n < 32 := by omega
       have h5 : n ≠ 32 := by omega
       have h6 : n ≠ 9 := by omega
       have i1 : ¬ (n : Int) < 32 := by omega
       have i2 : ((n : Int) == 34) = false := by rw [beq_eq_false_iff_ne]; omega
       have i3 : ((n : Int) == 35) = false := by rw [beq_eq_false_iff_ne]; omega
       have i4 : ((n : Int) == 32) = false := by rw [beq_eq_false_iff_ne]; omega
       have i5 : ((n : Int) == 9) = false := by rw [beq_eq_false_iff_ne]; omega
       go_enter Tryd.func27, Tryd.ntmps27
       go_wp2_with fail
       go_ret
       exact ⟨by simp [nextN, h2, h3, h4, h5, h6], rfl⟩)
    | (go_enter Tryd.func27, Tryd.ntmps27
       go_wp2_with fail
       go_ret
       exact ⟨by simp [nextN], rfl⟩)
end Go.Proofs.YtcljijcggnfemaaDoor
