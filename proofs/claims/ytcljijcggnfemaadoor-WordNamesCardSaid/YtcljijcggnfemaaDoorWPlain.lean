/- The words of a line, as plain functions; which place a byte leads to. -/
import Derived.Test.YtcljijcggnfemaaDoorWBase
namespace Go.Proofs.YtcljijcggnfemaaDoor
open Go.ChangeShapes Go.WideShapes Go.RowKit

def nextQ (n : Nat) : Nat := if n = 34 then 1 else if n = 92 then 3 else 2
/-- The place that a byte leads to. -/
def nextN (p n : Nat) : Nat :=
  if p = 5 ∨ (n < 32 ∧ n ≠ 9) then 5
  else if p = 4 ∨ (p = 0 ∧ n = 35) then 4
  else if p = 2 then nextQ n
  else if p = 3 then 2
  else if n = 32 ∨ n = 9 then 0
  else if n = 34 then 2
  else 1
/-- A line so far: the place, the word under way, the words. -/
structure St where
  pl : Nat
  word : Bs
  words : List Bs
def St.zero : St := ⟨0, [], []⟩
def stepN (s : St) (c : UInt8) : St :=
  if nextN s.pl c.toNat = 1 ∨ nextN s.pl c.toNat = 2 ∨ nextN s.pl c.toNat = 3 then ⟨nextN s.pl c.toNat, s.word ++ [c], s.words⟩
  else if nextN s.pl c.toNat = 0 ∧ s.pl = 1 then ⟨0, [], s.words ++ [s.word]⟩
  else ⟨nextN s.pl c.toNat, s.word, s.words⟩
/-- A line's words, if it has them. -/
def splitN (l : Bs) : Option (List Bs) :=
  if (stepN (l.foldl stepN St.zero) 32).pl = 0 ∨ (stepN (l.foldl stepN St.zero) 32).pl = 4 then some (stepN (l.foldl stepN St.zero) 32).words else none
theorem nextQ_le (n : Nat) : nextQ n ≤ 5 := by unfold nextQ; split <;> (try split) <;> omega
theorem next_le (p n : Nat) : nextN p n ≤ 5 := by
  have := nextQ_le n
  unfold nextN
  repeat' split
  all_goals omega
theorem step_pl (s : St) (c : UInt8) : (stepN s c).pl = nextN s.pl c.toNat := by
  unfold stepN
  split
  · rfl
  · split
    · rename_i h; exact h.1.symm
    · rfl
/-- What a line's words take up, at the most. -/
def St.size (s : St) : Nat := s.word.length + s.words.length + (s.words.map List.length).sum
theorem step_size (s : St) (c : UInt8) : (stepN s c).size ≤ s.size + 1 := by
  unfold stepN St.size
  split
  · simp; omega
  · split
    · simp; omega
    · simp
theorem fold_size (l : Bs) (s : St) : (l.foldl stepN s).size ≤ s.size + l.length := by
  induction l generalizing s with
  | nil => simp
  | cons c l ih => have := ih (stepN s c); have := step_size s c; simp only [List.foldl_cons, List.length_cons]; omega

theorem class_of (n : Nat) : (n < 32 ∧ n ≠ 9) ∨ n = 9 ∨ n = 32 ∨ n = 34 ∨ n = 35 ∨ n = 92 ∨ (32 < n ∧ n ≠ 34 ∧ n ≠ 35 ∧ n ≠ 92) := by omega
set_option maxHeartbeats 1600000 in
theorem quotes_any (n : Nat) (hn : n < 256) (w : World) : Calls Tryd.prog 34 #[.int .u8 (n : Int)] w fun e w' => e = .returned (.int .i64 (nextQ n : Nat)) ∧ w' = w := by
  have H : Unit → nextQ n = if n = 34 then 1 else if n = 92 then 3 else 2 := fun _ => rfl
  generalize nextQ n = q at *
  rcases (show n = 34 ∨ n = 92 ∨ (n ≠ 34 ∧ n ≠ 92) by omega) with rfl | rfl | ⟨h1, h2⟩
  · obtain rfl := H ()
    go_enter Tryd.func34, Tryd.ntmps34
    go_wp2_with fail
    go_ret
    exact ⟨rfl, rfl⟩
  · obtain rfl := H ()
    go_enter Tryd.func34, Tryd.ntmps34
    go_wp2_with fail
    go_ret
    exact ⟨rfl, rfl⟩
  · have e := H ()
    rw [if_neg h1, if_neg h2] at e
    subst e
    have i1 : (n : Int) ≠ 34 := by omega
    have i2 : (n : Int) ≠ 92 := by omega
    go_enter Tryd.func34, Tryd.ntmps34
    go_wp2_with fail
    go_ret
    exact ⟨rfl, rfl⟩
end Go.Proofs.YtcljijcggnfemaaDoor
