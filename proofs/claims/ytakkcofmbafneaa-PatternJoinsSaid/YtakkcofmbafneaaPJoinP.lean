/- PatternJoins, plain: the four ways to join patterns, in what the callers see. -/
import Derived.Test.YtakkcofmbafneaaPNil
namespace Go.Proofs.Ytakkcofmbafneaa

theorem patM_lang {p : Bs} {a : Al} (h : patM p = some a) : langA a = FitP p := by
  funext s
  refine propext ⟨fun hs => ⟨a, h, hs⟩, ?_⟩
  rintro ⟨b, h1, h2⟩
  rw [h] at h1
  injection h1 with h1
  subst h1
  exact h2
theorem pat_of {r : Bs} {a : Al} (hl : r.length ≤ 100) (e : readN r = .ok a []) : patM r = some a := by unfold patM; rw [if_neg (by omega), e]; rfl
/-- Two patterns that may be, short: they are too deep to join, or all four ways fit what they should. -/
theorem joins {p q : Bs} {a b : Al} (hp : patM p = some a) (hq : patM q = some b) (hl : p.length + q.length ≤ 94) :
    errM (40 :: (p ++ 41 :: 124 :: 40 :: (q ++ [41]))) = 3 ∨
    (errM (40 :: (p ++ 41 :: 124 :: 40 :: (q ++ [41]))) = 0 ∧ errM (40 :: (p ++ 41 :: 40 :: (q ++ [41]))) = 0 ∧ (∀ s, FitP (40 :: (p ++ 41 :: 124 :: 40 :: (q ++ [41]))) s ↔ FitP p s ∨ FitP q s) ∧ (∀ s, FitP (40 :: (p ++ 41 :: 40 :: (q ++ [41]))) s ↔ ∃ s1 s2, s = s1 ++ s2 ∧ FitP p s1 ∧ FitP q s2) ∧
      (∀ s, FitP (40 :: (p ++ [41, 42])) s ↔ Star (FitP p) s) ∧ (∀ s, FitP (40 :: (p ++ [41, 63])) s ↔ s = [] ∨ FitP p s)) := by
  have ep := (patM_ok hp).2.2.2
  have eq := (patM_ok hq).2.2.2
  rcases or_read ep eq with ⟨k, e⟩ | ⟨k, e⟩
  · refine .inl ?_
    unfold errM; rw [if_neg (by simp; omega), e]; rfl
  · rcases then_read ep eq with ⟨k2, e2⟩ | ⟨_, e2⟩
    · omega
    · rcases star_read ep with ⟨k2, e3⟩ | ⟨_, e3⟩
      · omega
      · rcases opt_read ep with ⟨k2, e4⟩ | ⟨_, e4⟩
        · omega
        · have g1 := pat_of (by simp; omega) e
          have g2 := pat_of (by simp; omega) e2
          have g3 := pat_of (by simp; omega) e3
          have g4 := pat_of (by simp; omega) e4
          refine .inr ⟨errM_some g1, errM_some g2, fun s => ?_, fun s => ?_, fun s => ?_, fun s => ?_⟩
          · rw [← patM_lang g1, orA_lang, patM_lang hp, patM_lang hq]
          · rw [← patM_lang g2, thenA_lang, patM_lang hp, patM_lang hq]
          · rw [← patM_lang g3, starA_lang, patM_lang hp]
          · rw [← patM_lang g4, optA_lang, patM_lang hp]
/-- Some cut at or ahead of k fits. -/
def CutP (p q s : Bs) (k : Nat) : Prop := ∃ i, i < k ∧ FitP p (s.take i) ∧ FitP q (s.drop i)
theorem CutP.zero (p q s : Bs) : ¬ CutP p q s 0 := fun ⟨_, h, _⟩ => by omega
theorem CutP.next (p q s : Bs) (k : Nat) : CutP p q s (k + 1) ↔ CutP p q s k ∨ (FitP p (s.take k) ∧ FitP q (s.drop k)) := by
  constructor
  · rintro ⟨i, h1, h2⟩
    by_cases e : i = k
    · subst e; exact .inr h2
    · exact .inl ⟨i, by omega, h2⟩
  · rintro (⟨i, h1, h2⟩ | h)
    · exact ⟨i, by omega, h2⟩
    · exact ⟨k, by omega, h⟩
theorem CutP.whole (p q s : Bs) : CutP p q s (s.length + 1) ↔ ∃ s1 s2, s = s1 ++ s2 ∧ FitP p s1 ∧ FitP q s2 := by
  constructor
  · rintro ⟨i, _, h1, h2⟩
    exact ⟨_, _, (List.take_append_drop i s).symm, h1, h2⟩
  · rintro ⟨s1, s2, rfl, h1, h2⟩
    refine ⟨s1.length, by simp; omega, ?_, ?_⟩
    · rw [List.take_left]; exact h1
    · rw [List.drop_left]; exact h2
end Go.Proofs.Ytakkcofmbafneaa
