/- Patterns, plain: the fuel doesn't matter; two patterns joined, one repeated; a text quoted. -/
import Derived.Test.YtakkcofmbafneaaPCtx
namespace Go.Proofs.Ytakkcofmbafneaa

theorem fuel (n : Nat) : (∀ m d (s : Bx), 4 * s.length + 4 ≤ n → 4 * s.length + 4 ≤ m → altN n d s = altN m d s) ∧ (∀ m d (s : Bx), 4 * s.length + 3 ≤ n → 4 * s.length + 3 ≤ m → seqN n d s = seqN m d s) ∧
    (∀ m d (s : Bx), 4 * s.length + 2 ≤ n → 4 * s.length + 2 ≤ m → partN n d s = partN m d s) ∧ ∀ m d (s : Bx), 4 * s.length + 1 ≤ n → 4 * s.length + 1 ≤ m → atomN n d s = atomN m d s := by
  induction n with
  | zero => exact ⟨fun m d s h => by omega, fun m d s h => by omega, fun m d s h => by omega, fun m d s h => by omega⟩
  | succ n ih =>
    obtain ⟨iA, iS, iP, iT⟩ := ih
    refine ⟨fun m d s h1 h2 => ?_, fun m d s h1 h2 => ?_, fun m d s h1 h2 => ?_, fun m d s h1 h2 => ?_⟩
    all_goals
      obtain ⟨m, rfl⟩ : ∃ k, m = k + 1 := ⟨m - 1, by omega⟩
    · rw [altN, altN, ← iS m d s (by omega) (by omega)]
      cases hs : seqN n d s with
      | er e => rfl
      | ok q r =>
        have h3 := (reads_good n).2.1 _ _ _ _ hs
        cases r with
        | nil => rfl
        | cons c r =>
          simp only
          simp only [List.length_cons] at h3
          rw [iA m d r (by omega) (by omega)]
    · cases s with
      | nil => rw [seqN, seqN]
      | cons c s =>
        rw [seqN, seqN, ← iP m d (c :: s) (by omega) (by omega)]
        cases hp : partN n d (c :: s) with
        | er e => rfl
        | ok x r =>
          have h3 := (reads_good n).2.2.1 _ _ _ _ hp
          have h4 := lenR_pos x
          simp only
          rw [iS m d r (by omega) (by omega)]
    · rw [partN, partN, ← iT m d s (by omega) (by omega)]
    · cases s with
      | nil => rw [atomN, atomN]
      | cons c s =>
        simp only [List.length_cons] at h1 h2
        rw [atomN, atomN, ← iA m (d + 1) s (by omega) (by omega)]
/-- A whole pattern. -/
def readN (p : Bx) : Res Al :=
  match altN (4 * p.length + 4) 0 p with
  | .er e => .er e
  | .ok a r => match r with
    | [] => .ok a []
    | _ :: _ => .er .form
theorem readN_ok {p r : Bx} {a : Al} (h : readN p = .ok a r) : r = [] ∧ altN (4 * p.length + 4) 0 p = .ok a [] ∧ okA a := by
  unfold readN at h
  cases ha : altN (4 * p.length + 4) 0 p with
  | er e => rw [ha] at h; cases h
  | ok a' r' =>
    rw [ha] at h
    cases r' with
    | nil =>
      cases h
      exact ⟨rfl, rfl, ((reads_good _).1 _ _ _ _ ha).1⟩
    | cons c r' => cases h
/-- A pattern in parentheses, ahead of something. -/
theorem group_read {p t : Bx} {a : Al} {n : Nat} (hn : 4 * (p ++ 41 :: t).length + 5 ≤ n) (h : readN p = .ok a []) : (8 ≤ depA a ∧ atomN n 0 (40 :: (p ++ 41 :: t)) = .er .deep) ∨ (depA a < 8 ∧ atomN n 0 (40 :: (p ++ 41 :: t)) = .ok (.grp a) t) := by
  obtain ⟨_, h1, _⟩ := readN_ok h
  obtain ⟨n, rfl⟩ : ∃ k, n = k + 1 := ⟨n - 1, by omega⟩
  rw [atomN, if_pos rfl, if_neg (by decide)]
  have h2 : altN n 0 p = .ok a [] := by
    rw [← h1]
    exact (fuel n).1 _ _ _ (by simp at hn; omega) (Nat.le_refl _)
  rcases (ctx t n).1 0 (0 + 1) p a [] (by decide) h2 with ⟨k, e⟩ | ⟨k, e⟩
  · rw [e]; exact .inl ⟨by omega, rfl⟩
  · rw [e]; exact .inr ⟨by omega, rfl⟩
def quoteN (s : Bx) : Bx := s.flatMap fun c => if spcB c then [92, c] else [c]
/-- Each byte for itself. -/
def chrs : Bx → Sq
  | [] => .nil
  | c :: s => .cons (.set fun b => b == c) (chrs s)
theorem chrs_lang (s t : Bx) : langS (chrs s) t ↔ t = s := by
  induction s generalizing t with
  | nil => rw [chrs, langS]
  | cons c s ih =>
    rw [chrs, langS]
    constructor
    · rintro ⟨s1, s2, rfl, h1, h2⟩
      rw [langR] at h1
      obtain ⟨d, rfl, hd⟩ := h1
      rw [(ih s2).1 h2, show d = c by simpa using hd]
      rfl
    · rintro rfl
      exact ⟨[c], s, rfl, by rw [langR]; exact ⟨c, rfl, by simp⟩, (ih s).2 rfl⟩
theorem quote_first (s : Bx) (x : Re) : often x (quoteN s) = (x, quoteN s) := by
  cases s with
  | nil => rfl
  | cons c s =>
    rw [quoteN, List.flatMap_cons]
    split
    · rfl
    · rename_i hc
      have h1 : c ≠ 42 := fun e => hc (by subst e; rfl)
      have h2 : c ≠ 43 := fun e => hc (by subst e; rfl)
      have h3 : c ≠ 63 := fun e => hc (by subst e; rfl)
      simp only [List.cons_append, List.nil_append, often, if_neg h1, if_neg h2, if_neg h3]
theorem quote_atom (c : UInt8) (r : Bx) (n d : Nat) : atomN (n + 1) d ((if spcB c then [92, c] else [c]) ++ r) = .ok (.set fun b => b == c) r := by
  by_cases hc : spcB c = true
  · rw [if_pos hc, List.cons_append, atomN, if_neg (by decide), if_neg (by decide), if_neg (by decide), if_neg (fun h => h.1 rfl)]
    rfl
  · rw [if_neg hc]
    have h1 : c ≠ 40 := fun e => hc (by subst e; rfl)
    have h2 : c ≠ 91 := fun e => hc (by subst e; rfl)
    have h3 : c ≠ 46 := fun e => hc (by subst e; rfl)
    have h4 : c ≠ 92 := fun e => hc (by subst e; rfl)
    rw [List.cons_append, atomN, if_neg h1, if_neg h2, if_neg h3, if_neg (fun h => hc h.2), show signN (c :: ([] ++ r)) = some (c, r) by unfold signN; simp [h4]]
theorem quote_seq (s : Bx) (n d : Nat) (hn : s.length + 3 ≤ n) : seqN n d (quoteN s) = .ok (chrs s) [] := by
  induction s generalizing n with
  | nil =>
    obtain ⟨n, rfl⟩ : ∃ k, n = k + 1 := ⟨n - 1, by omega⟩
    rw [quoteN, List.flatMap_nil, seqN, chrs]
  | cons c s ih =>
    simp only [List.length_cons] at hn
    obtain ⟨n, rfl⟩ : ∃ k, n = k + 1 + 1 + 1 := ⟨n - 3, by omega⟩
    have hp : partN (n + 1 + 1) d (quoteN (c :: s)) = .ok (.set fun b => b == c) (quoteN s) := by
      rw [partN, quoteN, List.flatMap_cons, quote_atom]
      simp only
      rw [← quoteN, quote_first]
    have hne : ∃ x y, quoteN (c :: s) = x :: y ∧ ¬ (x = 124 ∨ x = 41) := by
      rw [quoteN, List.flatMap_cons]
      by_cases hc : spcB c = true
      · rw [if_pos hc]
        exact ⟨92, _, rfl, by decide⟩
      · rw [if_neg hc]
        exact ⟨c, _, rfl, fun h => hc (h.elim (fun e => by subst e; rfl) (fun e => by subst e; rfl))⟩
    obtain ⟨x, y, e, hx⟩ := hne
    rw [e, seqN, if_neg hx, ← e, hp]
    simp only
    rw [ih _ (by omega), chrs]
theorem quote_read (s : Bx) : readN (quoteN s) = .ok (.one (chrs s)) [] := by
  unfold readN
  have hl : s.length ≤ (quoteN s).length := by
    induction s with
    | nil => simp
    | cons c s ih => rw [quoteN, List.flatMap_cons, ← quoteN]; split <;> simp <;> omega
  rw [altN, quote_seq s _ 0 (by omega)]
/-- A group at the end of a row. -/
theorem seq_last {s t : Bx} {x : Re} {n d : Nat} {c : UInt8} (hc : ¬ (c = 124 ∨ c = 41)) (h : partN (n + 1) d (c :: s) = .ok x t) (ht : t = [] ∨ ∃ u, t = 124 :: u) : seqN (n + 1 + 1) d (c :: s) = .ok (.cons x .nil) t := by
  rw [seqN, if_neg hc, h]
  rcases ht with rfl | ⟨u, rfl⟩
  · simp only
    rw [seqN]
  · simp only
    rw [seqN, if_pos (.inl rfl)]
theorem often_bar (x : Re) (u : Bx) : often x (124 :: u) = (x, 124 :: u) := rfl
theorem often_open (x : Re) (u : Bx) : often x (40 :: u) = (x, 40 :: u) := rfl
theorem often_nil (x : Re) : often x [] = (x, []) := rfl
/-- A group by itself. -/
def grp1 (a : Al) : Sq := .cons (.grp a) .nil
theorem grp1_lang (a : Al) (s : Bx) : langS (grp1 a) s ↔ langA a s := by
  rw [grp1, langS]
  constructor
  · rintro ⟨s1, s2, rfl, h1, h2⟩
    rw [langS] at h2
    subst h2
    rw [List.append_nil]
    rw [langR] at h1
    exact h1
  · intro h
    exact ⟨s, [], by simp, by rw [langR]; exact h, by rw [langS]⟩
/-- A row of one group, with what is said of how often, at the end or ahead of a |. -/
theorem row_read {p t : Bx} {a : Al} {n : Nat} {x : Re} {t' : Bx} (hn : 4 * (p ++ 41 :: t).length + 7 ≤ n) (h : readN p = .ok a []) (hx : often (.grp a) t = (x, t')) (ht : t' = [] ∨ ∃ u, t' = 124 :: u) :
    (8 ≤ depA a ∧ seqN n 0 (40 :: (p ++ 41 :: t)) = .er .deep) ∨ (depA a < 8 ∧ seqN n 0 (40 :: (p ++ 41 :: t)) = .ok (.cons x .nil) t') := by
  obtain ⟨n, rfl⟩ : ∃ k, n = k + 1 + 1 := ⟨n - 2, by omega⟩
  rcases group_read (t := t) (n := n) (by omega) h with ⟨k, e⟩ | ⟨k, e⟩
  · refine .inl ⟨k, ?_⟩
    rw [seqN, if_neg (by decide), partN, e]
  · refine .inr ⟨k, seq_last (by decide) ?_ ht⟩
    rw [partN, e]
    simp only [hx]
/-- Two with | between, one behind the other; one, any number of times, and once or not. -/
def orA (a b : Al) : Al := .more (grp1 a) (.one (grp1 b))
def thenA (a b : Al) : Al := .one (.cons (.grp a) (grp1 b))
def starA (a : Al) : Al := .one (.cons (.star (.grp a)) .nil)
def optA (a : Al) : Al := .one (.cons (.opt (.grp a)) .nil)
theorem orA_lang (a b : Al) (s : Bx) : langA (orA a b) s ↔ langA a s ∨ langA b s := by rw [orA, langA, langA, grp1_lang, grp1_lang]
theorem thenA_lang (a b : Al) (s : Bx) : langA (thenA a b) s ↔ ∃ s1 s2, s = s1 ++ s2 ∧ langA a s1 ∧ langA b s2 := by
  rw [thenA, langA, langS]
  simp only [langR, grp1_lang]
theorem starA_lang (a : Al) (s : Bx) : langA (starA a) s ↔ Star (langA a) s := by
  rw [starA, langA, langS]
  constructor
  · rintro ⟨s1, s2, rfl, h1, h2⟩
    rw [langS] at h2
    subst h2
    rw [List.append_nil]
    rw [langR, show langR (.grp a) = langA a by funext u; rw [langR]] at h1
    exact h1
  · intro h
    exact ⟨s, [], by simp, by rw [langR, show langR (.grp a) = langA a by funext u; rw [langR]]; exact h, by rw [langS]⟩
theorem optA_lang (a : Al) (s : Bx) : langA (optA a) s ↔ s = [] ∨ langA a s := by
  rw [optA, langA, langS]
  constructor
  · rintro ⟨s1, s2, rfl, h1, h2⟩
    rw [langS] at h2
    subst h2
    rw [List.append_nil]
    rw [langR, langR] at h1
    exact h1
  · intro h
    exact ⟨s, [], by simp, by rw [langR, langR]; exact h, by rw [langS]⟩
theorem or_read {p q : Bx} {a b : Al} (hp : readN p = .ok a []) (hq : readN q = .ok b []) :
    (8 ≤ max (depA a) (depA b) ∧ readN (40 :: (p ++ 41 :: 124 :: 40 :: (q ++ [41]))) = .er .deep) ∨ (max (depA a) (depA b) < 8 ∧ readN (40 :: (p ++ 41 :: 124 :: 40 :: (q ++ [41]))) = .ok (orA a b) []) := by
  unfold readN
  generalize hN : 4 * (40 :: (p ++ 41 :: 124 :: 40 :: (q ++ [41]))).length + 4 = N
  simp at hN
  obtain ⟨n, rfl⟩ : ∃ k, N = k + 1 + 1 := ⟨N - 2, by omega⟩
  rw [altN]
  rcases row_read (t := 124 :: 40 :: (q ++ [41])) (n := n + 1) (by simp; omega) hp (often_bar _ _) (.inr ⟨_, rfl⟩) with ⟨k, e⟩ | ⟨k, e⟩
  · rw [e]; exact .inl ⟨by omega, rfl⟩
  · rw [e]
    simp only [if_pos]
    rw [altN]
    rcases row_read (p := q) (t := []) (n := n) (by simp; omega) hq (often_nil _) (.inl rfl) with ⟨k2, e⟩ | ⟨k2, e⟩
    · rw [e]; exact .inl ⟨by omega, rfl⟩
    · rw [e]; exact .inr ⟨by omega, rfl⟩
theorem then_read {p q : Bx} {a b : Al} (hp : readN p = .ok a []) (hq : readN q = .ok b []) :
    (8 ≤ max (depA a) (depA b) ∧ readN (40 :: (p ++ 41 :: 40 :: (q ++ [41]))) = .er .deep) ∨ (max (depA a) (depA b) < 8 ∧ readN (40 :: (p ++ 41 :: 40 :: (q ++ [41]))) = .ok (thenA a b) []) := by
  unfold readN
  generalize hN : 4 * (40 :: (p ++ 41 :: 40 :: (q ++ [41]))).length + 4 = N
  simp at hN
  obtain ⟨n, rfl⟩ : ∃ k, N = k + 1 + 1 + 1 := ⟨N - 3, by omega⟩
  rw [altN, seqN, if_neg (by decide), partN]
  rcases group_read (t := 40 :: (q ++ [41])) (n := n) (by simp; omega) hp with ⟨k, e⟩ | ⟨k, e⟩
  · rw [e]; exact .inl ⟨by omega, rfl⟩
  · rw [e]
    simp only [often_open]
    rcases row_read (p := q) (t := []) (n := n + 1) (by simp; omega) hq (often_nil _) (.inl rfl) with ⟨k2, e⟩ | ⟨k2, e⟩
    · rw [e]; exact .inl ⟨by omega, rfl⟩
    · rw [e]; exact .inr ⟨by omega, rfl⟩
theorem star_read {p : Bx} {a : Al} (hp : readN p = .ok a []) : (8 ≤ depA a ∧ readN (40 :: (p ++ [41, 42])) = .er .deep) ∨ (depA a < 8 ∧ readN (40 :: (p ++ [41, 42])) = .ok (starA a) []) := by
  unfold readN
  generalize hN : 4 * (40 :: (p ++ [41, 42])).length + 4 = N
  simp at hN
  obtain ⟨n, rfl⟩ : ∃ k, N = k + 1 := ⟨N - 1, by omega⟩
  rw [altN]
  rcases row_read (t := [42]) (n := n) (x := .star (.grp a)) (t' := []) (by simp; omega) hp rfl (.inl rfl) with ⟨k, e⟩ | ⟨k, e⟩
  · rw [e]; exact .inl ⟨by omega, rfl⟩
  · rw [e]; exact .inr ⟨by omega, rfl⟩
theorem opt_read {p : Bx} {a : Al} (hp : readN p = .ok a []) : (8 ≤ depA a ∧ readN (40 :: (p ++ [41, 63])) = .er .deep) ∨ (depA a < 8 ∧ readN (40 :: (p ++ [41, 63])) = .ok (optA a) []) := by
  unfold readN
  generalize hN : 4 * (40 :: (p ++ [41, 63])).length + 4 = N
  simp at hN
  obtain ⟨n, rfl⟩ : ∃ k, N = k + 1 := ⟨N - 1, by omega⟩
  rw [altN]
  rcases row_read (t := [63]) (n := n) (x := .opt (.grp a)) (t' := []) (by simp; omega) hp rfl (.inl rfl) with ⟨k, e⟩ | ⟨k, e⟩
  · rw [e]; exact .inl ⟨by omega, rfl⟩
  · rw [e]; exact .inr ⟨by omega, rfl⟩
end Go.Proofs.Ytakkcofmbafneaa
