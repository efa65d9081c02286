/- Patterns, plain: a pattern in parentheses is read as it is by itself, or is too deep; the fuel doesn't matter. -/
import Derived.Test.YtakkcofmbafneaaPRead
namespace Go.Proofs.Ytakkcofmbafneaa
set_option linter.unusedSimpArgs false

theorem signN_app {s r : Bx} {c : UInt8} (h : signN s = some (c, r)) (u : Bx) : signN (s ++ u) = some (c, r ++ u) := by
  cases s with
  | nil => cases h
  | cons x s =>
    unfold signN at h ⊢
    simp only [List.cons_append] at h ⊢
    split at h
    · rename_i hx
      rw [if_pos hx]
      cases s with
      | nil => cases h
      | cons d s' => simp at h ⊢; exact ⟨h.1, by rw [h.2]⟩
    · rename_i hx
      rw [if_neg hx]
      simp at h ⊢
      exact ⟨h.1, by rw [h.2]⟩
theorem elemN_app {s r : Bx} {f l : UInt8} (h : elemN s = some ((f, l), r)) (h1 : r ≠ []) (h2 : r ≠ [45]) (u : Bx) : elemN (s ++ u) = some ((f, l), r ++ u) := by
  unfold elemN at h ⊢
  cases hs : signN s with
  | none => rw [hs] at h; cases h
  | some x =>
    obtain ⟨f', r1⟩ := x
    rw [hs] at h
    rw [signN_app hs]
    simp only at h ⊢
    match r1, h with
    | [], h => simp at h; exact absurd h.2 h1
    | [x], h =>
      simp at h
      obtain ⟨⟨rfl, rfl⟩, rfl⟩ := h
      have hx : x ≠ 45 := fun e => h2 (by rw [e])
      cases u with
      | nil => rfl
      | cons y u => simp [hx]
    | x :: y :: r2, h =>
      simp only [List.cons_append] at h ⊢
      split at h
      · rename_i hx
        rw [if_pos hx]
        cases hs2 : signN (y :: r2) with
        | none => rw [hs2] at h; cases h
        | some z =>
          obtain ⟨l', r3⟩ := z
          have h3 := signN_app hs2 u
          rw [List.cons_append] at h3
          rw [hs2] at h
          rw [h3]
          simp only at h ⊢
          split at h
          · rename_i hf
            rw [if_pos hf]
            simp at h ⊢
            exact ⟨h.1, by rw [h.2]⟩
          · cases h
      · rename_i hx
        rw [if_neg hx]
        simp at h ⊢
        exact ⟨h.1, by rw [← h.2]; rfl⟩
theorem clsN_app {n : Nat} {p q : UInt8 → Bool} {s r : Bx} (h : clsN n p s = some (q, r)) (u : Bx) : clsN n p (s ++ u) = some (q, r ++ u) := by
  induction n generalizing p s with
  | zero => cases h
  | succ n ih => cases s with
    | nil => cases h
    | cons c s =>
      rw [clsN] at h
      rw [List.cons_append, clsN]
      split at h
      · rename_i hc
        rw [if_pos hc]
        simp at h ⊢
        exact ⟨h.1, by rw [h.2]⟩
      · rename_i hc
        rw [if_neg hc]
        cases he : elemN (c :: s) with
        | none => rw [he] at h; cases h
        | some x =>
          obtain ⟨⟨f, l⟩, r'⟩ := x
          rw [he] at h
          simp only at h
          have h1 : r' ≠ [] := fun e => by subst e; cases n <;> cases h
          have h2 : r' ≠ [45] := fun e => by
            subst e
            cases n with
            | zero => cases h
            | succ n =>
              rw [clsN, if_neg (by decide), show elemN [45] = some ((45, 45), []) from rfl] at h
              simp only at h
              cases n <;> cases h
          have h3 := elemN_app he h1 h2 u
          rw [List.cons_append] at h3
          rw [h3]
          exact ih h
theorem clsN_fuel {n m : Nat} {p : UInt8 → Bool} {s : Bx} (hn : s.length ≤ n) (hm : s.length ≤ m) : clsN n p s = clsN m p s := by
  induction n generalizing m p s with
  | zero =>
    obtain rfl : s = [] := List.length_eq_zero_iff.1 (by omega)
    cases m <;> rfl
  | succ n ih => cases m with
    | zero =>
      obtain rfl : s = [] := List.length_eq_zero_iff.1 (by omega)
      rfl
    | succ m => cases s with
      | nil => rfl
      | cons c s =>
        rw [clsN, clsN]
        split
        · rfl
        · cases he : elemN (c :: s) with
          | none => rfl
          | some x =>
            obtain ⟨⟨f, l⟩, r'⟩ := x
            have := elemN_len he
            exact ih (by omega) (by omega)
theorem cls1_app {p : UInt8 → Bool} {s r : Bx} (h : cls1 s = some (p, r)) (u : Bx) : cls1 (s ++ u) = some (p, r ++ u) := by
  unfold cls1 at h ⊢
  cases s with
  | nil => cases h
  | cons c s =>
    simp only [List.cons_append] at h ⊢
    split at h
    · cases h
    · rename_i hc
      rw [if_neg hc]
      rw [clsN_fuel (m := (c :: s).length + u.length) (Nat.le_refl _) (by omega)] at h
      rw [clsN_fuel (m := (c :: s).length + u.length) (Nat.le_refl _) (by simp; omega)]
      exact clsN_app h u
theorem classN_app {p : UInt8 → Bool} {s r : Bx} (h : classN s = some (p, r)) (u : Bx) : classN (s ++ u) = some (p, r ++ u) := by
  unfold classN at h ⊢
  cases s with
  | nil => cases h
  | cons c s =>
    simp only [List.cons_append] at h ⊢
    split at h
    · rename_i hc
      rw [if_pos hc]
      cases hs : cls1 s with
      | none => rw [hs] at h; cases h
      | some x =>
        obtain ⟨p', r'⟩ := x
        rw [hs] at h
        rw [cls1_app hs]
        simp at h ⊢
        exact ⟨h.1, by rw [h.2]⟩
    · rename_i hc
      rw [if_neg hc]
      exact cls1_app h u
theorem often_app (x : Re) (r t : Bx) : often x (r ++ 41 :: t) = ((often x r).1, (often x r).2 ++ 41 :: t) := by
  cases r with
  | nil => rfl
  | cons c r =>
    simp only [List.cons_append, often]
    split
    · rfl
    · split
      · rfl
      · split <;> rfl
mutual
/-- How deep parentheses are nested. -/
def depR : Re → Nat
  | .set _ => 0
  | .grp a => 1 + depA a
  | .star r => depR r
  | .plus r => depR r
  | .opt r => depR r
def depA : Al → Nat
  | .one q => depS q
  | .more q a => max (depS q) (depA a)
def depS : Sq → Nat
  | .nil => 0
  | .cons r q => max (depR r) (depS q)
end
theorem often_dep (x : Re) (s : Bx) : depR (often x s).1 = depR x := by
  cases s with
  | nil => rfl
  | cons c s =>
    rw [often]
    split
    · simp only [depR]
    · split
      · simp only [depR]
      · split
        · simp only [depR]
        · rfl
/-- .. or there are too many parentheses. -/
def OrDeep {α : Type} (d dep : Nat) (o : Res α) (x : α) (r : Bx) : Prop := (8 < d + dep ∧ o = .er .deep) ∨ (d + dep ≤ 8 ∧ o = .ok x r)
theorem ctx (t : Bx) (n : Nat) : (∀ d d' s a r, d' ≤ 8 → altN n d s = .ok a r → OrDeep d' (depA a) (altN n d' (s ++ 41 :: t)) a (r ++ 41 :: t)) ∧ (∀ d d' s q r, d' ≤ 8 → seqN n d s = .ok q r → OrDeep d' (depS q) (seqN n d' (s ++ 41 :: t)) q (r ++ 41 :: t)) ∧
    (∀ d d' s x r, d' ≤ 8 → partN n d s = .ok x r → OrDeep d' (depR x) (partN n d' (s ++ 41 :: t)) x (r ++ 41 :: t)) ∧ ∀ d d' s x r, d' ≤ 8 → atomN n d s = .ok x r → OrDeep d' (depR x) (atomN n d' (s ++ 41 :: t)) x (r ++ 41 :: t) := by
  induction n with
  | zero => exact ⟨fun d d' s a r h8 h => by rw [altN] at h; (cases h), fun d d' s a r h8 h => by rw [seqN] at h; (cases h), fun d d' s a r h8 h => by rw [partN] at h; (cases h), fun d d' s a r h8 h => by rw [atomN] at h; (cases h)⟩
  | succ n ih =>
    obtain ⟨iA, iS, iP, iT⟩ := ih
    refine ⟨fun d d' s a r h8 h => ?_, fun d d' s q r h8 h => ?_, fun d d' s x r h8 h => ?_, fun d d' s x r h8 h => ?_⟩
    · rw [altN] at h
      rw [altN]
      cases hs : seqN n d s with
      | er e => rw [hs] at h; cases h
      | ok q r1 =>
        rw [hs] at h
        have hle : depS q ≤ depA a := by
          cases r1 with
          | nil => simp only at h; cases h; simp only [depA]; omega
          | cons c r2 =>
            simp only at h
            split at h
            · cases ha : altN n d r2 with
              | er e => rw [ha] at h; cases h
              | ok a' r3 => rw [ha] at h; simp only at h; cases h; simp only [depA]; omega
            · cases h; simp only [depA]; omega
        rcases iS _ d' _ _ _ h8 hs with ⟨k, e⟩ | ⟨k, e⟩
        · rw [e]; exact .inl ⟨by omega, rfl⟩
        · rw [e]
          cases r1 with
          | nil =>
            simp only at h
            cases h
            exact .inr ⟨by (try simp only [depA, depS, depR, often_dep]); omega, rfl⟩
          | cons c r2 =>
            simp only [List.cons_append] at h ⊢
            split at h
            · rename_i hc
              rw [if_pos hc]
              cases ha : altN n d r2 with
              | er e => rw [ha] at h; cases h
              | ok a' r3 =>
                rw [ha] at h
                simp only at h
                cases h
                rcases iA _ d' _ _ _ h8 ha with ⟨k, e⟩ | ⟨k, e⟩
                · rw [e]; exact .inl ⟨by (try simp only [depA, depS, depR, often_dep]); omega, rfl⟩
                · rw [e]; exact .inr ⟨by (try simp only [depA, depS, depR, often_dep]); omega, rfl⟩
            · rename_i hc
              rw [if_neg hc]
              cases h
              exact .inr ⟨by (try simp only [depA, depS, depR, often_dep]); omega, rfl⟩
    · cases s with
      | nil =>
        rw [seqN] at h
        cases h
        rw [List.nil_append, seqN, if_pos (.inr rfl)]
        exact .inr ⟨by (try simp only [depA, depS, depR, often_dep]); omega, rfl⟩
      | cons c s =>
        rw [seqN] at h
        rw [List.cons_append, seqN]
        split at h
        · rename_i hc
          rw [if_pos hc]
          cases h
          exact .inr ⟨by (try simp only [depA, depS, depR, often_dep]); omega, rfl⟩
        · rename_i hc
          rw [if_neg hc]
          cases hp : partN n d (c :: s) with
          | er e => rw [hp] at h; cases h
          | ok x r1 =>
            rw [hp] at h
            simp only at h
            cases hq : seqN n d r1 with
            | er e => rw [hq] at h; cases h
            | ok q' r2 =>
              rw [hq] at h
              cases h
              have h1 := iP _ d' _ _ _ h8 hp
              rw [List.cons_append] at h1
              rcases h1 with ⟨k, e⟩ | ⟨k, e⟩
              · rw [e]; exact .inl ⟨by (try simp only [depA, depS, depR, often_dep]); omega, rfl⟩
              · rw [e]
                simp only
                rcases iS _ d' _ _ _ h8 hq with ⟨k, e⟩ | ⟨k, e⟩
                · rw [e]; exact .inl ⟨by (try simp only [depA, depS, depR, often_dep]); omega, rfl⟩
                · rw [e]; exact .inr ⟨by (try simp only [depA, depS, depR, often_dep]); omega, rfl⟩
    · rw [partN] at h
      rw [partN]
      cases ht : atomN n d s with
      | er e => rw [ht] at h; cases h
      | ok y r1 =>
        rw [ht] at h
        cases h
        rcases iT _ d' _ _ _ h8 ht with ⟨k, e⟩ | ⟨k, e⟩
        · rw [e]; exact .inl ⟨by (try simp only [depA, depS, depR, often_dep]); omega, rfl⟩
        · rw [e]
          simp only [often_app]
          exact .inr ⟨by (try simp only [depA, depS, depR, often_dep]); omega, rfl⟩
    · cases s with
      | nil => rw [atomN] at h; cases h
      | cons c s =>
        rw [atomN] at h
        rw [List.cons_append, atomN]
        split at h
        · rename_i hc
          rw [if_pos hc]
          split at h
          · cases h
          · cases ha : altN n (d + 1) s with
            | er e => rw [ha] at h; cases h
            | ok a r1 =>
              rw [ha] at h
              cases r1 with
              | nil => cases h
              | cons y r2 =>
                simp only at h
                split at h
                · rename_i hy
                  cases h
                  by_cases hd' : d' = 8
                  · rw [if_pos hd']; exact .inl ⟨by (try simp only [depA, depS, depR, often_dep]); omega, rfl⟩
                  · rw [if_neg hd']
                    rcases iA _ (d' + 1) _ _ _ (by omega) ha with ⟨k, e⟩ | ⟨k, e⟩
                    · rw [e]; exact .inl ⟨by (try simp only [depA, depS, depR, often_dep]); omega, rfl⟩
                    · rw [e]
                      simp only [List.cons_append]
                      rw [if_pos hy]
                      exact .inr ⟨by (try simp only [depA, depS, depR, often_dep]); omega, rfl⟩
                · cases h
        · rename_i hc
          rw [if_neg hc]
          split at h
          · rename_i hc2
            rw [if_pos hc2]
            cases hk : classN s with
            | none => rw [hk] at h; cases h
            | some z =>
              obtain ⟨p, r1⟩ := z
              rw [hk] at h
              rw [classN_app hk]
              cases h
              exact .inr ⟨by (try simp only [depA, depS, depR, often_dep]); omega, rfl⟩
          · rename_i hc2
            rw [if_neg hc2]
            split at h
            · rename_i hc3
              rw [if_pos hc3]
              cases h
              exact .inr ⟨by (try simp only [depA, depS, depR, often_dep]); omega, rfl⟩
            · rename_i hc3
              rw [if_neg hc3]
              split at h
              · cases h
              · rename_i hc4
                rw [if_neg hc4]
                cases hs : signN (c :: s) with
                | none => rw [hs] at h; cases h
                | some z =>
                  obtain ⟨b, r1⟩ := z
                  have h3 := signN_app hs (41 :: t)
                  rw [List.cons_append] at h3
                  rw [hs] at h
                  rw [h3]
                  cases h
                  exact .inr ⟨by (try simp only [depA, depS, depR, often_dep]); omega, rfl⟩
end Go.Proofs.Ytakkcofmbafneaa
