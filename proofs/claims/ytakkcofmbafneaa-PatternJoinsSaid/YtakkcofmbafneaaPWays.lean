/- Patterns, plain: the ways through the steps of a part have just the part's texts. -/
import Derived.Test.YtakkcofmbafneaaPLang
namespace Go.Proofs.Ytakkcofmbafneaa

theorem In.stop {S : List Stp} {b e n k j : Nat} {s : Bx} (h : In S b e n k s j) (hk : e ≤ k) : s = [] ∧ k = j := by
  cases h with
  | refl k => exact ⟨rfl, rfl⟩
  | eps h1 h2 _ _ _ => omega
  | byte h1 h2 _ _ _ => omega
/-- A way that begins ahead of m and ends at it or behind comes by m. -/
theorem In.cut {S : List Stp} {b m e n k j : Nat} {s : Bx} (hc : Cl S b m) (h : In S b e n k s j) (hk : b ≤ k) (hkm : k ≤ m) (hj : m ≤ j) : ∃ n1 n2 s1 s2, s = s1 ++ s2 ∧ n = n1 + n2 ∧ In S b m n1 k s1 m ∧ In S b e n2 m s2 j := by
  induction h with
  | refl k =>
    obtain rfl : m = k := by omega
    exact ⟨0, 0, [], [], rfl, rfl, .refl _, .refl _⟩
  | @eps n k m' j s st h1 h2 h3 h4 h5 ih =>
    by_cases e : k = m
    · subst e
      exact ⟨0, n + 1, [], s, rfl, by omega, .refl _, .eps h1 h2 h3 h4 h5⟩
    · have h6 := hc k st h1 (by omega) h3 m' h4
      obtain ⟨n1, n2, s1, s2, e1, e2, e3, e4⟩ := ih h6.1 h6.2 hj
      exact ⟨n1 + 1, n2, s1, s2, e1, by omega, .eps h1 (by omega) h3 h4 e3, e4⟩
  | @byte n k j s st c h1 h2 h3 h4 h5 ih =>
    by_cases e : k = m
    · subst e
      exact ⟨0, n + 1, [], c :: s, rfl, by omega, .refl _, .byte h1 h2 h3 h4 h5⟩
    · obtain ⟨n1, n2, s1, s2, e1, e2, e3, e4⟩ := ih (by omega) (by omega) hj
      exact ⟨n1 + 1, n2, c :: s1, s2, by rw [e1]; rfl, by omega, .byte h1 (by omega) h3 h4 e3, e4⟩
/-- A way that never leads ahead of m again. -/
theorem In.right {S : List Stp} {b m e n k j : Nat} {s : Bx} (hl : ∀ (k : Nat) (st : Stp), m ≤ k → k < e → S[k]? = some st → ∀ x ∈ st.free, m ≤ x) (h : In S b e n k s j) (hk : m ≤ k) : In S m e n k s j := by
  induction h with
  | refl k => exact .refl k
  | eps h1 h2 h3 h4 h5 ih => exact .eps hk h2 h3 h4 (ih (hl _ _ hk h2 h3 _ h4))
  | byte h1 h2 h3 h4 h5 ih => exact .byte hk h2 h3 h4 (ih (by omega))
/-- Steps that lead to no less. -/
theorem In.more {S S' : List Stp} {b e n k j : Nat} {s : Bx} (hs : ∀ (k : Nat) (st : Stp), S'[k]? = some st → ∃ st' : Stp, S[k]? = some st' ∧ st'.set = st.set ∧ ∀ m ∈ st.free, m ∈ st'.free) (h : In S' b e n k s j) : In S b e n k s j := by
  induction h with
  | refl k => exact .refl k
  | eps h1 h2 h3 h4 h5 ih =>
    obtain ⟨st', a1, a2, a3⟩ := hs _ _ h3
    exact .eps h1 h2 a1 (a3 _ h4) ih
  | byte h1 h2 h3 h4 h5 ih =>
    obtain ⟨st', a1, a2, a3⟩ := hs _ _ h3
    exact .byte h1 h2 a1 (by rw [a2]; exact h4) ih
theorem addFree_mem {l : List Stp} {n : Nat} {st : Stp} (h : st ∈ addFree l n) : ∃ st0 ∈ l, ∀ m ∈ st.free, m ∈ st0.free ∨ m = n := by
  cases l with
  | nil => cases h
  | cons x l =>
    rcases List.mem_cons.1 h with rfl | h
    · exact ⟨x, by simp, fun m hm => by simp at hm; exact hm⟩
    · exact ⟨st, by simp [h], fun m hm => .inl hm⟩
mutual
theorem clR (r : Re) (b : Nat) : ∀ st ∈ stR r b, ∀ m ∈ st.free, b ≤ m ∧ m ≤ b + lenR r := by
  cases r with
  | set p => intro st h m hm; rw [stR] at h; simp at h; subst h; cases hm
  | grp a =>
    intro st h m hm
    rw [stR] at h
    rw [lenR]
    rcases List.mem_cons.1 h with rfl | h
    · have := starts_mem hm; omega
    · have := clA a (b + 1) (b + 1 + lenA a) st h m hm; omega
  | star r =>
    intro st h m hm
    rw [stR] at h
    rw [lenR]
    rcases List.mem_append.1 h with h | h
    · obtain ⟨st0, h0, h1⟩ := addFree_mem h
      rcases h1 m hm with h2 | h2
      · have := clR r b st0 h0 m h2; omega
      · omega
    · simp at h; subst h; simp at hm; omega
  | plus r =>
    intro st h m hm
    rw [stR] at h
    rw [lenR]
    rcases List.mem_append.1 h with h | h
    · have := clR r b st h m hm; omega
    · simp at h; subst h; simp at hm; omega
  | opt r =>
    intro st h m hm
    rw [stR] at h
    rw [lenR]
    obtain ⟨st0, h0, h1⟩ := addFree_mem h
    rcases h1 m hm with h2 | h2
    · exact clR r b st0 h0 m h2
    · omega
theorem clA (a : Al) (b E : Nat) : ∀ st ∈ stA a b E, ∀ m ∈ st.free, (b ≤ m ∧ m ≤ b + lenA a) ∨ m = E := by
  cases a with
  | one q =>
    intro st h m hm
    rw [stA] at h
    rw [lenA]
    rcases List.mem_append.1 h with h | h
    · have := clS q b st h m hm; omega
    · simp at h; subst h; simp at hm; exact .inr hm
  | more q a =>
    intro st h m hm
    rw [stA] at h
    rw [lenA]
    rcases List.mem_append.1 h with h | h
    · have := clS q b st h m hm; omega
    · rcases List.mem_cons.1 h with rfl | h
      · simp at hm; exact .inr hm
      · have := clA a (b + lenS q + 1) E st h m hm; omega
theorem clS (q : Sq) (b : Nat) : ∀ st ∈ stS q b, ∀ m ∈ st.free, b ≤ m ∧ m ≤ b + lenS q := by
  cases q with
  | nil => intro st h; rw [stS] at h; cases h
  | cons r q =>
    intro st h m hm
    rw [stS] at h
    rw [lenS]
    rcases List.mem_append.1 h with h | h
    · have := clR r b st h m hm; omega
    · have := clS q (b + lenR r) st h m hm; omega
end
theorem cl1R (r : Re) (b : Nat) (ha : atomR r) : ∀ st ∈ stR r b, ∀ m ∈ st.free, b < m ∧ m ≤ b + lenR r := by
  cases r with
  | set p => intro st h m hm; rw [stR] at h; simp at h; subst h; cases hm
  | grp a =>
    intro st h m hm
    rw [stR] at h
    rw [lenR]
    rcases List.mem_cons.1 h with rfl | h
    · have := starts_mem hm; omega
    · have := clA a (b + 1) (b + 1 + lenA a) st h m hm; omega
  | star r => cases ha
  | plus r => cases ha
  | opt r => cases ha
theorem emb_cl {S f : List Stp} {b e : Nat} (h : Emb S b f) (he : e = b + f.length) (hc : ∀ st ∈ f, ∀ m ∈ st.free, b ≤ m ∧ m ≤ e) : Cl S b e := fun k st h1 h2 h3 m hm =>
  hc st (List.mem_of_getElem? (emb_at h h1 (by omega) h3)) m hm
theorem stR_cons (r : Re) (b : Nat) : ∃ x f, stR r b = x :: f := by
  cases h : stR r b with
  | nil => have h1 := stR_length r b; rw [h] at h1; have := lenR_pos r; simp at h1; omega
  | cons x f => exact ⟨x, f, rfl⟩
theorem set_get {S : List Stp} {b k : Nat} {x : Stp} (hk : k ≠ b) : (S.set b x)[k]? = S[k]? := List.getElem?_set_ne (fun e => hk e.symm)
theorem some_lt {S : List Stp} {b : Nat} {x : Stp} (h : S[b]? = some x) : b < S.length := (List.getElem?_eq_some_iff.1 h).1
/-- With the first step's further way taken away: no less is there with it. -/
theorem more_set {S : List Stp} {b E : Nat} {x : Stp} (h : S[b]? = some ⟨x.set, x.free ++ [E]⟩) : ∀ (k : Nat) (st : Stp), (S.set b x)[k]? = some st → ∃ st' : Stp, S[k]? = some st' ∧ st'.set = st.set ∧ ∀ m ∈ st.free, m ∈ st'.free := by
  intro k st hk
  by_cases e : k = b
  · subst e
    rw [List.getElem?_set_self (some_lt h)] at hk
    injection hk with hk
    subst hk
    exact ⟨_, h, rfl, fun m hm => by simp [hm]⟩
  · rw [set_get e] at hk
    exact ⟨st, hk, rfl, fun m hm => hm⟩
/-- Behind its first step a way of an atom is the same with the first step's further way and without. -/
theorem In.inner {S : List Stp} {b A e n k : Nat} {s : Bx} {x : Stp} (hA : A ≤ e) (hc : ∀ (k : Nat) (st : Stp), b < k → k < A → S[k]? = some st → ∀ m ∈ st.free, b < m ∧ m ≤ A) {j : Nat} (h : In S b e n k s j) (hk : b < k) (hkA : k ≤ A) (hj : A ≤ j) :
    ∃ n1 n2 s1 s2, s = s1 ++ s2 ∧ n = n1 + n2 ∧ In (S.set b x) b A n1 k s1 A ∧ In S b e n2 A s2 j := by
  induction h with
  | refl k =>
    obtain rfl : A = k := by omega
    exact ⟨0, 0, [], [], rfl, rfl, .refl _, .refl _⟩
  | @eps n k m j s st h1 h2 h3 h4 h5 ih =>
    by_cases e : k = A
    · subst e
      exact ⟨0, n + 1, [], s, rfl, by omega, .refl _, .eps h1 h2 h3 h4 h5⟩
    · have h6 := hc k st hk (by omega) h3 m h4
      obtain ⟨n1, n2, s1, s2, e1, e2, e3, e4⟩ := ih h6.1 h6.2 hj
      exact ⟨n1 + 1, n2, s1, s2, e1, by omega, .eps h1 (by omega) (by rw [set_get (by omega)]; exact h3) h4 e3, e4⟩
  | @byte n k j s st c h1 h2 h3 h4 h5 ih =>
    by_cases e : k = A
    · subst e
      exact ⟨0, n + 1, [], c :: s, rfl, by omega, .refl _, .byte h1 h2 h3 h4 h5⟩
    · obtain ⟨n1, n2, s1, s2, e1, e2, e3, e4⟩ := ih (by omega) (by omega) hj
      exact ⟨n1 + 1, n2, c :: s1, s2, by rw [e1]; rfl, by omega, .byte h1 (by omega) (by rw [set_get (by omega)]; exact h3) h4 e3, e4⟩
end Go.Proofs.Ytakkcofmbafneaa
