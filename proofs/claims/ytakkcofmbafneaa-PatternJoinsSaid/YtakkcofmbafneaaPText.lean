/- Patterns, plain: a part's texts are those of the ways through its steps. -/
import Derived.Test.YtakkcofmbafneaaPWays
namespace Go.Proofs.Ytakkcofmbafneaa

theorem Star.single {L : Bx → Prop} {s : Bx} (h : L s) : Star L s := by
  have := Star.cons h Star.nil
  simpa using this
theorem addFree_head {S f : List Stp} {b E : Nat} {x : Stp} {g : List Stp} (h : Emb S b (addFree (x :: f) E ++ g)) : S[b]? = some ⟨x.set, x.free ++ [E]⟩ := by
  have := h.left 0 (by simp [addFree])
  simpa [addFree] using this
/-- Behind the first step all is as it was. -/
theorem addFree_rest {S f : List Stp} {b E k : Nat} {x st : Stp} {g : List Stp} (h : Emb S b (addFree (x :: f) E ++ g)) (h1 : b < k) (h2 : k < b + (x :: f).length) (h3 : S[k]? = some st) : st ∈ x :: f := by
  have h4 := emb_at h.left (by omega) (by rw [addFree_length]; exact h2) h3
  obtain ⟨j, hj⟩ : ∃ j, k - b = j + 1 := ⟨k - b - 1, by omega⟩
  rw [hj] at h4
  simp only [addFree, List.getElem?_cons_succ] at h4
  exact List.mem_cons_of_mem _ (List.mem_of_getElem? h4)
/-- Any number of times. -/
theorem star_ways {S f : List Stp} {b A : Nat} {x : Stp} {L : Bx → Prop} (hA : A = b + (x :: f).length) (h : Emb S b (addFree (x :: f) (A + 1) ++ [⟨noSet, [b]⟩]))
    (hc : ∀ st ∈ x :: f, ∀ m ∈ st.free, b < m ∧ m ≤ A) (hL : ∀ s, (∃ n, In (S.set b x) b A n b s A) ↔ L s) (s : Bx) : (∃ n, In S b (A + 1) n b s (A + 1)) ↔ Star L s := by
  have hb := addFree_head h
  have hag : S[A]? = some ⟨noSet, [b]⟩ := by
    have := h.right.head
    rwa [addFree_length, ← hA] at this
  have hbA : b < A := by rw [hA]; simp
  have hc2 : ∀ (k : Nat) (st : Stp), b < k → k < A → S[k]? = some st → ∀ m ∈ st.free, b < m ∧ m ≤ A := fun k st h1 h2 h3 m hm => hc st (addFree_rest h h1 (by omega) h3) m hm
  have hxm : ∀ m ∈ x.free, b < m ∧ m ≤ A := fun m hm => hc x (by simp) m hm
  constructor
  · rintro ⟨n, hn⟩
    induction n using Nat.strongRecOn generalizing s with
    | ind n ih =>
      have back : ∀ (k n' : Nat) (s' : Bx), b < k → k ≤ A → n' < n → In S b (A + 1) n' k s' (A + 1) → ∃ n1 s1 s2, s' = s1 ++ s2 ∧ In (S.set b x) b A n1 k s1 A ∧ Star L s2 := fun k n' s' h1 h2 h3 h4 => by
        obtain ⟨n1, n2, s1, s2, e1, e2, e3, e4⟩ := In.inner (x := x) (by omega) hc2 h4 h1 h2 (by omega)
        cases e4 with
        | @eps n3 _ m _ _ st a1 a2 a3 a4 a5 =>
          rw [hag] at a3
          injection a3 with a3
          subst a3
          simp at a4
          subst a4
          exact ⟨n1, s1, s2, e1, e3, ih n3 (by omega) s2 a5⟩
        | byte a1 a2 a3 a4 a5 =>
          rw [hag] at a3
          injection a3 with a3
          subst a3
          cases a4
      cases hn with
      | refl k => omega
      | @eps n' _ m _ _ st a1 a2 a3 a4 a5 =>
        rw [hb] at a3
        injection a3 with a3
        subst a3
        rcases List.mem_append.1 a4 with a4 | a4
        · obtain ⟨m1, m2⟩ := hxm m a4
          obtain ⟨n1, s1, s2, e1, e2, e3⟩ := back m n' s m1 m2 (by omega) a5
          rw [e1]
          exact .cons ((hL s1).1 ⟨n1 + 1, .eps (Nat.le_refl _) hbA (by rw [List.getElem?_set_self (some_lt hb)]) a4 e2⟩) e3
        · simp at a4
          subst a4
          obtain ⟨rfl, _⟩ := a5.stop (Nat.le_refl _)
          exact .nil
      | @byte n' _ _ s' st c a1 a2 a3 a4 a5 =>
        rw [hb] at a3
        injection a3 with a3
        subst a3
        obtain ⟨n1, s1, s2, e1, e2, e3⟩ := back (b + 1) n' s' (by omega) (by omega) (by omega) a5
        rw [e1]
        exact .cons (s := c :: s1) ((hL (c :: s1)).1 ⟨n1 + 1, .byte (st := x) (Nat.le_refl _) hbA (List.getElem?_set_self (some_lt hb)) (show x.set c = true from a4) e2⟩) e3
  · intro hs
    induction hs with
    | nil => exact ⟨1, .eps (Nat.le_refl _) (by omega) hb (by simp) (.refl _)⟩
    | cons h1 _ ih =>
      obtain ⟨n1, w1⟩ := (hL _).2 h1
      obtain ⟨n2, w2⟩ := ih
      have w3 := (w1.more (more_set hb)).wider (Nat.le_refl b) (show A ≤ A + 1 by omega)
      exact ⟨_, w3.trans (.eps (by omega) (by omega) hag (by simp) w2)⟩
/-- Once and more. -/
theorem plus_ways {S f : List Stp} {b A : Nat} {L : Bx → Prop} (hA : A = b + f.length) (hf : 0 < f.length) (h : Emb S b (f ++ [⟨noSet, [b, A + 1]⟩]))
    (hc : ∀ st ∈ f, ∀ m ∈ st.free, b ≤ m ∧ m ≤ A) (hL : ∀ s, (∃ n, In S b A n b s A) ↔ L s) (s : Bx) : (∃ n, In S b (A + 1) n b s (A + 1)) ↔ ∃ s1 s2, s = s1 ++ s2 ∧ L s1 ∧ Star L s2 := by
  have hag : S[A]? = some ⟨noSet, [b, A + 1]⟩ := by
    have := h.right.head
    rwa [← hA] at this
  have hcl := emb_cl h.left hA hc
  constructor
  · rintro ⟨n, hn⟩
    induction n using Nat.strongRecOn generalizing s with
    | ind n ih =>
      obtain ⟨n1, n2, s1, s2, e1, e2, e3, e4⟩ := In.cut hcl hn (Nat.le_refl _) (by omega) (by omega)
      refine ⟨s1, s2, e1, (hL s1).1 ⟨n1, e3⟩, ?_⟩
      have hn1 : 0 < n1 := by
        cases e3 with
        | refl k => omega
        | eps => omega
        | byte => omega
      cases e4 with
      | @eps n3 _ m _ _ st a1 a2 a3 a4 a5 =>
        rw [hag] at a3
        injection a3 with a3
        subst a3
        simp at a4
        rcases a4 with rfl | rfl
        · obtain ⟨t1, t2, f1, f2, f3⟩ := ih n3 (by omega) s2 a5
          rw [f1]
          exact .cons f2 f3
        · obtain ⟨rfl, _⟩ := a5.stop (Nat.le_refl _)
          exact .nil
      | byte a1 a2 a3 a4 a5 =>
        rw [hag] at a3
        injection a3 with a3
        subst a3
        cases a4
  · rintro ⟨s1, s2, rfl, h1, h2⟩
    obtain ⟨n1, w1⟩ := (hL s1).2 h1
    have w1' := w1.wider (Nat.le_refl b) (show A ≤ A + 1 by omega)
    have hst : ∃ n, In S b (A + 1) n A s2 (A + 1) := by
      clear w1 w1' h1
      induction h2 with
      | nil => exact ⟨1, .eps (by omega) (by omega) hag (by simp) (.refl _)⟩
      | cons g1 _ ih =>
        obtain ⟨n2, w2⟩ := (hL _).2 g1
        obtain ⟨n3, w3⟩ := ih
        exact ⟨_, .eps (by omega) (by omega) hag (by simp) ((w2.wider (Nat.le_refl b) (show A ≤ A + 1 by omega)).trans w3)⟩
    obtain ⟨n2, w2⟩ := hst
    exact ⟨_, w1'.trans w2⟩
/-- Once or not. -/
theorem opt_ways {S f : List Stp} {b A : Nat} {x : Stp} {L : Bx → Prop} (hA : A = b + (x :: f).length) (h : Emb S b (addFree (x :: f) A))
    (hc : ∀ st ∈ x :: f, ∀ m ∈ st.free, b < m ∧ m ≤ A) (hL : ∀ s, (∃ n, In (S.set b x) b A n b s A) ↔ L s) (s : Bx) : (∃ n, In S b A n b s A) ↔ s = [] ∨ L s := by
  have h' : Emb S b (addFree (x :: f) A ++ []) := by rw [List.append_nil]; exact h
  have hb := addFree_head h'
  have hbA : b < A := by rw [hA]; simp
  have hc2 : ∀ (k : Nat) (st : Stp), b < k → k < A → S[k]? = some st → ∀ m ∈ st.free, b < m ∧ m ≤ A := fun k st h1 h2 h3 m hm => hc st (addFree_rest h' h1 (by omega) h3) m hm
  have back : ∀ (k n' : Nat) (s' : Bx), b < k → k ≤ A → In S b A n' k s' A → ∃ n1, In (S.set b x) b A n1 k s' A := fun k n' s' h1 h2 h4 => by
    obtain ⟨n1, n2, s1, s2, e1, e2, e3, e4⟩ := In.inner (x := x) (Nat.le_refl _) hc2 h4 h1 h2 (Nat.le_refl _)
    obtain ⟨rfl, _⟩ := e4.stop (Nat.le_refl _)
    rw [List.append_nil] at e1
    exact ⟨n1, by rw [e1]; exact e3⟩
  constructor
  · rintro ⟨n, hn⟩
    cases hn with
    | refl k => omega
    | @eps n' _ m _ _ st a1 a2 a3 a4 a5 =>
      rw [hb] at a3
      injection a3 with a3
      subst a3
      rcases List.mem_append.1 a4 with a4 | a4
      · obtain ⟨m1, m2⟩ := hc x (by simp) m a4
        obtain ⟨n1, e2⟩ := back m n' s m1 m2 a5
        exact .inr ((hL s).1 ⟨n1 + 1, .eps (Nat.le_refl _) hbA (by rw [List.getElem?_set_self (some_lt hb)]) a4 e2⟩)
      · simp at a4
        subst a4
        exact .inl (a5.stop (Nat.le_refl _)).1
    | @byte n' _ _ s' st c a1 a2 a3 a4 a5 =>
      rw [hb] at a3
      injection a3 with a3
      subst a3
      obtain ⟨n1, e2⟩ := back (b + 1) n' s' (by omega) (by omega) a5
      exact .inr ((hL (c :: s')).1 ⟨n1 + 1, .byte (st := x) (Nat.le_refl _) hbA (List.getElem?_set_self (some_lt hb)) (show x.set c = true from a4) e2⟩)
  · rintro (rfl | hs)
    · exact ⟨1, .eps (Nat.le_refl _) hbA hb (by simp) (.refl _)⟩
    · obtain ⟨n1, w1⟩ := (hL _).2 hs
      exact ⟨n1, w1.more (more_set hb)⟩
end Go.Proofs.Ytakkcofmbafneaa
