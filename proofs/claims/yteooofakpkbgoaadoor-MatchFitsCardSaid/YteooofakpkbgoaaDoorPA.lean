/- PA: several texts in one. -/
import Derived.KernelRfl
import GoSem.Op.String
/- Patterns, plain: what they are, which texts they have, the steps that the program makes of them; a way through the steps is a text. -/
namespace Go.Proofs.YteooofakpkbgoaaDoor

abbrev Bx := List UInt8
mutual
/-- A part: a set of bytes; a group; any number of times, once and more, once or not, of an atom. -/
inductive Re
  | set (p : UInt8 → Bool)
  | grp (a : Al)
  | star (r : Re)
  | plus (r : Re)
  | opt (r : Re)
/-- Alternatives. -/
inductive Al
  | one (s : Sq)
  | more (s : Sq) (a : Al)
/-- Parts, one behind the other. -/
inductive Sq
  | nil
  | cons (r : Re) (s : Sq)
end
/-- Any number of texts of L. -/
inductive Star (L : Bx → Prop) : Bx → Prop
  | nil : Star L []
  | cons {s t : Bx} : L s → Star L t → Star L (s ++ t)
mutual
def langR : Re → Bx → Prop
  | .set p, s => ∃ c, s = [c] ∧ p c = true
  | .grp a, s => langA a s
  | .star r, s => Star (langR r) s
  | .plus r, s => ∃ s1 s2, s = s1 ++ s2 ∧ langR r s1 ∧ Star (langR r) s2
  | .opt r, s => s = [] ∨ langR r s
def langA : Al → Bx → Prop
  | .one q, s => langS q s
  | .more q a, s => langS q s ∨ langA a s
def langS : Sq → Bx → Prop
  | .nil, s => s = []
  | .cons r q, s => ∃ s1 s2, s = s1 ++ s2 ∧ langR r s1 ∧ langS q s2
end
/-- A step: the bytes that lead behind it; the steps that are reached without a byte. -/
structure Stp where
  set : UInt8 → Bool
  free : List Nat
def noSet : UInt8 → Bool := fun _ => false
def addFree : List Stp → Nat → List Stp
  | [], _ => []
  | s :: l, n => ⟨s.set, s.free ++ [n]⟩ :: l
mutual
def lenR : Re → Nat
  | .set _ => 1
  | .grp a => 1 + lenA a
  | .star r => lenR r + 1
  | .plus r => lenR r + 1
  | .opt r => lenR r
def lenA : Al → Nat
  | .one q => lenS q + 1
  | .more q a => lenS q + 1 + lenA a
def lenS : Sq → Nat
  | .nil => 0
  | .cons r q => lenR r + lenS q
end
def startsA : Al → Nat → List Nat
  | .one _, b => [b]
  | .more q a, b => b :: startsA a (b + lenS q + 1)
mutual
/-- The steps of a part that begins at step b. -/
def stR : Re → Nat → List Stp
  | .set p, _ => [⟨p, []⟩]
  | .grp a, b => ⟨noSet, startsA a (b + 1)⟩ :: stA a (b + 1) (b + 1 + lenA a)
  | .star r, b => addFree (stR r b) (b + lenR r + 1) ++ [⟨noSet, [b]⟩]
  | .plus r, b => stR r b ++ [⟨noSet, [b, b + lenR r + 1]⟩]
  | .opt r, b => addFree (stR r b) (b + lenR r)
/-- .. of alternatives; E: behind them. -/
def stA : Al → Nat → Nat → List Stp
  | .one q, b, E => stS q b ++ [⟨noSet, [E]⟩]
  | .more q a, b, E => stS q b ++ ⟨noSet, [E]⟩ :: stA a (b + lenS q + 1) E
def stS : Sq → Nat → List Stp
  | .nil, _ => []
  | .cons r q, b => stR r b ++ stS q (b + lenR r)
end
def atomR : Re → Prop
  | .set _ => True
  | .grp _ => True
  | _ => False
mutual
/-- Only atoms are repeated. -/
def okR : Re → Prop
  | .set _ => True
  | .grp a => okA a
  | .star r => atomR r ∧ okR r
  | .plus r => atomR r ∧ okR r
  | .opt r => atomR r ∧ okR r
def okA : Al → Prop
  | .one q => okS q
  | .more q a => okS q ∧ okA a
def okS : Sq → Prop
  | .nil => True
  | .cons r q => okR r ∧ okS q
end
theorem addFree_length (l : List Stp) (n : Nat) : (addFree l n).length = l.length := by cases l <;> rfl
mutual
theorem stR_length (r : Re) (b : Nat) : (stR r b).length = lenR r := by
  cases r with
  | set p => rfl
  | grp a => rw [stR, lenR, List.length_cons, stA_length a]; omega
  | star r => rw [stR, lenR, List.length_append, addFree_length, stR_length r]; rfl
  | plus r => rw [stR, lenR, List.length_append, stR_length r]; rfl
  | opt r => rw [stR, lenR, addFree_length, stR_length r]
theorem stA_length (a : Al) (b E : Nat) : (stA a b E).length = lenA a := by
  cases a with
  | one q => rw [stA, lenA, List.length_append, stS_length q]; rfl
  | more q a => rw [stA, lenA, List.length_append, List.length_cons, stS_length q, stA_length a]; omega
theorem stS_length (q : Sq) (b : Nat) : (stS q b).length = lenS q := by
  cases q with
  | nil => rfl
  | cons r q => rw [stS, lenS, List.length_append, stR_length r, stS_length q]
end
theorem lenR_pos (r : Re) : 0 < lenR r := by cases r <;> rw [lenR] <;> try omega
                                             exact lenR_pos _
/-- A way from step k to step j with the text s, n edges, out of steps from b on and ahead of e. -/
inductive In (S : List Stp) (b e : Nat) : Nat → Nat → Bx → Nat → Prop
  | refl (k : Nat) : In S b e 0 k [] k
  | eps {n k m j : Nat} {s : Bx} {st : Stp} : b ≤ k → k < e → S[k]? = some st → m ∈ st.free → In S b e n m s j → In S b e (n + 1) k s j
  | byte {n k j : Nat} {s : Bx} {st : Stp} {c : UInt8} : b ≤ k → k < e → S[k]? = some st → st.set c = true → In S b e n (k + 1) s j → In S b e (n + 1) k (c :: s) j
theorem In.wider {S : List Stp} {b e b' e' n k j : Nat} {s : Bx} (h : In S b e n k s j) (hb : b' ≤ b) (he : e ≤ e') : In S b' e' n k s j := by
  induction h with
  | refl k => exact .refl k
  | eps h1 h2 h3 h4 _ ih => exact .eps (by omega) (by omega) h3 h4 ih
  | byte h1 h2 h3 h4 _ ih => exact .byte (by omega) (by omega) h3 h4 ih
theorem In.trans {S : List Stp} {b e n m k i j : Nat} {s t : Bx} (h : In S b e n k s i) (h' : In S b e m i t j) : In S b e (n + m) k (s ++ t) j := by
  induction h with
  | refl k => simpa using h'
  | @eps n' k m' j' s' st h1 h2 h3 h4 _ ih => rw [show n' + 1 + m = (n' + m) + 1 by omega]; exact .eps h1 h2 h3 h4 (ih h')
  | @byte n' k j' s' st c h1 h2 h3 h4 _ ih => rw [show n' + 1 + m = (n' + m) + 1 by omega]; exact .byte h1 h2 h3 h4 (ih h')
/-- A part of the steps stands at b. -/
def Emb (S : List Stp) (b : Nat) (f : List Stp) : Prop := ∀ i, i < f.length → S[b + i]? = f[i]?
theorem Emb.left {S f g : List Stp} {b : Nat} (h : Emb S b (f ++ g)) : Emb S b f := fun i hi => by
  rw [h i (by rw [List.length_append]; omega), List.getElem?_append_left hi]
theorem Emb.right {S f g : List Stp} {b : Nat} (h : Emb S b (f ++ g)) : Emb S (b + f.length) g := fun i hi => by
  rw [show b + f.length + i = b + (f.length + i) by omega, h (f.length + i) (by rw [List.length_append]; omega), List.getElem?_append_right (by omega), show f.length + i - f.length = i by omega]
theorem Emb.head {S g : List Stp} {b : Nat} {x : Stp} (h : Emb S b (x :: g)) : S[b]? = some x := by
  have := h 0 (by simp)
  simpa using this
theorem Emb.tail {S g : List Stp} {b : Nat} {x : Stp} (h : Emb S b (x :: g)) : Emb S (b + 1) g := fun i hi => by
  rw [show b + 1 + i = b + (i + 1) by omega, h (i + 1) (by simp; omega)]; simp
/-- All that a step of S from b on and ahead of e leads to lies between. -/
def Cl (S : List Stp) (b e : Nat) : Prop := ∀ k st, b ≤ k → k < e → S[k]? = some st → ∀ m ∈ st.free, b ≤ m ∧ m ≤ e
/-- .. and not at b. -/
def Cl1 (S : List Stp) (b e : Nat) : Prop := ∀ k st, b ≤ k → k < e → S[k]? = some st → ∀ m ∈ st.free, b < m ∧ m ≤ e
theorem Cl1.cl {S : List Stp} {b e : Nat} (h : Cl1 S b e) : Cl S b e := fun k st h1 h2 h3 m hm => by have := h k st h1 h2 h3 m hm; omega
theorem starts_mem {a : Al} {b m : Nat} (h : m ∈ startsA a b) : b ≤ m ∧ m < b + lenA a := by
  cases a with
  | one q => simp [startsA] at h; subst h; rw [lenA]; omega
  | more q a =>
    rw [startsA] at h
    rw [lenA]
    rcases List.mem_cons.1 h with rfl | h
    · omega
    · have := starts_mem h; omega
theorem emb_at {S f : List Stp} {b k : Nat} {st : Stp} (h : Emb S b f) (h1 : b ≤ k) (h2 : k < b + f.length) (h3 : S[k]? = some st) : f[k - b]? = some st := by
  have := h (k - b) (by omega)
  rw [show b + (k - b) = k by omega, h3] at this
  exact this.symm
theorem addFree_emb {S f : List Stp} {b E : Nat} {x : Stp} (h : Emb S b (addFree (x :: f) E)) (hb : b < S.length) : Emb (S.set b x) b (x :: f) := fun i hi => by
  by_cases hi0 : i = 0
  · subst hi0
    rw [Nat.add_zero, List.getElem?_set_self hb]; rfl
  · rw [List.getElem?_set_ne (by omega)]
    have := h i (by rw [addFree_length]; exact hi)
    rw [this]
    obtain ⟨j, rfl⟩ : ∃ j, i = j + 1 := ⟨i - 1, by omega⟩
    simp [addFree]
end Go.Proofs.YteooofakpkbgoaaDoor
/- Patterns, plain: the ways through the steps of a part have just the part's texts. -/
namespace Go.Proofs.YteooofakpkbgoaaDoor

theorem In.stop {S : List Stp} {b e n k j : Nat} {s : Bx} (h : In S b e n k s j) (hk : e ≤ k) : s = [] ∧ k = j := by
  cases h with
  | refl k => exact ⟨rfl, rfl⟩
  | eps h1 h2 _ _ _ => omega
  | byte h1 h2 _ _ _ => omega
/-- A way that begins ahead of m and ends at it or behind comes by m. -/
theorem In.cut {S : List Stp} {b m e n k j : Nat} {s : Bx} (hc : Cl S b m) (h : In S b e n k s j) (hk : b ≤ k) (hkm : k ≤ m) (hj : m ≤ j) : ∃ n1 n2 s1 s2, s = s1 ++ s2 ∧ n = n1 + n2 ∧ In S b m n1 k s1 m ∧ In S b e n2 m s2 j := by
  induction h with
  | refl k =>
    obtain rfl : m = k := by omega
    exact ⟨0, 0, [], [], rfl, rfl, .refl _, .refl _⟩
  | @eps n k m' j s st h1 h2 h3 h4 h5 ih =>
    by_cases e : k = m
    · subst e
      exact ⟨0, n + 1, [], s, rfl, by omega, .refl _, .eps h1 h2 h3 h4 h5⟩
    · have h6 := hc k st h1 (by omega) h3 m' h4
      obtain ⟨n1, n2, s1, s2, e1, e2, e3, e4⟩ := ih h6.1 h6.2 hj
      exact ⟨n1 + 1, n2, s1, s2, e1, by omega, .eps h1 (by omega) h3 h4 e3, e4⟩
  | @byte n k j s st c h1 h2 h3 h4 h5 ih =>
    by_cases e : k = m
    · subst e
      exact ⟨0, n + 1, [], c :: s, rfl, by omega, .refl _, .byte h1 h2 h3 h4 h5⟩
    · obtain ⟨n1, n2, s1, s2, e1, e2, e3, e4⟩ := ih (by omega) (by omega) hj
      exact ⟨n1 + 1, n2, c :: s1, s2, by rw [e1]; rfl, by omega, .byte h1 (by omega) h3 h4 e3, e4⟩
/-- A way that never leads ahead of m again. -/
theorem In.right {S : List Stp} {b m e n k j : Nat} {s : Bx} (hl : ∀ (k : Nat) (st : Stp), m ≤ k → k < e → S[k]? = some st → ∀ x ∈ st.free, m ≤ x) (h : In S b e n k s j) (hk : m ≤ k) : In S m e n k s j := by
  induction h with
  | refl k => exact .refl k
  | eps h1 h2 h3 h4 h5 ih => exact .eps hk h2 h3 h4 (ih (hl _ _ hk h2 h3 _ h4))
  | byte h1 h2 h3 h4 h5 ih => exact .byte hk h2 h3 h4 (ih (by omega))
/-- Steps that lead to no less. -/
theorem In.more {S S' : List Stp} {b e n k j : Nat} {s : Bx} (hs : ∀ (k : Nat) (st : Stp), S'[k]? = some st → ∃ st' : Stp, S[k]? = some st' ∧ st'.set = st.set ∧ ∀ m ∈ st.free, m ∈ st'.free) (h : In S' b e n k s j) : In S b e n k s j := by
  induction h with
  | refl k => exact .refl k
  | eps h1 h2 h3 h4 h5 ih =>
    obtain ⟨st', a1, a2, a3⟩ := hs _ _ h3
    exact .eps h1 h2 a1 (a3 _ h4) ih
  | byte h1 h2 h3 h4 h5 ih =>
    obtain ⟨st', a1, a2, a3⟩ := hs _ _ h3
    exact .byte h1 h2 a1 (by rw [a2]; exact h4) ih
theorem addFree_mem {l : List Stp} {n : Nat} {st : Stp} (h : st ∈ addFree l n) : ∃ st0 ∈ l, ∀ m ∈ st.free, m ∈ st0.free ∨ m = n := by
  cases l with
  | nil => cases h
  | cons x l =>
    rcases List.mem_cons.1 h with rfl | h
    · exact ⟨x, by simp, fun m hm => by simp at hm; exact hm⟩
    · exact ⟨st, by simp [h], fun m hm => .inl hm⟩
mutual
theorem clR (r : Re) (b : Nat) : ∀ st ∈ stR r b, ∀ m ∈ st.free, b ≤ m ∧ m ≤ b + lenR r := by
  cases r with
  | set p => intro st h m hm; rw [stR] at h; simp at h; subst h; cases hm
  | grp a =>
    intro st h m hm
    rw [stR] at h
    rw [lenR]
    rcases List.mem_cons.1 h with rfl | h
    · have := starts_mem hm; omega
    · have := clA a (b + 1) (b + 1 + lenA a) st h m hm; omega
  | star r =>
    intro st h m hm
    rw [stR] at h
    rw [lenR]
    rcases List.mem_append.1 h with h | h
    · obtain ⟨st0, h0, h1⟩ := addFree_mem h
      rcases h1 m hm with h2 | h2
      · have := clR r b st0 h0 m h2; omega
      · omega
    · simp at h; subst h; simp at hm; omega
  | plus r =>
    intro st h m hm
    rw [stR] at h
    rw [lenR]
    rcases List.mem_append.1 h with h | h
    · have := clR r b st h m hm; omega
    · simp at h; subst h; simp at hm; omega
  | opt r =>
    intro st h m hm
    rw [stR] at h
    rw [lenR]
    obtain ⟨st0, h0, h1⟩ := addFree_mem h
    rcases h1 m hm with h2 | h2
    · exact clR r b st0 h0 m h2
    · omega
theorem clA (a : Al) (b E : Nat) : ∀ st ∈ stA a b E, ∀ m ∈ st.free, (b ≤ m ∧ m ≤ b + lenA a) ∨ m = E := by
  cases a with
  | one q =>
    intro st h m hm
    rw [stA] at h
    rw [lenA]
    rcases List.mem_append.1 h with h | h
    · have := clS q b st h m hm; omega
    · simp at h; subst h; simp at hm; exact .inr hm
  | more q a =>
    intro st h m hm
    rw [stA] at h
    rw [lenA]
    rcases List.mem_append.1 h with h | h
    · have := clS q b st h m hm; omega
    · rcases List.mem_cons.1 h with rfl | h
      · simp at hm; exact .inr hm
      · have := clA a (b + lenS q + 1) E st h m hm; omega
theorem clS (q : Sq) (b : Nat) : ∀ st ∈ stS q b, ∀ m ∈ st.free, b ≤ m ∧ m ≤ b + lenS q := by
  cases q with
  | nil => intro st h; rw [stS] at h; cases h
  | cons r q =>
    intro st h m hm
    rw [stS] at h
    rw [lenS]
    rcases List.mem_append.1 h with h | h
    · have := clR r b st h m hm; omega
    · have := clS q (b + lenR r) st h m hm; omega
end
theorem cl1R (r : Re) (b : Nat) (ha : atomR r) : ∀ st ∈ stR r b, ∀ m ∈ st.free, b < m ∧ m ≤ b + lenR r := by
  cases r with
  | set p => intro st h m hm; rw [stR] at h; simp at h; subst h; cases hm
  | grp a =>
    intro st h m hm
    rw [stR] at h
    rw [lenR]
    rcases List.mem_cons.1 h with rfl | h
    · have := starts_mem hm; omega
    · have := clA a (b + 1) (b + 1 + lenA a) st h m hm; omega
  | star r => cases ha
  | plus r => cases ha
  | opt r => cases ha
theorem emb_cl {S f : List Stp} {b e : Nat} (h : Emb S b f) (he : e = b + f.length) (hc : ∀ st ∈ f, ∀ m ∈ st.free, b ≤ m ∧ m ≤ e) : Cl S b e := fun k st h1 h2 h3 m hm =>
  hc st (List.mem_of_getElem? (emb_at h h1 (by omega) h3)) m hm
theorem stR_cons (r : Re) (b : Nat) : ∃ x f, stR r b = x :: f := by
  cases h : stR r b with
  | nil => have h1 := stR_length r b; rw [h] at h1; have := lenR_pos r; simp at h1; omega
  | cons x f => exact ⟨x, f, rfl⟩
theorem set_get {S : List Stp} {b k : Nat} {x : Stp} (hk : k ≠ b) : (S.set b x)[k]? = S[k]? := List.getElem?_set_ne (fun e => hk e.symm)
theorem some_lt {S : List Stp} {b : Nat} {x : Stp} (h : S[b]? = some x) : b < S.length := (List.getElem?_eq_some_iff.1 h).1
/-- With the first step's further way taken away: no less is there with it. -/
theorem more_set {S : List Stp} {b E : Nat} {x : Stp} (h : S[b]? = some ⟨x.set, x.free ++ [E]⟩) : ∀ (k : Nat) (st : Stp), (S.set b x)[k]? = some st → ∃ st' : Stp, S[k]? = some st' ∧ st'.set = st.set ∧ ∀ m ∈ st.free, m ∈ st'.free := by
  intro k st hk
  by_cases e : k = b
  · subst e
    rw [List.getElem?_set_self (some_lt h)] at hk
    injection hk with hk
    subst hk
    exact ⟨_, h, rfl, fun m hm => by simp [hm]⟩
  · rw [set_get e] at hk
    exact ⟨st, hk, rfl, fun m hm => hm⟩
/-- Behind its first step a way of an atom is the same with the first step's further way and without. -/
theorem In.inner {S : List Stp} {b A e n k : Nat} {s : Bx} {x : Stp} (hA : A ≤ e) (hc : ∀ (k : Nat) (st : Stp), b < k → k < A → S[k]? = some st → ∀ m ∈ st.free, b < m ∧ m ≤ A) {j : Nat} (h : In S b e n k s j) (hk : b < k) (hkA : k ≤ A) (hj : A ≤ j) :
    ∃ n1 n2 s1 s2, s = s1 ++ s2 ∧ n = n1 + n2 ∧ In (S.set b x) b A n1 k s1 A ∧ In S b e n2 A s2 j := by
  induction h with
  | refl k =>
    obtain rfl : A = k := by omega
    exact ⟨0, 0, [], [], rfl, rfl, .refl _, .refl _⟩
  | @eps n k m j s st h1 h2 h3 h4 h5 ih =>
    by_cases e : k = A
    · subst e
      exact ⟨0, n + 1, [], s, rfl, by omega, .refl _, .eps h1 h2 h3 h4 h5⟩
    · have h6 := hc k st hk (by omega) h3 m h4
      obtain ⟨n1, n2, s1, s2, e1, e2, e3, e4⟩ := ih h6.1 h6.2 hj
      exact ⟨n1 + 1, n2, s1, s2, e1, by omega, .eps h1 (by omega) (by rw [set_get (by omega)]; exact h3) h4 e3, e4⟩
  | @byte n k j s st c h1 h2 h3 h4 h5 ih =>
    by_cases e : k = A
    · subst e
      exact ⟨0, n + 1, [], c :: s, rfl, by omega, .refl _, .byte h1 h2 h3 h4 h5⟩
    · obtain ⟨n1, n2, s1, s2, e1, e2, e3, e4⟩ := ih (by omega) (by omega) hj
      exact ⟨n1 + 1, n2, c :: s1, s2, by rw [e1]; rfl, by omega, .byte h1 (by omega) (by rw [set_get (by omega)]; exact h3) h4 e3, e4⟩
end Go.Proofs.YteooofakpkbgoaaDoor
/- Patterns, plain: a part's texts are those of the ways through its steps. -/
namespace Go.Proofs.YteooofakpkbgoaaDoor

theorem Star.single {L : Bx → Prop} {s : Bx} (h : L s) : Star L s := by
  have := Star.cons h Star.nil
  simpa using this
theorem addFree_head {S f : List Stp} {b E : Nat} {x : Stp} {g : List Stp} (h : Emb S b (addFree (x :: f) E ++ g)) : S[b]? = some ⟨x.set, x.free ++ [E]⟩ := by
  have := h.left 0 (by simp [addFree])
  simpa [addFree] using this
/-- Behind the first step all is as it was. -/
theorem addFree_rest {S f : List Stp} {b E k : Nat} {x st : Stp} {g : List Stp} (h : Emb S b (addFree (x :: f) E ++ g)) (h1 : b < k) (h2 : k < b + (x :: f).length) (h3 : S[k]? = some st) : st ∈ x :: f := by
  have h4 := emb_at h.left (by omega) (by rw [addFree_length]; exact h2) h3
  obtain ⟨j, hj⟩ : ∃ j, k - b = j + 1 := ⟨k - b - 1, by omega⟩
  rw [hj] at h4
  simp only [addFree, List.getElem?_cons_succ] at h4
  exact List.mem_cons_of_mem _ (List.mem_of_getElem? h4)
/-- Any number of times. -/
theorem star_ways {S f : List Stp} {b A : Nat} {x : Stp} {L : Bx → Prop} (hA : A = b + (x :: f).length) (h : Emb S b (addFree (x :: f) (A + 1) ++ [⟨noSet, [b]⟩]))
    (hc : ∀ st ∈ x :: f, ∀ m ∈ st.free, b < m ∧ m ≤ A) (hL : ∀ s, (∃ n, In (S.set b x) b A n b s A) ↔ L s) (s : Bx) : (∃ n, In S b (A + 1) n b s (A + 1)) ↔ Star L s := by
  have hb := addFree_head h
  have hag : S[A]? = some ⟨noSet, [b]⟩ := by
    have := h.right.head
    rwa [addFree_length, ← hA] at this
  have hbA : b < A := by rw [hA]; simp
  have hc2 : ∀ (k : Nat) (st : Stp), b < k → k < A → S[k]? = some st → ∀ m ∈ st.free, b < m ∧ m ≤ A := fun k st h1 h2 h3 m hm => hc st (addFree_rest h h1 (by omega) h3) m hm
  have hxm : ∀ m ∈ x.free, b < m ∧ m ≤ A := fun m hm => hc x (by simp) m hm
  constructor
  · rintro ⟨n, hn⟩
    induction n using Nat.strongRecOn generalizing s with
    | ind n ih =>
      have back : ∀ (k n' : Nat) (s' : Bx), b < k → k ≤ A → n' < n → In S b (A + 1) n' k s' (A + 1) → ∃ n1 s1 s2, s' = s1 ++ s2 ∧ In (S.set b x) b A n1 k s1 A ∧ Star L s2 := fun k n' s' h1 h2 h3 h4 => by
        obtain ⟨n1, n2, s1, s2, e1, e2, e3, e4⟩ := In.inner (x := x) (by omega) hc2 h4 h1 h2 (by omega)
        cases e4 with
        | @eps n3 _ m _ _ st a1 a2 a3 a4 a5 =>
          rw [hag] at a3
          injection a3 with a3
          subst a3
          simp at a4
          subst a4
          exact ⟨n1, s1, s2, e1, e3, ih n3 (by omega) s2 a5⟩
        | byte a1 a2 a3 a4 a5 =>
          rw [hag] at a3
          injection a3 with a3
          subst a3
          cases a4
      cases hn with
      | refl k => omega
      | @eps n' _ m _ _ st a1 a2 a3 a4 a5 =>
        rw [hb] at a3
        injection a3 with a3
        subst a3
        rcases List.mem_append.1 a4 with a4 | a4
        · obtain ⟨m1, m2⟩ := hxm m a4
          obtain ⟨n1, s1, s2, e1, e2, e3⟩ := back m n' s m1 m2 (by omega) a5
          rw [e1]
          exact .cons ((hL s1).1 ⟨n1 + 1, .eps (Nat.le_refl _) hbA (by rw [List.getElem?_set_self (some_lt hb)]) a4 e2⟩) e3
        · simp at a4
          subst a4
          obtain ⟨rfl, _⟩ := a5.stop (Nat.le_refl _)
          exact .nil
      | @byte n' _ _ s' st c a1 a2 a3 a4 a5 =>
        rw [hb] at a3
        injection a3 with a3
        subst a3
        obtain ⟨n1, s1, s2, e1, e2, e3⟩ := back (b + 1) n' s' (by omega) (by omega) (by omega) a5
        rw [e1]
        exact .cons (s := c :: s1) ((hL (c :: s1)).1 ⟨n1 + 1, .byte (st := x) (Nat.le_refl _) hbA (List.getElem?_set_self (some_lt hb)) (show x.set c = true from a4) e2⟩) e3
  · intro hs
    induction hs with
    | nil => exact ⟨1, .eps (Nat.le_refl _) (by omega) hb (by simp) (.refl _)⟩
    | cons h1 _ ih =>
      obtain ⟨n1, w1⟩ := (hL _).2 h1
      obtain ⟨n2, w2⟩ := ih
      have w3 := (w1.more (more_set hb)).wider (Nat.le_refl b) (show A ≤ A + 1 by omega)
      exact ⟨_, w3.trans (.eps (by omega) (by omega) hag (by simp) w2)⟩
/-- Once and more. -/
theorem plus_ways {S f : List Stp} {b A : Nat} {L : Bx → Prop} (hA : A = b + f.length) (hf : 0 < f.length) (h : Emb S b (f ++ [⟨noSet, [b, A + 1]⟩]))
    (hc : ∀ st ∈ f, ∀ m ∈ st.free, b ≤ m ∧ m ≤ A) (hL : ∀ s, (∃ n, In S b A n b s A) ↔ L s) (s : Bx) : (∃ n, In S b (A + 1) n b s (A + 1)) ↔ ∃ s1 s2, s = s1 ++ s2 ∧ L s1 ∧ Star L s2 := by
  have hag : S[A]? = some ⟨noSet, [b, A + 1]⟩ := by
    have := h.right.head
    rwa [← hA] at this
  have hcl := emb_cl h.left hA hc
  constructor
  · rintro ⟨n, hn⟩
    induction n using Nat.strongRecOn generalizing s with
    | ind n ih =>
      obtain ⟨n1, n2, s1, s2, e1, e2, e3, e4⟩ := In.cut hcl hn (Nat.le_refl _) (by omega) (by omega)
      refine ⟨s1, s2, e1, (hL s1).1 ⟨n1, e3⟩, ?_⟩
      have hn1 : 0 < n1 := by
        cases e3 with
        | refl k => omega
        | eps => omega
        | byte => omega
      cases e4 with
      | @eps n3 _ m _ _ st a1 a2 a3 a4 a5 =>
        rw [hag] at a3
        injection a3 with a3
        subst a3
        simp at a4
        rcases a4 with rfl | rfl
        · obtain ⟨t1, t2, f1, f2, f3⟩ := ih n3 (by omega) s2 a5
          rw [f1]
          exact .cons f2 f3
        · obtain ⟨rfl, _⟩ := a5.stop (Nat.le_refl _)
          exact .nil
      | byte a1 a2 a3 a4 a5 =>
        rw [hag] at a3
        injection a3 with a3
        subst a3
        cases a4
  · rintro ⟨s1, s2, rfl, h1, h2⟩
    obtain ⟨n1, w1⟩ := (hL s1).2 h1
    have w1' := w1.wider (Nat.le_refl b) (show A ≤ A + 1 by omega)
    have hst : ∃ n, In S b (A + 1) n A s2 (A + 1) := by
      clear w1 w1' h1
      induction h2 with
      | nil => exact ⟨1, .eps (by omega) (by omega) hag (by simp) (.refl _)⟩
      | cons g1 _ ih =>
        obtain ⟨n2, w2⟩ := (hL _).2 g1
        obtain ⟨n3, w3⟩ := ih
        exact ⟨_, .eps (by omega) (by omega) hag (by simp) ((w2.wider (Nat.le_refl b) (show A ≤ A + 1 by omega)).trans w3)⟩
    obtain ⟨n2, w2⟩ := hst
    exact ⟨_, w1'.trans w2⟩
/-- Once or not. -/
theorem opt_ways {S f : List Stp} {b A : Nat} {x : Stp} {L : Bx → Prop} (hA : A = b + (x :: f).length) (h : Emb S b (addFree (x :: f) A))
    (hc : ∀ st ∈ x :: f, ∀ m ∈ st.free, b < m ∧ m ≤ A) (hL : ∀ s, (∃ n, In (S.set b x) b A n b s A) ↔ L s) (s : Bx) : (∃ n, In S b A n b s A) ↔ s = [] ∨ L s := by
  have h' : Emb S b (addFree (x :: f) A ++ []) := by rw [List.append_nil]; exact h
  have hb := addFree_head h'
  have hbA : b < A := by rw [hA]; simp
  have hc2 : ∀ (k : Nat) (st : Stp), b < k → k < A → S[k]? = some st → ∀ m ∈ st.free, b < m ∧ m ≤ A := fun k st h1 h2 h3 m hm => hc st (addFree_rest h' h1 (by omega) h3) m hm
  have back : ∀ (k n' : Nat) (s' : Bx), b < k → k ≤ A → In S b A n' k s' A → ∃ n1, In (S.set b x) b A n1 k s' A := fun k n' s' h1 h2 h4 => by
    obtain ⟨n1, n2, s1, s2, e1, e2, e3, e4⟩ := In.inner (x := x) (Nat.le_refl _) hc2 h4 h1 h2 (Nat.le_refl _)
    obtain ⟨rfl, _⟩ := e4.stop (Nat.le_refl _)
    rw [List.append_nil] at e1
    exact ⟨n1, by rw [e1]; exact e3⟩
  constructor
  · rintro ⟨n, hn⟩
    cases hn with
    | refl k => omega
    | @eps n' _ m _ _ st a1 a2 a3 a4 a5 =>
      rw [hb] at a3
      injection a3 with a3
      subst a3
      rcases List.mem_append.1 a4 with a4 | a4
      · obtain ⟨m1, m2⟩ := hc x (by simp) m a4
        obtain ⟨n1, e2⟩ := back m n' s m1 m2 a5
        exact .inr ((hL s).1 ⟨n1 + 1, .eps (Nat.le_refl _) hbA (by rw [List.getElem?_set_self (some_lt hb)]) a4 e2⟩)
      · simp at a4
        subst a4
        exact .inl (a5.stop (Nat.le_refl _)).1
    | @byte n' _ _ s' st c a1 a2 a3 a4 a5 =>
      rw [hb] at a3
      injection a3 with a3
      subst a3
      obtain ⟨n1, e2⟩ := back (b + 1) n' s' (by omega) (by omega) a5
      exact .inr ((hL (c :: s')).1 ⟨n1 + 1, .byte (st := x) (Nat.le_refl _) hbA (List.getElem?_set_self (some_lt hb)) (show x.set c = true from a4) e2⟩)
  · rintro (rfl | hs)
    · exact ⟨1, .eps (Nat.le_refl _) hbA hb (by simp) (.refl _)⟩
    · obtain ⟨n1, w1⟩ := (hL _).2 hs
      exact ⟨n1, w1.more (more_set hb)⟩
end Go.Proofs.YteooofakpkbgoaaDoor
/- Patterns, plain: the ways through the steps of a pattern have just the pattern's texts. -/
namespace Go.Proofs.YteooofakpkbgoaaDoor

/-- A way through one alternative ends by its last step. -/
theorem alt_ways {S : List Stp} {b A e E n : Nat} {s : Bx} (hcl : Cl S b A) (hag : S[A]? = some ⟨noSet, [E]⟩) (hbA : b ≤ A) (hAe : A < e) (hE : e ≤ E) (h : In S b e n b s E) : ∃ n1, In S b A n1 b s A := by
  obtain ⟨n1, n2, s1, s2, e1, e2, e3, e4⟩ := In.cut hcl h (Nat.le_refl _) hbA (by omega)
  have hs2 : s2 = [] := by
    cases e4 with
    | refl k => rfl
    | @eps n3 _ m _ _ st a1 a2 a3 a4 a5 =>
      rw [hag] at a3
      injection a3 with a3
      subst a3
      simp at a4
      subst a4
      exact (a5.stop hE).1
    | byte a1 a2 a3 a4 a5 =>
      rw [hag] at a3
      injection a3 with a3
      subst a3
      cases a4
  subst hs2
  rw [List.append_nil] at e1
  exact ⟨n1, by rw [e1]; exact e3⟩
theorem emb_mem {S f : List Stp} {b k : Nat} {st : Stp} (h : Emb S b f) (h1 : b ≤ k) (h2 : k < b + f.length) (h3 : S[k]? = some st) : st ∈ f := List.mem_of_getElem? (emb_at h h1 h2 h3)
mutual
theorem waysR (r : Re) (S : List Stp) (b : Nat) (ho : okR r) (h : Emb S b (stR r b)) (s : Bx) : (∃ n, In S b (b + lenR r) n b s (b + lenR r)) ↔ langR r s := by
  cases r with
  | set p =>
    rw [stR] at h
    have hb := h.head
    rw [langR, lenR]
    constructor
    · rintro ⟨n, hn⟩
      generalize hE : b + 1 = E at hn
      cases hn with
      | refl k => omega
      | @eps n' _ m _ _ st a1 a2 a3 a4 a5 =>
        rw [hb] at a3
        injection a3 with a3
        subst a3
        cases a4
      | @byte n' _ _ s' st c a1 a2 a3 a4 a5 =>
        rw [hb] at a3
        injection a3 with a3
        subst a3
        obtain ⟨rfl, _⟩ := a5.stop (by omega)
        exact ⟨c, rfl, a4⟩
    · rintro ⟨c, rfl, hc⟩
      exact ⟨1, .byte (Nat.le_refl _) (by omega) hb hc (.refl _)⟩
  | grp a =>
    rw [stR] at h
    have hb := h.head
    have ht := h.tail
    have hA := waysA a S (b + 1) (b + 1 + lenA a) (Nat.le_refl _) (by rw [okR] at ho; exact ho) ht s
    rw [langR, lenR, ← hA, show b + (1 + lenA a) = b + 1 + lenA a by omega]
    have hbE : b < b + 1 + lenA a := by omega
    constructor
    · rintro ⟨n, hn⟩
      generalize hE : b + 1 + lenA a = E at hn hbE ht ⊢
      cases hn with
      | refl k => omega
      | @eps n' _ m _ _ st a1 a2 a3 a4 a5 =>
        rw [hb] at a3
        injection a3 with a3
        subst a3
        have hm := starts_mem a4
        refine ⟨n', m, a4, In.right (fun k st h1 h2 h3 x hx => ?_) a5 hm.1⟩
        have := clA a (b + 1) E st (emb_mem ht h1 (by rw [stA_length]; omega) h3) x hx
        omega
      | @byte n' _ _ s' st c a1 a2 a3 a4 a5 =>
        rw [hb] at a3
        injection a3 with a3
        subst a3
        cases a4
    · rintro ⟨n, m, hm, w⟩
      exact ⟨n + 1, .eps (Nat.le_refl _) hbE hb hm (w.wider (by omega) (Nat.le_refl _))⟩
  | star r =>
    obtain ⟨x, f, hf⟩ := stR_cons r b
    have hlen := stR_length r b
    rw [okR] at ho
    have hc := cl1R r b ho.1
    have ih := fun (S : List Stp) (h : Emb S b (stR r b)) (s : Bx) => waysR r S b ho.2 h s
    rw [hf] at hlen hc ih
    rw [stR, hf] at h
    rw [langR, lenR]
    exact star_ways (by rw [hlen]) h hc (fun s => ih _ (addFree_emb h.left (some_lt (addFree_head h))) s) s
  | plus r =>
    rw [okR] at ho
    rw [stR] at h
    rw [langR, lenR]
    exact plus_ways (by rw [stR_length]) (by rw [stR_length]; exact lenR_pos r) h (clR r b) (fun s => waysR r S b ho.2 h.left s) s
  | opt r =>
    obtain ⟨x, f, hf⟩ := stR_cons r b
    have hlen := stR_length r b
    rw [okR] at ho
    have hc := cl1R r b ho.1
    have ih := fun (S : List Stp) (h : Emb S b (stR r b)) (s : Bx) => waysR r S b ho.2 h s
    rw [hf] at hlen hc ih
    rw [stR, hf] at h
    rw [langR, lenR]
    have h' : Emb S b (addFree (x :: f) (b + lenR r) ++ []) := by rw [List.append_nil]; exact h
    exact opt_ways (by rw [hlen]) h hc (fun s => ih _ (addFree_emb h (some_lt (addFree_head h'))) s) s
theorem waysA (a : Al) (S : List Stp) (b E : Nat) (hE : b + lenA a ≤ E) (ho : okA a) (h : Emb S b (stA a b E)) (s : Bx) : (∃ n, ∃ m ∈ startsA a b, In S b (b + lenA a) n m s E) ↔ langA a s := by
  cases a with
  | one q =>
    rw [stA] at h
    rw [okA] at ho
    rw [lenA] at hE ⊢
    rw [langA, startsA]
    have hq := waysS q S b ho h.left s
    have hag := h.right.head
    rw [stS_length] at hag
    have hcl : Cl S b (b + lenS q) := emb_cl h.left (by rw [stS_length]) (clS q b)
    rw [← hq]
    constructor
    · rintro ⟨n, m, hm, w⟩
      obtain rfl : m = b := by simpa using hm
      exact alt_ways hcl hag (by omega) (by omega) hE w
    · rintro ⟨n, w⟩
      exact ⟨n + 1, b, by simp, by have := (w.wider (Nat.le_refl b) (show b + lenS q ≤ b + (lenS q + 1) by omega)).trans (.eps (m := E) (by omega) (by omega) hag (by simp) (.refl _)); rwa [List.append_nil] at this⟩
  | more q a =>
    rw [stA] at h
    rw [okA] at ho
    rw [lenA] at hE ⊢
    rw [langA, startsA]
    have hq := waysS q S b ho.1 h.left s
    have hag := h.right.head
    have ht := h.right.tail
    rw [stS_length] at hag ht
    have ha := waysA a S (b + lenS q + 1) E (by omega) ho.2 ht s
    have hcl : Cl S b (b + lenS q) := emb_cl h.left (by rw [stS_length]) (clS q b)
    rw [← hq, ← ha]
    constructor
    · rintro ⟨n, m, hm, w⟩
      rcases List.mem_cons.1 hm with rfl | hm
      · exact .inl (alt_ways hcl hag (by omega) (by omega) hE w)
      · have hm1 := starts_mem hm
        rw [show b + (lenS q + 1 + lenA a) = b + lenS q + 1 + lenA a by omega] at w
        refine .inr ⟨n, m, hm, In.right (fun k st h1 h2 h3 x hx => ?_) w hm1.1⟩
        have := clA a (b + lenS q + 1) E st (emb_mem ht h1 (by rw [stA_length]; omega) h3) x hx
        omega
    · rintro (⟨n, w⟩ | ⟨n, m, hm, w⟩)
      · exact ⟨n + 1, b, by simp, by have := (w.wider (Nat.le_refl b) (show b + lenS q ≤ b + (lenS q + 1 + lenA a) by omega)).trans (.eps (m := E) (by omega) (by omega) hag (by simp) (.refl _)); rwa [List.append_nil] at this⟩
      · exact ⟨n, m, by simp [hm], w.wider (by omega) (by omega)⟩
theorem waysS (q : Sq) (S : List Stp) (b : Nat) (ho : okS q) (h : Emb S b (stS q b)) (s : Bx) : (∃ n, In S b (b + lenS q) n b s (b + lenS q)) ↔ langS q s := by
  cases q with
  | nil =>
    rw [lenS, langS]
    constructor
    · rintro ⟨n, w⟩
      exact (w.stop (by omega)).1
    · rintro rfl
      exact ⟨0, .refl _⟩
  | cons r q =>
    rw [stS] at h
    rw [okS] at ho
    have hr := waysR r S b ho.1 h.left
    have hem := h.right
    rw [stR_length] at hem
    have hq := waysS q S (b + lenR r) ho.2 hem
    have hcl : Cl S b (b + lenR r) := emb_cl h.left (by rw [stR_length]) (clR r b)
    rw [lenS, langS, show b + (lenR r + lenS q) = b + lenR r + lenS q by omega]
    constructor
    · rintro ⟨n, w⟩
      obtain ⟨n1, n2, s1, s2, e1, e2, e3, e4⟩ := In.cut hcl w (Nat.le_refl _) (by omega) (by omega)
      refine ⟨s1, s2, e1, (hr s1).1 ⟨n1, e3⟩, (hq s2).1 ⟨n2, In.right (fun k st h1 h2 h3 x hx => ?_) e4 (Nat.le_refl _)⟩⟩
      exact (clS q (b + lenR r) st (emb_mem hem h1 (by rw [stS_length]; omega) h3) x hx).1
    · rintro ⟨s1, s2, rfl, h1, h2⟩
      obtain ⟨n1, w1⟩ := (hr s1).2 h1
      obtain ⟨n2, w2⟩ := (hq s2).2 h2
      exact ⟨_, (w1.wider (Nat.le_refl _) (by omega)).trans (w2.wider (by omega) (Nat.le_refl _))⟩
end
end Go.Proofs.YteooofakpkbgoaaDoor
/- Patterns, plain: the steps that a text leads to, byte by byte; what is reached without a byte, one after the other. -/
namespace Go.Proofs.YteooofakpkbgoaaDoor

def Eps (S : List Stp) (k j : Nat) : Prop := ∃ n, In S 0 S.length n k [] j
/-- The text leads from the first step to step k. -/
def At (S : List Stp) (s : Bx) (k : Nat) : Prop := ∃ n, In S 0 S.length n 0 s k
def Suc (S : List Stp) (k m : Nat) : Prop := ∃ st, S[k]? = some st ∧ m ∈ st.free
theorem In.split {S : List Stp} {b e n k j : Nat} {u : Bx} (h : In S b e n k u j) : ∀ s t, u = s ++ t → ∃ i n1 n2, In S b e n1 k s i ∧ In S b e n2 i t j := by
  induction h with
  | refl k =>
    intro s t e
    obtain ⟨rfl, rfl⟩ := List.append_eq_nil_iff.1 e.symm
    exact ⟨k, 0, 0, .refl _, .refl _⟩
  | eps h1 h2 h3 h4 _ ih =>
    intro s t e
    obtain ⟨i, n1, n2, a1, a2⟩ := ih s t e
    exact ⟨i, n1 + 1, n2, .eps h1 h2 h3 h4 a1, a2⟩
  | @byte n k j u st c h1 h2 h3 h4 h5 ih =>
    intro s t e
    cases s with
    | nil => exact ⟨k, 0, n + 1, .refl _, by rw [List.nil_append] at e; rw [← e]; exact .byte h1 h2 h3 h4 h5⟩
    | cons d s =>
      simp at e
      obtain ⟨rfl, e⟩ := e
      obtain ⟨i, n1, n2, a1, a2⟩ := ih s t e
      exact ⟨i, n1 + 1, n2, .byte h1 h2 h3 h4 a1, a2⟩
theorem In.over {S : List Stp} {b e n k j : Nat} {u : Bx} (h : In S b e n k u j) : ∀ c t, u = c :: t → ∃ i st n1 n2, In S b e n1 k [] i ∧ S[i]? = some st ∧ st.set c = true ∧ In S b e n2 (i + 1) t j := by
  induction h with
  | refl k => intro c t e; cases e
  | eps h1 h2 h3 h4 _ ih =>
    intro c t e
    obtain ⟨i, st, n1, n2, a1, a2, a3, a4⟩ := ih c t e
    exact ⟨i, st, n1 + 1, n2, .eps h1 h2 h3 h4 a1, a2, a3, a4⟩
  | @byte n k j u st d h1 h2 h3 h4 h5 ih =>
    intro c t e
    injection e with e1 e2
    subst e1 e2
    exact ⟨k, st, 0, n, .refl _, h3, h4, h5⟩
theorem at_over {S : List Stp} {s t : Bx} {c : UInt8} {k : Nat} (h : At S (s ++ c :: t) k) : ∃ j st, At S s j ∧ S[j]? = some st ∧ st.set c = true ∧ ∃ n, In S 0 S.length n (j + 1) t k := by
  obtain ⟨n, h⟩ := h
  obtain ⟨i, n1, n2, a1, a2⟩ := h.split s (c :: t) rfl
  obtain ⟨j, st, m1, m2, b1, b2, b3, b4⟩ := a2.over c t rfl
  have := a1.trans b1
  rw [List.append_nil] at this
  exact ⟨j, st, ⟨_, this⟩, b2, b3, _, b4⟩
theorem at_snoc {S : List Stp} {s : Bx} {c : UInt8} {k : Nat} : At S (s ++ [c]) k ↔ ∃ j st, At S s j ∧ S[j]? = some st ∧ st.set c = true ∧ Eps S (j + 1) k := by
  constructor
  · intro h
    exact at_over h
  · rintro ⟨j, st, ⟨n, h1⟩, h2, h3, ⟨m, h4⟩⟩
    exact ⟨_, h1.trans (.byte (Nat.zero_le _) (some_lt h2) h2 h3 h4)⟩
theorem Eps.refl {S : List Stp} (k : Nat) : Eps S k k := ⟨0, .refl _⟩
theorem Suc.eps {S : List Stp} {k m j : Nat} (h : Suc S k m) (h' : Eps S m j) : Eps S k j := by
  obtain ⟨st, h1, h2⟩ := h
  obtain ⟨n, h3⟩ := h'
  exact ⟨n + 1, .eps (Nat.zero_le _) (some_lt h1) h1 h2 h3⟩
/-- A set with all that it leads to without a byte. -/
def Shut (S : List Stp) (R : Nat → Prop) : Prop := ∀ k, R k → ∀ m, Suc S k m → R m
theorem Shut.eps {S : List Stp} {R : Nat → Prop} (h : Shut S R) {k j : Nat} (hk : R k) (he : Eps S k j) : R j := by
  obtain ⟨n, he⟩ := he
  have : ∀ {n k j : Nat} {u : Bx}, In S 0 S.length n k u j → u = [] → R k → R j := fun {n k j u} hi => by
    induction hi with
    | refl k => exact fun _ hk => hk
    | eps h1 h2 h3 h4 _ ih => exact fun e hk => ih e (h _ hk _ ⟨_, h3, h4⟩)
    | byte => exact fun e => by cases e
  exact this he rfl hk
/-- What a search from k on finds: R1, of which R0 was there. -/
structure Rch (S : List Stp) (R0 : Nat → Prop) (k : Nat) (R1 : Nat → Prop) : Prop where
  sub : ∀ j, R0 j → R1 j
  here : R1 k
  new : ∀ j, R1 j → R0 j ∨ Eps S k j
  shut : ∀ j, R1 j → R0 j ∨ ∀ m, Suc S j m → R1 m
/-- .. on its way, with the first ones of k's followers done. -/
structure RchL (S : List Stp) (R0 : Nat → Prop) (k : Nat) (l : List Nat) (R : Nat → Prop) : Prop where
  sub : ∀ j, R0 j → R j
  here : R k
  new : ∀ j, R j → R0 j ∨ Eps S k j
  shut : ∀ j, R j → R0 j ∨ j = k ∨ ∀ m, Suc S j m → R m
  done : ∀ m ∈ l, R m
theorem rch_hit {S : List Stp} {R : Nat → Prop} {k : Nat} (h : R k) : Rch S R k R := ⟨fun _ h => h, h, fun _ h => .inl h, fun _ h => .inl h⟩
theorem rchL_start (S : List Stp) (R : Nat → Prop) (k : Nat) : RchL S R k [] (fun j => R j ∨ j = k) :=
  ⟨fun _ h => .inl h, .inr rfl, fun j h => h.elim .inl (fun e => by subst e; exact .inr (.refl _)), fun j h => h.elim .inl (fun e => .inr (.inl e)), fun _ h => by cases h⟩
theorem RchL.step {S : List Stp} {R0 R R' : Nat → Prop} {k m : Nat} {l : List Nat} (h : RchL S R0 k l R) (hm : Suc S k m) (h' : Rch S R m R') : RchL S R0 k (l ++ [m]) R' :=
  ⟨fun j hj => h'.sub j (h.sub j hj), h'.sub k h.here, fun j hj => (h'.new j hj).elim (h.new j) (fun e => .inr (hm.eps e)),
   fun j hj => (h'.shut j hj).elim (fun a => (h.shut j a).elim .inl (fun b => b.elim (fun e => .inr (.inl e)) (fun c => .inr (.inr fun m' hm' => h'.sub _ (c m' hm'))))) (fun c => .inr (.inr c)),
   fun m' hm' => (List.mem_append.1 hm').elim (fun a => h'.sub _ (h.done _ a)) (fun a => by rw [List.mem_singleton.1 a]; exact h'.here)⟩
theorem RchL.stop {S : List Stp} {R0 R : Nat → Prop} {k : Nat} {l : List Nat} (h : RchL S R0 k l R) (hl : ∀ m, Suc S k m → m ∈ l) : Rch S R0 k R :=
  ⟨h.sub, h.here, h.new, fun j hj => (h.shut j hj).elim .inl (fun b => .inr (b.elim (fun e => by subst e; exact fun m hm => h.done m (hl m hm)) (fun c => c)))⟩
theorem Rch.all {S : List Stp} {R0 R1 : Nat → Prop} {k : Nat} (h0 : Shut S R0) (h : Rch S R0 k R1) : Shut S R1 ∧ ∀ j, R1 j ↔ R0 j ∨ Eps S k j := by
  have hs : Shut S R1 := fun j hj m hm => (h.shut j hj).elim (fun a => h.sub m (h0 j a m hm)) (fun c => c m hm)
  exact ⟨hs, fun j => ⟨h.new j, fun e => e.elim (h.sub j) (fun e => hs.eps h.here e)⟩⟩
/-- The steps of a whole pattern. -/
theorem runs {a : Al} (ho : okA a) (s : Bx) : At (stR (.grp a) 0) s (stR (.grp a) 0).length ↔ langA a s := by
  have h := waysR (.grp a) (stR (.grp a) 0) 0 (by rw [okR]; exact ho) (fun i _ => by rw [Nat.zero_add]) s
  rw [langR, Nat.zero_add, ← stR_length (.grp a) 0] at h
  exact h
end Go.Proofs.YteooofakpkbgoaaDoor
/- Patterns, plain: the ways that never lead back, and their texts. -/
namespace Go.Proofs.YteooofakpkbgoaaDoor

mutual
/-- The texts of the ways that never lead back. -/
def fwR : Re → Bx → Prop
  | .set p, s => ∃ c, s = [c] ∧ p c = true
  | .grp a, s => fwA a s
  | .star _, s => s = []
  | .plus r, s => fwR r s
  | .opt r, s => s = [] ∨ fwR r s
def fwA : Al → Bx → Prop
  | .one q, s => fwS q s
  | .more q a, s => fwS q s ∨ fwA a s
def fwS : Sq → Bx → Prop
  | .nil, s => s = []
  | .cons r q, s => ∃ s1 s2, s = s1 ++ s2 ∧ fwR r s1 ∧ fwS q s2
end
/-- Of step k on: only what leads on. -/
def fwd : Nat → List Stp → List Stp
  | _, [] => []
  | k, s :: l => ⟨s.set, s.free.filter (fun m => decide (k < m))⟩ :: fwd (k + 1) l
mutual
def sfR : Re → Nat → List Stp
  | .set p, _ => [⟨p, []⟩]
  | .grp a, b => ⟨noSet, startsA a (b + 1)⟩ :: sfA a (b + 1) (b + 1 + lenA a)
  | .star r, b => addFree (sfR r b) (b + lenR r + 1) ++ [⟨noSet, []⟩]
  | .plus r, b => sfR r b ++ [⟨noSet, [b + lenR r + 1]⟩]
  | .opt r, b => addFree (sfR r b) (b + lenR r)
def sfA : Al → Nat → Nat → List Stp
  | .one q, b, E => sfS q b ++ [⟨noSet, [E]⟩]
  | .more q a, b, E => sfS q b ++ ⟨noSet, [E]⟩ :: sfA a (b + lenS q + 1) E
def sfS : Sq → Nat → List Stp
  | .nil, _ => []
  | .cons r q, b => sfR r b ++ sfS q (b + lenR r)
end
theorem fwd_length (k : Nat) (l : List Stp) : (fwd k l).length = l.length := by
  induction l generalizing k with
  | nil => rfl
  | cons s l ih => simp [fwd, ih]
theorem fwd_append (k : Nat) (l m : List Stp) : fwd k (l ++ m) = fwd k l ++ fwd (k + l.length) m := by
  induction l generalizing k with
  | nil => simp [fwd]
  | cons s l ih => simp only [List.cons_append, fwd, ih, List.length_cons]; rw [show k + 1 + l.length = k + (l.length + 1) by omega]
theorem fwd_addFree {k E : Nat} (l : List Stp) (h : k < E) : fwd k (addFree l E) = addFree (fwd k l) E := by
  cases l with
  | nil => rfl
  | cons s l => simp [addFree, fwd, List.filter_append, h]
theorem filter_all {l : List Nat} {k : Nat} (h : ∀ m ∈ l, k < m) : l.filter (fun m => decide (k < m)) = l := List.filter_eq_self.2 (fun m hm => by simp [h m hm])
theorem fwd_one {k : Nat} (p : UInt8 → Bool) {l : List Nat} (h : ∀ m ∈ l, k < m) : fwd k [⟨p, l⟩] = [⟨p, l⟩] := by simp only [fwd, filter_all h]
mutual
theorem fwd_stR (r : Re) (b : Nat) : fwd b (stR r b) = sfR r b := by
  cases r with
  | set p => rfl
  | grp a =>
    rw [stR, sfR, fwd, fwd_stA a (b + 1) (b + 1 + lenA a) (Nat.le_refl _), filter_all fun m hm => ?_]
    have := starts_mem hm
    omega
  | star r =>
    have := lenR_pos r
    rw [stR, sfR, fwd_append, fwd_addFree _ (by omega), fwd_stR r, addFree_length, stR_length]
    simp [fwd]
  | plus r =>
    have := lenR_pos r
    rw [stR, sfR, fwd_append, fwd_stR r, stR_length]
    simp [fwd]
  | opt r =>
    have := lenR_pos r
    rw [stR, sfR, fwd_addFree _ (by omega), fwd_stR r]
theorem fwd_stA (a : Al) (b E : Nat) (hE : b + lenA a ≤ E) : fwd b (stA a b E) = sfA a b E := by
  cases a with
  | one q =>
    rw [lenA] at hE
    rw [stA, sfA, fwd_append, fwd_stS q, stS_length, fwd_one _ fun m hm => ?_]
    rw [List.mem_singleton.1 hm]
    omega
  | more q a =>
    rw [lenA] at hE
    rw [stA, sfA, fwd_append, fwd_stS q, stS_length, fwd, fwd_stA a _ E (by omega), filter_all fun m hm => ?_]
    rw [List.mem_singleton.1 hm]
    omega
theorem fwd_stS (q : Sq) (b : Nat) : fwd b (stS q b) = sfS q b := by
  cases q with
  | nil => rfl
  | cons r q => rw [stS, sfS, fwd_append, fwd_stR r, stR_length, fwd_stS q]
end
theorem sfR_length (r : Re) (b : Nat) : (sfR r b).length = lenR r := by rw [← fwd_stR, fwd_length, stR_length]
theorem sfS_length (q : Sq) (b : Nat) : (sfS q b).length = lenS q := by rw [← fwd_stS, fwd_length, stS_length]
theorem fwd_mem {k : Nat} {l : List Stp} {st : Stp} (h : st ∈ fwd k l) : ∃ st0 ∈ l, ∀ m ∈ st.free, m ∈ st0.free := by
  induction l generalizing k with
  | nil => cases h
  | cons s l ih =>
    rw [fwd] at h
    rcases List.mem_cons.1 h with rfl | h
    · exact ⟨s, by simp, fun m hm => (List.mem_filter.1 hm).1⟩
    · obtain ⟨st0, h0, h1⟩ := ih h
      exact ⟨st0, by simp [h0], h1⟩
theorem clFR (r : Re) (b : Nat) : ∀ st ∈ sfR r b, ∀ m ∈ st.free, b ≤ m ∧ m ≤ b + lenR r := by
  intro st h m hm
  rw [← fwd_stR] at h
  obtain ⟨st0, h0, h1⟩ := fwd_mem h
  exact clR r b st0 h0 m (h1 m hm)
theorem clFS (q : Sq) (b : Nat) : ∀ st ∈ sfS q b, ∀ m ∈ st.free, b ≤ m ∧ m ≤ b + lenS q := by
  intro st h m hm
  rw [← fwd_stS] at h
  obtain ⟨st0, h0, h1⟩ := fwd_mem h
  exact clS q b st0 h0 m (h1 m hm)
theorem clFA (a : Al) (b E : Nat) (hE : b + lenA a ≤ E) : ∀ st ∈ sfA a b E, ∀ m ∈ st.free, (b ≤ m ∧ m ≤ b + lenA a) ∨ m = E := by
  intro st h m hm
  rw [← fwd_stA a b E hE] at h
  obtain ⟨st0, h0, h1⟩ := fwd_mem h
  exact clA a b E st0 h0 m (h1 m hm)
theorem cl1FR (r : Re) (b : Nat) (ha : atomR r) : ∀ st ∈ sfR r b, ∀ m ∈ st.free, b < m ∧ m ≤ b + lenR r := by
  intro st h m hm
  rw [← fwd_stR] at h
  obtain ⟨st0, h0, h1⟩ := fwd_mem h
  exact cl1R r b ha st0 h0 m (h1 m hm)
theorem sfR_cons (r : Re) (b : Nat) : ∃ x f, sfR r b = x :: f := by
  obtain ⟨x, f, h⟩ := stR_cons r b
  exact ⟨_, _, by rw [← fwd_stR, h, fwd]⟩
/-- Any number of times, without a way back: not at all. -/
theorem star_fw {S f : List Stp} {b A : Nat} {x : Stp} (hA : A = b + (x :: f).length) (h : Emb S b (addFree (x :: f) (A + 1) ++ [⟨noSet, []⟩]))
    (hc : ∀ st ∈ x :: f, ∀ m ∈ st.free, b < m ∧ m ≤ A) (s : Bx) : (∃ n, In S b (A + 1) n b s (A + 1)) ↔ s = [] := by
  have hb := addFree_head h
  have hag : S[A]? = some ⟨noSet, []⟩ := by
    have := h.right.head
    rwa [addFree_length, ← hA] at this
  have hbA : b < A := by rw [hA]; simp
  have hc2 : ∀ (k : Nat) (st : Stp), b < k → k < A → S[k]? = some st → ∀ m ∈ st.free, b < m ∧ m ≤ A := fun k st h1 h2 h3 m hm => hc st (addFree_rest h h1 (by omega) h3) m hm
  have back : ∀ (k n' : Nat) (s' : Bx), b < k → k ≤ A → In S b (A + 1) n' k s' (A + 1) → False := fun k n' s' h1 h2 h4 => by
    obtain ⟨n1, n2, s1, s2, e1, e2, e3, e4⟩ := In.inner (x := x) (by omega) hc2 h4 h1 h2 (by omega)
    cases e4 with
    | eps a1 a2 a3 a4 a5 =>
      rw [hag] at a3
      injection a3 with a3
      subst a3
      cases a4
    | byte a1 a2 a3 a4 a5 =>
      rw [hag] at a3
      injection a3 with a3
      subst a3
      cases a4
  constructor
  · rintro ⟨n, hn⟩
    cases hn with
    | refl k => omega
    | @eps n' _ m _ _ st a1 a2 a3 a4 a5 =>
      rw [hb] at a3
      injection a3 with a3
      subst a3
      rcases List.mem_append.1 a4 with a4 | a4
      · obtain ⟨m1, m2⟩ := hc x (by simp) m a4
        exact (back m n' s m1 m2 a5).elim
      · simp at a4
        subst a4
        exact (a5.stop (Nat.le_refl _)).1
    | @byte n' _ _ s' st c a1 a2 a3 a4 a5 => exact (back (b + 1) n' s' (by omega) (by omega) a5).elim
  · rintro rfl
    exact ⟨1, .eps (Nat.le_refl _) (by omega) hb (by simp) (.refl _)⟩
/-- Once and more, without a way back: once. -/
theorem plus_fw {S f : List Stp} {b A : Nat} {L : Bx → Prop} (hA : A = b + f.length) (h : Emb S b (f ++ [⟨noSet, [A + 1]⟩]))
    (hc : ∀ st ∈ f, ∀ m ∈ st.free, b ≤ m ∧ m ≤ A) (hL : ∀ s, (∃ n, In S b A n b s A) ↔ L s) (s : Bx) : (∃ n, In S b (A + 1) n b s (A + 1)) ↔ L s := by
  have hag : S[A]? = some ⟨noSet, [A + 1]⟩ := by
    have := h.right.head
    rwa [← hA] at this
  rw [← hL]
  constructor
  · rintro ⟨n, hn⟩
    exact alt_ways (emb_cl h.left hA hc) hag (by omega) (by omega) (Nat.le_refl _) hn
  · rintro ⟨n, hn⟩
    have := (hn.wider (Nat.le_refl b) (show A ≤ A + 1 by omega)).trans (.eps (m := A + 1) (by omega) (by omega) hag (by simp) (.refl _))
    rw [List.append_nil] at this
    exact ⟨_, this⟩
theorem sfA_length (a : Al) (b E : Nat) (hE : b + lenA a ≤ E) : (sfA a b E).length = lenA a := by rw [← fwd_stA a b E hE, fwd_length, stA_length]
mutual
theorem fwaysR (r : Re) (S : List Stp) (b : Nat) (ho : okR r) (h : Emb S b (sfR r b)) (s : Bx) : (∃ n, In S b (b + lenR r) n b s (b + lenR r)) ↔ fwR r s := by
  cases r with
  | set p =>
    rw [sfR] at h
    have hb := h.head
    rw [fwR, lenR]
    constructor
    · rintro ⟨n, hn⟩
      generalize hE : b + 1 = E at hn
      cases hn with
      | refl k => omega
      | @eps n' _ m _ _ st a1 a2 a3 a4 a5 =>
        rw [hb] at a3
        injection a3 with a3
        subst a3
        cases a4
      | @byte n' _ _ s' st c a1 a2 a3 a4 a5 =>
        rw [hb] at a3
        injection a3 with a3
        subst a3
        obtain ⟨rfl, _⟩ := a5.stop (by omega)
        exact ⟨c, rfl, a4⟩
    · rintro ⟨c, rfl, hc⟩
      exact ⟨1, .byte (Nat.le_refl _) (by omega) hb hc (.refl _)⟩
  | grp a =>
    rw [sfR] at h
    have hb := h.head
    have ht := h.tail
    have hA := fwaysA a S (b + 1) (b + 1 + lenA a) (Nat.le_refl _) (by rw [okR] at ho; exact ho) ht s
    rw [fwR, lenR, ← hA, show b + (1 + lenA a) = b + 1 + lenA a by omega]
    have hbE : b < b + 1 + lenA a := by omega
    constructor
    · rintro ⟨n, hn⟩
      generalize hE : b + 1 + lenA a = E at hn hbE ht ⊢
      cases hn with
      | refl k => omega
      | @eps n' _ m _ _ st a1 a2 a3 a4 a5 =>
        rw [hb] at a3
        injection a3 with a3
        subst a3
        have hm := starts_mem a4
        refine ⟨n', m, a4, In.right (fun k st h1 h2 h3 x hx => ?_) a5 hm.1⟩
        have := clFA a (b + 1) E (by omega) st (emb_mem ht h1 (by rw [sfA_length _ _ _ (by omega)]; omega) h3) x hx
        omega
      | @byte n' _ _ s' st c a1 a2 a3 a4 a5 =>
        rw [hb] at a3
        injection a3 with a3
        subst a3
        cases a4
    · rintro ⟨n, m, hm, w⟩
      exact ⟨n + 1, .eps (Nat.le_refl _) hbE hb hm (w.wider (by omega) (Nat.le_refl _))⟩
  | star r =>
    obtain ⟨x, f, hf⟩ := sfR_cons r b
    have hlen := sfR_length r b
    rw [okR] at ho
    have hc := cl1FR r b ho.1
    rw [hf] at hlen hc
    rw [sfR, hf] at h
    rw [fwR, lenR]
    exact star_fw (by rw [hlen]) h hc s
  | plus r =>
    rw [okR] at ho
    rw [sfR] at h
    rw [fwR, lenR]
    exact plus_fw (by rw [sfR_length]) h (clFR r b) (fun s => fwaysR r S b ho.2 h.left s) s
  | opt r =>
    obtain ⟨x, f, hf⟩ := sfR_cons r b
    have hlen := sfR_length r b
    rw [okR] at ho
    have hc := cl1FR r b ho.1
    have ih := fun (S : List Stp) (h : Emb S b (sfR r b)) (s : Bx) => fwaysR r S b ho.2 h s
    rw [hf] at hlen hc ih
    rw [sfR, hf] at h
    rw [fwR, lenR]
    have h' : Emb S b (addFree (x :: f) (b + lenR r) ++ []) := by rw [List.append_nil]; exact h
    exact opt_ways (by rw [hlen]) h hc (fun s => ih _ (addFree_emb h (some_lt (addFree_head h'))) s) s
theorem fwaysA (a : Al) (S : List Stp) (b E : Nat) (hE : b + lenA a ≤ E) (ho : okA a) (h : Emb S b (sfA a b E)) (s : Bx) : (∃ n, ∃ m ∈ startsA a b, In S b (b + lenA a) n m s E) ↔ fwA a s := by
  cases a with
  | one q =>
    rw [sfA] at h
    rw [okA] at ho
    rw [lenA] at hE ⊢
    rw [fwA, startsA]
    have hq := fwaysS q S b ho h.left s
    have hag := h.right.head
    rw [sfS_length] at hag
    have hcl : Cl S b (b + lenS q) := emb_cl h.left (by rw [sfS_length]) (clFS q b)
    rw [← hq]
    constructor
    · rintro ⟨n, m, hm, w⟩
      obtain rfl : m = b := by simpa using hm
      exact alt_ways hcl hag (by omega) (by omega) hE w
    · rintro ⟨n, w⟩
      exact ⟨n + 1, b, by simp, by have := (w.wider (Nat.le_refl b) (show b + lenS q ≤ b + (lenS q + 1) by omega)).trans (.eps (m := E) (by omega) (by omega) hag (by simp) (.refl _)); rwa [List.append_nil] at this⟩
  | more q a =>
    rw [sfA] at h
    rw [okA] at ho
    rw [lenA] at hE ⊢
    rw [fwA, startsA]
    have hq := fwaysS q S b ho.1 h.left s
    have hag := h.right.head
    have ht := h.right.tail
    rw [sfS_length] at hag ht
    have ha := fwaysA a S (b + lenS q + 1) E (by omega) ho.2 ht s
    have hcl : Cl S b (b + lenS q) := emb_cl h.left (by rw [sfS_length]) (clFS q b)
    rw [← hq, ← ha]
    constructor
    · rintro ⟨n, m, hm, w⟩
      rcases List.mem_cons.1 hm with rfl | hm
      · exact .inl (alt_ways hcl hag (by omega) (by omega) hE w)
      · have hm1 := starts_mem hm
        rw [show b + (lenS q + 1 + lenA a) = b + lenS q + 1 + lenA a by omega] at w
        refine .inr ⟨n, m, hm, In.right (fun k st h1 h2 h3 x hx => ?_) w hm1.1⟩
        have := clFA a (b + lenS q + 1) E (by omega) st (emb_mem ht h1 (by rw [sfA_length _ _ _ (by omega)]; omega) h3) x hx
        omega
    · rintro (⟨n, w⟩ | ⟨n, m, hm, w⟩)
      · exact ⟨n + 1, b, by simp, by have := (w.wider (Nat.le_refl b) (show b + lenS q ≤ b + (lenS q + 1 + lenA a) by omega)).trans (.eps (m := E) (by omega) (by omega) hag (by simp) (.refl _)); rwa [List.append_nil] at this⟩
      · exact ⟨n, m, by simp [hm], w.wider (by omega) (by omega)⟩
theorem fwaysS (q : Sq) (S : List Stp) (b : Nat) (ho : okS q) (h : Emb S b (sfS q b)) (s : Bx) : (∃ n, In S b (b + lenS q) n b s (b + lenS q)) ↔ fwS q s := by
  cases q with
  | nil =>
    rw [lenS, fwS]
    constructor
    · rintro ⟨n, w⟩
      exact (w.stop (by omega)).1
    · rintro rfl
      exact ⟨0, .refl _⟩
  | cons r q =>
    rw [sfS] at h
    rw [okS] at ho
    have hr := fwaysR r S b ho.1 h.left
    have hem := h.right
    rw [sfR_length] at hem
    have hq := fwaysS q S (b + lenR r) ho.2 hem
    have hcl : Cl S b (b + lenR r) := emb_cl h.left (by rw [sfR_length]) (clFR r b)
    rw [lenS, fwS, show b + (lenR r + lenS q) = b + lenR r + lenS q by omega]
    constructor
    · rintro ⟨n, w⟩
      obtain ⟨n1, n2, s1, s2, e1, e2, e3, e4⟩ := In.cut hcl w (Nat.le_refl _) (by omega) (by omega)
      refine ⟨s1, s2, e1, (hr s1).1 ⟨n1, e3⟩, (hq s2).1 ⟨n2, In.right (fun k st h1 h2 h3 x hx => ?_) e4 (Nat.le_refl _)⟩⟩
      exact (clFS q (b + lenR r) st (emb_mem hem h1 (by rw [sfS_length]; omega) h3) x hx).1
    · rintro ⟨s1, s2, rfl, h1, h2⟩
      obtain ⟨n1, w1⟩ := (hr s1).2 h1
      obtain ⟨n2, w2⟩ := (hq s2).2 h2
      exact ⟨_, (w1.wider (Nat.le_refl _) (by omega)).trans (w2.wider (by omega) (Nat.le_refl _))⟩
end
end Go.Proofs.YteooofakpkbgoaaDoor
/- Patterns, plain: which text comes first; the least text of a pattern. -/
namespace Go.Proofs.YteooofakpkbgoaaDoor

/-- Shorter, or as long and less. -/
def cf (a b : Bx) : Bool := decide (a.length < b.length) || (decide (a.length = b.length) && Op.bytesLess a b)
theorem bl_self (a : Bx) : Op.bytesLess a a = false := by
  induction a with
  | nil => rfl
  | cons x a ih => simp [Op.bytesLess, ih]
theorem bl_tot (a b : Bx) (h1 : Op.bytesLess a b = false) (h2 : Op.bytesLess b a = false) : a = b := by
  induction a generalizing b with
  | nil => cases b with
    | nil => rfl
    | cons y b => simp [Op.bytesLess] at h1
  | cons x a ih => cases b with
    | nil => simp [Op.bytesLess] at h2
    | cons y b =>
      simp [Op.bytesLess] at h1 h2
      have e : x = y := UInt8.le_antisymm h2.1 h1.1
      subst e
      rw [ih b (h1.2 rfl) (h2.2 rfl)]
theorem bl_trans {a b c : Bx} (h1 : Op.bytesLess a b = true) (h2 : Op.bytesLess b c = true) : Op.bytesLess a c = true := by
  induction a generalizing b c with
  | nil => cases b with
    | nil => exact h2
    | cons y b => cases c with
      | nil => simp [Op.bytesLess] at h2
      | cons z c => rfl
  | cons x a ih => cases b with
    | nil => simp [Op.bytesLess] at h1
    | cons y b => cases c with
      | nil => simp [Op.bytesLess] at h2
      | cons z c =>
        simp [Op.bytesLess] at h1 h2 ⊢
        rcases h1 with h1 | ⟨e1, h1⟩ <;> rcases h2 with h2 | ⟨e2, h2⟩
        · exact .inl (UInt8.lt_trans h1 h2)
        · exact .inl (e2 ▸ h1)
        · exact .inl (e1 ▸ h2)
        · exact .inr ⟨e1.trans e2, ih h1 h2⟩
/-- Of two of one length, each with a tail. -/
theorem bl_app {a b : Bx} (h : a.length = b.length) (s t : Bx) : Op.bytesLess (a ++ s) (b ++ t) = (Op.bytesLess a b || (decide (a = b) && Op.bytesLess s t)) := by
  induction a generalizing b with
  | nil =>
    obtain rfl : b = [] := List.length_eq_zero_iff.1 h.symm
    simp [Op.bytesLess]
  | cons x a ih => cases b with
    | nil => cases h
    | cons y b =>
      have h' : a.length = b.length := by simpa using h
      simp only [List.cons_append, Op.bytesLess, ih h']
      by_cases e : x = y
      · subst e
        simp
      · have e' : (x == y) = false := by simpa using e
        simp [e, e']
/-- Not behind. -/
def le (a b : Bx) : Prop := cf b a = false
theorem le_iff {a b : Bx} : le a b ↔ a.length < b.length ∨ (a.length = b.length ∧ (a = b ∨ Op.bytesLess a b = true)) := by
  unfold le cf
  constructor
  · intro h
    simp at h
    rcases Nat.lt_or_eq_of_le h.1 with h1 | h1
    · exact .inl h1
    · refine .inr ⟨h1, ?_⟩
      have h2 := h.2 h1.symm
      cases h3 : Op.bytesLess a b with
      | true => exact .inr rfl
      | false => exact .inl (bl_tot a b h3 h2)
  · intro h
    simp
    rcases h with h | ⟨h, h2⟩
    · exact ⟨by omega, fun e => by omega⟩
    · refine ⟨by omega, fun _ => ?_⟩
      rcases h2 with rfl | h2
      · exact bl_self a
      · cases h3 : Op.bytesLess b a with
        | false => rfl
        | true => have := bl_trans h2 h3; rw [bl_self] at this; cases this
theorem le_refl (a : Bx) : le a a := le_iff.2 (.inr ⟨rfl, .inl rfl⟩)
theorem le_trans {a b c : Bx} (h1 : le a b) (h2 : le b c) : le a c := by
  rw [le_iff] at *
  rcases h1 with h1 | ⟨h1, h1'⟩ <;> rcases h2 with h2 | ⟨h2, h2'⟩
  · exact .inl (by omega)
  · exact .inl (by omega)
  · exact .inl (by omega)
  · refine .inr ⟨by omega, ?_⟩
    rcases h1' with rfl | h1' <;> rcases h2' with rfl | h2'
    · exact .inl rfl
    · exact .inr h2'
    · exact .inr h1'
    · exact .inr (bl_trans h1' h2')
theorem le_total (a b : Bx) : le a b ∨ le b a := by
  by_cases h : a.length = b.length
  · cases h3 : Op.bytesLess a b with
    | true => exact .inl (le_iff.2 (.inr ⟨h, .inr h3⟩))
    | false => exact .inr (by unfold le cf; simp [h, h3])
  · rcases Nat.lt_or_gt_of_ne h with h | h
    · exact .inl (le_iff.2 (.inl h))
    · exact .inr (le_iff.2 (.inl h))
theorem le_app {a a' b b' : Bx} (h1 : le a a') (h2 : le b b') : le (a ++ b) (a' ++ b') := by
  rw [le_iff] at *
  rw [List.length_append, List.length_append]
  rcases h1 with h1 | ⟨h1, h1'⟩ <;> rcases h2 with h2 | ⟨h2, h2'⟩
  · exact .inl (by omega)
  · exact .inl (by omega)
  · exact .inl (by omega)
  · refine .inr ⟨by omega, ?_⟩
    rw [bl_app h1]
    rcases h1' with rfl | h1'
    · rcases h2' with rfl | h2'
      · exact .inl rfl
      · exact .inr (by simp [h2'])
    · exact .inr (by simp [h1'])
theorem le_head {a : Bx} (b : Bx) : le a (a ++ b) := by
  cases b with
  | nil => rw [List.append_nil]; exact le_refl a
  | cons x b => exact le_iff.2 (.inl (by simp))
theorem nil_le (a : Bx) : le [] a := le_head a
/-- The first text of some; none: there is none. -/
def IsLst (L : Bx → Prop) : Option Bx → Prop
  | none => ∀ s, ¬ L s
  | some t => L t ∧ ∀ s, L s → le t s
/-- The one of two that comes first; the first one of two that are the same. -/
def lesr : Option Bx → Option Bx → Option Bx
  | none, b => b
  | some x, none => some x
  | some x, some y => if cf y x then some y else some x
theorem lesr_lst {L M : Bx → Prop} {a b : Option Bx} (ha : IsLst L a) (hb : IsLst M b) : IsLst (fun s => L s ∨ M s) (lesr a b) := by
  cases a with
  | none => cases b with
    | none => exact fun s h => h.elim (ha s) (hb s)
    | some y => exact ⟨.inr hb.1, fun s h => h.elim (fun h => absurd h (ha s)) (hb.2 s)⟩
  | some x => cases b with
    | none => exact ⟨.inl ha.1, fun s h => h.elim (ha.2 s) (fun h => absurd h (hb s))⟩
    | some y =>
      rw [lesr]
      cases hc : cf y x with
      | true =>
        have hyx : le y x := (le_total y x).elim id (fun h => by unfold le at h; rw [hc] at h; cases h)
        exact ⟨.inr hb.1, fun s h => h.elim (fun h => le_trans hyx (ha.2 s h)) (hb.2 s)⟩
      | false => exact ⟨.inl ha.1, fun s h => h.elim (ha.2 s) (fun h => le_trans hc (hb.2 s h))⟩
theorem IsLst.iff {L M : Bx → Prop} {a : Option Bx} (h : IsLst L a) (hi : ∀ s, L s ↔ M s) : IsLst M a := by
  cases a with
  | none => exact fun s hs => h s ((hi s).2 hs)
  | some t => exact ⟨(hi t).1 h.1, fun s hs => h.2 s ((hi s).2 hs)⟩
/-- Fewer texts, but for each of the others one ahead of it. -/
theorem IsLst.up {L M : Bx → Prop} {a : Option Bx} (h : IsLst L a) (h1 : ∀ s, L s → M s) (h2 : ∀ s, M s → ∃ t, L t ∧ le t s) : IsLst M a := by
  cases a with
  | none => exact fun s hs => let ⟨t, ht, _⟩ := h2 s hs; h t ht
  | some t => exact ⟨h1 t h.1, fun s hs => let ⟨u, hu, hl⟩ := h2 s hs; le_trans (h.2 u hu) hl⟩
mutual
theorem fw_sub (r : Re) (s : Bx) (h : fwR r s) : langR r s := by
  cases r with
  | set p => rw [fwR] at h; rw [langR]; exact h
  | grp a => rw [fwR] at h; rw [langR]; exact fwA_sub a s h
  | star r => rw [fwR] at h; rw [langR, h]; exact .nil
  | plus r => rw [fwR] at h; rw [langR]; exact ⟨s, [], by simp, fw_sub r s h, .nil⟩
  | opt r => rw [fwR] at h; rw [langR]; exact h.elim .inl (fun h => .inr (fw_sub r s h))
theorem fwA_sub (a : Al) (s : Bx) (h : fwA a s) : langA a s := by
  cases a with
  | one q => rw [fwA] at h; rw [langA]; exact fwS_sub q s h
  | more q a => rw [fwA] at h; rw [langA]; exact h.elim (fun h => .inl (fwS_sub q s h)) (fun h => .inr (fwA_sub a s h))
theorem fwS_sub (q : Sq) (s : Bx) (h : fwS q s) : langS q s := by
  cases q with
  | nil => rw [fwS] at h; rw [langS]; exact h
  | cons r q =>
    rw [fwS] at h
    rw [langS]
    obtain ⟨s1, s2, e, h1, h2⟩ := h
    exact ⟨s1, s2, e, fw_sub r s1 h1, fwS_sub q s2 h2⟩
end
mutual
theorem fw_low (r : Re) (s : Bx) (h : langR r s) : ∃ t, fwR r t ∧ le t s := by
  cases r with
  | set p => rw [langR] at h; exact ⟨s, by rw [fwR]; exact h, le_refl s⟩
  | grp a => rw [langR] at h; obtain ⟨t, h1, h2⟩ := fwA_low a s h; exact ⟨t, by rw [fwR]; exact h1, h2⟩
  | star r => exact ⟨[], by rw [fwR], nil_le s⟩
  | plus r =>
    rw [langR] at h
    obtain ⟨s1, s2, rfl, h1, _⟩ := h
    obtain ⟨t, h3, h4⟩ := fw_low r s1 h1
    exact ⟨t, by rw [fwR]; exact h3, le_trans h4 (le_head s2)⟩
  | opt r => exact ⟨[], by rw [fwR]; exact .inl rfl, nil_le s⟩
theorem fwA_low (a : Al) (s : Bx) (h : langA a s) : ∃ t, fwA a t ∧ le t s := by
  cases a with
  | one q => rw [langA] at h; obtain ⟨t, h1, h2⟩ := fwS_low q s h; exact ⟨t, by rw [fwA]; exact h1, h2⟩
  | more q a =>
    rw [langA] at h
    rcases h with h | h
    · obtain ⟨t, h1, h2⟩ := fwS_low q s h; exact ⟨t, by rw [fwA]; exact .inl h1, h2⟩
    · obtain ⟨t, h1, h2⟩ := fwA_low a s h; exact ⟨t, by rw [fwA]; exact .inr h1, h2⟩
theorem fwS_low (q : Sq) (s : Bx) (h : langS q s) : ∃ t, fwS q t ∧ le t s := by
  cases q with
  | nil => rw [langS] at h; exact ⟨s, by rw [fwS]; exact h, le_refl s⟩
  | cons r q =>
    rw [langS] at h
    obtain ⟨s1, s2, rfl, h1, h2⟩ := h
    obtain ⟨t1, a1, a2⟩ := fw_low r s1 h1
    obtain ⟨t2, b1, b2⟩ := fwS_low q s2 h2
    exact ⟨t1 ++ t2, by rw [fwS]; exact ⟨t1, t2, rfl, a1, b1⟩, le_app a2 b2⟩
end
/-- The texts of the ways from step k to the end that never lead back. -/
def Fw (S : List Stp) (k : Nat) (s : Bx) : Prop := ∃ n, In (fwd 0 S) 0 S.length n k s S.length
theorem fwd_get (b : Nat) (l : List Stp) (k : Nat) : (fwd b l)[k]? = (l[k]?).map fun st => ⟨st.set, st.free.filter (fun m => decide (b + k < m))⟩ := by
  induction l generalizing b k with
  | nil => simp [fwd]
  | cons s l ih => cases k with
    | zero => simp [fwd]
    | succ k => simp only [fwd, List.getElem?_cons_succ, ih]; rw [show b + 1 + k = b + (k + 1) by omega]
theorem fw_end (S : List Stp) (s : Bx) : Fw S S.length s ↔ s = [] :=
  ⟨fun ⟨_, h⟩ => (h.stop (Nat.le_refl _)).1, fun h => by subst h; exact ⟨0, .refl _⟩⟩
theorem fw_at {S : List Stp} {k : Nat} {st : Stp} (h : S[k]? = some st) (s : Bx) :
    Fw S k s ↔ (∃ m ∈ st.free, k < m ∧ Fw S m s) ∨ ∃ c t, s = c :: t ∧ st.set c = true ∧ Fw S (k + 1) t := by
  have hk := some_lt h
  have hg : (fwd 0 S)[k]? = some ⟨st.set, st.free.filter (fun m => decide (k < m))⟩ := by rw [fwd_get, h, Nat.zero_add]; rfl
  constructor
  · rintro ⟨n, w⟩
    generalize hE : S.length = E at w
    cases w with
    | refl k => omega
    | eps a1 a2 a3 a4 a5 =>
      rw [hg] at a3
      injection a3 with a3
      subst a3
      have := List.mem_filter.1 a4
      exact .inl ⟨_, this.1, by simpa using this.2, _, by rw [hE]; exact a5⟩
    | byte a1 a2 a3 a4 a5 =>
      rw [hg] at a3
      injection a3 with a3
      subst a3
      exact .inr ⟨_, _, rfl, a4, _, by rw [hE]; exact a5⟩
  · rintro (⟨m, h1, h2, n, w⟩ | ⟨c, t, rfl, h1, n, w⟩)
    · exact ⟨_, .eps (Nat.zero_le _) hk hg (List.mem_filter.2 ⟨h1, by simpa using h2⟩) w⟩
    · exact ⟨_, .byte (Nat.zero_le _) hk hg h1 w⟩
/-- What step k makes of its followers' least texts. -/
def bestF (f : Nat → Option Bx) (k : Nat) : List Nat → Option Bx → Option Bx
  | [], b => b
  | m :: l, b => bestF f k l (if k < m then lesr b (f m) else b)
theorem bestF_lst {S : List Stp} {f : Nat → Option Bx} {k : Nat} (hf : ∀ m, k < m → m ≤ S.length → IsLst (Fw S m) (f m)) (l : List Nat) (hl : ∀ m ∈ l, m ≤ S.length) {L : Bx → Prop} {b : Option Bx} (hb : IsLst L b) :
    IsLst (fun s => L s ∨ ∃ m ∈ l, k < m ∧ Fw S m s) (bestF f k l b) := by
  induction l generalizing L b with
  | nil => exact hb.iff fun s => ⟨.inl, fun h => h.elim id (fun ⟨_, h, _⟩ => by cases h)⟩
  | cons m l ih =>
    rw [bestF]
    by_cases hm : k < m
    · rw [if_pos hm]
      refine (ih (fun m' h => hl m' (by simp [h])) (lesr_lst hb (hf m hm (hl m (by simp))))).iff fun s => ⟨?_, ?_⟩
      · rintro ((h | h) | ⟨m', h1, h2⟩)
        · exact .inl h
        · exact .inr ⟨m, by simp, hm, h⟩
        · exact .inr ⟨m', by simp [h1], h2⟩
      · rintro (h | ⟨m', h1, h2⟩)
        · exact .inl (.inl h)
        · rcases List.mem_cons.1 h1 with rfl | h1
          · exact .inl (.inr h2.2)
          · exact .inr ⟨m', h1, h2⟩
    · rw [if_neg hm]
      refine (ih (fun m' h => hl m' (by simp [h])) hb).iff fun s => ⟨?_, ?_⟩
      · rintro (h | ⟨m', h1, h2⟩)
        · exact .inl h
        · exact .inr ⟨m', by simp [h1], h2⟩
      · rintro (h | ⟨m', h1, h2⟩)
        · exact .inl h
        · rcases List.mem_cons.1 h1 with rfl | h1
          · exact absurd h2.1 hm
          · exact .inr ⟨m', h1, h2⟩
/-- The least byte of a set. -/
def FstB (p : UInt8 → Bool) (c : UInt8) : Prop := p c = true ∧ ∀ d, p d = true → c ≤ d
theorem byte_lst {L : Bx → Prop} {p : UInt8 → Bool} {c : UInt8} {t : Bx} (hc : FstB p c) (ht : IsLst L (some t)) : IsLst (fun s => ∃ d u, s = d :: u ∧ p d = true ∧ L u) (some (c :: t)) := by
  refine ⟨⟨c, t, rfl, hc.1, ht.1⟩, ?_⟩
  rintro s ⟨d, u, rfl, h1, h2⟩
  have h3 := hc.2 d h1
  by_cases e : c = d
  · subst e
    exact le_app (le_refl [c]) (ht.2 u h2)
  · have hlt : c < d := UInt8.lt_of_le_of_ne h3 e
    have h4 := le_iff.1 (ht.2 u h2)
    refine le_iff.2 ?_
    rcases h4 with h4 | ⟨h4, _⟩
    · exact .inl (by simpa using h4)
    · exact .inr ⟨by simpa using h4, .inr (by simp [Op.bytesLess, hlt])⟩
theorem none_lst {L : Bx → Prop} {p : UInt8 → Bool} (h : (∀ c, p c = false) ∨ IsLst L none) : IsLst (fun s => ∃ d u, s = d :: u ∧ p d = true ∧ L u) none := by
  rintro s ⟨d, u, rfl, h1, h2⟩
  rcases h with h | h
  · rw [h d] at h1; cases h1
  · exact h u h2
theorem fw_whole {a : Al} (ho : okA a) (s : Bx) : Fw (stR (.grp a) 0) 0 s ↔ fwA a s := by
  have h := fwaysR (.grp a) (sfR (.grp a) 0) 0 (by rw [okR]; exact ho) (fun i _ => by rw [Nat.zero_add]) s
  rw [fwR, Nat.zero_add, ← stR_length (.grp a) 0, ← fwd_stR] at h
  exact h
/-- The first text of those of the ways that never lead back is the pattern's. -/
theorem least_whole {a : Al} (ho : okA a) {o : Option Bx} (h : IsLst (Fw (stR (.grp a) 0) 0) o) : IsLst (langA a) o :=
  (h.iff (fw_whole ho)).up (fwA_sub a) (fwA_low a)
end Go.Proofs.YteooofakpkbgoaaDoor
/- Patterns, plain: how a text is read, by the program's own order. -/
namespace Go.Proofs.YteooofakpkbgoaaDoor

/-- What stands in the way. -/
inductive Er
  | form
  | deep
inductive Res (α : Type)
  | er (e : Er)
  | ok (x : α) (r : Bx)
/-- The bytes that don't stand for themselves. -/
def spcB (c : UInt8) : Bool := c == 42 || c == 43 || c == 63 || c == 124 || c == 40 || c == 41 || c == 91 || c == 93 || c == 92 || c == 46
def signN : Bx → Option (UInt8 × Bx)
  | [] => none
  | c :: s => if c = 92 then (match s with | [] => none | d :: s' => some (d, s')) else some (c, s)
def elemN (s : Bx) : Option ((UInt8 × UInt8) × Bx) :=
  match signN s with
  | none => none
  | some (f, r) => match r with
    | x :: y :: r' => if x = 45 ∧ y ≠ 93 then (match signN (y :: r') with | none => none | some (l, r'') => if f ≤ l then some ((f, l), r'') else none) else some ((f, f), r)
    | _ => some ((f, f), r)
def clsN : Nat → (UInt8 → Bool) → Bx → Option ((UInt8 → Bool) × Bx)
  | 0, _, _ => none
  | _ + 1, _, [] => none
  | n + 1, p, c :: r => if c = 93 then some (p, r) else
    match elemN (c :: r) with
    | none => none
    | some ((f, l), r') => clsN n (fun x => p x || (decide (f ≤ x) && decide (x ≤ l))) r'
def cls1 (s : Bx) : Option ((UInt8 → Bool) × Bx) :=
  match s with
  | [] => none
  | c :: _ => if c = 93 then none else clsN (s.length) noSet s
/-- Behind its [. -/
def classN (s : Bx) : Option ((UInt8 → Bool) × Bx) :=
  match s with
  | [] => none
  | c :: r => if c = 94 then (cls1 r).map (fun x => (fun b => !x.1 b, x.2)) else cls1 (c :: r)
/-- How often, of what stands behind an atom. -/
def often (r : Re) : Bx → Re × Bx
  | [] => (r, [])
  | c :: s => if c = 42 then (.star r, s) else if c = 43 then (.plus r, s) else if c = 63 then (.opt r, s) else (r, c :: s)
mutual
def altN : Nat → Nat → Bx → Res Al
  | 0, _, _ => .er .form
  | n + 1, d, s => match seqN n d s with
    | .er e => .er e
    | .ok q r => match r with
      | [] => .ok (.one q) []
      | c :: r' => if c = 124 then (match altN n d r' with | .er e => .er e | .ok a r'' => .ok (.more q a) r'') else .ok (.one q) (c :: r')
def seqN : Nat → Nat → Bx → Res Sq
  | 0, _, _ => .er .form
  | _ + 1, _, [] => .ok .nil []
  | n + 1, d, c :: s => if c = 124 ∨ c = 41 then .ok .nil (c :: s) else
    match partN n d (c :: s) with
    | .er e => .er e
    | .ok x r => match seqN n d r with
      | .er e => .er e
      | .ok q r' => .ok (.cons x q) r'
def partN : Nat → Nat → Bx → Res Re
  | 0, _, _ => .er .form
  | n + 1, d, s => match atomN n d s with
    | .er e => .er e
    | .ok x r => .ok (often x r).1 (often x r).2
def atomN : Nat → Nat → Bx → Res Re
  | 0, _, _ => .er .form
  | _ + 1, _, [] => .er .form
  | n + 1, d, c :: s =>
    if c = 40 then (if d = 8 then .er .deep else match altN n (d + 1) s with
      | .er e => .er e
      | .ok a r => match r with
        | [] => .er .form
        | x :: r' => if x = 41 then .ok (.grp a) r' else .er .form)
    else if c = 91 then (match classN s with
      | none => .er .form
      | some (p, r) => .ok (.set p) r)
    else if c = 46 then .ok (.set fun _ => true) s
    else if c ≠ 92 ∧ spcB c = true then .er .form
    else match signN (c :: s) with
      | none => .er .form
      | some (x, r) => .ok (.set fun b => b == x) r
end
theorem signN_len {s r : Bx} {c : UInt8} (h : signN s = some (c, r)) : r.length < s.length := by
  cases s with
  | nil => cases h
  | cons x s =>
    unfold signN at h
    simp only at h
    split at h
    · cases s with
      | nil => cases h
      | cons d s' =>
        simp at h
        rw [← h.2]
        simp; omega
    · simp at h
      rw [← h.2]
      simp
theorem elemN_len {s r : Bx} {f l : UInt8} (h : elemN s = some ((f, l), r)) : r.length < s.length := by
  unfold elemN at h
  cases hs : signN s with
  | none => rw [hs] at h; cases h
  | some x =>
    obtain ⟨f', r'⟩ := x
    have h1 := signN_len hs
    rw [hs] at h
    simp only at h
    split at h
    · rename_i x y r''
      split at h
      · cases hs2 : signN (y :: r'') with
        | none => rw [hs2] at h; cases h
        | some z =>
          obtain ⟨l', r3⟩ := z
          have h2 := signN_len hs2
          rw [hs2] at h
          simp only at h
          split at h
          · simp at h
            rw [← h.2]
            simp only [List.length_cons] at h1 h2
            omega
          · cases h
      · simp at h
        rw [← h.2]
        exact h1
    · simp at h
      rw [← h.2]
      exact h1
theorem clsN_len {n : Nat} {p q : UInt8 → Bool} {s r : Bx} (h : clsN n p s = some (q, r)) : r.length < s.length := by
  induction n generalizing p s with
  | zero => cases h
  | succ n ih => cases s with
    | nil => cases h
    | cons c s =>
      rw [clsN] at h
      split at h
      · simp at h
        rw [← h.2]
        simp
      · cases he : elemN (c :: s) with
        | none => rw [he] at h; cases h
        | some x =>
          obtain ⟨⟨f, l⟩, r'⟩ := x
          rw [he] at h
          have h1 := elemN_len he
          have h2 := ih h
          omega
theorem cls1_len {p : UInt8 → Bool} {s r : Bx} (h : cls1 s = some (p, r)) : r.length < s.length := by
  unfold cls1 at h
  cases s with
  | nil => cases h
  | cons c s =>
    simp only at h
    split at h
    · cases h
    · exact clsN_len h
theorem classN_len {p : UInt8 → Bool} {s r : Bx} (h : classN s = some (p, r)) : r.length < s.length := by
  unfold classN at h
  cases s with
  | nil => cases h
  | cons c s =>
    simp only at h
    split at h
    · cases hc : cls1 s with
      | none => rw [hc] at h; cases h
      | some x =>
        obtain ⟨p', r'⟩ := x
        rw [hc] at h
        simp at h
        have := cls1_len hc
        rw [← h.2]
        simp; omega
    · exact cls1_len h
theorem often_good {r : Re} {s : Bx} (h1 : atomR r) (h2 : okR r) : okR (often r s).1 ∧ (often r s).2.length ≤ s.length ∧ lenR (often r s).1 + (often r s).2.length ≤ lenR r + s.length := by
  cases s with
  | nil => exact ⟨h2, Nat.le_refl _, Nat.le_refl _⟩
  | cons c s =>
    rw [often]
    split
    · exact ⟨by rw [okR]; exact ⟨h1, h2⟩, by simp, by simp only [lenR, List.length_cons]; omega⟩
    · split
      · exact ⟨by rw [okR]; exact ⟨h1, h2⟩, by simp, by simp only [lenR, List.length_cons]; omega⟩
      · split
        · exact ⟨by rw [okR]; exact ⟨h1, h2⟩, by simp, by simp only [lenR, List.length_cons]; omega⟩
        · exact ⟨h2, Nat.le_refl _, Nat.le_refl _⟩
/-- What is read is a pattern, and has no more steps than bytes (and the two of its alternatives). -/
theorem reads_good (n : Nat) : (∀ d s a r, altN n d s = .ok a r → okA a ∧ r.length ≤ s.length ∧ lenA a + r.length ≤ s.length + 1) ∧ (∀ d s q r, seqN n d s = .ok q r → okS q ∧ lenS q + r.length ≤ s.length) ∧
    (∀ d s x r, partN n d s = .ok x r → okR x ∧ lenR x + r.length ≤ s.length) ∧ ∀ d s x r, atomN n d s = .ok x r → atomR x ∧ okR x ∧ lenR x + r.length ≤ s.length := by
  induction n with
  | zero => exact ⟨fun d s a r h => by rw [altN] at h; (cases h), fun d s a r h => by rw [seqN] at h; (cases h), fun d s a r h => by rw [partN] at h; (cases h), fun d s a r h => by rw [atomN] at h; (cases h)⟩
  | succ n ih =>
    obtain ⟨iA, iS, iP, iT⟩ := ih
    refine ⟨fun d s a r h => ?_, fun d s q r h => ?_, fun d s x r h => ?_, fun d s x r h => ?_⟩
    · rw [altN] at h
      cases hs : seqN n d s with
      | er e => rw [hs] at h; cases h
      | ok q r1 =>
        rw [hs] at h
        have h1 := iS _ _ _ _ hs
        cases r1 with
        | nil =>
          simp only at h
          cases h
          simp only [okA, lenA]
          simp at h1 ⊢
          exact ⟨h1.1, by omega⟩
        | cons c r2 =>
          simp only at h
          split at h
          · cases ha : altN n d r2 with
            | er e => rw [ha] at h; cases h
            | ok a' r3 =>
              rw [ha] at h
              simp only at h
              cases h
              have h2 := iA _ _ _ _ ha
              simp only [okA, lenA, List.length_cons] at h1 h2 ⊢
              exact ⟨⟨h1.1, h2.1⟩, by omega, by omega⟩
          · cases h
            simp only [okA, lenA, List.length_cons] at h1 ⊢
            exact ⟨h1.1, by omega, by omega⟩
    · cases s with
      | nil =>
        rw [seqN] at h
        cases h
        exact ⟨by rw [okS]; trivial, by rw [lenS]; simp⟩
      | cons c s =>
        rw [seqN] at h
        split at h
        · cases h
          exact ⟨by rw [okS]; trivial, by rw [lenS]; simp⟩
        · cases hp : partN n d (c :: s) with
          | er e => rw [hp] at h; cases h
          | ok x r1 =>
            rw [hp] at h
            simp only at h
            cases hq : seqN n d r1 with
            | er e => rw [hq] at h; cases h
            | ok q' r2 =>
              rw [hq] at h
              cases h
              have h1 := iP _ _ _ _ hp
              have h2 := iS _ _ _ _ hq
              rw [okS, lenS]
              exact ⟨⟨h1.1, h2.1⟩, by omega⟩
    · rw [partN] at h
      cases ht : atomN n d s with
      | er e => rw [ht] at h; cases h
      | ok y r1 =>
        rw [ht] at h
        cases h
        have h1 := iT _ _ _ _ ht
        have h2 := often_good (s := r1) h1.1 h1.2.1
        exact ⟨h2.1, by omega⟩
    · cases s with
      | nil => rw [atomN] at h; cases h
      | cons c s =>
        rw [atomN] at h
        split at h
        · split at h
          · cases h
          · cases ha : altN n (d + 1) s with
            | er e => rw [ha] at h; cases h
            | ok a r1 =>
              rw [ha] at h
              have h1 := iA _ _ _ _ ha
              cases r1 with
              | nil => cases h
              | cons y r2 =>
                simp only at h
                split at h
                · cases h
                  simp only [atomR, okR, lenR, List.length_cons] at h1 ⊢
                  exact ⟨trivial, h1.1, by omega⟩
                · cases h
        · split at h
          · cases hc : classN s with
            | none => rw [hc] at h; cases h
            | some z =>
              obtain ⟨p, r1⟩ := z
              rw [hc] at h
              cases h
              have h1 := classN_len hc
              simp only [atomR, okR, lenR, List.length_cons]
              exact ⟨trivial, trivial, by omega⟩
          · split at h
            · cases h
              simp only [atomR, okR, lenR, List.length_cons]
              exact ⟨trivial, trivial, by omega⟩
            · split at h
              · cases h
              · cases hs : signN (c :: s) with
                | none => rw [hs] at h; cases h
                | some z =>
                  obtain ⟨b, r1⟩ := z
                  rw [hs] at h
                  cases h
                  have h1 := signN_len hs
                  simp only [atomR, okR, lenR, List.length_cons] at h1 ⊢
                  exact ⟨trivial, trivial, by omega⟩
end Go.Proofs.YteooofakpkbgoaaDoor
/- Patterns, plain: how the steps are laid, one after the other. -/
namespace Go.Proofs.YteooofakpkbgoaaDoor

/-- Step k leads to step x as well. -/
def leadL (S : List Stp) (k x : Nat) : List Stp := S.modify k (fun s => ⟨s.set, s.free ++ [x]⟩)
theorem leadL_length (S : List Stp) (k x : Nat) : (leadL S k x).length = S.length := by simp [leadL]
theorem leadL_at {X Y : List Stp} {s : Stp} {k : Nat} (x : Nat) (h : X.length = k) : leadL (X ++ s :: Y) k x = X ++ ⟨s.set, s.free ++ [x]⟩ :: Y := by
  subst h
  unfold leadL
  induction X with
  | nil => rfl
  | cons a X ih => simp only [List.cons_append, List.length_cons, List.modify_succ_cons, ih]
theorem leadL_first {X f : List Stp} {k : Nat} (x : Nat) (h : X.length = k) (hf : f ≠ []) : leadL (X ++ f) k x = X ++ addFree f x := by
  cases f with
  | nil => exact absurd rfl hf
  | cons s f => rw [leadL_at x h]; rfl
theorem stR_ne (r : Re) (b : Nat) : stR r b ≠ [] := by
  obtain ⟨x, f, h⟩ := stR_cons r b
  rw [h]
  simp
/-- Any number of times. -/
theorem laid_star {X : List Stp} {b : Nat} (r : Re) (h : X.length = b) : leadL (leadL (X ++ stR r b ++ [⟨noSet, []⟩]) (b + lenR r) b) b (b + lenR r + 1) = X ++ stR (.star r) b := by
  rw [leadL_at (X := X ++ stR r b) b (by rw [List.length_append, stR_length, h]), List.append_assoc, leadL_first _ h (by simp [stR_ne]), stR]
  obtain ⟨x, f, hf⟩ := stR_cons r b
  rw [hf]
  rfl
/-- Once and more. -/
theorem laid_plus {X : List Stp} {b : Nat} (r : Re) (h : X.length = b) : leadL (leadL (X ++ stR r b ++ [⟨noSet, []⟩]) (b + lenR r) b) (b + lenR r) (b + lenR r + 1) = X ++ stR (.plus r) b := by
  rw [leadL_at (X := X ++ stR r b) b (by rw [List.length_append, stR_length, h]), leadL_at (X := X ++ stR r b) _ (by rw [List.length_append, stR_length, h]), stR, List.append_assoc]
  rfl
/-- Once or not. -/
theorem laid_opt {X : List Stp} {b : Nat} (r : Re) (h : X.length = b) : leadL (X ++ stR r b) b (b + lenR r) = X ++ stR (.opt r) b := by
  rw [leadL_first _ h (stR_ne r b), stR]
/-- Rows, one behind the other, whose last steps lead nowhere yet. -/
def stsL : List Sq → Nat → List Stp
  | [], _ => []
  | q :: l, b => stS q b ++ ⟨noSet, []⟩ :: stsL l (b + lenS q + 1)
def lenL : List Sq → Nat
  | [] => 0
  | q :: l => lenS q + 1 + lenL l
def begL : List Sq → Nat → List Nat
  | [], _ => []
  | q :: l, b => b :: begL l (b + lenS q + 1)
def endL : List Sq → Nat → List Nat
  | [], _ => []
  | q :: l, b => (b + lenS q) :: endL l (b + lenS q + 1)
/-- .. ahead of alternatives. -/
def preA : List Sq → Al → Al
  | [], a => a
  | q :: l, a => .more q (preA l a)
theorem preA_snoc (l : List Sq) (q : Sq) (a : Al) : preA (l ++ [q]) a = preA l (.more q a) := by
  induction l with
  | nil => rfl
  | cons p l ih => simp only [List.cons_append, preA, ih]
theorem stsL_length (l : List Sq) (b : Nat) : (stsL l b).length = lenL l := by
  induction l generalizing b with
  | nil => rfl
  | cons p l ih => rw [stsL, List.length_append, List.length_cons, stS_length, ih, lenL]; omega
theorem stsL_snoc (l : List Sq) (q : Sq) (b : Nat) : stsL (l ++ [q]) b = stsL l b ++ stS q (b + lenL l) ++ [⟨noSet, []⟩] := by
  induction l generalizing b with
  | nil => simp [stsL, lenL]
  | cons p l ih => simp only [List.cons_append, stsL, ih, lenL, List.append_assoc]; rw [show b + (lenS p + 1 + lenL l) = b + lenS p + 1 + lenL l by omega]
theorem begL_snoc (l : List Sq) (q : Sq) (b : Nat) : begL (l ++ [q]) b = begL l b ++ [b + lenL l] := by
  induction l generalizing b with
  | nil => simp [begL, lenL]
  | cons p l ih => simp only [List.cons_append, begL, ih, lenL]; rw [show b + (lenS p + 1 + lenL l) = b + lenS p + 1 + lenL l by omega]
theorem endL_snoc (l : List Sq) (q : Sq) (b : Nat) : endL (l ++ [q]) b = endL l b ++ [b + lenL l + lenS q] := by
  induction l generalizing b with
  | nil => simp [endL, lenL]
  | cons p l ih => simp only [List.cons_append, endL, ih, lenL]; rw [show b + (lenS p + 1 + lenL l) = b + lenS p + 1 + lenL l by omega]
theorem lenL_snoc (l : List Sq) (q : Sq) : lenL (l ++ [q]) = lenL l + lenS q + 1 := by
  induction l with
  | nil => simp [lenL]
  | cons p l ih => simp only [List.cons_append, lenL, ih]; omega
theorem endL_mem {l : List Sq} {b e : Nat} (h : e ∈ endL l b) : b ≤ e ∧ e < b + lenL l := by
  induction l generalizing b with
  | nil => cases h
  | cons p l ih =>
    rw [endL] at h
    rw [lenL]
    rcases List.mem_cons.1 h with rfl | h
    · omega
    · have := ih h; omega
theorem starts_pre (l : List Sq) (q : Sq) (b : Nat) : startsA (preA l (.one q)) b = begL (l ++ [q]) b := by
  induction l generalizing b with
  | nil => rfl
  | cons p l ih => simp only [List.cons_append, begL, preA, startsA, ih]
theorem lenA_pre (l : List Sq) (q : Sq) : lenA (preA l (.one q)) = lenL (l ++ [q]) := by
  induction l with
  | nil => simp [preA, lenA, lenL]
  | cons p l ih => simp only [List.cons_append, preA, lenA, lenL, ih]
/-- All their last steps lead to E. -/
theorem laid_ends (l : List Sq) (q : Sq) (E : Nat) {X : List Stp} {b : Nat} (h : X.length = b) : (endL (l ++ [q]) b).foldl (fun S e => leadL S e E) (X ++ stsL (l ++ [q]) b) = X ++ stA (preA l (.one q)) b E := by
  induction l generalizing X b with
  | nil =>
    rw [List.nil_append, endL, endL, List.foldl_cons, List.foldl_nil, stsL, stsL, ← List.append_assoc, leadL_at _ (by rw [List.length_append, stS_length, h]), preA, stA, List.append_assoc]
    rfl
  | cons p l ih =>
    rw [List.cons_append, endL, List.foldl_cons, stsL, ← List.append_assoc, leadL_at _ (by rw [List.length_append, stS_length, h]), preA, stA]
    have := ih (X := X ++ stS p b ++ [⟨noSet, [E]⟩]) (b := b + lenS p + 1) (by simp [stS_length, h]; omega)
    simp only [List.append_assoc, List.singleton_append, List.nil_append] at this ⊢
    exact this
/-- A whole group, of which the rows are there. -/
theorem laid_group (l : List Sq) (q : Sq) {X : List Stp} {b : Nat} (h : X.length = b) :
    (endL (l ++ [q]) (b + 1)).foldl (fun S e => leadL S e (b + 1 + lenL (l ++ [q]))) (X ++ ⟨noSet, begL (l ++ [q]) (b + 1)⟩ :: stsL (l ++ [q]) (b + 1)) = X ++ stR (.grp (preA l (.one q))) b := by
  have := laid_ends l q (b + 1 + lenL (l ++ [q])) (X := X ++ [⟨noSet, begL (l ++ [q]) (b + 1)⟩]) (b := b + 1) (by simp [h])
  simp only [List.append_assoc, List.singleton_append] at this
  rw [this, stR, starts_pre, lenA_pre]
end Go.Proofs.YteooofakpkbgoaaDoor
/- Patterns, plain: a pattern in parentheses is read as it is by itself, or is too deep; the fuel doesn't matter. -/
namespace Go.Proofs.YteooofakpkbgoaaDoor
set_option linter.unusedSimpArgs false

theorem signN_app {s r : Bx} {c : UInt8} (h : signN s = some (c, r)) (u : Bx) : signN (s ++ u) = some (c, r ++ u) := by
  cases s with
  | nil => cases h
  | cons x s =>
    unfold signN at h ⊢
    simp only [List.cons_append] at h ⊢
    split at h
    · rename_i hx
      rw [if_pos hx]
      cases s with
      | nil => cases h
      | cons d s' => simp at h ⊢; exact ⟨h.1, by rw [h.2]⟩
    · rename_i hx
      rw [if_neg hx]
      simp at h ⊢
      exact ⟨h.1, by rw [h.2]⟩
theorem elemN_app {s r : Bx} {f l : UInt8} (h : elemN s = some ((f, l), r)) (h1 : r ≠ []) (h2 : r ≠ [45]) (u : Bx) : elemN (s ++ u) = some ((f, l), r ++ u) := by
  unfold elemN at h ⊢
  cases hs : signN s with
  | none => rw [hs] at h; cases h
  | some x =>
    obtain ⟨f', r1⟩ := x
    rw [hs] at h
    rw [signN_app hs]
    simp only at h ⊢
    match r1, h with
    | [], h => simp at h; exact absurd h.2 h1
    | [x], h =>
      simp at h
      obtain ⟨⟨rfl, rfl⟩, rfl⟩ := h
      have hx : x ≠ 45 := fun e => h2 (by rw [e])
      cases u with
      | nil => rfl
      | cons y u => simp [hx]
    | x :: y :: r2, h =>
      simp only [List.cons_append] at h ⊢
      split at h
      · rename_i hx
        rw [if_pos hx]
        cases hs2 : signN (y :: r2) with
        | none => rw [hs2] at h; cases h
        | some z =>
          obtain ⟨l', r3⟩ := z
          have h3 := signN_app hs2 u
          rw [List.cons_append] at h3
          rw [hs2] at h
          rw [h3]
          simp only at h ⊢
          split at h
          · rename_i hf
            rw [if_pos hf]
            simp at h ⊢
            exact ⟨h.1, by rw [h.2]⟩
          · cases h
      · rename_i hx
        rw [if_neg hx]
        simp at h ⊢
        exact ⟨h.1, by rw [← h.2]; rfl⟩
theorem clsN_app {n : Nat} {p q : UInt8 → Bool} {s r : Bx} (h : clsN n p s = some (q, r)) (u : Bx) : clsN n p (s ++ u) = some (q, r ++ u) := by
  induction n generalizing p s with
  | zero => cases h
  | succ n ih => cases s with
    | nil => cases h
    | cons c s =>
      rw [clsN] at h
      rw [List.cons_append, clsN]
      split at h
      · rename_i hc
        rw [if_pos hc]
        simp at h ⊢
        exact ⟨h.1, by rw [h.2]⟩
      · rename_i hc
        rw [if_neg hc]
        cases he : elemN (c :: s) with
        | none => rw [he] at h; cases h
        | some x =>
          obtain ⟨⟨f, l⟩, r'⟩ := x
          rw [he] at h
          simp only at h
          have h1 : r' ≠ [] := fun e => by subst e; cases n <;> cases h
          have h2 : r' ≠ [45] := fun e => by
            subst e
            cases n with
            | zero => cases h
            | succ n =>
              rw [clsN, if_neg (by decide), show elemN [45] = some ((45, 45), []) from rfl] at h
              simp only at h
              cases n <;> cases h
          have h3 := elemN_app he h1 h2 u
          rw [List.cons_append] at h3
          rw [h3]
          exact ih h
theorem clsN_fuel {n m : Nat} {p : UInt8 → Bool} {s : Bx} (hn : s.length ≤ n) (hm : s.length ≤ m) : clsN n p s = clsN m p s := by
  induction n generalizing m p s with
  | zero =>
    obtain rfl : s = [] := List.length_eq_zero_iff.1 (by omega)
    cases m <;> rfl
  | succ n ih => cases m with
    | zero =>
      obtain rfl : s = [] := List.length_eq_zero_iff.1 (by omega)
      rfl
    | succ m => cases s with
      | nil => rfl
      | cons c s =>
        rw [clsN, clsN]
        split
        · rfl
        · cases he : elemN (c :: s) with
          | none => rfl
          | some x =>
            obtain ⟨⟨f, l⟩, r'⟩ := x
            have := elemN_len he
            exact ih (by omega) (by omega)
theorem cls1_app {p : UInt8 → Bool} {s r : Bx} (h : cls1 s = some (p, r)) (u : Bx) : cls1 (s ++ u) = some (p, r ++ u) := by
  unfold cls1 at h ⊢
  cases s with
  | nil => cases h
  | cons c s =>
    simp only [List.cons_append] at h ⊢
    split at h
    · cases h
    · rename_i hc
      rw [if_neg hc]
      rw [clsN_fuel (m := (c :: s).length + u.length) (Nat.le_refl _) (by omega)] at h
      rw [clsN_fuel (m := (c :: s).length + u.length) (Nat.le_refl _) (by simp; omega)]
      exact clsN_app h u
theorem classN_app {p : UInt8 → Bool} {s r : Bx} (h : classN s = some (p, r)) (u : Bx) : classN (s ++ u) = some (p, r ++ u) := by
  unfold classN at h ⊢
  cases s with
  | nil => cases h
  | cons c s =>
    simp only [List.cons_append] at h ⊢
    split at h
    · rename_i hc
      rw [if_pos hc]
      cases hs : cls1 s with
      | none => rw [hs] at h; cases h
      | some x =>
        obtain ⟨p', r'⟩ := x
        rw [hs] at h
        rw [cls1_app hs]
        simp at h ⊢
        exact ⟨h.1, by rw [h.2]⟩
    · rename_i hc
      rw [if_neg hc]
      exact cls1_app h u
theorem often_app (x : Re) (r t : Bx) : often x (r ++ 41 :: t) = ((often x r).1, (often x r).2 ++ 41 :: t) := by
  cases r with
  | nil => rfl
  | cons c r =>
    simp only [List.cons_append, often]
    split
    · rfl
    · split
      · rfl
      · split <;> rfl
mutual
/-- How deep parentheses are nested. -/
def depR : Re → Nat
  | .set _ => 0
  | .grp a => 1 + depA a
  | .star r => depR r
  | .plus r => depR r
  | .opt r => depR r
def depA : Al → Nat
  | .one q => depS q
  | .more q a => max (depS q) (depA a)
def depS : Sq → Nat
  | .nil => 0
  | .cons r q => max (depR r) (depS q)
end
theorem often_dep (x : Re) (s : Bx) : depR (often x s).1 = depR x := by
  cases s with
  | nil => rfl
  | cons c s =>
    rw [often]
    split
    · simp only [depR]
    · split
      · simp only [depR]
      · split
        · simp only [depR]
        · rfl
/-- .. or there are too many parentheses. -/
def OrDeep {α : Type} (d dep : Nat) (o : Res α) (x : α) (r : Bx) : Prop := (8 < d + dep ∧ o = .er .deep) ∨ (d + dep ≤ 8 ∧ o = .ok x r)
theorem ctx (t : Bx) (n : Nat) : (∀ d d' s a r, d' ≤ 8 → altN n d s = .ok a r → OrDeep d' (depA a) (altN n d' (s ++ 41 :: t)) a (r ++ 41 :: t)) ∧ (∀ d d' s q r, d' ≤ 8 → seqN n d s = .ok q r → OrDeep d' (depS q) (seqN n d' (s ++ 41 :: t)) q (r ++ 41 :: t)) ∧
    (∀ d d' s x r, d' ≤ 8 → partN n d s = .ok x r → OrDeep d' (depR x) (partN n d' (s ++ 41 :: t)) x (r ++ 41 :: t)) ∧ ∀ d d' s x r, d' ≤ 8 → atomN n d s = .ok x r → OrDeep d' (depR x) (atomN n d' (s ++ 41 :: t)) x (r ++ 41 :: t) := by
  induction n with
  | zero => exact ⟨fun d d' s a r h8 h => by rw [altN] at h; (cases h), fun d d' s a r h8 h => by rw [seqN] at h; (cases h), fun d d' s a r h8 h => by rw [partN] at h; (cases h), fun d d' s a r h8 h => by rw [atomN] at h; (cases h)⟩
  | succ n ih =>
    obtain ⟨iA, iS, iP, iT⟩ := ih
    refine ⟨fun d d' s a r h8 h => ?_, fun d d' s q r h8 h => ?_, fun d d' s x r h8 h => ?_, fun d d' s x r h8 h => ?_⟩
    · rw [altN] at h
      rw [altN]
      cases hs : seqN n d s with
      | er e => rw [hs] at h; cases h
      | ok q r1 =>
        rw [hs] at h
        have hle : depS q ≤ depA a := by
          cases r1 with
          | nil => simp only at h; cases h; simp only [depA]; omega
          | cons c r2 =>
            simp only at h
            split at h
            · cases ha : altN n d r2 with
              | er e => rw [ha] at h; cases h
              | ok a' r3 => rw [ha] at h; simp only at h; cases h; simp only [depA]; omega
            · cases h; simp only [depA]; omega
        rcases iS _ d' _ _ _ h8 hs with ⟨k, e⟩ | ⟨k, e⟩
        · rw [e]; exact .inl ⟨by omega, rfl⟩
        · rw [e]
          cases r1 with
          | nil =>
            simp only at h
            cases h
            exact .inr ⟨by (try simp only [depA, depS, depR, often_dep]); omega, rfl⟩
          | cons c r2 =>
            simp only [List.cons_append] at h ⊢
            split at h
            · rename_i hc
              rw [if_pos hc]
              cases ha : altN n d r2 with
              | er e => rw [ha] at h; cases h
              | ok a' r3 =>
                rw [ha] at h
                simp only at h
                cases h
                rcases iA _ d' _ _ _ h8 ha with ⟨k, e⟩ | ⟨k, e⟩
                · rw [e]; exact .inl ⟨by (try simp only [depA, depS, depR, often_dep]); omega, rfl⟩
                · rw [e]; exact .inr ⟨by (try simp only [depA, depS, depR, often_dep]); omega, rfl⟩
            · rename_i hc
              rw [if_neg hc]
              cases h
              exact .inr ⟨by (try simp only [depA, depS, depR, often_dep]); omega, rfl⟩
    · cases s with
      | nil =>
        rw [seqN] at h
        cases h
        rw [List.nil_append, seqN, if_pos (.inr rfl)]
        exact .inr ⟨by (try simp only [depA, depS, depR, often_dep]); omega, rfl⟩
      | cons c s =>
        rw [seqN] at h
        rw [List.cons_append, seqN]
        split at h
        · rename_i hc
          rw [if_pos hc]
          cases h
          exact .inr ⟨by (try simp only [depA, depS, depR, often_dep]); omega, rfl⟩
        · rename_i hc
          rw [if_neg hc]
          cases hp : partN n d (c :: s) with
          | er e => rw [hp] at h; cases h
          | ok x r1 =>
            rw [hp] at h
            simp only at h
            cases hq : seqN n d r1 with
            | er e => rw [hq] at h; cases h
            | ok q' r2 =>
              rw [hq] at h
              cases h
              have h1 := iP _ d' _ _ _ h8 hp
              rw [List.cons_append] at h1
              rcases h1 with ⟨k, e⟩ | ⟨k, e⟩
              · rw [e]; exact .inl ⟨by (try simp only [depA, depS, depR, often_dep]); omega, rfl⟩
              · rw [e]
                simp only
                rcases iS _ d' _ _ _ h8 hq with ⟨k, e⟩ | ⟨k, e⟩
                · rw [e]; exact .inl ⟨by (try simp only [depA, depS, depR, often_dep]); omega, rfl⟩
                · rw [e]; exact .inr ⟨by (try simp only [depA, depS, depR, often_dep]); omega, rfl⟩
    · rw [partN] at h
      rw [partN]
      cases ht : atomN n d s with
      | er e => rw [ht] at h; cases h
      | ok y r1 =>
        rw [ht] at h
        cases h
        rcases iT _ d' _ _ _ h8 ht with ⟨k, e⟩ | ⟨k, e⟩
        · rw [e]; exact .inl ⟨by (try simp only [depA, depS, depR, often_dep]); omega, rfl⟩
        · rw [e]
          simp only [often_app]
          exact .inr ⟨by (try simp only [depA, depS, depR, often_dep]); omega, rfl⟩
    · cases s with
      | nil => rw [atomN] at h; cases h
      | cons c s =>
        rw [atomN] at h
        rw [List.cons_append, atomN]
        split at h
        · rename_i hc
          rw [if_pos hc]
          split at h
          · cases h
          · cases ha : altN n (d + 1) s with
            | er e => rw [ha] at h; cases h
            | ok a r1 =>
              rw [ha] at h
              cases r1 with
              | nil => cases h
              | cons y r2 =>
                simp only at h
                split at h
                · rename_i hy
                  cases h
                  by_cases hd' : d' = 8
                  · rw [if_pos hd']; exact .inl ⟨by (try simp only [depA, depS, depR, often_dep]); omega, rfl⟩
                  · rw [if_neg hd']
                    rcases iA _ (d' + 1) _ _ _ (by omega) ha with ⟨k, e⟩ | ⟨k, e⟩
                    · rw [e]; exact .inl ⟨by (try simp only [depA, depS, depR, often_dep]); omega, rfl⟩
                    · rw [e]
                      simp only [List.cons_append]
                      rw [if_pos hy]
                      exact .inr ⟨by (try simp only [depA, depS, depR, often_dep]); omega, rfl⟩
                · cases h
        · rename_i hc
          rw [if_neg hc]
          split at h
          · rename_i hc2
            rw [if_pos hc2]
            cases hk : classN s with
            | none => rw [hk] at h; cases h
            | some z =>
              obtain ⟨p, r1⟩ := z
              rw [hk] at h
              rw [classN_app hk]
              cases h
              exact .inr ⟨by (try simp only [depA, depS, depR, often_dep]); omega, rfl⟩
          · rename_i hc2
            rw [if_neg hc2]
            split at h
            · rename_i hc3
              rw [if_pos hc3]
              cases h
              exact .inr ⟨by (try simp only [depA, depS, depR, often_dep]); omega, rfl⟩
            · rename_i hc3
              rw [if_neg hc3]
              split at h
              · cases h
              · rename_i hc4
                rw [if_neg hc4]
                cases hs : signN (c :: s) with
                | none => rw [hs] at h; cases h
                | some z =>
                  obtain ⟨b, r1⟩ := z
                  have h3 := signN_app hs (41 :: t)
                  rw [List.cons_append] at h3
                  rw [hs] at h
                  rw [h3]
                  cases h
                  exact .inr ⟨by (try simp only [depA, depS, depR, often_dep]); omega, rfl⟩
end Go.Proofs.YteooofakpkbgoaaDoor
/- Patterns, plain: the fuel doesn't matter; two patterns joined, one repeated; a text quoted. -/
namespace Go.Proofs.YteooofakpkbgoaaDoor

theorem fuel (n : Nat) : (∀ m d (s : Bx), 4 * s.length + 4 ≤ n → 4 * s.length + 4 ≤ m → altN n d s = altN m d s) ∧ (∀ m d (s : Bx), 4 * s.length + 3 ≤ n → 4 * s.length + 3 ≤ m → seqN n d s = seqN m d s) ∧
    (∀ m d (s : Bx), 4 * s.length + 2 ≤ n → 4 * s.length + 2 ≤ m → partN n d s = partN m d s) ∧ ∀ m d (s : Bx), 4 * s.length + 1 ≤ n → 4 * s.length + 1 ≤ m → atomN n d s = atomN m d s := by
  induction n with
  | zero => exact ⟨fun m d s h => by omega, fun m d s h => by omega, fun m d s h => by omega, fun m d s h => by omega⟩
  | succ n ih =>
    obtain ⟨iA, iS, iP, iT⟩ := ih
    refine ⟨fun m d s h1 h2 => ?_, fun m d s h1 h2 => ?_, fun m d s h1 h2 => ?_, fun m d s h1 h2 => ?_⟩
    all_goals
      obtain ⟨m, rfl⟩ : ∃ k, m = k + 1 := ⟨m - 1, by omega⟩
    · rw [altN, altN, ← iS m d s (by omega) (by omega)]
      cases hs : seqN n d s with
      | er e => rfl
      | ok q r =>
        have h3 := (reads_good n).2.1 _ _ _ _ hs
        cases r with
        | nil => rfl
        | cons c r =>
          simp only
          simp only [List.length_cons] at h3
          rw [iA m d r (by omega) (by omega)]
    · cases s with
      | nil => rw [seqN, seqN]
      | cons c s =>
        rw [seqN, seqN, ← iP m d (c :: s) (by omega) (by omega)]
        cases hp : partN n d (c :: s) with
        | er e => rfl
        | ok x r =>
          have h3 := (reads_good n).2.2.1 _ _ _ _ hp
          have h4 := lenR_pos x
          simp only
          rw [iS m d r (by omega) (by omega)]
    · rw [partN, partN, ← iT m d s (by omega) (by omega)]
    · cases s with
      | nil => rw [atomN, atomN]
      | cons c s =>
        simp only [List.length_cons] at h1 h2
        rw [atomN, atomN, ← iA m (d + 1) s (by omega) (by omega)]
/-- A whole pattern. -/
def readN (p : Bx) : Res Al :=
  match altN (4 * p.length + 4) 0 p with
  | .er e => .er e
  | .ok a r => match r with
    | [] => .ok a []
    | _ :: _ => .er .form
theorem readN_ok {p r : Bx} {a : Al} (h : readN p = .ok a r) : r = [] ∧ altN (4 * p.length + 4) 0 p = .ok a [] ∧ okA a := by
  unfold readN at h
  cases ha : altN (4 * p.length + 4) 0 p with
  | er e => rw [ha] at h; cases h
  | ok a' r' =>
    rw [ha] at h
    cases r' with
    | nil =>
      cases h
      exact ⟨rfl, rfl, ((reads_good _).1 _ _ _ _ ha).1⟩
    | cons c r' => cases h
/-- A pattern in parentheses, ahead of something. -/
theorem group_read {p t : Bx} {a : Al} {n : Nat} (hn : 4 * (p ++ 41 :: t).length + 5 ≤ n) (h : readN p = .ok a []) : (8 ≤ depA a ∧ atomN n 0 (40 :: (p ++ 41 :: t)) = .er .deep) ∨ (depA a < 8 ∧ atomN n 0 (40 :: (p ++ 41 :: t)) = .ok (.grp a) t) := by
  obtain ⟨_, h1, _⟩ := readN_ok h
  obtain ⟨n, rfl⟩ : ∃ k, n = k + 1 := ⟨n - 1, by omega⟩
  rw [atomN, if_pos rfl, if_neg (by decide)]
  have h2 : altN n 0 p = .ok a [] := by
    rw [← h1]
    exact (fuel n).1 _ _ _ (by simp at hn; omega) (Nat.le_refl _)
  rcases (ctx t n).1 0 (0 + 1) p a [] (by decide) h2 with ⟨k, e⟩ | ⟨k, e⟩
  · rw [e]; exact .inl ⟨by omega, rfl⟩
  · rw [e]; exact .inr ⟨by omega, rfl⟩
def quoteN (s : Bx) : Bx := s.flatMap fun c => if spcB c then [92, c] else [c]
/-- Each byte for itself. -/
def chrs : Bx → Sq
  | [] => .nil
  | c :: s => .cons (.set fun b => b == c) (chrs s)
theorem chrs_lang (s t : Bx) : langS (chrs s) t ↔ t = s := by
  induction s generalizing t with
  | nil => rw [chrs, langS]
  | cons c s ih =>
    rw [chrs, langS]
    constructor
    · rintro ⟨s1, s2, rfl, h1, h2⟩
      rw [langR] at h1
      obtain ⟨d, rfl, hd⟩ := h1
      rw [(ih s2).1 h2, show d = c by simpa using hd]
      rfl
    · rintro rfl
      exact ⟨[c], s, rfl, by rw [langR]; exact ⟨c, rfl, by simp⟩, (ih s).2 rfl⟩
theorem quote_first (s : Bx) (x : Re) : often x (quoteN s) = (x, quoteN s) := by
  cases s with
  | nil => rfl
  | cons c s =>
    rw [quoteN, List.flatMap_cons]
    split
    · rfl
    · rename_i hc
      have h1 : c ≠ 42 := fun e => hc (by subst e; rfl)
      have h2 : c ≠ 43 := fun e => hc (by subst e; rfl)
      have h3 : c ≠ 63 := fun e => hc (by subst e; rfl)
      simp only [List.cons_append, List.nil_append, often, if_neg h1, if_neg h2, if_neg h3]
theorem quote_atom (c : UInt8) (r : Bx) (n d : Nat) : atomN (n + 1) d ((if spcB c then [92, c] else [c]) ++ r) = .ok (.set fun b => b == c) r := by
  by_cases hc : spcB c = true
  · rw [if_pos hc, List.cons_append, atomN, if_neg (by decide), if_neg (by decide), if_neg (by decide), if_neg (fun h => h.1 rfl)]
    rfl
  · rw [if_neg hc]
    have h1 : c ≠ 40 := fun e => hc (by subst e; rfl)
    have h2 : c ≠ 91 := fun e => hc (by subst e; rfl)
    have h3 : c ≠ 46 := fun e => hc (by subst e; rfl)
    have h4 : c ≠ 92 := fun e => hc (by subst e; rfl)
    rw [List.cons_append, atomN, if_neg h1, if_neg h2, if_neg h3, if_neg (fun h => hc h.2), show signN (c :: ([] ++ r)) = some (c, r) by unfold signN; simp [h4]]
theorem quote_seq (s : Bx) (n d : Nat) (hn : s.length + 3 ≤ n) : seqN n d (quoteN s) = .ok (chrs s) [] := by
  induction s generalizing n with
  | nil =>
    obtain ⟨n, rfl⟩ : ∃ k, n = k + 1 := ⟨n - 1, by omega⟩
    rw [quoteN, List.flatMap_nil, seqN, chrs]
  | cons c s ih =>
    simp only [List.length_cons] at hn
    obtain ⟨n, rfl⟩ : ∃ k, n = k + 1 + 1 + 1 := ⟨n - 3, by omega⟩
    have hp : partN (n + 1 + 1) d (quoteN (c :: s)) = .ok (.set fun b => b == c) (quoteN s) := by
      rw [partN, quoteN, List.flatMap_cons, quote_atom]
      simp only
      rw [← quoteN, quote_first]
    have hne : ∃ x y, quoteN (c :: s) = x :: y ∧ ¬ (x = 124 ∨ x = 41) := by
      rw [quoteN, List.flatMap_cons]
      by_cases hc : spcB c = true
      · rw [if_pos hc]
        exact ⟨92, _, rfl, by decide⟩
      · rw [if_neg hc]
        exact ⟨c, _, rfl, fun h => hc (h.elim (fun e => by subst e; rfl) (fun e => by subst e; rfl))⟩
    obtain ⟨x, y, e, hx⟩ := hne
    rw [e, seqN, if_neg hx, ← e, hp]
    simp only
    rw [ih _ (by omega), chrs]
theorem quote_read (s : Bx) : readN (quoteN s) = .ok (.one (chrs s)) [] := by
  unfold readN
  have hl : s.length ≤ (quoteN s).length := by
    induction s with
    | nil => simp
    | cons c s ih => rw [quoteN, List.flatMap_cons, ← quoteN]; split <;> simp <;> omega
  rw [altN, quote_seq s _ 0 (by omega)]
/-- A group at the end of a row. -/
theorem seq_last {s t : Bx} {x : Re} {n d : Nat} {c : UInt8} (hc : ¬ (c = 124 ∨ c = 41)) (h : partN (n + 1) d (c :: s) = .ok x t) (ht : t = [] ∨ ∃ u, t = 124 :: u) : seqN (n + 1 + 1) d (c :: s) = .ok (.cons x .nil) t := by
  rw [seqN, if_neg hc, h]
  rcases ht with rfl | ⟨u, rfl⟩
  · simp only
    rw [seqN]
  · simp only
    rw [seqN, if_pos (.inl rfl)]
theorem often_bar (x : Re) (u : Bx) : often x (124 :: u) = (x, 124 :: u) := rfl
theorem often_open (x : Re) (u : Bx) : often x (40 :: u) = (x, 40 :: u) := rfl
theorem often_nil (x : Re) : often x [] = (x, []) := rfl
/-- A group by itself. -/
def grp1 (a : Al) : Sq := .cons (.grp a) .nil
theorem grp1_lang (a : Al) (s : Bx) : langS (grp1 a) s ↔ langA a s := by
  rw [grp1, langS]
  constructor
  · rintro ⟨s1, s2, rfl, h1, h2⟩
    rw [langS] at h2
    subst h2
    rw [List.append_nil]
    rw [langR] at h1
    exact h1
  · intro h
    exact ⟨s, [], by simp, by rw [langR]; exact h, by rw [langS]⟩
/-- A row of one group, with what is said of how often, at the end or ahead of a |. -/
theorem row_read {p t : Bx} {a : Al} {n : Nat} {x : Re} {t' : Bx} (hn : 4 * (p ++ 41 :: t).length + 7 ≤ n) (h : readN p = .ok a []) (hx : often (.grp a) t = (x, t')) (ht : t' = [] ∨ ∃ u, t' = 124 :: u) :
    (8 ≤ depA a ∧ seqN n 0 (40 :: (p ++ 41 :: t)) = .er .deep) ∨ (depA a < 8 ∧ seqN n 0 (40 :: (p ++ 41 :: t)) = .ok (.cons x .nil) t') := by
  obtain ⟨n, rfl⟩ : ∃ k, n = k + 1 + 1 := ⟨n - 2, by omega⟩
  rcases group_read (t := t) (n := n) (by omega) h with ⟨k, e⟩ | ⟨k, e⟩
  · refine .inl ⟨k, ?_⟩
    rw [seqN, if_neg (by decide), partN, e]
  · refine .inr ⟨k, seq_last (by decide) ?_ ht⟩
    rw [partN, e]
    simp only [hx]
/-- Two with | between, one behind the other; one, any number of times, and once or not. -/
def orA (a b : Al) : Al := .more (grp1 a) (.one (grp1 b))
def thenA (a b : Al) : Al := .one (.cons (.grp a) (grp1 b))
def starA (a : Al) : Al := .one (.cons (.star (.grp a)) .nil)
def optA (a : Al) : Al := .one (.cons (.opt (.grp a)) .nil)
theorem orA_lang (a b : Al) (s : Bx) : langA (orA a b) s ↔ langA a s ∨ langA b s := by rw [orA, langA, langA, grp1_lang, grp1_lang]
theorem thenA_lang (a b : Al) (s : Bx) : langA (thenA a b) s ↔ ∃ s1 s2, s = s1 ++ s2 ∧ langA a s1 ∧ langA b s2 := by
  rw [thenA, langA, langS]
  simp only [langR, grp1_lang]
theorem starA_lang (a : Al) (s : Bx) : langA (starA a) s ↔ Star (langA a) s := by
  rw [starA, langA, langS]
  constructor
  · rintro ⟨s1, s2, rfl, h1, h2⟩
    rw [langS] at h2
    subst h2
    rw [List.append_nil]
    rw [langR, show langR (.grp a) = langA a by funext u; rw [langR]] at h1
    exact h1
  · intro h
    exact ⟨s, [], by simp, by rw [langR, show langR (.grp a) = langA a by funext u; rw [langR]]; exact h, by rw [langS]⟩
theorem optA_lang (a : Al) (s : Bx) : langA (optA a) s ↔ s = [] ∨ langA a s := by
  rw [optA, langA, langS]
  constructor
  · rintro ⟨s1, s2, rfl, h1, h2⟩
    rw [langS] at h2
    subst h2
    rw [List.append_nil]
    rw [langR, langR] at h1
    exact h1
  · intro h
    exact ⟨s, [], by simp, by rw [langR, langR]; exact h, by rw [langS]⟩
theorem or_read {p q : Bx} {a b : Al} (hp : readN p = .ok a []) (hq : readN q = .ok b []) :
    (8 ≤ max (depA a) (depA b) ∧ readN (40 :: (p ++ 41 :: 124 :: 40 :: (q ++ [41]))) = .er .deep) ∨ (max (depA a) (depA b) < 8 ∧ readN (40 :: (p ++ 41 :: 124 :: 40 :: (q ++ [41]))) = .ok (orA a b) []) := by
  unfold readN
  generalize hN : 4 * (40 :: (p ++ 41 :: 124 :: 40 :: (q ++ [41]))).length + 4 = N
  simp at hN
  obtain ⟨n, rfl⟩ : ∃ k, N = k + 1 + 1 := ⟨N - 2, by omega⟩
  rw [altN]
  rcases row_read (t := 124 :: 40 :: (q ++ [41])) (n := n + 1) (by simp; omega) hp (often_bar _ _) (.inr ⟨_, rfl⟩) with ⟨k, e⟩ | ⟨k, e⟩
  · rw [e]; exact .inl ⟨by omega, rfl⟩
  · rw [e]
    simp only [if_pos]
    rw [altN]
    rcases row_read (p := q) (t := []) (n := n) (by simp; omega) hq (often_nil _) (.inl rfl) with ⟨k2, e⟩ | ⟨k2, e⟩
    · rw [e]; exact .inl ⟨by omega, rfl⟩
    · rw [e]; exact .inr ⟨by omega, rfl⟩
theorem then_read {p q : Bx} {a b : Al} (hp : readN p = .ok a []) (hq : readN q = .ok b []) :
    (8 ≤ max (depA a) (depA b) ∧ readN (40 :: (p ++ 41 :: 40 :: (q ++ [41]))) = .er .deep) ∨ (max (depA a) (depA b) < 8 ∧ readN (40 :: (p ++ 41 :: 40 :: (q ++ [41]))) = .ok (thenA a b) []) := by
  unfold readN
  generalize hN : 4 * (40 :: (p ++ 41 :: 40 :: (q ++ [41]))).length + 4 = N
  simp at hN
  obtain ⟨n, rfl⟩ : ∃ k, N = k + 1 + 1 + 1 := ⟨N - 3, by omega⟩
  rw [altN, seqN, if_neg (by decide), partN]
  rcases group_read (t := 40 :: (q ++ [41])) (n := n) (by simp; omega) hp with ⟨k, e⟩ | ⟨k, e⟩
  · rw [e]; exact .inl ⟨by omega, rfl⟩
  · rw [e]
    simp only [often_open]
    rcases row_read (p := q) (t := []) (n := n + 1) (by simp; omega) hq (often_nil _) (.inl rfl) with ⟨k2, e⟩ | ⟨k2, e⟩
    · rw [e]; exact .inl ⟨by omega, rfl⟩
    · rw [e]; exact .inr ⟨by omega, rfl⟩
theorem star_read {p : Bx} {a : Al} (hp : readN p = .ok a []) : (8 ≤ depA a ∧ readN (40 :: (p ++ [41, 42])) = .er .deep) ∨ (depA a < 8 ∧ readN (40 :: (p ++ [41, 42])) = .ok (starA a) []) := by
  unfold readN
  generalize hN : 4 * (40 :: (p ++ [41, 42])).length + 4 = N
  simp at hN
  obtain ⟨n, rfl⟩ : ∃ k, N = k + 1 := ⟨N - 1, by omega⟩
  rw [altN]
  rcases row_read (t := [42]) (n := n) (x := .star (.grp a)) (t' := []) (by simp; omega) hp rfl (.inl rfl) with ⟨k, e⟩ | ⟨k, e⟩
  · rw [e]; exact .inl ⟨by omega, rfl⟩
  · rw [e]; exact .inr ⟨by omega, rfl⟩
theorem opt_read {p : Bx} {a : Al} (hp : readN p = .ok a []) : (8 ≤ depA a ∧ readN (40 :: (p ++ [41, 63])) = .er .deep) ∨ (depA a < 8 ∧ readN (40 :: (p ++ [41, 63])) = .ok (optA a) []) := by
  unfold readN
  generalize hN : 4 * (40 :: (p ++ [41, 63])).length + 4 = N
  simp at hN
  obtain ⟨n, rfl⟩ : ∃ k, N = k + 1 := ⟨N - 1, by omega⟩
  rw [altN]
  rcases row_read (t := [63]) (n := n) (x := .opt (.grp a)) (t' := []) (by simp; omega) hp rfl (.inl rfl) with ⟨k, e⟩ | ⟨k, e⟩
  · rw [e]; exact .inl ⟨by omega, rfl⟩
  · rw [e]; exact .inr ⟨by omega, rfl⟩
end Go.Proofs.YteooofakpkbgoaaDoor
/- Patterns, plain: the document's example; a byte, any number of times. -/
namespace Go.Proofs.YteooofakpkbgoaaDoor

def exP : Bx := [97, 124, 98, 91, 48, 45, 57, 93, 42]
def digB : UInt8 → Bool := fun x => noSet x || (decide (48 ≤ x) && decide (x ≤ 57))
def exA : Al := .more (.cons (.set fun b => b == 97) .nil) (.one (.cons (.set fun b => b == 98) (.cons (.star (.set digB)) .nil)))
theorem ex_read : readN exP = .ok exA [] := by kernel_rfl
theorem open_read : readN [40] = .er .form := by kernel_rfl
theorem set_lang (p : UInt8 → Bool) (s : Bx) : langR (.set p) s ↔ ∃ c, s = [c] ∧ p c = true := by rw [langR]
theorem star_set (p : UInt8 → Bool) (s : Bx) : Star (langR (.set p)) s ↔ ∀ c ∈ s, p c = true := by
  constructor
  · intro h
    induction h with
    | nil => intro c hc; cases hc
    | cons h1 _ ih =>
      rw [set_lang] at h1
      obtain ⟨c, rfl, hc⟩ := h1
      intro d hd
      rcases List.mem_cons.1 hd with rfl | hd
      · exact hc
      · exact ih d hd
  · intro h
    induction s with
    | nil => exact .nil
    | cons c s ih => exact .cons (s := [c]) ((set_lang p [c]).2 ⟨c, rfl, h c (by simp)⟩) (ih fun d hd => h d (by simp [hd]))
theorem one_lang (r : Re) (s : Bx) : langA (.one (.cons r .nil)) s ↔ langR r s := by
  rw [langA, langS]
  constructor
  · rintro ⟨s1, s2, rfl, h1, h2⟩
    rw [langS] at h2
    subst h2
    rw [List.append_nil]
    exact h1
  · intro h
    exact ⟨s, [], by simp, h, by rw [langS]⟩
theorem ex_lang (s : Bx) : langA exA s ↔ s = [97] ∨ ∃ t, s = 98 :: t ∧ ∀ c ∈ t, digB c = true := by
  have h1 : langS (.cons (.set fun b => b == 97) .nil) s ↔ s = [97] := by
    have h0 := one_lang (.set fun b => b == 97) s
    rw [langA] at h0
    rw [h0, set_lang]
    constructor
    · rintro ⟨c, rfl, hc⟩
      rw [show c = 97 by simpa using hc]
    · rintro rfl
      exact ⟨97, rfl, rfl⟩
  rw [exA, langA, h1, langA, langS]
  refine or_congr Iff.rfl ⟨?_, ?_⟩
  · rintro ⟨s1, s2, rfl, h2, h3⟩
    rw [set_lang] at h2
    obtain ⟨c, rfl, hc⟩ := h2
    have h4 := one_lang (.star (.set digB)) s2
    rw [langA] at h4
    rw [h4, langR, star_set] at h3
    rw [show c = 98 by simpa using hc]
    exact ⟨s2, rfl, h3⟩
  · rintro ⟨t, rfl, h⟩
    have h4 := one_lang (.star (.set digB)) t
    rw [langA] at h4
    exact ⟨[98], t, rfl, (set_lang _ _).2 ⟨98, rfl, rfl⟩, h4.2 (by rw [langR, star_set]; exact h)⟩
theorem ex_a : langA exA [97] := (ex_lang _).2 (.inl rfl)
theorem ex_b : langA exA [98] := (ex_lang _).2 (.inr ⟨[], rfl, fun c h => by cases h⟩)
theorem ex_b7 : langA exA [98, 55] := (ex_lang _).2 (.inr ⟨[55], rfl, fun c h => by rw [List.mem_singleton.1 h]; rfl⟩)
theorem ex_ab : ¬ langA exA [97, 98] := fun h => by
  rcases (ex_lang _).1 h with h | ⟨t, h, _⟩
  · cases h
  · injection h with h _
    exact absurd h (by decide)
theorem ex_least {o : Option Bx} (h : IsLst (langA exA) o) : o = some [97] := by
  cases o with
  | none => exact absurd ex_a (h _)
  | some t =>
    have h1 := le_iff.1 (h.2 _ ex_a)
    rcases (ex_lang _).1 h.1 with rfl | ⟨u, rfl, _⟩
    · rfl
    · rcases h1 with h1 | ⟨h1, h2⟩
      · simp at h1
      · obtain rfl : u = [] := List.length_eq_zero_iff.1 (by simpa using h1)
        rcases h2 with h2 | h2
        · exact absurd h2 (by decide)
        · exact absurd h2 (by decide)
/-- One byte, with *, + and ? behind it. -/
def byteR (c : UInt8) : Re := .set fun b => b == c
theorem byte_part (c : UInt8) (r : Bx) (n d : Nat) : partN (n + 1 + 1) d (quoteN [c] ++ r) = .ok (often (byteR c) r).1 (often (byteR c) r).2 := by
  rw [partN, quoteN, List.flatMap_cons, List.flatMap_nil, List.append_nil, quote_atom]
  rfl
theorem byte_read (c : UInt8) {t : Bx} {x : Re} (h : often (byteR c) t = (x, [])) : readN (quoteN [c] ++ t) = .ok (.one (.cons x .nil)) [] := by
  unfold readN
  generalize hN : 4 * (quoteN [c] ++ t).length + 4 = N
  have hl : 0 < (quoteN [c]).length := by rw [quoteN, List.flatMap_cons]; split <;> simp
  rw [List.length_append] at hN
  obtain ⟨n, rfl⟩ : ∃ k, N = k + 1 + 1 + 1 + 1 := ⟨N - 4, by omega⟩
  have hp := byte_part c t n 0
  rw [h] at hp
  have hne : ∃ x y, quoteN [c] ++ t = x :: y ∧ ¬ (x = 124 ∨ x = 41) := by
    rw [quoteN, List.flatMap_cons]
    by_cases hc : spcB c = true
    · rw [if_pos hc]
      exact ⟨92, _, rfl, by decide⟩
    · rw [if_neg hc]
      exact ⟨c, _, rfl, fun h => hc (h.elim (fun e => by subst e; rfl) (fun e => by subst e; rfl))⟩
  obtain ⟨y, z, e, hy⟩ := hne
  rw [e] at hp ⊢
  rw [altN, seq_last hy hp (.inl rfl)]
theorem byte_star (c : UInt8) (s : Bx) : langA (.one (.cons (.star (byteR c)) .nil)) s ↔ ∀ d ∈ s, d = c := by
  rw [one_lang, langR, byteR, star_set]
  simp
theorem byte_plus (c : UInt8) (s : Bx) : langA (.one (.cons (.plus (byteR c)) .nil)) s ↔ s ≠ [] ∧ ∀ d ∈ s, d = c := by
  rw [one_lang, langR, byteR]
  constructor
  · rintro ⟨s1, s2, rfl, h1, h2⟩
    rw [set_lang] at h1
    obtain ⟨d, rfl, hd⟩ := h1
    rw [star_set] at h2
    refine ⟨by simp, fun x hx => ?_⟩
    rcases List.mem_cons.1 hx with rfl | hx
    · simpa using hd
    · simpa using h2 x hx
  · rintro ⟨h1, h2⟩
    cases s with
    | nil => exact absurd rfl h1
    | cons x s => exact ⟨[x], s, rfl, (set_lang _ _).2 ⟨x, rfl, by simpa using h2 x (by simp)⟩, (star_set _ _).2 fun d hd => by simpa using h2 d (by simp [hd])⟩
theorem byte_opt (c : UInt8) (s : Bx) : langA (.one (.cons (.opt (byteR c)) .nil)) s ↔ s = [] ∨ s = [c] := by
  rw [one_lang, langR, byteR, set_lang]
  refine or_congr Iff.rfl ⟨?_, ?_⟩
  · rintro ⟨d, rfl, hd⟩
    rw [show d = c by simpa using hd]
  · rintro rfl
    exact ⟨c, rfl, by simp⟩
end Go.Proofs.YteooofakpkbgoaaDoor
/- Patterns, plain: no step leads to more steps than its part has, and one. -/
namespace Go.Proofs.YteooofakpkbgoaaDoor

theorem addFree_in {l : List Stp} {n : Nat} {s : Stp} (h : s ∈ addFree l n) : ∃ t ∈ l, s.free.length ≤ t.free.length + 1 := by
  cases l with
  | nil => cases h
  | cons a l =>
    rw [addFree] at h
    rcases List.mem_cons.1 h with rfl | h
    · exact ⟨a, List.mem_cons_self .., by simp⟩
    · exact ⟨s, List.mem_cons_of_mem _ h, by omega⟩
theorem starts_len (a : Al) (b : Nat) : (startsA a b).length ≤ lenA a := by
  cases a with
  | one q => rw [startsA, lenA]; simp
  | more q a =>
    have := starts_len a (b + lenS q + 1)
    rw [startsA, lenA, List.length_cons]
    omega
mutual
theorem free_R (r : Re) (b : Nat) (h : okR r) : (atomR r → ∀ s ∈ stR r b, s.free.length ≤ lenR r) ∧ ∀ s ∈ stR r b, s.free.length ≤ lenR r + 1 := by
  cases r with
  | set p =>
    rw [stR, lenR]
    exact ⟨fun _ s hs => by simp at hs; subst hs; simp, fun s hs => by simp at hs; subst hs; simp⟩
  | grp a =>
    rw [stR, lenR]
    have h1 := free_A a (b + 1) (b + 1 + lenA a) h
    have h2 := starts_len a (b + 1)
    have : ∀ s ∈ (⟨noSet, startsA a (b + 1)⟩ :: stA a (b + 1) (b + 1 + lenA a)), s.free.length ≤ 1 + lenA a := fun s hs => by
      rcases List.mem_cons.1 hs with rfl | hs
      · simp only; omega
      · have := h1 s hs; omega
    exact ⟨fun _ => this, fun s hs => by have := this s hs; omega⟩
  | star r =>
    rw [stR, lenR]
    have h1 := (free_R r b h.2).1 h.1
    refine ⟨fun e => e.elim, fun s hs => ?_⟩
    rcases List.mem_append.1 hs with hs | hs
    · obtain ⟨t, ht, hle⟩ := addFree_in hs
      have := h1 t ht; omega
    · simp at hs; subst hs; simp
  | plus r =>
    rw [stR, lenR]
    have h1 := (free_R r b h.2).1 h.1
    refine ⟨fun e => e.elim, fun s hs => ?_⟩
    rcases List.mem_append.1 hs with hs | hs
    · have := h1 s hs; omega
    · simp at hs; subst hs; simp
  | opt r =>
    rw [stR, lenR]
    have h1 := (free_R r b h.2).1 h.1
    refine ⟨fun e => e.elim, fun s hs => ?_⟩
    obtain ⟨t, ht, hle⟩ := addFree_in hs
    have := h1 t ht; omega
theorem free_A (a : Al) (b E : Nat) (h : okA a) : ∀ s ∈ stA a b E, s.free.length ≤ lenA a + 1 := by
  cases a with
  | one q =>
    rw [stA, lenA]
    have h1 := free_S q b h
    intro s hs
    rcases List.mem_append.1 hs with hs | hs
    · have := h1 s hs; omega
    · simp at hs; subst hs; simp
  | more q a =>
    rw [stA, lenA]
    have h1 := free_S q b h.1
    have h2 := free_A a (b + lenS q + 1) E h.2
    intro s hs
    rcases List.mem_append.1 hs with hs | hs
    · have := h1 s hs; omega
    · rcases List.mem_cons.1 hs with rfl | hs
      · simp
      · have := h2 s hs; omega
theorem free_S (q : Sq) (b : Nat) (h : okS q) : ∀ s ∈ stS q b, s.free.length ≤ lenS q + 1 := by
  cases q with
  | nil => intro s hs; rw [stS] at hs; cases hs
  | cons r q =>
    rw [stS, lenS]
    have h1 := (free_R r b h.1).2
    have h2 := free_S q (b + lenR r) h.2
    intro s hs
    rcases List.mem_append.1 hs with hs | hs
    · have := h1 s hs; omega
    · have := h2 s hs; omega
end
/-- No step leads to many. -/
def Fb (S : List Stp) : Prop := ∀ s ∈ S, s.free.length ≤ 400
theorem Fb.app {S T : List Stp} (h : Fb S) (k : Fb T) : Fb (S ++ T) := fun s hs => (List.mem_append.1 hs).elim (h s) (k s)
theorem Fb.left {S T : List Stp} (h : Fb (S ++ T)) : Fb S := fun s hs => h s (List.mem_append_left _ hs)
theorem Fb.right {S T : List Stp} (h : Fb (S ++ T)) : Fb T := fun s hs => h s (List.mem_append_right _ hs)
theorem Fb.one {p : UInt8 → Bool} {f : List Nat} (h : f.length ≤ 400) : Fb [⟨p, f⟩] := fun s hs => by simp at hs; subst hs; exact h
theorem Fb.ofR {r : Re} {b : Nat} (h : okR r) (hl : lenR r ≤ 390) : Fb (stR r b) := fun s hs => by have := (free_R r b h).2 s hs; omega
theorem Fb.ofS {q : Sq} {b : Nat} (h : okS q) (hl : lenS q ≤ 390) : Fb (stS q b) := fun s hs => by have := free_S q b h s hs; omega
end Go.Proofs.YteooofakpkbgoaaDoor
/- Patterns, plain: where a part of a text may end that begins at one of some places. -/
namespace Go.Proofs.YteooofakpkbgoaaDoor

/-- A text of L stands in s from i to j. -/
def Sits (L : Bx → Prop) (s : Bx) (i j : Nat) : Prop := ∃ a u b, s = a ++ u ++ b ∧ a.length = i ∧ u.length + i = j ∧ L u
/-- The places at which a text of L may end that begins at one of some. -/
def Ends (L : Bx → Prop) (s : Bx) (P : Nat → Prop) (j : Nat) : Prop := ∃ i, P i ∧ Sits L s i j
theorem sits_le {L : Bx → Prop} {s : Bx} {i j : Nat} (h : Sits L s i j) : i ≤ j ∧ j ≤ s.length := by
  obtain ⟨a, u, b, rfl, rfl, rfl, _⟩ := h
  simp; omega
theorem sits_nil {s : Bx} {i j : Nat} : Sits (fun u => u = []) s i j ↔ i = j ∧ j ≤ s.length := by
  constructor
  · rintro ⟨a, u, b, rfl, rfl, rfl, rfl⟩
    simp
  · rintro ⟨rfl, h⟩
    exact ⟨s.take i, [], s.drop i, by simp, by simp; omega, by simp, rfl⟩
theorem sits_then {L M : Bx → Prop} {s : Bx} {i j : Nat} : Sits (fun u => ∃ u1 u2, u = u1 ++ u2 ∧ L u1 ∧ M u2) s i j ↔ ∃ k, Sits L s i k ∧ Sits M s k j := by
  constructor
  · rintro ⟨a, u, b, rfl, rfl, rfl, u1, u2, rfl, h1, h2⟩
    refine ⟨u1.length + a.length, ⟨a, u1, u2 ++ b, by simp, rfl, rfl, h1⟩, ⟨a ++ u1, u2, b, by simp, by simp; omega, by simp; omega, h2⟩⟩
  · rintro ⟨k, ⟨a, u1, b, rfl, rfl, rfl, h1⟩, ⟨a', u2, b', e, e1, rfl, h2⟩⟩
    have h3 : a' = a ++ u1 ∧ u2 ++ b' = b := by
      have h4 : a' ++ (u2 ++ b') = (a ++ u1) ++ b := by rw [← List.append_assoc]; exact e.symm
      exact List.append_inj h4 (by rw [e1, List.length_append]; omega)
    obtain ⟨rfl, rfl⟩ := h3
    exact ⟨a, u1 ++ u2, b', by simp, rfl, by simp; omega, u1, u2, rfl, h1, h2⟩
theorem sits_or {L M : Bx → Prop} {s : Bx} {i j : Nat} : Sits (fun u => L u ∨ M u) s i j ↔ Sits L s i j ∨ Sits M s i j := by
  constructor
  · rintro ⟨a, u, b, h1, h2, h3, h | h⟩
    · exact .inl ⟨a, u, b, h1, h2, h3, h⟩
    · exact .inr ⟨a, u, b, h1, h2, h3, h⟩
  · rintro (⟨a, u, b, h1, h2, h3, h⟩ | ⟨a, u, b, h1, h2, h3, h⟩)
    · exact ⟨a, u, b, h1, h2, h3, .inl h⟩
    · exact ⟨a, u, b, h1, h2, h3, .inr h⟩
theorem sits_set {p : UInt8 → Bool} {s : Bx} {i j : Nat} : Sits (fun u => ∃ c, u = [c] ∧ p c = true) s i j ↔ j = i + 1 ∧ ∃ c, s[i]? = some c ∧ p c = true := by
  constructor
  · rintro ⟨a, u, b, rfl, rfl, rfl, c, rfl, h⟩
    exact ⟨by simp; omega, c, by simp, h⟩
  · rintro ⟨rfl, c, h1, h2⟩
    have hi : i < s.length := (List.getElem?_eq_some_iff.1 h1).1
    refine ⟨s.take i, [c], s.drop (i + 1), ?_, by simp; omega, by simp; omega, c, rfl, h2⟩
    have h3 : s[i] = c := (List.getElem?_eq_some_iff.1 h1).2
    rw [List.append_assoc, List.singleton_append, ← h3, ← List.drop_eq_getElem_cons hi, List.take_append_drop]
theorem ends_then {L M : Bx → Prop} {s : Bx} {P : Nat → Prop} {j : Nat} : Ends (fun u => ∃ u1 u2, u = u1 ++ u2 ∧ L u1 ∧ M u2) s P j ↔ Ends M s (Ends L s P) j := by
  constructor
  · rintro ⟨i, hi, h⟩
    obtain ⟨k, h1, h2⟩ := sits_then.1 h
    exact ⟨k, ⟨i, hi, h1⟩, h2⟩
  · rintro ⟨k, ⟨i, hi, h1⟩, h2⟩
    exact ⟨i, hi, sits_then.2 ⟨k, h1, h2⟩⟩
theorem ends_or {L M : Bx → Prop} {s : Bx} {P : Nat → Prop} {j : Nat} : Ends (fun u => L u ∨ M u) s P j ↔ Ends L s P j ∨ Ends M s P j := by
  constructor
  · rintro ⟨i, hi, h⟩
    exact (sits_or.1 h).elim (fun h => .inl ⟨i, hi, h⟩) (fun h => .inr ⟨i, hi, h⟩)
  · rintro (⟨i, hi, h⟩ | ⟨i, hi, h⟩)
    · exact ⟨i, hi, sits_or.2 (.inl h)⟩
    · exact ⟨i, hi, sits_or.2 (.inr h)⟩
theorem ends_nil {s : Bx} {P : Nat → Prop} (hP : ∀ i, P i → i ≤ s.length) {j : Nat} : Ends (fun u => u = []) s P j ↔ P j := by
  constructor
  · rintro ⟨i, hi, h⟩
    rw [← (sits_nil.1 h).1]
    exact hi
  · intro h
    exact ⟨j, h, sits_nil.2 ⟨rfl, hP j h⟩⟩
theorem ends_set {p : UInt8 → Bool} {s : Bx} {P : Nat → Prop} {j : Nat} : Ends (fun u => ∃ c, u = [c] ∧ p c = true) s P j ↔ ∃ i, j = i + 1 ∧ P i ∧ ∃ c, s[i]? = some c ∧ p c = true := by
  constructor
  · rintro ⟨i, hi, h⟩
    obtain ⟨h1, h2⟩ := sits_set.1 h
    exact ⟨i, h1, hi, h2⟩
  · rintro ⟨i, h1, hi, h2⟩
    exact ⟨i, hi, sits_set.2 ⟨h1, h2⟩⟩
theorem Ends.le {L : Bx → Prop} {s : Bx} {P : Nat → Prop} {j : Nat} (h : Ends L s P j) : j ≤ s.length := by
  obtain ⟨i, _, h⟩ := h
  exact (sits_le h).2
theorem ends_mono {L : Bx → Prop} {s : Bx} {P Q : Nat → Prop} (h : ∀ i, P i → Q i) {j : Nat} (hj : Ends L s P j) : Ends L s Q j := by
  obtain ⟨i, hi, hs⟩ := hj
  exact ⟨i, h i hi, hs⟩
theorem ends_iff {L : Bx → Prop} {s : Bx} {P Q : Nat → Prop} (h : ∀ i, P i ↔ Q i) (j : Nat) : Ends L s P j ↔ Ends L s Q j := ⟨ends_mono fun i => (h i).1, ends_mono fun i => (h i).2⟩
theorem ends_lang {L M : Bx → Prop} (h : ∀ u, L u ↔ M u) (s : Bx) (P : Nat → Prop) (j : Nat) : Ends L s P j ↔ Ends M s P j := by
  rw [show L = M from funext fun u => propext (h u)]
/-- The least set with P and with the ends of what begins in it is that of any number of times. -/
theorem ends_star {L : Bx → Prop} {s : Bx} {P R : Nat → Prop} (hP : ∀ i, P i → i ≤ s.length) (h0 : ∀ i, P i → R i) (h1 : ∀ j, Ends L s R j → R j) (h2 : ∀ j, R j → Ends (Star L) s P j) (j : Nat) : Ends (Star L) s P j ↔ R j := by
  refine ⟨?_, h2 j⟩
  rintro ⟨i, hi, a, u, b, rfl, rfl, rfl, hu⟩
  have : ∀ {u : Bx}, Star L u → ∀ a b : Bx, R a.length → (∀ k, Ends L (a ++ u ++ b) R k → R k) → R (u.length + a.length) := fun {u} hu => by
    induction hu with
    | nil => intro a b ha _; simpa using ha
    | @cons x y hx _ ih =>
      intro a b ha hc
      have h3 : R ((a ++ x).length) := hc _ ⟨a.length, ha, a, x, y ++ b, by simp, rfl, by simp; omega, hx⟩
      have h4 := ih (a ++ x) b h3 (by simpa using hc)
      rw [show (x ++ y).length + a.length = y.length + (a ++ x).length by simp; omega]
      exact h4
  exact this hu a b (h0 _ hi) h1
/-- What is reached in so many times more is reached by any number. -/
theorem star_more {L : Bx → Prop} {s : Bx} {P : Nat → Prop} {j : Nat} (h : Ends L s (Ends (Star L) s P) j) : Ends (Star L) s P j := by
  obtain ⟨k, ⟨i, hi, h1⟩, h2⟩ := h
  have h3 := sits_then.2 ⟨k, h1, h2⟩
  obtain ⟨a, u, b, e1, e2, e3, u1, u2, rfl, h4, h5⟩ := h3
  refine ⟨i, hi, a, u1 ++ u2, b, e1, e2, e3, ?_⟩
  clear e1 e3
  induction h4 with
  | nil => have := Star.cons h5 (Star.nil (L := L)); simpa using this
  | cons g1 _ ih => rw [List.append_assoc]; exact .cons g1 ih
/-- The whole text. -/
theorem ends_whole {L : Bx → Prop} {s : Bx} : Ends L s (fun i => i = 0) s.length ↔ L s := by
  constructor
  · rintro ⟨i, rfl, a, u, b, rfl, h1, h2, h⟩
    obtain rfl : a = [] := List.length_eq_zero_iff.1 h1
    have h3 : b = [] := List.length_eq_zero_iff.1 (by simp only [List.nil_append, List.length_append] at h2; omega)
    subst h3
    simpa using h
  · intro h
    exact ⟨0, rfl, [], s, [], by simp, rfl, by simp, h⟩
/-- On the way of the repeated search: out has what was found, step what was found last. -/
structure Rep (L : Bx → Prop) (s : Bx) (P out step : Nat → Prop) : Prop where
  base : ∀ i, P i → out i
  sub : ∀ i, step i → out i
  low : ∀ i, out i → Ends (Star L) s P i
  next : ∀ j, Ends L s out j → out j ∨ Ends L s step j
theorem Rep.start {L : Bx → Prop} {s : Bx} {P : Nat → Prop} (hP : ∀ i, P i → i ≤ s.length) : Rep L s P P P :=
  ⟨fun _ h => h, fun _ h => h, fun i h => ⟨i, h, s.take i, [], s.drop i, by simp, by have := hP i h; simp; omega, by simp, .nil⟩, fun _ h => .inr h⟩
theorem Rep.step {L : Bx → Prop} {s : Bx} {P out stp : Nat → Prop} (h : Rep L s P out stp) : Rep L s P (fun j => out j ∨ Ends L s stp j) (Ends L s stp) :=
  ⟨fun i hi => .inl (h.base i hi), fun i hi => .inr hi, fun i hi => hi.elim (h.low i) (fun e => star_more (ends_mono (fun k hk => h.low k (h.sub k hk)) e)),
   fun j hj => by
    obtain ⟨i, hi, hs⟩ := hj
    rcases hi with hi | hi
    · exact .inl (h.next j ⟨i, hi, hs⟩)
    · exact .inr ⟨i, hi, hs⟩⟩
theorem Rep.stop {L : Bx → Prop} {s : Bx} {P out stp : Nat → Prop} (hP : ∀ i, P i → i ≤ s.length) (h : Rep L s P out stp) (he : ∀ j, Ends L s stp j → out j) (j : Nat) : Ends (Star L) s P j ↔ out j :=
  ends_star hP h.base (fun j hj => (h.next j hj).elim id (he j)) h.low j
end Go.Proofs.YteooofakpkbgoaaDoor
