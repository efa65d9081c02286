/- Patterns, plain: what they are, how a text is read; a set of bytes as a row of truths (PLang, PRead, PSet of the pattern texts in one). -/
import Derived.KernelRfl
import Derived.Below
namespace Go.Proofs.YtknhkmlihbgjpaaDoor


abbrev Bx := List UInt8
mutual
/-- A part: a set of bytes; a group; any number of times, once and more, once or not, of an atom. -/
inductive Re
  | set (p : UInt8 → Bool)
  | grp (a : Al)
  | star (r : Re)
  | plus (r : Re)
  | opt (r : Re)
/-- Alternatives. -/
inductive Al
  | one (s : Sq)
  | more (s : Sq) (a : Al)
/-- Parts, one behind the other. -/
inductive Sq
  | nil
  | cons (r : Re) (s : Sq)
end
/-- Any number of texts of L. -/
inductive Star (L : Bx → Prop) : Bx → Prop
  | nil : Star L []
  | cons {s t : Bx} : L s → Star L t → Star L (s ++ t)
mutual
def langR : Re → Bx → Prop
  | .set p, s => ∃ c, s = [c] ∧ p c = true
  | .grp a, s => langA a s
  | .star r, s => Star (langR r) s
  | .plus r, s => ∃ s1 s2, s = s1 ++ s2 ∧ langR r s1 ∧ Star (langR r) s2
  | .opt r, s => s = [] ∨ langR r s
def langA : Al → Bx → Prop
  | .one q, s => langS q s
  | .more q a, s => langS q s ∨ langA a s
def langS : Sq → Bx → Prop
  | .nil, s => s = []
  | .cons r q, s => ∃ s1 s2, s = s1 ++ s2 ∧ langR r s1 ∧ langS q s2
end
/-- A step: the bytes that lead behind it; the steps that are reached without a byte. -/
structure Stp where
  set : UInt8 → Bool
  free : List Nat
def noSet : UInt8 → Bool := fun _ => false
def addFree : List Stp → Nat → List Stp
  | [], _ => []
  | s :: l, n => ⟨s.set, s.free ++ [n]⟩ :: l
mutual
def lenR : Re → Nat
  | .set _ => 1
  | .grp a => 1 + lenA a
  | .star r => lenR r + 1
  | .plus r => lenR r + 1
  | .opt r => lenR r
def lenA : Al → Nat
  | .one q => lenS q + 1
  | .more q a => lenS q + 1 + lenA a
def lenS : Sq → Nat
  | .nil => 0
  | .cons r q => lenR r + lenS q
end
def startsA : Al → Nat → List Nat
  | .one _, b => [b]
  | .more q a, b => b :: startsA a (b + lenS q + 1)
mutual
/-- The steps of a part that begins at step b. -/
def stR : Re → Nat → List Stp
  | .set p, _ => [⟨p, []⟩]
  | .grp a, b => ⟨noSet, startsA a (b + 1)⟩ :: stA a (b + 1) (b + 1 + lenA a)
  | .star r, b => addFree (stR r b) (b + lenR r + 1) ++ [⟨noSet, [b]⟩]
  | .plus r, b => stR r b ++ [⟨noSet, [b, b + lenR r + 1]⟩]
  | .opt r, b => addFree (stR r b) (b + lenR r)
/-- .. of alternatives; E: behind them. -/
def stA : Al → Nat → Nat → List Stp
  | .one q, b, E => stS q b ++ [⟨noSet, [E]⟩]
  | .more q a, b, E => stS q b ++ ⟨noSet, [E]⟩ :: stA a (b + lenS q + 1) E
def stS : Sq → Nat → List Stp
  | .nil, _ => []
  | .cons r q, b => stR r b ++ stS q (b + lenR r)
end
def atomR : Re → Prop
  | .set _ => True
  | .grp _ => True
  | _ => False
mutual
/-- Only atoms are repeated. -/
def okR : Re → Prop
  | .set _ => True
  | .grp a => okA a
  | .star r => atomR r ∧ okR r
  | .plus r => atomR r ∧ okR r
  | .opt r => atomR r ∧ okR r
def okA : Al → Prop
  | .one q => okS q
  | .more q a => okS q ∧ okA a
def okS : Sq → Prop
  | .nil => True
  | .cons r q => okR r ∧ okS q
end
theorem addFree_length (l : List Stp) (n : Nat) : (addFree l n).length = l.length := by cases l <;> rfl
mutual
theorem stR_length (r : Re) (b : Nat) : (stR r b).length = lenR r := by
  cases r with
  | set p => rfl
  | grp a => rw [stR, lenR, List.length_cons, stA_length a]; omega
  | star r => rw [stR, lenR, List.length_append, addFree_length, stR_length r]; rfl
  | plus r => rw [stR, lenR, List.length_append, stR_length r]; rfl
  | opt r => rw [stR, lenR, addFree_length, stR_length r]
theorem stA_length (a : Al) (b E : Nat) : (stA a b E).length = lenA a := by
  cases a with
  | one q => rw [stA, lenA, List.length_append, stS_length q]; rfl
  | more q a => rw [stA, lenA, List.length_append, List.length_cons, stS_length q, stA_length a]; omega
theorem stS_length (q : Sq) (b : Nat) : (stS q b).length = lenS q := by
  cases q with
  | nil => rfl
  | cons r q => rw [stS, lenS, List.length_append, stR_length r, stS_length q]
end
theorem lenR_pos (r : Re) : 0 < lenR r := by cases r <;> rw [lenR] <;> try omega
                                             exact lenR_pos _
/-- A way from step k to step j with the text s, n edges, out of steps from b on and ahead of e. -/
inductive In (S : List Stp) (b e : Nat) : Nat → Nat → Bx → Nat → Prop
  | refl (k : Nat) : In S b e 0 k [] k
  | eps {n k m j : Nat} {s : Bx} {st : Stp} : b ≤ k → k < e → S[k]? = some st → m ∈ st.free → In S b e n m s j → In S b e (n + 1) k s j
  | byte {n k j : Nat} {s : Bx} {st : Stp} {c : UInt8} : b ≤ k → k < e → S[k]? = some st → st.set c = true → In S b e n (k + 1) s j → In S b e (n + 1) k (c :: s) j
theorem In.wider {S : List Stp} {b e b' e' n k j : Nat} {s : Bx} (h : In S b e n k s j) (hb : b' ≤ b) (he : e ≤ e') : In S b' e' n k s j := by
  induction h with
  | refl k => exact .refl k
  | eps h1 h2 h3 h4 _ ih => exact .eps (by omega) (by omega) h3 h4 ih
  | byte h1 h2 h3 h4 _ ih => exact .byte (by omega) (by omega) h3 h4 ih
theorem In.trans {S : List Stp} {b e n m k i j : Nat} {s t : Bx} (h : In S b e n k s i) (h' : In S b e m i t j) : In S b e (n + m) k (s ++ t) j := by
  induction h with
  | refl k => simpa using h'
  | @eps n' k m' j' s' st h1 h2 h3 h4 _ ih => rw [show n' + 1 + m = (n' + m) + 1 by omega]; exact .eps h1 h2 h3 h4 (ih h')
  | @byte n' k j' s' st c h1 h2 h3 h4 _ ih => rw [show n' + 1 + m = (n' + m) + 1 by omega]; exact .byte h1 h2 h3 h4 (ih h')
/-- A part of the steps stands at b. -/
def Emb (S : List Stp) (b : Nat) (f : List Stp) : Prop := ∀ i, i < f.length → S[b + i]? = f[i]?
theorem Emb.left {S f g : List Stp} {b : Nat} (h : Emb S b (f ++ g)) : Emb S b f := fun i hi => by
  rw [h i (by rw [List.length_append]; omega), List.getElem?_append_left hi]
theorem Emb.right {S f g : List Stp} {b : Nat} (h : Emb S b (f ++ g)) : Emb S (b + f.length) g := fun i hi => by
  rw [show b + f.length + i = b + (f.length + i) by omega, h (f.length + i) (by rw [List.length_append]; omega), List.getElem?_append_right (by omega), show f.length + i - f.length = i by omega]
theorem Emb.head {S g : List Stp} {b : Nat} {x : Stp} (h : Emb S b (x :: g)) : S[b]? = some x := by
  have := h 0 (by simp)
  simpa using this
theorem Emb.tail {S g : List Stp} {b : Nat} {x : Stp} (h : Emb S b (x :: g)) : Emb S (b + 1) g := fun i hi => by
  rw [show b + 1 + i = b + (i + 1) by omega, h (i + 1) (by simp; omega)]; simp
/-- All that a step of S from b on and ahead of e leads to lies between. -/
def Cl (S : List Stp) (b e : Nat) : Prop := ∀ k st, b ≤ k → k < e → S[k]? = some st → ∀ m ∈ st.free, b ≤ m ∧ m ≤ e
/-- .. and not at b. -/
def Cl1 (S : List Stp) (b e : Nat) : Prop := ∀ k st, b ≤ k → k < e → S[k]? = some st → ∀ m ∈ st.free, b < m ∧ m ≤ e
theorem Cl1.cl {S : List Stp} {b e : Nat} (h : Cl1 S b e) : Cl S b e := fun k st h1 h2 h3 m hm => by have := h k st h1 h2 h3 m hm; omega
theorem starts_mem {a : Al} {b m : Nat} (h : m ∈ startsA a b) : b ≤ m ∧ m < b + lenA a := by
  cases a with
  | one q => simp [startsA] at h; subst h; rw [lenA]; omega
  | more q a =>
    rw [startsA] at h
    rw [lenA]
    rcases List.mem_cons.1 h with rfl | h
    · omega
    · have := starts_mem h; omega
theorem emb_at {S f : List Stp} {b k : Nat} {st : Stp} (h : Emb S b f) (h1 : b ≤ k) (h2 : k < b + f.length) (h3 : S[k]? = some st) : f[k - b]? = some st := by
  have := h (k - b) (by omega)
  rw [show b + (k - b) = k by omega, h3] at this
  exact this.symm
theorem addFree_emb {S f : List Stp} {b E : Nat} {x : Stp} (h : Emb S b (addFree (x :: f) E)) (hb : b < S.length) : Emb (S.set b x) b (x :: f) := fun i hi => by
  by_cases hi0 : i = 0
  · subst hi0
    rw [Nat.add_zero, List.getElem?_set_self hb]; rfl
  · rw [List.getElem?_set_ne (by omega)]
    have := h i (by rw [addFree_length]; exact hi)
    rw [this]
    obtain ⟨j, rfl⟩ : ∃ j, i = j + 1 := ⟨i - 1, by omega⟩
    simp [addFree]


/-- What stands in the way. -/
inductive Er
  | form
  | deep
inductive Res (α : Type)
  | er (e : Er)
  | ok (x : α) (r : Bx)
/-- The bytes that don't stand for themselves. -/
def spcB (c : UInt8) : Bool := c == 42 || c == 43 || c == 63 || c == 124 || c == 40 || c == 41 || c == 91 || c == 93 || c == 92 || c == 46
def signN : Bx → Option (UInt8 × Bx)
  | [] => none
  | c :: s => if c = 92 then (match s with | [] => none | d :: s' => some (d, s')) else some (c, s)
def elemN (s : Bx) : Option ((UInt8 × UInt8) × Bx) :=
  match signN s with
  | none => none
  | some (f, r) => match r with
    | x :: y :: r' => if x = 45 ∧ y ≠ 93 then (match signN (y :: r') with | none => none | some (l, r'') => if f ≤ l then some ((f, l), r'') else none) else some ((f, f), r)
    | _ => some ((f, f), r)
def clsN : Nat → (UInt8 → Bool) → Bx → Option ((UInt8 → Bool) × Bx)
  | 0, _, _ => none
  | _ + 1, _, [] => none
  | n + 1, p, c :: r => if c = 93 then some (p, r) else
    match elemN (c :: r) with
    | none => none
    | some ((f, l), r') => clsN n (fun x => p x || (decide (f ≤ x) && decide (x ≤ l))) r'
def cls1 (s : Bx) : Option ((UInt8 → Bool) × Bx) :=
  match s with
  | [] => none
  | c :: _ => if c = 93 then none else clsN (s.length) noSet s
/-- Behind its [. -/
def classN (s : Bx) : Option ((UInt8 → Bool) × Bx) :=
  match s with
  | [] => none
  | c :: r => if c = 94 then (cls1 r).map (fun x => (fun b => !x.1 b, x.2)) else cls1 (c :: r)
/-- How often, of what stands behind an atom. -/
def often (r : Re) : Bx → Re × Bx
  | [] => (r, [])
  | c :: s => if c = 42 then (.star r, s) else if c = 43 then (.plus r, s) else if c = 63 then (.opt r, s) else (r, c :: s)
mutual
def altN : Nat → Nat → Bx → Res Al
  | 0, _, _ => .er .form
  | n + 1, d, s => match seqN n d s with
    | .er e => .er e
    | .ok q r => match r with
      | [] => .ok (.one q) []
      | c :: r' => if c = 124 then (match altN n d r' with | .er e => .er e | .ok a r'' => .ok (.more q a) r'') else .ok (.one q) (c :: r')
def seqN : Nat → Nat → Bx → Res Sq
  | 0, _, _ => .er .form
  | _ + 1, _, [] => .ok .nil []
  | n + 1, d, c :: s => if c = 124 ∨ c = 41 then .ok .nil (c :: s) else
    match partN n d (c :: s) with
    | .er e => .er e
    | .ok x r => match seqN n d r with
      | .er e => .er e
      | .ok q r' => .ok (.cons x q) r'
def partN : Nat → Nat → Bx → Res Re
  | 0, _, _ => .er .form
  | n + 1, d, s => match atomN n d s with
    | .er e => .er e
    | .ok x r => .ok (often x r).1 (often x r).2
def atomN : Nat → Nat → Bx → Res Re
  | 0, _, _ => .er .form
  | _ + 1, _, [] => .er .form
  | n + 1, d, c :: s =>
    if c = 40 then (if d = 8 then .er .deep else match altN n (d + 1) s with
      | .er e => .er e
      | .ok a r => match r with
        | [] => .er .form
        | x :: r' => if x = 41 then .ok (.grp a) r' else .er .form)
    else if c = 91 then (match classN s with
      | none => .er .form
      | some (p, r) => .ok (.set p) r)
    else if c = 46 then .ok (.set fun _ => true) s
    else if c ≠ 92 ∧ spcB c = true then .er .form
    else match signN (c :: s) with
      | none => .er .form
      | some (x, r) => .ok (.set fun b => b == x) r
end
theorem signN_len {s r : Bx} {c : UInt8} (h : signN s = some (c, r)) : r.length < s.length := by
  cases s with
  | nil => cases h
  | cons x s =>
    unfold signN at h
    simp only at h
    split at h
    · cases s with
      | nil => cases h
      | cons d s' =>
        simp at h
        rw [← h.2]
        simp; omega
    · simp at h
      rw [← h.2]
      simp
theorem elemN_len {s r : Bx} {f l : UInt8} (h : elemN s = some ((f, l), r)) : r.length < s.length := by
  unfold elemN at h
  cases hs : signN s with
  | none => rw [hs] at h; cases h
  | some x =>
    obtain ⟨f', r'⟩ := x
    have h1 := signN_len hs
    rw [hs] at h
    simp only at h
    split at h
    · rename_i x y r''
      split at h
      · cases hs2 : signN (y :: r'') with
        | none => rw [hs2] at h; cases h
        | some z =>
          obtain ⟨l', r3⟩ := z
          have h2 := signN_len hs2
          rw [hs2] at h
          simp only at h
          split at h
          · simp at h
            rw [← h.2]
            simp only [List.length_cons] at h1 h2
            omega
          · cases h
      · simp at h
        rw [← h.2]
        exact h1
    · simp at h
      rw [← h.2]
      exact h1
theorem clsN_len {n : Nat} {p q : UInt8 → Bool} {s r : Bx} (h : clsN n p s = some (q, r)) : r.length < s.length := by
  induction n generalizing p s with
  | zero => cases h
  | succ n ih => cases s with
    | nil => cases h
    | cons c s =>
      rw [clsN] at h
      split at h
      · simp at h
        rw [← h.2]
        simp
      · cases he : elemN (c :: s) with
        | none => rw [he] at h; cases h
        | some x =>
          obtain ⟨⟨f, l⟩, r'⟩ := x
          rw [he] at h
          have h1 := elemN_len he
          have h2 := ih h
          omega
theorem cls1_len {p : UInt8 → Bool} {s r : Bx} (h : cls1 s = some (p, r)) : r.length < s.length := by
  unfold cls1 at h
  cases s with
  | nil => cases h
  | cons c s =>
    simp only at h
    split at h
    · cases h
    · exact clsN_len h
theorem classN_len {p : UInt8 → Bool} {s r : Bx} (h : classN s = some (p, r)) : r.length < s.length := by
  unfold classN at h
  cases s with
  | nil => cases h
  | cons c s =>
    simp only at h
    split at h
    · cases hc : cls1 s with
      | none => rw [hc] at h; cases h
      | some x =>
        obtain ⟨p', r'⟩ := x
        rw [hc] at h
        simp at h
        have := cls1_len hc
        rw [← h.2]
        simp; omega
    · exact cls1_len h
theorem often_good {r : Re} {s : Bx} (h1 : atomR r) (h2 : okR r) : okR (often r s).1 ∧ (often r s).2.length ≤ s.length ∧ lenR (often r s).1 + (often r s).2.length ≤ lenR r + s.length := by
  cases s with
  | nil => exact ⟨h2, Nat.le_refl _, Nat.le_refl _⟩
  | cons c s =>
    rw [often]
    split
    · exact ⟨by rw [okR]; exact ⟨h1, h2⟩, by simp, by simp only [lenR, List.length_cons]; omega⟩
    · split
      · exact ⟨by rw [okR]; exact ⟨h1, h2⟩, by simp, by simp only [lenR, List.length_cons]; omega⟩
      · split
        · exact ⟨by rw [okR]; exact ⟨h1, h2⟩, by simp, by simp only [lenR, List.length_cons]; omega⟩
        · exact ⟨h2, Nat.le_refl _, Nat.le_refl _⟩
/-- What is read is a pattern, and has no more steps than bytes (and the two of its alternatives). -/
theorem reads_good (n : Nat) : (∀ d s a r, altN n d s = .ok a r → okA a ∧ r.length ≤ s.length ∧ lenA a + r.length ≤ s.length + 1) ∧ (∀ d s q r, seqN n d s = .ok q r → okS q ∧ lenS q + r.length ≤ s.length) ∧
    (∀ d s x r, partN n d s = .ok x r → okR x ∧ lenR x + r.length ≤ s.length) ∧ ∀ d s x r, atomN n d s = .ok x r → atomR x ∧ okR x ∧ lenR x + r.length ≤ s.length := by
  induction n with
  | zero => exact ⟨fun d s a r h => by rw [altN] at h; (cases h), fun d s a r h => by rw [seqN] at h; (cases h), fun d s a r h => by rw [partN] at h; (cases h), fun d s a r h => by rw [atomN] at h; (cases h)⟩
  | succ n ih =>
    obtain ⟨iA, iS, iP, iT⟩ := ih
    refine ⟨fun d s a r h => ?_, fun d s q r h => ?_, fun d s x r h => ?_, fun d s x r h => ?_⟩
    · rw [altN] at h
      cases hs : seqN n d s with
      | er e => rw [hs] at h; cases h
      | ok q r1 =>
        rw [hs] at h
        have h1 := iS _ _ _ _ hs
        cases r1 with
        | nil =>
          simp only at h
          cases h
          simp only [okA, lenA]
          simp at h1 ⊢
          exact ⟨h1.1, by omega⟩
        | cons c r2 =>
          simp only at h
          split at h
          · cases ha : altN n d r2 with
            | er e => rw [ha] at h; cases h
            | ok a' r3 =>
              rw [ha] at h
              simp only at h
              cases h
              have h2 := iA _ _ _ _ ha
              simp only [okA, lenA, List.length_cons] at h1 h2 ⊢
              exact ⟨⟨h1.1, h2.1⟩, by omega, by omega⟩
          · cases h
            simp only [okA, lenA, List.length_cons] at h1 ⊢
            exact ⟨h1.1, by omega, by omega⟩
    · cases s with
      | nil =>
        rw [seqN] at h
        cases h
        exact ⟨by rw [okS]; trivial, by rw [lenS]; simp⟩
      | cons c s =>
        rw [seqN] at h
        split at h
        · cases h
          exact ⟨by rw [okS]; trivial, by rw [lenS]; simp⟩
        · cases hp : partN n d (c :: s) with
          | er e => rw [hp] at h; cases h
          | ok x r1 =>
            rw [hp] at h
            simp only at h
            cases hq : seqN n d r1 with
            | er e => rw [hq] at h; cases h
            | ok q' r2 =>
              rw [hq] at h
              cases h
              have h1 := iP _ _ _ _ hp
              have h2 := iS _ _ _ _ hq
              rw [okS, lenS]
              exact ⟨⟨h1.1, h2.1⟩, by omega⟩
    · rw [partN] at h
      cases ht : atomN n d s with
      | er e => rw [ht] at h; cases h
      | ok y r1 =>
        rw [ht] at h
        cases h
        have h1 := iT _ _ _ _ ht
        have h2 := often_good (s := r1) h1.1 h1.2.1
        exact ⟨h2.1, by omega⟩
    · cases s with
      | nil => rw [atomN] at h; cases h
      | cons c s =>
        rw [atomN] at h
        split at h
        · split at h
          · cases h
          · cases ha : altN n (d + 1) s with
            | er e => rw [ha] at h; cases h
            | ok a r1 =>
              rw [ha] at h
              have h1 := iA _ _ _ _ ha
              cases r1 with
              | nil => cases h
              | cons y r2 =>
                simp only at h
                split at h
                · cases h
                  simp only [atomR, okR, lenR, List.length_cons] at h1 ⊢
                  exact ⟨trivial, h1.1, by omega⟩
                · cases h
        · split at h
          · cases hc : classN s with
            | none => rw [hc] at h; cases h
            | some z =>
              obtain ⟨p, r1⟩ := z
              rw [hc] at h
              cases h
              have h1 := classN_len hc
              simp only [atomR, okR, lenR, List.length_cons]
              exact ⟨trivial, trivial, by omega⟩
          · split at h
            · cases h
              simp only [atomR, okR, lenR, List.length_cons]
              exact ⟨trivial, trivial, by omega⟩
            · split at h
              · cases h
              · cases hs : signN (c :: s) with
                | none => rw [hs] at h; cases h
                | some z =>
                  obtain ⟨b, r1⟩ := z
                  rw [hs] at h
                  cases h
                  have h1 := signN_len hs
                  simp only [atomR, okR, lenR, List.length_cons] at h1 ⊢
                  exact ⟨trivial, trivial, by omega⟩


def setRow (p : UInt8 → Bool) : List Value := (List.range 256).map fun i => Value.bool (p (UInt8.ofNat i))
theorem setRow_len (p : UInt8 → Bool) : (setRow p).length = 256 := by simp [setRow]
theorem setRow_get (p : UInt8 → Bool) {k : Nat} (h : k < 256) : (setRow p)[k]? = some (.bool (p (UInt8.ofNat k))) := by simp [setRow, h]
theorem ofNat_inj {a b : Nat} (ha : a < 256) (hb : b < 256) (h : UInt8.ofNat a = UInt8.ofNat b) : a = b := by
  have := congrArg UInt8.toNat h
  simp at this
  omega
theorem setRow_set (p : UInt8 → Bool) {k : Nat} (h : k < 256) (b : Bool) : (setRow p).set k (.bool b) = setRow (fun x => if x = UInt8.ofNat k then b else p x) := by
  apply List.ext_getElem?
  intro i
  by_cases hi : i < 256
  · by_cases e : k = i
    · subst e
      rw [List.getElem?_set_self (by rw [setRow_len]; exact h), setRow_get _ hi, if_pos rfl]
    · rw [List.getElem?_set_ne e, setRow_get _ hi, setRow_get _ hi, if_neg fun e' => e (ofNat_inj hi h e').symm]
  · rw [List.getElem?_eq_none (by rw [List.length_set, setRow_len]; omega), List.getElem?_eq_none (by rw [setRow_len]; omega)]
theorem setRow_inj {p q : UInt8 → Bool} (h : setRow p = setRow q) : p = q := by
  funext c
  have h1 := congrArg (fun l => l[c.toNat]?) h
  simp only [setRow_get _ c.toNat_lt] at h1
  simpa using h1
theorem setRow_none : setRow noSet = List.replicate 256 (.bool false) := by
  apply List.ext_getElem?
  intro i
  by_cases hi : i < 256
  · rw [setRow_get _ hi, List.getElem?_replicate, if_pos hi]; rfl
  · rw [List.getElem?_eq_none (by rw [setRow_len]; omega), List.getElem?_replicate, if_neg hi]
theorem setRow_one (p : UInt8 → Bool) : ∀ v ∈ setRow p, ∃ b, v = .bool b := by
  intro v hv
  obtain ⟨i, _, rfl⟩ := List.mem_map.1 hv
  exact ⟨_, rfl⟩
/-- On the way of adding the bytes from f on: those ahead of k are there. -/
def upto (p : UInt8 → Bool) (f : UInt8) (k : Nat) : UInt8 → Bool := fun x => p x || (decide (f ≤ x) && decide (x.toNat < k))
theorem upto_start (p : UInt8 → Bool) (f : UInt8) : upto p f f.toNat = p := by
  funext x
  unfold upto
  have : (decide (f ≤ x) && decide (x.toNat < f.toNat)) = false := by
    simp only [Bool.and_eq_false_iff, decide_eq_false_iff_not]
    by_cases h : f ≤ x
    · exact .inr (by rw [UInt8.le_iff_toNat_le] at h; omega)
    · exact .inl h
  rw [this, Bool.or_false]
theorem upto_step (p : UInt8 → Bool) (f : UInt8) {k : Nat} (h1 : f.toNat ≤ k) (h2 : k < 256) : (fun x => if x = UInt8.ofNat k then true else upto p f k x) = upto p f (k + 1) := by
  funext x
  unfold upto
  have hk : (UInt8.ofNat k).toNat = k := by simp; omega
  by_cases e : x = UInt8.ofNat k
  · rw [if_pos e]
    have hx : x.toNat = k := by rw [e, hk]
    have : f ≤ x := by rw [UInt8.le_iff_toNat_le]; omega
    simp [this, hx]
  · rw [if_neg e]
    have hx : x.toNat ≠ k := fun h => e (by rw [← h]; simp)
    congr 2
    simp only [decide_eq_decide]
    omega
theorem upto_end (p : UInt8 → Bool) (f l : UInt8) : upto p f (l.toNat + 1) = fun x => p x || (decide (f ≤ x) && decide (x ≤ l)) := by
  funext x
  unfold upto
  congr 2
  simp only [decide_eq_decide]
  rw [UInt8.le_iff_toNat_le]
  omega
/-- With nothing to add all is as it was. -/
theorem upto_void (p : UInt8 → Bool) {f l : UInt8} (h : l < f) : (fun x => p x || (decide (f ≤ x) && decide (x ≤ l))) = p := by
  funext x
  have : (decide (f ≤ x) && decide (x ≤ l)) = false := by
    simp only [Bool.and_eq_false_iff, decide_eq_false_iff_not]
    by_cases h1 : f ≤ x
    · exact .inr fun h2 => by
        rw [UInt8.le_iff_toNat_le] at h1 h2
        rw [UInt8.lt_iff_toNat_lt] at h
        omega
    · exact .inl h1
  rw [this, Bool.or_false]
/-- On the way of turning: those ahead of k are turned. -/
def turnd (p : UInt8 → Bool) (k : Nat) : UInt8 → Bool := fun x => if x.toNat < k then !p x else p x
theorem turnd_start (p : UInt8 → Bool) : turnd p 0 = p := by funext x; simp [turnd]
theorem turnd_end (p : UInt8 → Bool) : turnd p 256 = fun x => !p x := by funext x; simp [turnd, x.toNat_lt]
theorem turnd_get (p : UInt8 → Bool) {k : Nat} (h : k < 256) : turnd p k (UInt8.ofNat k) = p (UInt8.ofNat k) := by
  have hk : (UInt8.ofNat k).toNat = k := by simp; omega
  unfold turnd
  rw [hk, if_neg (Nat.lt_irrefl k)]
theorem turnd_step (p : UInt8 → Bool) {k : Nat} (h : k < 256) : (fun x => if x = UInt8.ofNat k then !p (UInt8.ofNat k) else turnd p k x) = turnd p (k + 1) := by
  funext x
  unfold turnd
  have hk : (UInt8.ofNat k).toNat = k := by simp; omega
  by_cases e : x = UInt8.ofNat k
  · rw [if_pos e, e, hk, if_pos (by omega)]
  · rw [if_neg e]
    have hx : x.toNat ≠ k := fun h => e (by rw [← h]; simp)
    by_cases h1 : x.toNat < k
    · rw [if_pos h1, if_pos (by omega)]
    · rw [if_neg h1, if_neg (by omega)]
end Go.Proofs.YtknhkmlihbgjpaaDoor
