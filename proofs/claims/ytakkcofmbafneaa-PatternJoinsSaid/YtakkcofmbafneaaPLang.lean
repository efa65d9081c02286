/- Patterns, plain: what they are, which texts they have, the steps that the program makes of them; a way through the steps is a text. -/
import Derived.KernelRfl
namespace Go.Proofs.Ytakkcofmbafneaa

abbrev Bx := List UInt8
mutual
/-- A part: a set of bytes; a group; any number of times, once and more, once or not, of an atom. -/
inductive Re
  | set (p : UInt8 → Bool)
  | grp (a : Al)
  | star (r : Re)
  | plus (r : Re)
  | opt (r : Re)
/-- Alternatives. -/
inductive Al
  | one (s : Sq)
  | more (s : Sq) (a : Al)
/-- Parts, one behind the other. -/
inductive Sq
  | nil
  | cons (r : Re) (s : Sq)
end
/-- Any number of texts of L. -/
inductive Star (L : Bx → Prop) : Bx → Prop
  | nil : Star L []
  | cons {s t : Bx} : L s → Star L t → Star L (s ++ t)
mutual
def langR : Re → Bx → Prop
  | .set p, s => ∃ c, s = [c] ∧ p c = true
  | .grp a, s => langA a s
  | .star r, s => Star (langR r) s
  | .plus r, s => ∃ s1 s2, s = s1 ++ s2 ∧ langR r s1 ∧ Star (langR r) s2
  | .opt r, s => s = [] ∨ langR r s
def langA : Al → Bx → Prop
  | .one q, s => langS q s
  | .more q a, s => langS q s ∨ langA a s
def langS : Sq → Bx → Prop
  | .nil, s => s = []
  | .cons r q, s => ∃ s1 s2, s = s1 ++ s2 ∧ langR r s1 ∧ langS q s2
end
/-- A step: the bytes that lead behind it; the steps that are reached without a byte. -/
structure Stp where
  set : UInt8 → Bool
  free : List Nat
def noSet : UInt8 → Bool := fun _ => false
def addFree : List Stp → Nat → List Stp
  | [], _ => []
  | s :: l, n => ⟨s.set, s.free ++ [n]⟩ :: l
mutual
def lenR : Re → Nat
  | .set _ => 1
  | .grp a => 1 + lenA a
  | .star r => lenR r + 1
  | .plus r => lenR r + 1
  | .opt r => lenR r
def lenA : Al → Nat
  | .one q => lenS q + 1
  | .more q a => lenS q + 1 + lenA a
def lenS : Sq → Nat
  | .nil => 0
  | .cons r q => lenR r + lenS q
end
def startsA : Al → Nat → List Nat
  | .one _, b => [b]
  | .more q a, b => b :: startsA a (b + lenS q + 1)
mutual
/-- The steps of a part that begins at step b. -/
def stR : Re → Nat → List Stp
  | .set p, _ => [⟨p, []⟩]
  | .grp a, b => ⟨noSet, startsA a (b + 1)⟩ :: stA a (b + 1) (b + 1 + lenA a)
  | .star r, b => addFree (stR r b) (b + lenR r + 1) ++ [⟨noSet, [b]⟩]
  | .plus r, b => stR r b ++ [⟨noSet, [b, b + lenR r + 1]⟩]
  | .opt r, b => addFree (stR r b) (b + lenR r)
/-- .. of alternatives; E: behind them. -/
def stA : Al → Nat → Nat → List Stp
  | .one q, b, E => stS q b ++ [⟨noSet, [E]⟩]
  | .more q a, b, E => stS q b ++ ⟨noSet, [E]⟩ :: stA a (b + lenS q + 1) E
def stS : Sq → Nat → List Stp
  | .nil, _ => []
  | .cons r q, b => stR r b ++ stS q (b + lenR r)
end
def atomR : Re → Prop
  | .set _ => True
  | .grp _ => True
  | _ => False
mutual
/-- Only atoms are repeated. -/
def okR : Re → Prop
  | .set _ => True
  | .grp a => okA a
  | .star r => atomR r ∧ okR r
  | .plus r => atomR r ∧ okR r
  | .opt r => atomR r ∧ okR r
def okA : Al → Prop
  | .one q => okS q
  | .more q a => okS q ∧ okA a
def okS : Sq → Prop
  | .nil => True
  | .cons r q => okR r ∧ okS q
end
theorem addFree_length (l : List Stp) (n : Nat) : (addFree l n).length = l.length := by cases l <;> rfl
mutual
theorem stR_length (r : Re) (b : Nat) : (stR r b).length = lenR r := by
  cases r with
  | set p => rfl
  | grp a => rw [stR, lenR, List.length_cons, stA_length a]; omega
  | star r => rw [stR, lenR, List.length_append, addFree_length, stR_length r]; rfl
  | plus r => rw [stR, lenR, List.length_append, stR_length r]; rfl
  | opt r => rw [stR, lenR, addFree_length, stR_length r]
theorem stA_length (a : Al) (b E : Nat) : (stA a b E).length = lenA a := by
  cases a with
  | one q => rw [stA, lenA, List.length_append, stS_length q]; rfl
  | more q a => rw [stA, lenA, List.length_append, List.length_cons, stS_length q, stA_length a]; omega
theorem stS_length (q : Sq) (b : Nat) : (stS q b).length = lenS q := by
  cases q with
  | nil => rfl
  | cons r q => rw [stS, lenS, List.length_append, stR_length r, stS_length q]
end
theorem lenR_pos (r : Re) : 0 < lenR r := by cases r <;> rw [lenR] <;> try omega
                                             exact lenR_pos _
/-- A way from step k to step j with the text s, n edges, out of steps from b on and ahead of e. -/
inductive In (S : List Stp) (b e : Nat) : Nat → Nat → Bx → Nat → Prop
  | refl (k : Nat) : In S b e 0 k [] k
  | eps {n k m j : Nat} {s : Bx} {st : Stp} : b ≤ k → k < e → S[k]? = some st → m ∈ st.free → In S b e n m s j → In S b e (n + 1) k s j
  | byte {n k j : Nat} {s : Bx} {st : Stp} {c : UInt8} : b ≤ k → k < e → S[k]? = some st → st.set c = true → In S b e n (k + 1) s j → In S b e (n + 1) k (c :: s) j
theorem In.wider {S : List Stp} {b e b' e' n k j : Nat} {s : Bx} (h : In S b e n k s j) (hb : b' ≤ b) (he : e ≤ e') : In S b' e' n k s j := by
  induction h with
  | refl k => exact .refl k
  | eps h1 h2 h3 h4 _ ih => exact .eps (by omega) (by omega) h3 h4 ih
  | byte h1 h2 h3 h4 _ ih => exact .byte (by omega) (by omega) h3 h4 ih
theorem In.trans {S : List Stp} {b e n m k i j : Nat} {s t : Bx} (h : In S b e n k s i) (h' : In S b e m i t j) : In S b e (n + m) k (s ++ t) j := by
  induction h with
  | refl k => simpa using h'
  | @eps n' k m' j' s' st h1 h2 h3 h4 _ ih => rw [show n' + 1 + m = (n' + m) + 1 by omega]; exact .eps h1 h2 h3 h4 (ih h')
  | @byte n' k j' s' st c h1 h2 h3 h4 _ ih => rw [show n' + 1 + m = (n' + m) + 1 by omega]; exact .byte h1 h2 h3 h4 (ih h')
/-- A part of the steps stands at b. -/
def Emb (S : List Stp) (b : Nat) (f : List Stp) : Prop := ∀ i, i < f.length → S[b + i]? = f[i]?
theorem Emb.left {S f g : List Stp} {b : Nat} (h : Emb S b (f ++ g)) : Emb S b f := fun i hi => by
  rw [h i (by rw [List.length_append]; omega), List.getElem?_append_left hi]
theorem Emb.right {S f g : List Stp} {b : Nat} (h : Emb S b (f ++ g)) : Emb S (b + f.length) g := fun i hi => by
  rw [show b + f.length + i = b + (f.length + i) by omega, h (f.length + i) (by rw [List.length_append]; omega), List.getElem?_append_right (by omega), show f.length + i - f.length = i by omega]
theorem Emb.head {S g : List Stp} {b : Nat} {x : Stp} (h : Emb S b (x :: g)) : S[b]? = some x := by
  have := h 0 (by simp)
  simpa using this
theorem Emb.tail {S g : List Stp} {b : Nat} {x : Stp} (h : Emb S b (x :: g)) : Emb S (b + 1) g := fun i hi => by
  rw [show b + 1 + i = b + (i + 1) by omega, h (i + 1) (by simp; omega)]; simp
/-- All that a step of S from b on and ahead of e leads to lies between. -/
def Cl (S : List Stp) (b e : Nat) : Prop := ∀ k st, b ≤ k → k < e → S[k]? = some st → ∀ m ∈ st.free, b ≤ m ∧ m ≤ e
/-- .. and not at b. -/
def Cl1 (S : List Stp) (b e : Nat) : Prop := ∀ k st, b ≤ k → k < e → S[k]? = some st → ∀ m ∈ st.free, b < m ∧ m ≤ e
theorem Cl1.cl {S : List Stp} {b e : Nat} (h : Cl1 S b e) : Cl S b e := fun k st h1 h2 h3 m hm => by have := h k st h1 h2 h3 m hm; omega
theorem starts_mem {a : Al} {b m : Nat} (h : m ∈ startsA a b) : b ≤ m ∧ m < b + lenA a := by
  cases a with
  | one q => simp [startsA] at h; subst h; rw [lenA]; omega
  | more q a =>
    rw [startsA] at h
    rw [lenA]
    rcases List.mem_cons.1 h with rfl | h
    · omega
    · have := starts_mem h; omega
theorem emb_at {S f : List Stp} {b k : Nat} {st : Stp} (h : Emb S b f) (h1 : b ≤ k) (h2 : k < b + f.length) (h3 : S[k]? = some st) : f[k - b]? = some st := by
  have := h (k - b) (by omega)
  rw [show b + (k - b) = k by omega, h3] at this
  exact this.symm
theorem addFree_emb {S f : List Stp} {b E : Nat} {x : Stp} (h : Emb S b (addFree (x :: f) E)) (hb : b < S.length) : Emb (S.set b x) b (x :: f) := fun i hi => by
  by_cases hi0 : i = 0
  · subst hi0
    rw [Nat.add_zero, List.getElem?_set_self hb]; rfl
  · rw [List.getElem?_set_ne (by omega)]
    have := h i (by rw [addFree_length]; exact hi)
    rw [this]
    obtain ⟨j, rfl⟩ : ∃ j, i = j + 1 := ⟨i - 1, by omega⟩
    simp [addFree]
end Go.Proofs.Ytakkcofmbafneaa
