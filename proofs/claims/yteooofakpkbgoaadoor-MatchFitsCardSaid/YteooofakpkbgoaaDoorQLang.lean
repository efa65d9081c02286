/- The document's patterns, plain: what the kids of a node match; rows of truths in memory. -/
import Derived.Test.YteooofakpkbgoaaDoorQPlain
import Derived.Test.YteooofakpkbgoaaDoorPA
namespace Go.Proofs.YteooofakpkbgoaaDoor.Dn
open Go.ChangeShapes Go.WideShapes Go.RowKit

def rowsA : Al → List Sq
  | .one q => [q]
  | .more q a => q :: rowsA a
theorem kids_rows (a : Al) : kidsA a = (rowsA a).map treeS := by
  cases a with
  | one q => rw [kidsA, rowsA]; rfl
  | more q a => rw [kidsA, rowsA, kids_rows a]; rfl
/-- One of them. -/
def anyL : List (Bx → Prop) → Bx → Prop
  | [] => fun _ => False
  | L :: Ls => fun u => L u ∨ anyL Ls u
theorem lang_rows (a : Al) (u : Bx) : langA a u ↔ anyL ((rowsA a).map langS) u := by
  cases a with
  | one q => rw [langA, rowsA]; simp [anyL]
  | more q a =>
    rw [langA, rowsA, List.map_cons]
    show _ ↔ langS q u ∨ anyL ((rowsA a).map langS) u
    rw [← lang_rows a]
def partsS : Sq → List Re
  | .nil => []
  | .cons r q => r :: partsS q
theorem kids_parts (q : Sq) : kidsS q = (partsS q).map treeR := by
  cases q with
  | nil => rw [kidsS, partsS]; rfl
  | cons r q => rw [kidsS, partsS, kids_parts q]; rfl
/-- All of them, one behind the other. -/
def catL : List (Bx → Prop) → Bx → Prop
  | [] => fun u => u = []
  | L :: Ls => fun u => ∃ u1 u2, u = u1 ++ u2 ∧ L u1 ∧ catL Ls u2
theorem lang_parts (q : Sq) (u : Bx) : langS q u ↔ catL ((partsS q).map langR) u := by
  cases q with
  | nil => rw [langS, partsS]; rfl
  | cons r q =>
    rw [langS, partsS, List.map_cons, catL]
    constructor
    · rintro ⟨s1, s2, e, h1, h2⟩
      exact ⟨s1, s2, e, h1, (lang_parts q s2).1 h2⟩
    · rintro ⟨s1, s2, e, h1, h2⟩
      exact ⟨s1, s2, e, h1, (lang_parts q s2).2 h2⟩
theorem ends_none {s : Bx} {P : Nat → Prop} {j : Nat} : Ends (fun _ => False) s P j ↔ False := by
  constructor
  · rintro ⟨i, _, a, u, b, _, _, _, h⟩
    exact h
  · exact fun h => h.elim
/-- A row of truths. -/
def rowB (n : Nat) (f : Nat → Bool) : List Value := (List.range n).map fun j => .bool (f j)
theorem rowB_len (n : Nat) (f : Nat → Bool) : (rowB n f).length = n := by simp [rowB]
theorem rowB_get {n : Nat} (f : Nat → Bool) {j : Nat} (h : j < n) : (rowB n f)[j]? = some (.bool (f j)) := by
  simp [rowB, h]
theorem rowB_set {n : Nat} (f : Nat → Bool) (j : Nat) (b : Bool) : (rowB n f).set j (.bool b) = rowB n (fun i => if i = j then b else f i) := by
  apply List.ext_getElem?
  intro i
  rw [List.getElem?_set]
  by_cases hi : i < n
  · by_cases e : j = i
    · subst e
      rw [if_pos rfl, if_pos (by rw [rowB_len]; exact hi), rowB_get _ hi, if_pos rfl]
    · rw [if_neg e, rowB_get _ hi, rowB_get _ hi, if_neg (Ne.symm e)]
  · rw [List.getElem?_eq_none (by rw [rowB_len]; omega : (rowB n (fun i => if i = j then b else f i)).length ≤ i)]
    by_cases e : j = i
    · subst e
      rw [if_pos rfl, if_neg (by rw [rowB_len]; exact hi)]
    · rw [if_neg e, List.getElem?_eq_none (by rw [rowB_len]; omega)]
theorem rowB_ext {n : Nat} {f g : Nat → Bool} (h : ∀ j, j < n → f j = g j) : rowB n f = rowB n g := by
  unfold rowB
  apply List.map_congr_left
  intro j hj
  rw [h j (List.mem_range.1 hj)]
/-- A slice of truths. -/
def BAt (w : World) (v : Value) (n : Nat) (f : Nat → Bool) : Prop := ∃ g, v = .slice (some ⟨g, 0, none⟩) n n ∧ Rw w g 4 (rowB n f)
theorem BAt.stay {w w' : World} {v : Value} {n : Nat} {f : Nat → Bool} (h : BAt w v n f) (k : Below w.heap.size w w') : BAt w' v n f := by
  obtain ⟨g, e, hr⟩ := h
  exact ⟨g, e, hr.stay k⟩
/-- The places that a row of truths names. -/
def Pl (n : Nat) (f : Nat → Bool) (j : Nat) : Prop := j < n ∧ f j = true
/-- What `ends` says of a node that matches L. -/
def EndsC (d : Nat) (t : T) (L : Bx → Prop) : Prop := ∀ (P : Nat → Prop) (w : World) (cs : List Value) (s : Bx) (v : Value) (f : Nat → Bool), s.length ≤ 1000 → TAt P w d cs t → BAt w v (s.length + 1) f →
  Calls Tryd.prog 66 #[.agg cs.toArray, .string ⟨s.toArray⟩, v] w fun e w' => Below w.heap.size w w' ∧ ∃ v' f', e = .returned v' ∧ BAt w' v' (s.length + 1) f' ∧ ∀ j, Pl (s.length + 1) f' j ↔ Ends L s (Pl (s.length + 1) f) j
theorem EndsC.iff {d : Nat} {t : T} {L M : Bx → Prop} (h : EndsC d t L) (e : ∀ u, L u ↔ M u) : EndsC d t M := by
  rwa [show M = L from funext fun u => propext (e u).symm]
end Go.Proofs.YteooofakpkbgoaaDoor.Dn
