/- Trees of the document's patterns, plain and in memory; a row of kids under way. -/
import Derived.Test.YteooofakpkbgoaaDoorQHeld
namespace Go.Proofs.YteooofakpkbgoaaDoor.Dn
open Go.ChangeShapes Go.WideShapes Go.RowKit

/-- A node. -/
inductive T
  | mk (k : Int) (p : UInt8 → Bool) (kids : List T)
mutual
def treeR : Re → T
  | .set p => .mk 0 p []
  | .grp a => .mk 1 noSet (kidsA a)
  | .star r => .mk 3 noSet [treeR r]
  | .plus r => .mk 4 noSet [treeR r]
  | .opt r => .mk 5 noSet [treeR r]
def kidsA : Al → List T
  | .one q => [.mk 2 noSet (kidsS q)]
  | .more q a => .mk 2 noSet (kidsS q) :: kidsA a
def kidsS : Sq → List T
  | .nil => []
  | .cons r q => treeR r :: kidsS q
end
def treeA (a : Al) : T := .mk 1 noSet (kidsA a)
def treeS (q : Sq) : T := .mk 2 noSet (kidsS q)
/-- A node's cells are the tree's, at most d deep, its rows in blocks of P. -/
def TAt (P : Nat → Prop) (w : World) : Nat → List Value → T → Prop
  | 0, _, _ => False
  | d + 1, cs, .mk k p kids => ∃ v css, cs = nodeC k p v ∧ RowsAt 258 P w v css ∧ css.length = kids.length ∧ ∀ (i : Nat) c t, css[i]? = some c → kids[i]? = some t → TAt P w d c t
theorem rows_one {k : Nat} {P : Nat → Prop} {w : World} {v : Value} {css : List (List Value)} (h : RowsAt k P w v css) : v.oneCell' = true := by
  obtain ⟨a, c, rfl⟩ := h.shape
  rfl
section
variable {P P' S : Nat → Prop} {w w' : World} {d : Nat} {cs : List Value} {t : T}
theorem TAt.keep (h : TAt P w d cs t) (q : Asd S w w') (hd : ∀ i, P i → i < w.heap.size → ¬ S i) : TAt P w' d cs t := by
  induction d generalizing cs t with
  | zero => exact h
  | succ d ih =>
    obtain ⟨k, p, kids⟩ := t
    obtain ⟨v, css, e, hr, hl, hk⟩ := h
    exact ⟨v, css, e, hr.keepN q hd, hl, fun i c t h1 h2 => ih (hk i c t h1 h2)⟩
theorem TAt.stay (h : TAt P w d cs t) (q : Below w.heap.size w w') : TAt P w' d cs t := h.keep (S := fun _ => False) (Asd.of_below q) (fun _ _ _ e => e)
theorem TAt.mono (h : TAt P w d cs t) (hp : ∀ i, P i → i < w.heap.size → P' i) : TAt P' w d cs t := by
  induction d generalizing cs t with
  | zero => exact h
  | succ d ih =>
    obtain ⟨k, p, kids⟩ := t
    obtain ⟨v, css, e, hr, hl, hk⟩ := h
    exact ⟨v, css, e, hr.mono hp, hl, fun i c t h1 h2 => ih (hk i c t h1 h2)⟩
theorem TAt.up (h : TAt P w d cs t) : TAt P w (d + 1) cs t := by
  induction d generalizing cs t with
  | zero => exact h.elim
  | succ d ih =>
    obtain ⟨k, p, kids⟩ := t
    obtain ⟨v, css, e, hr, hl, hk⟩ := h
    exact ⟨v, css, e, hr, hl, fun i c t h1 h2 => ih (hk i c t h1 h2)⟩
theorem TAt.le {d' : Nat} (h : TAt P w d cs t) (hd : d ≤ d') : TAt P w d' cs t := by
  obtain ⟨k, rfl⟩ : ∃ k, d' = d + k := ⟨d' - d, by omega⟩
  clear hd
  induction k with
  | zero => exact h
  | succ k ih => exact ih.up
theorem TAt.node (h : TAt P w d cs t) : cs.length = 258 ∧ ∀ u ∈ cs, u.oneCell' = true := by
  cases d with
  | zero => exact h.elim
  | succ d =>
    obtain ⟨k, p, kids⟩ := t
    obtain ⟨v, css, rfl, hr, _⟩ := h
    exact ⟨nodeC_len _ _ _, nodeC_one _ _ (rows_one hr)⟩
theorem TAt.leaf (P : Nat → Prop) (w : World) (d : Nat) (k : Int) (p : UInt8 → Bool) : TAt P w (d + 1) (nodeC k p nilS) (.mk k p []) :=
  ⟨nilS, [], rfl, RowsAt.nil 258 P w none 0, rfl, fun i c t h _ => by cases h⟩
/-- A node of one other. -/
theorem TAt.over {g : Nat} (h : TAt P w d cs t) (hr : Rw w g 61 cs) (hg : P g) (k : Int) : TAt P w (d + 1) (nodeC k noSet (.slice (some ⟨g, 0, none⟩) 1 1)) (.mk k noSet [t]) := by
  refine ⟨_, [cs], rfl, .inr ⟨g, 0, 1, rfl, Nat.le_refl _, hg, Rw.lt hr, fun j c hj i u hi => ?_⟩, rfl, fun i c t' h1 h2 => ?_⟩
  · cases j with
    | zero =>
      simp at hj
      subst hj
      have := Rw.cell hr i
      rw [hi] at this
      simpa using this
    | succ j => simp at hj
  · cases i with
    | zero =>
      simp at h1 h2
      subst h1 h2
      exact h
    | succ i => simp at h1
end
/-- A node under way in block V: what kids it has so far, each in a row of its own. -/
structure Kc (V : Nat) (k : Int) (v : Value) (css : List (List Value)) (w : World) : Prop where
  row : Rw w V 61 (nodeC k noSet v)
  own : w.ownsRow (V + 1) 61 258 v css.length css.flatten
  each : ∀ c ∈ css, c.length = 258
  one : v.oneCell' = true
/-- Those kids are trees: B: where their blocks begin. -/
structure Kt (B V d : Nat) (v : Value) (css : List (List Value)) (ts : List T) (w : World) : Prop where
  len : css.length = ts.length
  each : ∀ (i : Nat) c t, css[i]? = some c → ts[i]? = some t → TAt (fun j => B ≤ j ∧ j ≠ V ∧ v.ownBlock ≠ some j) w d c t
section
variable {B V d : Nat} {k : Int} {v v' : Value} {css : List (List Value)} {ts : List T} {w w' w'' : World} {S : Nat → Prop}
theorem Kc.keep (h : Kc V k v css w) (q : Asd S w w') (hs : ∀ i, S i → i < V) : Kc V k v css w' :=
  ⟨h.row.keep q (fun e => by have := hs V e; omega), own_asdS h.own q (fun i e hi => by have := hs i hi; have := (h.own.lt i e).1; omega), h.each, h.one⟩
theorem Kt.keep (h : Kt B V d v css ts w) (q : Asd S w w') (hs : ∀ i, S i → i < B) : Kt B V d v css ts w' :=
  ⟨h.len, fun i c t h1 h2 => (h.each i c t h1 h2).keep q (fun j hj _ e => by have := hs j e; have := hj.1; omega)⟩
theorem Kc.stay (h : Kc V k v css w) (q : Below w.heap.size w w') : Kc V k v css w' := h.keep (S := fun _ => False) (Asd.of_below q) (fun _ e => e.elim)
theorem Kt.stay (h : Kt B V d v css ts w) (q : Below w.heap.size w w') : Kt B V d v css ts w' := h.keep (S := fun _ => False) (Asd.of_below q) (fun _ e => e.elim)
theorem Kc.start (h : Rw w V 61 (nodeC k noSet nilS)) : Kc V k nilS [] w := ⟨h, ⟨by simp, .inl ⟨rfl, rfl⟩⟩, fun c h => (by cases h), rfl⟩
theorem Kt.start (B V d : Nat) (w : World) : Kt B V d nilS [] [] w := ⟨rfl, fun i c t h _ => (by cases h)⟩
/-- One kid more: w': behind the append; then the slice is stored. -/
theorem Kc.add {cs : List Value} (h : Kc V k v css w) (hg : w.grownBy w' v.ownBlock) (hown : w'.ownsRow (V + 1) 61 258 v' (css.length + 1) (css.flatten ++ cs)) (hl : cs.length = 258) (h1 : v'.oneCell' = true) : Kc V k v' (css ++ [cs]) (w'.setCell ⟨V, 257, none⟩ v') := by
  refine ⟨?_, by rw [List.length_append, List.length_singleton, List.flatten_append, List.flatten_singleton]; exact ownsRow_setCell_below hown (Nat.lt_succ_self V) _, fun c hc => ?_, h1⟩
  · have r := (h.row.grown hg (fun e => by have := (h.own.lt V e).1; omega)).setCell 257 v'
    rw [nodeC_putKids] at r
    exact r
  · rcases List.mem_append.1 hc with hc | hc
    · exact h.each c hc
    · rw [List.mem_singleton.1 hc]; exact hl
theorem Kt.add {cs : List Value} {t : T} (h : Kt B V d v css ts w) (ht : TAt (fun j => B ≤ j ∧ j ≠ V ∧ v.ownBlock ≠ some j) w d cs t) (hg : w.grownBy w' v.ownBlock) (hl : v'.ownBlock = v.ownBlock ∨ v'.ownBlock = some w.heap.size) :
    Kt B V d v' (css ++ [cs]) (ts ++ [t]) (w'.setCell ⟨V, 257, none⟩ v') := by
  have q : Asd (fun j => v.ownBlock = some j ∨ j = V) w (w'.setCell ⟨V, 257, none⟩ v') :=
    (((Asd.refl (fun j => v.ownBlock = some j) w).grown hg (fun k e => .inl e)).any (fun i e => .inl e)).setCell (p := ⟨V, 257, none⟩) (.inl (.inr rfl)) _
  have go : ∀ {c : List Value} {t : T}, TAt (fun j => B ≤ j ∧ j ≠ V ∧ v.ownBlock ≠ some j) w d c t → TAt (fun j => B ≤ j ∧ j ≠ V ∧ v'.ownBlock ≠ some j) (w'.setCell ⟨V, 257, none⟩ v') d c t := fun {c t} a => by
    have a2 := a.mono (P' := fun j => (B ≤ j ∧ j ≠ V ∧ v.ownBlock ≠ some j) ∧ v'.ownBlock ≠ some j) (fun j hj hlt => ⟨hj, fun e => by
      rcases hl with hl | hl
      · exact hj.2.2 (hl ▸ e)
      · rw [hl] at e; injection e with e; omega⟩)
    refine (a2.keep q (fun j hj _ hs => ?_)).mono (fun j hj _ => ⟨hj.1.1, hj.1.2.1, hj.2⟩)
    rcases hs with hs | hs
    · exact hj.1.2.2 hs
    · exact hj.1.2.1 hs
  refine ⟨by simp [h.len], fun i c t' h1 h2 => ?_⟩
  by_cases hlt : i < css.length
  · rw [List.getElem?_append_left hlt] at h1
    rw [List.getElem?_append_left (by rw [← h.len]; exact hlt)] at h2
    exact go (h.each i c t' h1 h2)
  · rw [List.getElem?_append_right (by omega)] at h1
    rw [List.getElem?_append_right (by rw [← h.len]; omega)] at h2
    rw [← h.len] at h2
    cases hi : i - css.length with
    | zero =>
      rw [hi] at h1 h2
      simp at h1 h2
      subst h1 h2
      exact go ht
    | succ j => rw [hi] at h1; simp at h1
/-- The whole node. -/
theorem Kt.whole (hB : B ≤ V + 1) (h : Kt B V d v css ts w) (hc : Kc V k v css w) : TAt (fun j => B ≤ j) w (d + 1) (nodeC k noSet v) (.mk k noSet ts) :=
  ⟨v, css, rfl, (own_rows hc.own hc.each).mono (fun j hj _ => by have := (hc.own.lt j hj).1; omega), h.len, fun i c t h1 h2 => (h.each i c t h1 h2).mono (fun j hj _ => hj.1)⟩
end
end Go.Proofs.YteooofakpkbgoaaDoor.Dn
