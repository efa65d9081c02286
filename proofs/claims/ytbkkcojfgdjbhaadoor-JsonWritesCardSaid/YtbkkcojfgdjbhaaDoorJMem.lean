/- Values in memory. -/
import Derived.Test.YtbkkcojfgdjbhaaDoorJWord
namespace Go.Proofs.YtbkkcojfgdjbhaaDoor
open Go.ChangeShapes Go.WideShapes Go.RowKit

/-- A value, at most d deep, whose blocks are of P: its five cells. -/
def JAt (P : Nat → Prop) (w : World) : Nat → List Value → J → Prop
  | 0, _, _ => False
  | d + 1, cs, .mk k n s keys kids => ∃ kv dv, cs = cells5 k n s kv dv ∧ StrsAt P w kv keys ∧
    ((kids = [] ∧ ∃ a c, dv = .slice a 0 c) ∨ ∃ g o c, dv = .slice (some ⟨g, o, none⟩) kids.length c ∧ P g ∧ g < w.heap.size ∧
      ∀ (i : Nat) kid, kids[i]? = some kid → ∃ cs', cs'.length = 5 ∧ (∀ (j : Nat) u, cs'[j]? = some u → w.cell? ⟨g, o + 5 * i + j, none⟩ = some u) ∧ JAt P w d cs' kid)
theorem StrsAt.keepN {P S : Nat → Prop} {w w' : World} {v : Value} {ss : List Bs} (h : StrsAt P w v ss) (k : Asd S w w') (hd : ∀ i, P i → i < w.heap.size → ¬ S i) : StrsAt P w' v ss := by
  rcases h with h | ⟨g, o, c, e, hle, hp, hlt, hc⟩
  · exact .inl h
  · exact .inr ⟨g, o, c, e, hle, hp, Nat.lt_of_lt_of_le hlt k.size, fun j s hs => cell_asd k (hd g hp hlt) (hc j s hs)⟩
theorem StrsAt.mono {P P' : Nat → Prop} {w : World} {v : Value} {ss : List Bs} (h : StrsAt P w v ss) (hp : ∀ i, P i → i < w.heap.size → P' i) : StrsAt P' w v ss := by
  rcases h with h | ⟨g, o, c, e, hle, hq, hlt, hc⟩
  · exact .inl h
  · exact .inr ⟨g, o, c, e, hle, hp g hq hlt, hlt, hc⟩
theorem StrsAt.one {P : Nat → Prop} {w : World} {v : Value} {ss : List Bs} (h : StrsAt P w v ss) : v.oneCell' = true := by
  rcases h with ⟨_, a, c, rfl⟩ | ⟨g, o, c, rfl, _⟩ <;> rfl
theorem JAt.keep {P S : Nat → Prop} {w w' : World} {d : Nat} {cs : List Value} {j : J} (h : JAt P w d cs j) (k : Asd S w w') (hd : ∀ i, P i → i < w.heap.size → ¬ S i) : JAt P w' d cs j := by
  induction d generalizing cs j with
  | zero => exact h
  | succ d ih =>
    obtain ⟨kd, n, s, keys, kids⟩ := j
    obtain ⟨kv, dv, e, hk, hr⟩ := h
    refine ⟨kv, dv, e, hk.keepN k hd, ?_⟩
    rcases hr with hr | ⟨g, o, c, e2, hp, hlt, hc⟩
    · exact .inl hr
    · refine .inr ⟨g, o, c, e2, hp, Nat.lt_of_lt_of_le hlt k.size, fun i kid hi => ?_⟩
      obtain ⟨cs', h5, h6, h7⟩ := hc i kid hi
      exact ⟨cs', h5, fun j u hu => cell_asd k (hd g hp hlt) (h6 j u hu), ih h7⟩
theorem JAt.mono {P P' : Nat → Prop} {w : World} {d : Nat} {cs : List Value} {j : J} (h : JAt P w d cs j) (hp : ∀ i, P i → i < w.heap.size → P' i) : JAt P' w d cs j := by
  induction d generalizing cs j with
  | zero => exact h
  | succ d ih =>
    obtain ⟨kd, n, s, keys, kids⟩ := j
    obtain ⟨kv, dv, e, hk, hr⟩ := h
    refine ⟨kv, dv, e, hk.mono hp, ?_⟩
    rcases hr with hr | ⟨g, o, c, e2, hq, hlt, hc⟩
    · exact .inl hr
    · refine .inr ⟨g, o, c, e2, hp g hq hlt, hlt, fun i kid hi => ?_⟩
      obtain ⟨cs', h5, h6, h7⟩ := hc i kid hi
      exact ⟨cs', h5, h6, ih h7⟩
theorem JAt.five {P : Nat → Prop} {w : World} {d : Nat} {cs : List Value} {j : J} (h : JAt P w d cs j) : cs.length = 5 ∧ ∀ v ∈ cs, v.oneCell' = true := by
  cases d with
  | zero => exact h.elim
  | succ d =>
    obtain ⟨kd, n, s, keys, kids⟩ := j
    obtain ⟨kv, dv, rfl, hk, hr⟩ := h
    refine ⟨rfl, one5 _ _ _ hk.one ?_⟩
    rcases hr with ⟨_, a, c, rfl⟩ | ⟨g, o, c, rfl, _⟩ <;> rfl
theorem JAt.leaf (P : Nat → Prop) (w : World) (d : Nat) (k n : Int) (s : Bs) : JAt P w (d + 1) (cells5 k n s (.slice none 0 0) (.slice none 0 0)) (.mk k n s [] []) :=
  ⟨_, _, rfl, .inl ⟨rfl, none, 0, rfl⟩, .inl ⟨rfl, none, 0, rfl⟩⟩
/-- Which blocks a kid may lie in: new ones, and neither the keys' nor the kids' own. -/
def Free (V : Nat) (kv dv : Value) (k : Nat) : Prop := V < k ∧ kv.ownBlock ≠ some k ∧ dv.ownBlock ≠ some k
/-- A list or an object under way: V: its block; its keys and its kids so far, each in a row of its own. -/
def Kc (V : Nat) (kind : Int) (d : Nat) (keys : List Bs) (kids : List J) (kv dv : Value) (css : List (List Value)) (wr : World) : Prop :=
  Rw wr V 29 (cells5 kind 0 [] kv dv) ∧ wr.ownsRow (V + 1) 9 1 kv keys.length (keys.map sv) ∧ wr.ownsRow (V + 1) 29 5 dv kids.length css.flatten ∧ css.length = kids.length ∧
    (∀ (i : Nat) cs kid, css[i]? = some cs → kids[i]? = some kid → JAt (Free V kv dv) wr d cs kid) ∧ (kv.ownBlock = none ∨ kv.ownBlock ≠ dv.ownBlock)
def Kst (R V : Nat) (M : Value) (kind : Int) (d : Nat) (keys : List Bs) (kids : List J) (l : Bs) (n : Nat) (wr : World) : Prop :=
  ∃ (kv dv : Value) (css : List (List Value)), Rq wr R l n M ∧ Kc V kind d keys kids kv dv css wr
theorem own_asdS {w w' : World} {base : Nat} {S : Nat → Prop} {e : TypeId} {s n : Nat} {v : Value} {xs : List Value} (h : w.ownsRow base e s v n xs) (k : Asd S w w') (hs : ∀ i, v.ownBlock = some i → ¬ S i) : w'.ownsRow base e s v n xs := by
  rcases h with ⟨h1, h2⟩
  refine ⟨h1, ?_⟩
  rcases h2 with h2 | ⟨g, cap, cur, rfl, hb, hg, hr⟩
  · exact .inl h2
  · exact .inr ⟨g, cap, cur, rfl, hb, by rw [k.block g (Array.getElem?_eq_some_iff.1 hg).1 (hs g rfl)]; exact hg, hr⟩
/-- What is done below it leaves it as it was. -/
theorem Kc.asd {V d : Nat} {kind : Int} {keys : List Bs} {kids : List J} {kv dv : Value} {css : List (List Value)} {wr w' : World} {S : Nat → Prop} (h : Kc V kind d keys kids kv dv css wr) (k : Asd S wr w') (hs : ∀ i, S i → i < V) : Kc V kind d keys kids kv dv css w' := by
  obtain ⟨h2, h3, h4, h5, h6, h7⟩ := h
  refine ⟨h2.keep k (fun e => by have := hs V e; omega), own_asdS h3 k (fun i e hi => by have := hs i hi; have := (h3.lt i e).1; omega), own_asdS h4 k (fun i e hi => by have := hs i hi; have := (h4.lt i e).1; omega), h5, fun i cs kid hi hk => (h6 i cs kid hi hk).keep k (fun j hj _ hs' => by have := hs j hs'; have := hj.1; omega), h7⟩
theorem own_ne {w w' : World} {base : Nat} {e : TypeId} {s n : Nat} {v v' u : Value} {xs : List Value} (h : w.ownsRow base e s v n xs) (hu : u.ownBlock = none ∨ u.ownBlock ≠ v.ownBlock) (hsz : w.heap.size ≤ w'.heap.size) (hl : v'.ownBlock = u.ownBlock ∨ v'.ownBlock = some w'.heap.size) : v'.ownBlock = none ∨ v'.ownBlock ≠ v.ownBlock := by
  rcases hl with e | e
  · rw [e]; exact hu
  · right
    rw [e]
    intro e2
    have := (h.lt _ e2.symm).2
    omega
theorem sym_ne {u v : Value} (h : u.ownBlock = none ∨ u.ownBlock ≠ v.ownBlock) : v.ownBlock = none ∨ v.ownBlock ≠ u.ownBlock := by
  by_cases hv : v.ownBlock = none
  · exact .inl hv
  · rcases h with h | h
    · exact .inr (by rw [h]; exact hv)
    · exact .inr (fun e => h e.symm)
/-- One key more. W: the world with the key's own slice; w4: behind the append; w5: behind the store. -/
theorem Kc.addKey {V d : Nat} {kind : Int} {keys : List Bs} {kids : List J} {kv dv kv' : Value} {css : List (List Value)} {wr W w4 : World} (h : Kc V kind d keys kids kv dv css wr) (s : Bs) (hW : Below wr.heap.size wr W) (hg : W.grownBy w4 kv.ownBlock) (hown : w4.ownsRow (V + 1) 9 1 kv' (keys ++ [s]).length ((keys ++ [s]).map sv)) (hl : kv'.ownBlock = kv.ownBlock ∨ kv'.ownBlock = some W.heap.size) :
    Kc V kind d (keys ++ [s]) kids kv' dv css (w4.setCell ⟨V, 3, none⟩ kv') := by
  obtain ⟨h2, h3, h4, h5, h6, h7⟩ := h
  have hsz := hW.size
  have k4 : Asd (fun k => kv.ownBlock = some k) wr w4 := (Asd.of_below hW).grown hg (fun k e => .inl e)
  have k5 : Asd (fun k => kv.ownBlock = some k ∨ k = V) wr (w4.setCell ⟨V, 3, none⟩ kv') := (k4.any (fun i e => .inl e)).setCell (p := ⟨V, 3, none⟩) (.inl (.inr rfl)) _
  have hkV : kv.ownBlock ≠ some V := fun e => by have := (h3.lt V e).1; omega
  have r4 := h2.keep k4 hkV
  refine ⟨?_, ?_, ?_, h5, ?_, own_ne h4 h7 hsz hl⟩
  · exact r4.setCell 3 kv'
  · exact ownsRow_setCell_below hown (Nat.lt_succ_self V) _
  · refine own_asdS h4 k5 (fun i e hi => ?_)
    rcases hi with hi | rfl
    · rcases h7 with h7 | h7
      · rw [h7] at hi; cases hi
      · exact h7 (hi.trans e.symm)
    · have := (h4.lt _ e).1; omega
  · intro i cs kid hi hk
    have hJ := (h6 i cs kid hi hk).mono (P' := fun k => Free V kv dv k ∧ Free V kv' dv k) (fun k hk hlt => ⟨hk, hk.1, fun e => by
      rcases hl with hl | hl
      · exact hk.2.1 (hl ▸ e)
      · rw [hl] at e; injection e with e; omega, hk.2.2⟩)
    refine (hJ.keep k5 (fun j hj _ hs => ?_)).mono (fun k hk _ => hk.2)
    rcases hs with hs | rfl
    · exact hj.1.2.1 hs
    · have := hj.1.1; omega
/-- One kid more; w': behind the append and the two stores. -/
theorem Kc.addKid {V d : Nat} {kind : Int} {keys : List Bs} {kids : List J} {kv dv dv' : Value} {css : List (List Value)} {wr W w' : World} {cs : List Value} {j : J} (h : Kc V kind d keys kids kv dv css wr) (hW : Below wr.heap.size wr W) (hl : dv'.ownBlock = dv.ownBlock ∨ dv'.ownBlock = some W.heap.size)
    (hr : Rw w' V 29 (cells5 kind 0 [] kv dv')) (hown : w'.ownsRow (V + 1) 29 5 dv' (kids.length + 1) (css.flatten ++ cs)) (hk : Asd (fun k => dv.ownBlock = some k ∨ k = V) wr w') (hj : JAt (Free V kv dv') w' d cs j) : Kc V kind d keys (kids ++ [j]) kv dv' (css ++ [cs]) w' := by
  obtain ⟨h2, h3, h4, h5, h6, h7⟩ := h
  have hsz := hW.size
  refine ⟨hr, ?_, ?_, by simp [h5], ?_, sym_ne (own_ne h3 (sym_ne h7) hsz hl)⟩
  · refine own_asdS h3 hk (fun i e hi => ?_)
    rcases hi with hi | rfl
    · rcases h7 with h7 | h7
      · rw [h7] at e; cases e
      · exact h7 (e.trans hi.symm)
    · have := (h3.lt _ e).1; omega
  · rw [List.length_append, List.flatten_append]
    simpa using hown
  · intro i cs2 kid hi hk2
    by_cases hlt : i < css.length
    · rw [List.getElem?_append_left hlt] at hi
      rw [List.getElem?_append_left (by omega)] at hk2
      have hJ := (h6 i cs2 kid hi hk2).mono (P' := fun k => Free V kv dv k ∧ Free V kv dv' k) (fun k hk hlt => ⟨hk, hk.1, hk.2.1, fun e => by
        rcases hl with hl | hl
        · exact hk.2.2 (hl ▸ e)
        · rw [hl] at e; injection e with e; omega⟩)
      refine (hJ.keep hk (fun j hj _ hs => ?_)).mono (fun k hk _ => hk.2)
      rcases hs with hs | rfl
      · exact hj.1.2.2 hs
      · have := hj.1.1; omega
    · have e1 : i = css.length := by
        have := (List.getElem?_eq_some_iff.1 hi).1
        simp at this; omega
      subst e1
      simp at hi
      rw [h5] at hk2
      simp at hk2
      subst hi hk2
      exact hj
theorem own_strs {w : World} {base : Nat} {v : Value} {ss : List Bs} (h : w.ownsRow base 9 1 v ss.length (ss.map sv)) : StrsAt (fun k => v.ownBlock = some k) w v ss := by
  have hc := h
  rcases h.2 with ⟨rfl, h0⟩ | ⟨g, cap, cur, rfl, hb, hg, hn, _⟩
  · exact .inl ⟨List.eq_nil_of_length_eq_zero h0, none, 0, rfl⟩
  · refine .inr ⟨g, 0, cap, rfl, hn, rfl, (Array.getElem?_eq_some_iff.1 hg).1, fun j s hs => ?_⟩
    have h1 := hc.cells (g := g) rfl j (sv s) (by simp [hs])
    rw [show (⟨g, 0 + j, none⟩ : Addr) = (⟨g, 0, none⟩ : Addr).add j by unfold Addr.add; split <;> simp_all]
    exact h1
theorem own_slice {w : World} {base : Nat} {e : TypeId} {s n : Nat} {v : Value} {xs : List Value} (h : w.ownsRow base e s v n xs) : ∃ a c, v = .slice a n c ∧ n ≤ c := by
  rcases h.2 with ⟨rfl, h0⟩ | ⟨g, cap, cur, rfl, hb, hg, hn, _⟩
  · exact ⟨none, 0, by rw [h0], by omega⟩
  · exact ⟨_, _, rfl, hn⟩
theorem flat_at (css : List (List Value)) (h : ∀ cs ∈ css, cs.length = 5) (i j : Nat) (cs : List Value) (u : Value) (hi : css[i]? = some cs) (hj : cs[j]? = some u) : css.flatten[5 * i + j]? = some u := by
  induction css generalizing i with
  | nil => simp at hi
  | cons a css ih =>
    have ha := h a (by simp)
    rw [List.flatten_cons]
    cases i with
    | zero =>
      simp at hi
      subst hi
      have hlt := (List.getElem?_eq_some_iff.1 hj).1
      rw [Nat.mul_zero, Nat.zero_add, List.getElem?_append_left hlt]
      exact hj
    | succ i =>
      rw [List.getElem?_append_right (by omega), show 5 * (i + 1) + j - a.length = 5 * i + j by omega]
      exact ih (fun c hc => h c (by simp [hc])) i (by simpa using hi)
theorem Kst.fives {kids : List J} {css : List (List Value)} {P : Nat → Prop} {wr : World} {d : Nat} (h5 : css.length = kids.length) (h6 : ∀ (i : Nat) cs kid, css[i]? = some cs → kids[i]? = some kid → JAt P wr d cs kid) : ∀ cs ∈ css, cs.length = 5 := by
  intro cs hcs
  obtain ⟨i, hlt, rfl⟩ := List.getElem_of_mem hcs
  exact (h6 i _ _ (List.getElem?_eq_getElem hlt) (List.getElem?_eq_getElem (by omega))).five.1
/-- The value that is there at the end. -/
theorem Kst.val {R V n d : Nat} {M : Value} {kind : Int} {keys : List Bs} {kids : List J} {l : Bs} {wr : World} (h : Kst R V M kind d keys kids l n wr) : ∃ cs, Rq wr R l n M ∧ Rw wr V 29 cs ∧ JAt (fun k => V < k) wr (d + 1) cs (.mk kind 0 [] keys kids) := by
  obtain ⟨kv, dv, css, h1, h2, h3, h4, h5, h6, h7⟩ := h
  refine ⟨_, h1, h2, kv, dv, rfl, (own_strs h3).mono (fun i e _ => (h3.lt i e).1), ?_⟩
  have hc := h4
  rcases h4.2 with ⟨rfl, h0⟩ | ⟨g, cap, cur, rfl, hb, hg, hn, _⟩
  · exact .inl ⟨List.eq_nil_of_length_eq_zero h0, none, 0, rfl⟩
  · refine .inr ⟨g, 0, cap, rfl, hb, (Array.getElem?_eq_some_iff.1 hg).1, fun i kid hi => ?_⟩
    have hlt : i < css.length := by rw [h5]; exact (List.getElem?_eq_some_iff.1 hi).1
    have hJ := h6 i _ kid (List.getElem?_eq_getElem hlt) hi
    refine ⟨css[i], hJ.five.1, fun j u hu => ?_, hJ.mono (fun k hk _ => hk.1)⟩
    have h1 := hc.cells (g := g) rfl (5 * i + j) u ?_
    · rw [show (⟨g, 0 + 5 * i + j, none⟩ : Addr) = (⟨g, 0, none⟩ : Addr).add (5 * i + j) by unfold Addr.add; split <;> simp_all]
      exact h1
    · exact flat_at css (Kst.fives h5 h6) i j _ u (List.getElem?_eq_getElem hlt) hu
end Go.Proofs.YtbkkcojfgdjbhaaDoor
