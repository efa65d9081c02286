/- The reader: alternatives, plain; and the row of their ends. -/
import Derived.Test.YtakkcofmbafneaaPSeq
namespace Go.Proofs.Ytakkcofmbafneaa
open Go.ChangeShapes Go.WideShapes Go.RowKit

def outA (l : List Sq) : Res Al → Res Al
  | .er e => .er e
  | .ok a r => .ok (preA l a) r
theorem alt_er {m d : Nat} {s : Bx} {e : Er} (h : seqN m d s = .er e) (l : List Sq) : outA l (altN (m + 1) d s) = .er e := by
  rw [altN, h]; rfl
theorem alt_one {m d : Nat} {s r : Bx} {q : Sq} (h : seqN m d s = .ok q r) (hr : ¬ r.head? = some 124) (l : List Sq) : outA l (altN (m + 1) d s) = .ok (preA l (.one q)) r := by
  rw [altN, h]
  cases r with
  | nil => rfl
  | cons c r =>
    simp only
    rw [if_neg (by simpa using hr)]
    rfl
theorem alt_more {m d : Nat} {s r : Bx} {q : Sq} (h : seqN m d s = .ok q (124 :: r)) (l : List Sq) : outA l (altN (m + 1) d s) = outA (l ++ [q]) (altN m d r) := by
  rw [altN, h]
  simp only [if_true]
  cases altN m d r with
  | er e => rfl
  | ok a r' => simp only [outA, preA_snoc]
theorem outA_nil (o : Res Al) : outA [] o = o := by cases o <;> rfl
theorem begL_length (l : List Sq) (b : Nat) : (begL l b).length = l.length := by
  induction l generalizing b with
  | nil => rfl
  | cons q l ih => simp [begL, ih]
theorem endL_length (l : List Sq) (b : Nat) : (endL l b).length = l.length := by
  induction l generalizing b with
  | nil => rfl
  | cons q l ih => simp [endL, ih]
theorem len_le (l : List Sq) : l.length ≤ lenL l := by
  induction l with
  | nil => exact Nat.le_refl _
  | cons q l ih => rw [lenL, List.length_cons]; omega
/-- The steps of alternatives on their way. -/
def altS (X : List Stp) (l : List Sq) : List Stp := X ++ ⟨noSet, begL l (X.length + 1)⟩ :: stsL l (X.length + 1)
theorem altS_len (X : List Stp) (l : List Sq) : (altS X l).length = X.length + 1 + lenL l := by
  rw [altS, List.length_append, List.length_cons, stsL_length]; omega
theorem altS_get (X : List Stp) (l : List Sq) : (altS X l)[X.length]? = some ⟨noSet, begL l (X.length + 1)⟩ := by simp [altS]
theorem altS_nil (X : List Stp) : X ++ [⟨noSet, []⟩] = altS X [] := rfl
theorem altS_more (X : List Stp) (l : List Sq) (q : Sq) : (leadL (altS X l) X.length (X.length + 1 + lenL l) ++ stS q (X.length + 1 + lenL l)) ++ [⟨noSet, []⟩] = altS X (l ++ [q]) := by
  rw [altS, leadL_at _ rfl, altS, stsL_snoc, begL_snoc]
  simp only [List.append_assoc, List.cons_append]
theorem altS_fb {X : List Stp} {l : List Sq} (hX : Fb X) (ho : ∀ q ∈ l, okS q) (hl : lenL l ≤ 300) : Fb (altS X l) := by
  refine Fb.app hX fun s hs => ?_
  rcases List.mem_cons.1 hs with rfl | hs
  · simp only [begL_length]
    have := len_le l
    omega
  · have : ∀ (l : List Sq) b, (∀ q ∈ l, okS q) → lenL l ≤ 300 → ∀ s ∈ stsL l b, s.free.length ≤ 400 := fun l => by
      induction l with
      | nil => intro b _ _ s hs; cases hs
      | cons q l ih =>
        intro b ho hl s hs
        rw [lenL] at hl
        rw [stsL] at hs
        rcases List.mem_append.1 hs with hs | hs
        · have := free_S q b (ho q (by simp)) s hs; omega
        · rcases List.mem_cons.1 hs with rfl | hs
          · simp
          · exact ih _ (fun q h => ho q (List.mem_cons_of_mem _ h)) (by omega) s hs
    exact this l _ ho hl s hs
/-- Some ends lead to E. -/
def foldE (S : List Stp) (E : Nat) (l : List Nat) : List Stp := l.foldl (fun S e => leadL S e E) S
theorem foldE_len (S : List Stp) (E : Nat) (l : List Nat) : (foldE S E l).length = S.length := by
  unfold foldE
  induction l generalizing S with
  | nil => rfl
  | cons e l ih => rw [List.foldl_cons, ih, leadL_length]
theorem foldE_snoc (S : List Stp) (E : Nat) (l : List Nat) (e : Nat) : foldE S E (l ++ [e]) = leadL (foldE S E l) e E := by simp [foldE]
theorem lead_free {S : List Stp} {n k x : Nat} (h : ∀ s ∈ S, s.free.length ≤ n) : ∀ s ∈ leadL S k x, s.free.length ≤ n + 1 := fun s hs => by
  obtain ⟨i, hi⟩ := List.mem_iff_getElem?.1 hs
  rw [leadL_get] at hi
  by_cases e : i = k
  · rw [if_pos e] at hi
    obtain ⟨t, ht, rfl⟩ := Option.map_eq_some_iff.1 hi
    have := h t (List.mem_of_getElem? ht)
    simp; omega
  · rw [if_neg e] at hi
    have := h s (List.mem_of_getElem? hi)
    omega
theorem foldE_free {S : List Stp} {n E : Nat} (l : List Nat) (h : ∀ s ∈ S, s.free.length ≤ n) : ∀ s ∈ foldE S E l, s.free.length ≤ n + l.length := by
  unfold foldE
  induction l generalizing S n with
  | nil => exact h
  | cons e l ih =>
    rw [List.foldl_cons]
    intro s hs
    have := ih (lead_free (k := e) (x := E) h) s hs
    rw [List.length_cons]; omega
theorem foldE_group (X : List Stp) (l : List Sq) (q : Sq) : foldE (altS X (l ++ [q])) (X.length + 1 + lenL (l ++ [q])) (endL (l ++ [q]) (X.length + 1)) = X ++ stR (.grp (preA l (.one q))) X.length := laid_group l q rfl
theorem take_more {l : List Nat} {k e : Nat} (h : l[k]? = some e) : l.take (k + 1) = l.take k ++ [e] := by rw [List.take_add_one, h]; rfl
/-- The row of the ends: in none of the steps' blocks. -/
def EndsAt (w : World) (R N : Nat) (V : Value) (F : List Value) (v : Value) (es : List Nat) : Prop :=
  w.ownsRow (R + 1) 3 1 v es.length (es.map intV) ∧ ∀ k, v.ownBlock = some k → N ≤ k ∧ ¬ Foot V F k
theorem EndsAt.grow {w w' : World} {R N : Nat} {V V' : Value} {F F' : List Value} {v : Value} {es : List Nat} (h : EndsAt w R N V F v es) (g : Grow R V F V' F' w w') : EndsAt w' R N V' F' v es := by
  refine ⟨own_asdS h.1 g.asd fun i e => ?_, fun k e => ⟨(h.2 k e).1, fun hf => ?_⟩⟩
  · rintro (e2 | e2)
    · have := (h.1.lt i e).1; omega
    · exact (h.2 i e).2 e2
  · rcases g.foot k hf with q | q
    · exact (h.2 k e).2 q
    · have := (h.1.lt k e).2; omega
theorem EndsAt.stay {w w' : World} {R N : Nat} {V : Value} {F : List Value} {v : Value} {es : List Nat} (h : EndsAt w R N V F v es) (k : Below w.heap.size w w') : EndsAt w' R N V F v es :=
  ⟨own_asdS (S := fun _ => False) h.1 (Asd.of_below k) (fun _ _ e => e), h.2⟩
/-- An end more, in world w; the reader's steps are as they were. -/
theorem EndsAt.snoc {w w' : World} {R N E : Nat} {l : Bs} {S : List Stp} {V : Value} {F : List Value} {v v' : Value} {es : List Nat} (h : EndsAt w R N V F v es) (hr : RdAt w R l S V F) (hN : N ≤ w.heap.size)
    (hO : w'.ownsRow (R + 1) 3 1 v' (es.length + 1) (es.map intV ++ [intV E])) (hg : w.grownBy w' v.ownBlock) (hl : v'.ownBlock = v.ownBlock ∨ v'.ownBlock = some w.heap.size) :
    EndsAt w' R N V F v' (es ++ [E]) ∧ RdAt w' R l S V F ∧ Asd (fun k => v.ownBlock = some k) w w' := by
  have k5 : Asd (fun i => v.ownBlock = some i) w w' := (Asd.refl _ w).grown hg (fun k e => .inl e)
  refine ⟨⟨by simpa using hO, fun k e => ?_⟩, ⟨Rw.grown hr.q hg (fun e => by have := (h.1.lt _ e).1; omega), hr.st.keep k5 fun i hi e => (h.2 i e).2 hi⟩, k5⟩
  rcases hl with q | q
  · exact h.2 k (q ▸ e)
  · rw [q] at e
    injection e with e
    exact ⟨by omega, fun hf => by have := (hr.st.lt hf).2; omega⟩
theorem Grow.ends {w w1 w2 : World} {R : Nat} {V V' : Value} {F F' : List Value} {v : Value} {es : List Nat} (g : Grow R V F V' F' w w1) (h : EndsAt w1 R w.heap.size V' F' v es) (k : Asd (fun k => v.ownBlock = some k) w1 w2) : Grow R V F V' F' w w2 :=
  ⟨g.foot, g.asd.trans k fun i hi hlt => by have := (h.2 i hi).1; omega⟩
end Go.Proofs.Ytakkcofmbafneaa
