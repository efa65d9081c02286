/- The reader with its steps in memory: a step more, a way more. -/
import Derived.Test.YtakkcofmbafneaaPSteps
import Derived.Test.YtakkcofmbafneaaPFree
import Derived.Test.YtakkcofmbafneaaPTake
import Derived.Laws.OwnMore
namespace Go.Proofs.Ytakkcofmbafneaa
open Go.ChangeShapes Go.WideShapes Go.RowKit

/-- The blocks in which steps lie. -/
def Foot (V : Value) (F : List Value) (k : Nat) : Prop := V.ownBlock = some k ∨ ∃ f, f ∈ F ∧ f.ownBlock = some k
theorem StepsAt.lt {w : World} {base : Nat} {V : Value} {S : List Stp} {F : List Value} (h : StepsAt w base V S F) {k : Nat} (hk : Foot V F k) : base ≤ k ∧ k < w.heap.size := by
  rcases hk with e | ⟨f, hf, e⟩
  · exact h.row.lt k e
  · obtain ⟨i, hi⟩ := List.mem_iff_getElem?.1 hf
    have hl : i < S.length := by have := (List.getElem?_eq_some_iff.1 hi).1; rw [h.len] at this; exact this
    exact (h.free i _ f (List.getElem?_eq_getElem hl) hi).lt k e
theorem StepsAt.keep {w w' : World} {base : Nat} {V : Value} {S : List Stp} {F : List Value} {T : Nat → Prop} (h : StepsAt w base V S F) (k : Asd T w w') (hs : ∀ i, Foot V F i → ¬ T i) : StepsAt w' base V S F :=
  ⟨h.len, own_asdS h.row k (fun i e => hs i (.inl e)), fun i s f h1 h2 => own_asdS (h.free i s f h1 h2) k (fun j e => hs j (.inr ⟨f, List.mem_of_getElem? h2, e⟩)), h.off, h.two⟩
theorem StepsAt.stay {w w' : World} {base : Nat} {V : Value} {S : List Stp} {F : List Value} (h : StepsAt w base V S F) (k : Below w.heap.size w w') : StepsAt w' base V S F := h.keep (T := fun _ => False) (Asd.of_below k) (fun _ _ e => e)
theorem StepsAt.void (w : World) (base : Nat) : StepsAt w base (.slice none 0 0) [] [] :=
  ⟨rfl, World.ownsRow_nil _ _ _ _, fun k s f h => by (cases h), fun k f h => by (cases h), fun i j f g _ h => by (cases h)⟩
/-- A step more. -/
theorem StepsAt.snoc {w w' : World} {base : Nat} {V V' : Value} {S : List Stp} {F : List Value} {p : UInt8 → Bool} (h : StepsAt w base V S F) (hr : w'.ownsRow base 66 257 V' (S.length + 1) (stepsC S F ++ stepC ⟨p, []⟩ (.slice none 0 0))) (k : Asd (fun i => V.ownBlock = some i) w w')
    (hb : V'.ownBlock = V.ownBlock ∨ ∃ g, V'.ownBlock = some g ∧ w.heap.size ≤ g) : StepsAt w' base V' (S ++ [⟨p, []⟩]) (F ++ [.slice none 0 0]) := by
  have hn : (Value.slice none 0 0).ownBlock = Option.none := rfl
  have hoff : ∀ (i : Nat) f, F[i]? = some f → f.ownBlock = Option.none ∨ f.ownBlock ≠ V'.ownBlock := fun i f hf => by
    rcases hb with e | ⟨g, e, hg⟩
    · rw [e]; exact h.off i f hf
    · cases hq : f.ownBlock with
      | none => exact .inl rfl
      | some b =>
        refine .inr fun e2 => ?_
        rw [e] at e2
        injection e2 with e2
        have := (h.lt (.inr ⟨f, List.mem_of_getElem? hf, hq⟩)).2
        omega
  refine ⟨by simp [h.len], by rw [List.length_append, stepsC_snoc h.len]; exact hr, fun i s f h1 h2 => ?_, fun i f h2 => ?_, fun i j f g hij h1 h2 => ?_⟩
  · by_cases hi : i < S.length
    · rw [List.getElem?_append_left hi] at h1
      rw [List.getElem?_append_left (by rw [h.len]; exact hi)] at h2
      refine own_asdS (h.free i s f h1 h2) k fun b e e' => ?_
      rcases h.off i f h2 with q | q
      · rw [q] at e; cases e
      · exact q (e.trans e'.symm)
    · have hlt := (List.getElem?_eq_some_iff.1 h1).1
      rw [List.length_append, List.length_singleton] at hlt
      obtain rfl : i = S.length := by omega
      rw [List.getElem?_concat_length] at h1
      rw [← h.len, List.getElem?_concat_length] at h2
      injection h1 with h1
      injection h2 with h2
      subst h1 h2
      exact World.ownsRow_nil _ _ _ _
  · by_cases hi : i < F.length
    · rw [List.getElem?_append_left hi] at h2
      exact hoff i f h2
    · rw [List.getElem?_append_right (by omega)] at h2
      have := List.mem_of_getElem? h2
      simp at this
      subst this
      exact .inl hn
  · by_cases hi : i < F.length
    · by_cases hj : j < F.length
      · rw [List.getElem?_append_left hi] at h1
        rw [List.getElem?_append_left hj] at h2
        exact h.two i j f g hij h1 h2
      · rw [List.getElem?_append_right (by omega)] at h2
        have := List.mem_of_getElem? h2
        simp at this
        subst this
        rw [hn]
        cases f.ownBlock with
        | none => exact .inl rfl
        | some b => exact .inr (by simp)
    · rw [List.getElem?_append_right (by omega)] at h1
      have := List.mem_of_getElem? h1
      simp at this
      subst this
      exact .inl hn
theorem foot_snoc {V V' : Value} {F : List Value} {n k : Nat} (hb : V'.ownBlock = V.ownBlock ∨ ∃ g, V'.ownBlock = some g ∧ n ≤ g) (h : Foot V' (F ++ [.slice none 0 0]) k) : Foot V F k ∨ n ≤ k := by
  rcases h with e | ⟨f, hf, e⟩
  · rcases hb with q | ⟨g, q, hg⟩
    · exact .inl (.inl (q ▸ e))
    · rw [q] at e; injection e with e; exact .inr (by omega)
  · rcases List.mem_append.1 hf with hf | hf
    · exact .inl (.inr ⟨f, hf, e⟩)
    · simp at hf; subst hf; cases e
/-- A way more out of step k: w1: behind the append; then it is written into the step. -/
theorem StepsAt.lead {w w1 : World} {base G cap k x : Nat} {f f' : Value} {S : List Stp} {F : List Value} {s : Stp} (h : StepsAt w base (.slice (some ⟨G, 0, Option.none⟩) S.length cap) S F) (hs : S[k]? = some s) (hf : F[k]? = some f)
    (hr : w1.ownsRow base 3 1 f' (s.free.length + 1) (s.free.map intV ++ [intV x])) (k1 : Asd (fun i => f.ownBlock = some i) w w1) (hb : f'.ownBlock = f.ownBlock ∨ ∃ g, f'.ownBlock = some g ∧ w.heap.size ≤ g) :
    StepsAt (w1.setCell ⟨G, k * 257 + 256, Option.none⟩ f') base (.slice (some ⟨G, 0, Option.none⟩) S.length cap) (leadL S k x) (F.set k f') := by
  have hk : k < S.length := (List.getElem?_eq_some_iff.1 hs).1
  have hG : Foot (.slice (some ⟨G, 0, Option.none⟩) S.length cap) F G := .inl rfl
  have hfG : f'.ownBlock ≠ some G := by
    rcases hb with e | ⟨g, e, hg⟩
    · rw [e]
      rcases h.off k f hf with q | q
      · rw [q]; simp
      · exact q
    · rw [e]
      intro e2
      injection e2 with e2
      have := (h.lt hG).2
      omega
  have hfoff : f.ownBlock = Option.none ∨ f.ownBlock ≠ some G := h.off k f hf
  have hrow1 := own_asdS h.row k1 (fun i e e' => by
    rcases hfoff with q | q
    · rw [q] at e'; cases e'
    · exact q (e'.trans e.symm))
  have other : ∀ (i : Nat) t g, i ≠ k → S[i]? = some t → F[i]? = some g → w1.ownsRow base 3 1 g t.free.length (t.free.map intV) := fun i t g hik h1 h2 => own_asdS (h.free i t g h1 h2) k1 (fun b e e' => by
    rcases h.two i k g f hik h2 hf with q | q
    · rw [q] at e; cases e
    · exact q (e.trans e'.symm))
  have hone : f'.oneCell' = true := by
    obtain ⟨a, c, rfl, _⟩ := own_slice hr
    rfl
  refine ⟨by rw [List.length_set, leadL_length, h.len], ?_, fun i t g h1 h2 => ?_, fun i g h2 => ?_, fun i j g g' hij h1 h2 => ?_⟩
  · rw [leadL_length, ← stepsC_lead h.len hk x f']
    exact (hrow1.stored _ _).1
  · rw [leadL_get] at h1
    by_cases hik : i = k
    · subst hik
      rw [if_pos rfl, hs] at h1
      rw [List.getElem?_set_self (by rw [h.len]; exact hk)] at h2
      simp at h1 h2
      subst h1 h2
      refine ownsRow_setCell_other ?_ hfG _
      simp only [List.length_append, List.length_singleton, List.map_append, List.map_cons, List.map_nil]
      exact hr
    · rw [if_neg hik] at h1
      rw [List.getElem?_set_ne (fun e => hik e.symm)] at h2
      refine ownsRow_setCell_other (other i t g hik h1 h2) ?_ _
      rcases h.off i g h2 with q | q
      · rw [q]; simp
      · exact q
  · by_cases hik : i = k
    · subst hik
      rw [List.getElem?_set_self (by rw [h.len]; exact hk)] at h2
      simp at h2
      subst h2
      exact .inr hfG
    · rw [List.getElem?_set_ne (fun e => hik e.symm)] at h2
      exact h.off i g h2
  · have new : ∀ (i : Nat) g, i ≠ k → F[i]? = some g → f'.ownBlock = Option.none ∨ f'.ownBlock ≠ g.ownBlock := fun i g hik h2 => by
      rcases hb with e | ⟨b, e, hb⟩
      · rw [e]; exact h.two k i f g (fun e => hik e.symm) hf h2
      · refine .inr fun e2 => ?_
        rw [e] at e2
        have := (h.lt (.inr ⟨g, List.mem_of_getElem? h2, e2.symm⟩)).2
        omega
    by_cases hik : i = k
    · subst hik
      rw [List.getElem?_set_self (by rw [h.len]; exact hk)] at h1
      rw [List.getElem?_set_ne hij] at h2
      simp at h1
      subst h1
      exact new j g' (fun e => hij e.symm) h2
    · rw [List.getElem?_set_ne (fun e => hik e.symm)] at h1
      by_cases hjk : j = k
      · subst hjk
        rw [List.getElem?_set_self (by rw [h.len]; exact hk)] at h2
        simp at h2
        subst h2
        exact sym_ne (new i g hik h1)
      · rw [List.getElem?_set_ne (fun e => hjk e.symm)] at h2
        exact h.two i j g g' hij h1 h2
theorem foot_lead {V : Value} {F : List Value} {f f' : Value} {n k b : Nat} (hf : F[k]? = some f) (hb : f'.ownBlock = f.ownBlock ∨ ∃ g, f'.ownBlock = some g ∧ n ≤ g) (h : Foot V (F.set k f') b) : Foot V F b ∨ n ≤ b := by
  rcases h with e | ⟨g, hg, e⟩
  · exact .inl (.inl e)
  · rcases List.mem_or_eq_of_mem_set hg with hg | rfl
    · exact .inl (.inr ⟨g, hg, e⟩)
    · rcases hb with q | ⟨g', q, hg'⟩
      · exact .inl (.inr ⟨f, List.mem_of_getElem? hf, q ▸ e⟩)
      · rw [q] at e; injection e with e; exact .inr (by omega)
/-- The reader: what remains, its steps. -/
structure RdAt (w : World) (R : Nat) (l : Bs) (S : List Stp) (V : Value) (F : List Value) : Prop where
  q : Rq w R l V
  st : StepsAt w (R + 1) V S F
/-- Nothing has turned but the reader and its steps. -/
structure Grow (R : Nat) (V : Value) (F : List Value) (V' : Value) (F' : List Value) (w w' : World) : Prop where
  foot : ∀ k, Foot V' F' k → Foot V F k ∨ w.heap.size ≤ k
  asd : Asd (fun k => k = R ∨ Foot V F k) w w'
theorem Grow.refl (R : Nat) (V : Value) (F : List Value) (w : World) : Grow R V F V F w w := ⟨fun _ h => .inl h, Asd.refl _ _⟩
theorem Grow.trans {R : Nat} {V V1 V2 : Value} {F F1 F2 : List Value} {w w1 w2 : World} (h : Grow R V F V1 F1 w w1) (g : Grow R V1 F1 V2 F2 w1 w2) : Grow R V F V2 F2 w w2 := by
  have hs := h.asd.size
  refine ⟨fun k hk => ?_, h.asd.trans g.asd fun i hi hlt => ?_⟩
  · rcases g.foot k hk with q | q
    · exact h.foot k q
    · exact .inr (by omega)
  · rcases hi with hi | hi
    · exact .inl hi
    · rcases h.foot i hi with q | q
      · exact .inr q
      · omega
/-- What is left of the reader's text is another one. -/
theorem RdAt.turn {w w' : World} {R : Nat} {l l' : Bs} {S : List Stp} {V : Value} {F : List Value} (h : RdAt w R l S V F) (hq : Rq w' R l' V) (k : Asd (· = R) w w') : RdAt w' R l' S V F :=
  ⟨hq, h.st.keep k (fun i hi e => by subst e; have := (h.st.lt hi).1; omega)⟩
theorem Grow.turn {w w' : World} {R : Nat} {V : Value} {F : List Value} (k : Asd (· = R) w w') : Grow R V F V F w w' := ⟨fun _ h => .inl h, k.any fun _ e => .inl e⟩
theorem RdAt.stay {w w' : World} {R : Nat} {l : Bs} {S : List Stp} {V : Value} {F : List Value} (h : RdAt w R l S V F) (k : Below w.heap.size w w') : RdAt w' R l S V F := ⟨h.q.stay k, h.st.stay k⟩
def RdQ (w : World) (R : Nat) (V : Value) (F : List Value) (l' : Bs) (S' : List Stp) (w' : World) : Prop := ∃ V' F', RdAt w' R l' S' V' F' ∧ Grow R V F V' F' w w'
end Go.Proofs.Ytakkcofmbafneaa
