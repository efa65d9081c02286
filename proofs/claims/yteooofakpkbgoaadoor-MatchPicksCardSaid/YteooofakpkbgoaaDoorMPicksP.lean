/- Fields in order: those of some names and the others, put together again, are all of them. -/
import Derived.Test.YteooofakpkbgoaaDoorMFieldsL
namespace Go.Proofs.YteooofakpkbgoaaDoor

def woutsF (ns : List Bs) (fs : List (Bs × Bs)) : List (Bs × Bs) := ns.foldl (fun r n => woutF n r) fs
theorem wouts_take {ns : List Bs} {k : Nat} {s : Bs} (h : ns[k]? = some s) (fs : List (Bs × Bs)) : woutsF (ns.take (k + 1)) fs = woutF s (woutsF (ns.take k) fs) := by
  unfold woutsF
  rw [take_bs h, List.foldl_append]; rfl
theorem wouts_is (ns : List Bs) (fs : List (Bs × Bs)) : woutsF ns fs = fs.filter fun f => !ns.contains f.1 := by
  induction ns generalizing fs with
  | nil => exact (List.filter_eq_self.2 fun _ _ => rfl).symm
  | cons n ns ih =>
    have : woutsF (n :: ns) fs = woutsF ns (woutF n fs) := rfl
    rw [this, ih]
    unfold woutF
    rw [List.filter_filter]
    refine List.filter_congr fun f _ => ?_
    rw [List.contains_cons, Bool.not_or, Bool.and_comm]
theorem wouts_len (ns : List Bs) (fs : List (Bs × Bs)) : (woutsF ns fs).length ≤ fs.length := by rw [wouts_is]; exact List.length_filter_le _ _
theorem picks_count (ns : List Bs) (fs : List (Bs × Bs)) : (pickF ns fs).length + (woutsF ns fs).length = fs.length := by
  rw [wouts_is]
  unfold pickF
  induction fs with
  | nil => rfl
  | cons f fs ih =>
    rw [List.filter_cons, List.filter_cons]
    cases ns.contains f.1 with
    | true => simp only [if_true, Bool.not_true, Bool.false_eq_true, if_false, List.length_cons]; omega
    | false => simp only [if_true, Bool.not_false, Bool.false_eq_true, if_false, List.length_cons]; omega
theorem right_sub {fs : List (Bs × Bs)} (h : rightB fs = true) (p : Bs × Bs → Bool) : rightB (fs.filter p) = true := by
  obtain ⟨h1, h2, h3⟩ := (right_iff fs).1 h
  exact (right_iff _).2 ⟨fun f hf => h1 f (List.mem_filter.1 hf).1, h2.filter p, Nat.le_trans (List.length_filter_le _ _) h3⟩
theorem value_not {fs : List (Bs × Bs)} {nm : Bs} (h : ∀ f ∈ fs, f.1 ≠ nm) : valueF fs nm = [] := by
  have e := value_less nm fs [] h
  rw [List.append_nil] at e
  exact e
theorem value_of {fs : List (Bs × Bs)} (h : Asc fs) {f : Bs × Bs} (hf : f ∈ fs) : valueF fs f.1 = f.2 := by
  induction fs with
  | nil => cases hf
  | cons g fs ih =>
    obtain ⟨h1, h2⟩ := List.pairwise_cons.1 h
    have e : valueF (g :: fs) f.1 = if g.1 = f.1 then g.2 else valueF fs f.1 := rfl
    rw [e]
    rcases List.mem_cons.1 hf with rfl | hf'
    · rw [if_pos rfl]
    · rw [if_neg fun e => by have := h1 f hf'; rw [e, ahead_irr] at this; cases this]
      exact ih h2 hf'
theorem with_mem_iff {fs : List (Bs × Bs)} {nm : Bs} (h : ∀ f ∈ fs, f.1 ≠ nm) (val : Bs) (x : Bs × Bs) : x ∈ withR fs nm val ↔ x ∈ fs ∨ x = (nm, val) := by
  have e : woutF nm (fs.dropWhile (ltF nm)) = fs.dropWhile (ltF nm) := by
    unfold woutF
    refine List.filter_eq_self.2 fun f hf => ?_
    have := h f ((List.dropWhile_sublist _).subset hf)
    simpa using this
  rw [with_is, e]
  have e2 : x ∈ fs ↔ x ∈ fs.takeWhile (ltF nm) ∨ x ∈ fs.dropWhile (ltF nm) := by
    rw [← List.mem_append, List.takeWhile_append_dropWhile]
  rw [e2, List.mem_append, List.mem_cons]
  constructor
  · rintro (h | h | h)
    · exact .inl (.inl h)
    · exact .inr h
    · exact .inl (.inr h)
  · rintro ((h | h) | h)
    · exact .inl h
    · exact .inr (.inr h)
    · exact .inr (.inl h)
theorem asc_ext {A B : List (Bs × Bs)} (hA : Asc A) (hB : Asc B) (h : ∀ x, x ∈ A ↔ x ∈ B) : A = B := by
  induction A generalizing B with
  | nil =>
    cases B with
    | nil => rfl
    | cons b B => have := (h b).2 (List.mem_cons_self ..); cases this
  | cons a A ih =>
    cases B with
    | nil => have := (h a).1 (List.mem_cons_self ..); cases this
    | cons b B =>
      obtain ⟨a1, a2⟩ := List.pairwise_cons.1 hA
      obtain ⟨b1, b2⟩ := List.pairwise_cons.1 hB
      have e : a = b := by
        rcases List.mem_cons.1 ((h a).1 (List.mem_cons_self ..)) with e | e
        · exact e
        · rcases List.mem_cons.1 ((h b).2 (List.mem_cons_self ..)) with e' | e'
          · exact e'.symm
          · have := ahead_trans (a1 b e') (b1 a e)
            rw [ahead_irr] at this
            cases this
      subst e
      rw [ih a2 b2 fun x => ?_]
      constructor
      · intro hx
        rcases List.mem_cons.1 ((h x).1 (List.mem_cons_of_mem _ hx)) with e | e
        · have := a1 x hx; rw [e, ahead_irr] at this; cases this
        · exact e
      · intro hx
        rcases List.mem_cons.1 ((h x).2 (List.mem_cons_of_mem _ hx)) with e | e
        · have := b1 x hx; rw [e, ahead_irr] at this; cases this
        · exact e
def withsF (fs ps : List (Bs × Bs)) : List (Bs × Bs) := ps.foldl (fun r f => withR r f.1 f.2) fs
theorem withs_take {ps : List (Bs × Bs)} {k : Nat} {f : Bs × Bs} (h : ps[k]? = some f) (fs : List (Bs × Bs)) : withsF fs (ps.take (k + 1)) = withR (withsF fs (ps.take k)) f.1 f.2 := by
  unfold withsF
  rw [take_fld h, List.foldl_append]; rfl
theorem withs_asc {fs : List (Bs × Bs)} (h : Asc fs) (ps : List (Bs × Bs)) : Asc (withsF fs ps) := by
  induction ps generalizing fs with
  | nil => exact h
  | cons f ps ih => exact ih (asc_with h f.1 f.2)
theorem withs_len (fs ps : List (Bs × Bs)) : (withsF fs ps).length ≤ fs.length + ps.length := by
  induction ps generalizing fs with
  | nil => exact Nat.le_refl _
  | cons f ps ih =>
    have := ih (withR fs f.1 f.2)
    have h2 := with_len fs f.1 f.2
    have e : withsF fs (f :: ps) = withsF (withR fs f.1 f.2) ps := rfl
    rw [e, List.length_cons]; omega
theorem withs_mem {fs ps : List (Bs × Bs)} (hp : Asc ps) (hd : ∀ f ∈ ps, ∀ g ∈ fs, g.1 ≠ f.1) (x : Bs × Bs) : x ∈ withsF fs ps ↔ x ∈ fs ∨ x ∈ ps := by
  induction ps generalizing fs with
  | nil => simp [withsF]
  | cons f ps ih =>
    obtain ⟨p1, p2⟩ := List.pairwise_cons.1 hp
    have e : withsF fs (f :: ps) = withsF (withR fs f.1 f.2) ps := rfl
    have hm := with_mem_iff (hd f (List.mem_cons_self ..)) f.2
    rw [e, ih p2 ?_, hm, List.mem_cons, or_assoc]
    intro f' hf' g hg
    rcases (hm g).1 hg with hg | rfl
    · exact hd f' (List.mem_cons_of_mem _ hf') g hg
    · intro e; have := p1 f' hf'; rw [show f.1 = f'.1 from e, ahead_irr] at this; cases this
theorem picks_all {fs : List (Bs × Bs)} (h : Asc fs) (ns : List Bs) : withsF (woutsF ns fs) (pickF ns fs) = fs := by
  rw [wouts_is]
  have hz : Asc (pickF ns fs) := List.Pairwise.filter _ h
  refine asc_ext (withs_asc (List.Pairwise.filter _ h) _) h fun x => ?_
  rw [withs_mem hz ?_]
  · unfold pickF
    rw [List.mem_filter, List.mem_filter]
    cases ns.contains x.1 <;> simp
  · intro f hf g hg e
    have hf := (List.mem_filter.1 hf).2
    have hg := (List.mem_filter.1 hg).2
    rw [e, hf] at hg
    cases hg
theorem picks_value {fs : List (Bs × Bs)} (h : Asc fs) {ns : List Bs} {f : Bs × Bs} (hf : f ∈ pickF ns fs) : valueF fs f.1 = f.2 ∧ valueF (woutsF ns fs) f.1 = [] := by
  obtain ⟨h1, h2⟩ := List.mem_filter.1 hf
  refine ⟨value_of h h1, value_not fun g hg e => ?_⟩
  rw [wouts_is] at hg
  have hg := (List.mem_filter.1 hg).2
  rw [e, h2] at hg
  cases hg
end Go.Proofs.YteooofakpkbgoaaDoor
