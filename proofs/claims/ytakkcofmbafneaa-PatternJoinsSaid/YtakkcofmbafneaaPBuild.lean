/- Patterns, plain: how the steps are laid, one after the other. -/
import Derived.Test.YtakkcofmbafneaaPRead
namespace Go.Proofs.Ytakkcofmbafneaa

/-- Step k leads to step x as well. -/
def leadL (S : List Stp) (k x : Nat) : List Stp := S.modify k (fun s => ⟨s.set, s.free ++ [x]⟩)
theorem leadL_length (S : List Stp) (k x : Nat) : (leadL S k x).length = S.length := by simp [leadL]
theorem leadL_at {X Y : List Stp} {s : Stp} {k : Nat} (x : Nat) (h : X.length = k) : leadL (X ++ s :: Y) k x = X ++ ⟨s.set, s.free ++ [x]⟩ :: Y := by
  subst h
  unfold leadL
  induction X with
  | nil => rfl
  | cons a X ih => simp only [List.cons_append, List.length_cons, List.modify_succ_cons, ih]
theorem leadL_first {X f : List Stp} {k : Nat} (x : Nat) (h : X.length = k) (hf : f ≠ []) : leadL (X ++ f) k x = X ++ addFree f x := by
  cases f with
  | nil => exact absurd rfl hf
  | cons s f => rw [leadL_at x h]; rfl
theorem stR_ne (r : Re) (b : Nat) : stR r b ≠ [] := by
  obtain ⟨x, f, h⟩ := stR_cons r b
  rw [h]
  simp
/-- Any number of times. -/
theorem laid_star {X : List Stp} {b : Nat} (r : Re) (h : X.length = b) : leadL (leadL (X ++ stR r b ++ [⟨noSet, []⟩]) (b + lenR r) b) b (b + lenR r + 1) = X ++ stR (.star r) b := by
  rw [leadL_at (X := X ++ stR r b) b (by rw [List.length_append, stR_length, h]), List.append_assoc, leadL_first _ h (by simp [stR_ne]), stR]
  obtain ⟨x, f, hf⟩ := stR_cons r b
  rw [hf]
  rfl
/-- Once and more. -/
theorem laid_plus {X : List Stp} {b : Nat} (r : Re) (h : X.length = b) : leadL (leadL (X ++ stR r b ++ [⟨noSet, []⟩]) (b + lenR r) b) (b + lenR r) (b + lenR r + 1) = X ++ stR (.plus r) b := by
  rw [leadL_at (X := X ++ stR r b) b (by rw [List.length_append, stR_length, h]), leadL_at (X := X ++ stR r b) _ (by rw [List.length_append, stR_length, h]), stR, List.append_assoc]
  rfl
/-- Once or not. -/
theorem laid_opt {X : List Stp} {b : Nat} (r : Re) (h : X.length = b) : leadL (X ++ stR r b) b (b + lenR r) = X ++ stR (.opt r) b := by
  rw [leadL_first _ h (stR_ne r b), stR]
/-- Rows, one behind the other, whose last steps lead nowhere yet. -/
def stsL : List Sq → Nat → List Stp
  | [], _ => []
  | q :: l, b => stS q b ++ ⟨noSet, []⟩ :: stsL l (b + lenS q + 1)
def lenL : List Sq → Nat
  | [] => 0
  | q :: l => lenS q + 1 + lenL l
def begL : List Sq → Nat → List Nat
  | [], _ => []
  | q :: l, b => b :: begL l (b + lenS q + 1)
def endL : List Sq → Nat → List Nat
  | [], _ => []
  | q :: l, b => (b + lenS q) :: endL l (b + lenS q + 1)
/-- .. ahead of alternatives. -/
def preA : List Sq → Al → Al
  | [], a => a
  | q :: l, a => .more q (preA l a)
theorem preA_snoc (l : List Sq) (q : Sq) (a : Al) : preA (l ++ [q]) a = preA l (.more q a) := by
  induction l with
  | nil => rfl
  | cons p l ih => simp only [List.cons_append, preA, ih]
theorem stsL_length (l : List Sq) (b : Nat) : (stsL l b).length = lenL l := by
  induction l generalizing b with
  | nil => rfl
  | cons p l ih => rw [stsL, List.length_append, List.length_cons, stS_length, ih, lenL]; omega
theorem stsL_snoc (l : List Sq) (q : Sq) (b : Nat) : stsL (l ++ [q]) b = stsL l b ++ stS q (b + lenL l) ++ [⟨noSet, []⟩] := by
  induction l generalizing b with
  | nil => simp [stsL, lenL]
  | cons p l ih => simp only [List.cons_append, stsL, ih, lenL, List.append_assoc]; rw [show b + (lenS p + 1 + lenL l) = b + lenS p + 1 + lenL l by omega]
theorem begL_snoc (l : List Sq) (q : Sq) (b : Nat) : begL (l ++ [q]) b = begL l b ++ [b + lenL l] := by
  induction l generalizing b with
  | nil => simp [begL, lenL]
  | cons p l ih => simp only [List.cons_append, begL, ih, lenL]; rw [show b + (lenS p + 1 + lenL l) = b + lenS p + 1 + lenL l by omega]
theorem endL_snoc (l : List Sq) (q : Sq) (b : Nat) : endL (l ++ [q]) b = endL l b ++ [b + lenL l + lenS q] := by
  induction l generalizing b with
  | nil => simp [endL, lenL]
  | cons p l ih => simp only [List.cons_append, endL, ih, lenL]; rw [show b + (lenS p + 1 + lenL l) = b + lenS p + 1 + lenL l by omega]
theorem lenL_snoc (l : List Sq) (q : Sq) : lenL (l ++ [q]) = lenL l + lenS q + 1 := by
  induction l with
  | nil => simp [lenL]
  | cons p l ih => simp only [List.cons_append, lenL, ih]; omega
theorem endL_mem {l : List Sq} {b e : Nat} (h : e ∈ endL l b) : b ≤ e ∧ e < b + lenL l := by
  induction l generalizing b with
  | nil => cases h
  | cons p l ih =>
    rw [endL] at h
    rw [lenL]
    rcases List.mem_cons.1 h with rfl | h
    · omega
    · have := ih h; omega
theorem starts_pre (l : List Sq) (q : Sq) (b : Nat) : startsA (preA l (.one q)) b = begL (l ++ [q]) b := by
  induction l generalizing b with
  | nil => rfl
  | cons p l ih => simp only [List.cons_append, begL, preA, startsA, ih]
theorem lenA_pre (l : List Sq) (q : Sq) : lenA (preA l (.one q)) = lenL (l ++ [q]) := by
  induction l with
  | nil => simp [preA, lenA, lenL]
  | cons p l ih => simp only [List.cons_append, preA, lenA, lenL, ih]
/-- All their last steps lead to E. -/
theorem laid_ends (l : List Sq) (q : Sq) (E : Nat) {X : List Stp} {b : Nat} (h : X.length = b) : (endL (l ++ [q]) b).foldl (fun S e => leadL S e E) (X ++ stsL (l ++ [q]) b) = X ++ stA (preA l (.one q)) b E := by
  induction l generalizing X b with
  | nil =>
    rw [List.nil_append, endL, endL, List.foldl_cons, List.foldl_nil, stsL, stsL, ← List.append_assoc, leadL_at _ (by rw [List.length_append, stS_length, h]), preA, stA, List.append_assoc]
    rfl
  | cons p l ih =>
    rw [List.cons_append, endL, List.foldl_cons, stsL, ← List.append_assoc, leadL_at _ (by rw [List.length_append, stS_length, h]), preA, stA]
    have := ih (X := X ++ stS p b ++ [⟨noSet, [E]⟩]) (b := b + lenS p + 1) (by simp [stS_length, h]; omega)
    simp only [List.append_assoc, List.singleton_append, List.nil_append] at this ⊢
    exact this
/-- A whole group, of which the rows are there. -/
theorem laid_group (l : List Sq) (q : Sq) {X : List Stp} {b : Nat} (h : X.length = b) :
    (endL (l ++ [q]) (b + 1)).foldl (fun S e => leadL S e (b + 1 + lenL (l ++ [q]))) (X ++ ⟨noSet, begL (l ++ [q]) (b + 1)⟩ :: stsL (l ++ [q]) (b + 1)) = X ++ stR (.grp (preA l (.one q))) b := by
  have := laid_ends l q (b + 1 + lenL (l ++ [q])) (X := X ++ [⟨noSet, begL (l ++ [q]) (b + 1)⟩]) (b := b + 1) (by simp [h])
  simp only [List.append_assoc, List.singleton_append] at this
  rw [this, stR, starts_pre, lenA_pre]
end Go.Proofs.Ytakkcofmbafneaa
