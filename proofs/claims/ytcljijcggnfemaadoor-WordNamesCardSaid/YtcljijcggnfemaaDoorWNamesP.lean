/- Lists of names, as plain functions. -/
import Derived.Test.YtcljijcggnfemaaDoorWName
import Derived.Test.YtcljijcggnfemaaDoorWGood
import Derived.Lib.IndexMore
import Derived.Lib.IndexBytes
import Derived.Lib.SplitLaws
namespace Go.Proofs.YtcljijcggnfemaaDoor

/-- The parts of a text between bytes d. -/
def sepL (d : UInt8) : Bs → List Bs
  | [] => [[]]
  | c :: r => if c = d then [] :: sepL d r else match sepL d r with
    | [] => [[c]]
    | x :: xs => (c :: x) :: xs
theorem sep_ne (d : UInt8) (l : Bs) : sepL d l ≠ [] := by
  cases l with
  | nil => simp [sepL]
  | cons c r =>
    rw [sepL]
    split
    · simp
    · split <;> simp
theorem sep_step {d c : UInt8} {r x : Bs} {xs : List Bs} (hc : c ≠ d) (h : sepL d r = x :: xs) : sepL d (c :: r) = (c :: x) :: xs := by
  rw [sepL, if_neg hc, h]
theorem sep_hit (d : UInt8) (r : Bs) : sepL d (d :: r) = [] :: sepL d r := by rw [sepL, if_pos rfl]
theorem split_sep (d : UInt8) (l : Bs) : Lib.splitK [d] 0 (l.count d) l = sepL d l := by
  induction l with
  | nil => rfl
  | cons c r ih =>
    by_cases h : c = d
    · subst h
      rw [sep_hit, List.count_cons_self, ← ih]
      have hix : Lib.index (c :: r) [c] = 0 := by rw [Lib.index]; simp [List.isPrefixOf]
      rw [Lib.splitK, if_neg (by rw [hix]; decide), hix]
      rfl
    · have hp : ([d] : List UInt8).isPrefixOf (c :: r) = false := by simp [List.isPrefixOf, Ne.symm h]
      have hix : Lib.index (c :: r) [d] = if Lib.index r [d] == -1 then -1 else Lib.index r [d] + 1 := by rw [Lib.index, hp]; simp
      have hge := Lib.index_ge r [d]
      rw [List.count_cons_of_ne (by simpa using h)]
      cases hk : r.count d with
      | zero =>
        rw [hk] at ih
        rw [Lib.splitK] at ih ⊢
        exact (sep_step h ih.symm).symm
      | succ k =>
        rw [hk] at ih
        rw [Lib.splitK] at ih ⊢
        by_cases hm : Lib.index r [d] = -1
        · rw [if_pos (by rw [hm]; rfl)] at ih
          rw [hix, if_pos (by rw [hm]; rfl)]
          exact (sep_step h ih.symm).symm
        · have e1 : ¬ (Lib.index r [d] == -1) = true := fun e => hm (beq_iff_eq.1 e)
          rw [if_neg e1] at ih
          have e2 : ¬ (Lib.index r [d] + 1 == -1) = true := fun e => by have := beq_iff_eq.1 e; omega
          rw [hix, if_neg e1, if_neg e2, show (Lib.index r [d] + 1).toNat = (Lib.index r [d]).toNat + 1 by omega]
          rw [sep_step h ih.symm]
          simp only [List.length_cons, List.length_nil, Nat.add_zero, List.take_succ_cons]
          rw [show (Lib.index r [d]).toNat + 1 + (0 + 1) = ((Lib.index r [d]).toNat + (0 + 1)) + 1 by omega, List.drop_succ_cons]
theorem sep_length (d : UInt8) (l : Bs) : (sepL d l).length = l.count d + 1 := by
  induction l with
  | nil => rfl
  | cons c r ih =>
    by_cases h : c = d
    · subst h; rw [sep_hit, List.count_cons_self, List.length_cons, ih]
    · cases hl : sepL d r with
      | nil => exact absurd hl (sep_ne d r)
      | cons x xs => rw [sep_step h hl, List.count_cons_of_ne (by simpa using h), ← ih, hl]; rfl
theorem sep_join (d : UInt8) (l : Bs) : joinL [d] (sepL d l) = l := by
  induction l with
  | nil => rfl
  | cons c r ih =>
    by_cases h : c = d
    · subst h
      rw [sep_hit]
      cases hl : sepL c r with
      | nil => exact absurd hl (sep_ne c r)
      | cons x xs =>
        rw [hl] at ih
        unfold joinL at ih ⊢
        rw [Lib.join_cons] at ih ⊢
        rw [Lib.joinTail]
        unfold Lib.joinTail at ih
        simp only [List.map_cons, List.flatten_cons, List.nil_append, List.cons_append]
        exact congrArg (c :: ·) ih
    · cases hl : sepL d r with
      | nil => exact absurd hl (sep_ne d r)
      | cons x xs =>
        rw [sep_step h hl]
        rw [hl] at ih
        unfold joinL at ih ⊢
        rw [Lib.join_cons] at ih ⊢
        rw [List.cons_append, ih]
theorem sep_len {d : UInt8} {l x : Bs} (h : x ∈ sepL d l) : x.length ≤ l.length := by
  induction l generalizing x with
  | nil => simp [sepL] at h; simp [h]
  | cons c r ih =>
    by_cases hc : c = d
    · subst hc
      rw [sep_hit] at h
      rcases List.mem_cons.1 h with h | h
      · simp [h]
      · have := ih h; simp; omega
    · cases hl : sepL d r with
      | nil => exact absurd hl (sep_ne d r)
      | cons y ys =>
        rw [sep_step hc hl] at h
        rcases List.mem_cons.1 h with h | h
        · have := ih (x := y) (by rw [hl]; simp)
          rw [h]; simp; omega
        · have := ih (x := x) (by rw [hl]; simp [h])
          simp; omega
theorem sep_sum (d : UInt8) (l : Bs) : ((sepL d l).map List.length).sum ≤ l.length := by
  induction l with
  | nil => exact Nat.le_refl _
  | cons c r ih =>
    by_cases h : c = d
    · subst h; rw [sep_hit]; simp; omega
    · cases hl : sepL d r with
      | nil => exact absurd hl (sep_ne d r)
      | cons x xs => rw [sep_step h hl]; rw [hl] at ih; simp at ih ⊢; omega
/-- Names, none of them twice, none of those that were seen. -/
def goN : List Bs → List Bs → Bool
  | _, [] => true
  | seen, x :: xs => !seen.contains x && nameB x && goN (seen ++ [x]) xs
/-- The names that a text contains. -/
def namesN (l : Bs) : Option (List Bs) := if l = [45] then some [] else if goN [] (sepL 44 l) then some (sepL 44 l) else none
theorem go_at {xs seen : List Bs} {k : Nat} {x : Bs} (hk : xs[k]? = some x) (h : (seen ++ xs.take k).contains x = true ∨ nameB x = false) : goN seen xs = false := by
  induction xs generalizing seen k with
  | nil => cases hk
  | cons y xs ih =>
    rw [goN]
    cases k with
    | zero =>
      simp at hk
      subst hk
      rw [List.take_zero, List.append_nil] at h
      rcases h with h | h <;> rw [h] <;> simp
    | succ k =>
      have := ih (seen := seen ++ [y]) (k := k) (by simpa using hk) (by simpa using h)
      rw [this]; simp
theorem go_all {xs seen : List Bs} (h : ∀ k x, xs[k]? = some x → (seen ++ xs.take k).contains x = false ∧ nameB x = true) : goN seen xs = true := by
  induction xs generalizing seen with
  | nil => rfl
  | cons y xs ih =>
    rw [goN]
    have h0 := h 0 y rfl
    rw [List.take_zero, List.append_nil] at h0
    rw [h0.1, h0.2, ih (fun k x hx => by have := h (k + 1) x (by simpa using hx); simpa using this)]; rfl
theorem names_bad {l : Bs} (hl : l ≠ [45]) {k : Nat} {x : Bs} (hk : (sepL 44 l)[k]? = some x) (h : ((sepL 44 l).take k).contains x = true ∨ nameB x = false) : namesN l = none := by
  unfold namesN
  rw [if_neg hl, if_neg]
  rw [go_at hk (by rwa [List.nil_append])]; decide
theorem names_all {l : Bs} (hl : l ≠ [45]) (h : ∀ k x, (sepL 44 l)[k]? = some x → ((sepL 44 l).take k).contains x = false ∧ nameB x = true) : namesN l = some (sepL 44 l) := by
  unfold namesN
  rw [if_neg hl, if_pos (go_all (fun k x hk => by rw [List.nil_append]; exact h k x hk))]
/-- Names as text. -/
def ntextN (ns : List Bs) : Bs := if ns = [] then [45] else joinL [44] ns
theorem names_text {l : Bs} {ns : List Bs} (h : namesN l = some ns) : ntextN ns = l := by
  unfold namesN at h
  split at h
  · rename_i e
    injection h with h
    subst h; exact e.symm
  · split at h
    · injection h with h
      subst h
      unfold ntextN
      rw [if_neg (sep_ne 44 l), sep_join]
    · cases h
theorem names_size {l : Bs} {ns : List Bs} (h : namesN l = some ns) : ns.length ≤ l.length + 1 ∧ (ns.map List.length).sum ≤ l.length := by
  unfold namesN at h
  split at h
  · injection h with h
    subst h; exact ⟨Nat.zero_le _, Nat.zero_le _⟩
  · split at h
    · injection h with h
      subst h
      refine ⟨?_, sep_sum 44 l⟩
      rw [sep_length]
      have := List.count_le_length (a := (44 : UInt8)) (l := l)
      omega
    · cases h
theorem names_back {l : Bs} {ns : List Bs} (h : namesN l = some ns) : namesN (ntextN ns) = some ns := by
  unfold namesN at h
  split at h
  · injection h with h
    subst h; rfl
  · rename_i hl
    split at h
    · rename_i hg
      injection h with h
      subst h
      unfold ntextN
      rw [if_neg (sep_ne 44 l), sep_join]
      unfold namesN
      rw [if_neg hl, if_pos hg]
    · cases h
end Go.Proofs.YtcljijcggnfemaaDoor
