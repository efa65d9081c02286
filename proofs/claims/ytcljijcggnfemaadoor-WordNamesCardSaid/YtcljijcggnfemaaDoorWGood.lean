/- Words of a line, as plain functions: what is joined is split again. -/
import Derived.Test.YtcljijcggnfemaaDoorWJoin
namespace Go.Proofs.YtcljijcggnfemaaDoor

/-- Within a word all the way. -/
def inW : Nat → Bs → Nat → Prop
  | p, [], q => p = q
  | p, c :: r, q => (nextN p c.toNat = 1 ∨ nextN p c.toNat = 2 ∨ nextN p c.toNat = 3) ∧ inW (nextN p c.toNat) r q
/-- A whole word. -/
def goodW (x : Bs) : Prop := inW 0 x 1
theorem inW_snoc {p q : Nat} {x : Bs} {c : UInt8} (h : inW p x q) (hc : nextN q c.toNat = 1 ∨ nextN q c.toNat = 2 ∨ nextN q c.toNat = 3) : inW p (x ++ [c]) (nextN q c.toNat) := by
  induction x generalizing p with
  | nil =>
    have e : p = q := h
    subst e
    exact ⟨hc, rfl⟩
  | cons d x ih => exact ⟨h.1, ih h.2⟩
theorem inW_fold {p q : Nat} {x : Bs} (h : inW p x q) (w : Bs) (W : List Bs) : x.foldl stepN ⟨p, w, W⟩ = ⟨q, w ++ x, W⟩ := by
  induction x generalizing p w with
  | nil =>
    have e : p = q := h
    subst e
    simp
  | cons c x ih =>
    have h1 : stepN ⟨p, w, W⟩ c = ⟨nextN p c.toNat, w ++ [c], W⟩ := by unfold stepN; exact if_pos h.1
    rw [List.foldl_cons, h1, ih h.2]; simp
theorem next_one (n : Nat) : nextN 1 n ≠ 4 := by
  unfold nextN nextQ
  repeat' split
  all_goals omega
theorem next_quote (p n : Nat) (h : p = 2 ∨ p = 3) : nextN p n ≠ 4 ∧ nextN p n ≠ 0 := by
  unfold nextN nextQ
  repeat' split
  all_goals omega
theorem next_four (n : Nat) : nextN 4 n = 4 ∨ nextN 4 n = 5 := by
  unfold nextN nextQ
  repeat' split
  all_goals omega
theorem next_five (n : Nat) : nextN 5 n = 5 := by simp [nextN]
theorem next_zero3 (n : Nat) : nextN 0 n ≠ 3 := by
  unfold nextN nextQ
  repeat' split
  all_goals omega
/-- What holds of a line all along. -/
structure Ok (s : St) : Prop where
  le : s.pl ≤ 5
  all : ∀ x ∈ s.words, goodW x
  out : s.pl = 0 ∨ s.pl = 4 → s.word = []
  ins : s.pl = 1 ∨ s.pl = 2 ∨ s.pl = 3 → inW 0 s.word s.pl
theorem Ok.zero : Ok St.zero := ⟨by decide, fun x h => (by cases h), fun _ => rfl, fun h => by rcases h with h | h | h <;> cases h⟩
theorem Ok.step {s : St} (h : Ok s) (c : UInt8) : Ok (stepN s c) := by
  have hle := next_le s.pl c.toNat
  have h1 := next_one c.toNat
  have h4 := next_four c.toNat
  have h5 := next_five c.toNat
  obtain ⟨p, w, W⟩ := s
  obtain ⟨k1, k2, k3, k4⟩ := h
  simp only at *
  unfold stepN
  split
  · rename_i hq
    simp only at hq
    refine ⟨hle, k2, fun e => by simp only at e; omega, fun _ => ?_⟩
    have hp : p = 0 ∨ p = 1 ∨ p = 2 ∨ p = 3 := by
      rcases (show p = 0 ∨ p = 1 ∨ p = 2 ∨ p = 3 ∨ p = 4 ∨ p = 5 by omega) with rfl | rfl | rfl | rfl | rfl | rfl <;> first | omega | skip
    rcases hp with rfl | hp
    · have hw := k3 (.inl rfl)
      subst hw
      exact ⟨hq, rfl⟩
    · exact inW_snoc (k4 (by omega)) hq
  · rename_i hq
    simp only at hq
    split
    · rename_i hz
      obtain ⟨_, rfl⟩ := hz
      refine ⟨by simp, fun x hx => ?_, fun _ => rfl, fun e => by simp only at e; omega⟩
      rcases List.mem_append.1 hx with hx | hx
      · exact k2 x hx
      · simp at hx
        subst hx
        exact k4 (.inl rfl)
    · rename_i hz
      simp only at hz
      refine ⟨hle, k2, fun e => ?_, fun e => by simp only at e; omega⟩
      simp only at e
      refine k3 ?_
      have hp2 := next_quote p c.toNat
      rcases (show p = 0 ∨ p = 1 ∨ p = 2 ∨ p = 3 ∨ p = 4 ∨ p = 5 by omega) with rfl | rfl | rfl | rfl | rfl | rfl <;> omega
theorem Ok.fold {s : St} (h : Ok s) (l : Bs) : Ok (l.foldl stepN s) := by
  induction l generalizing s with
  | nil => exact h
  | cons c l ih => exact ih (h.step c)
theorem split_good {l : Bs} {ss : List Bs} (h : splitN l = some ss) : ∀ x ∈ ss, goodW x := by
  unfold splitN at h
  split at h
  · injection h with h
    rw [← h]
    exact ((Ok.zero.fold l).step 32).all
  · cases h
theorem step_end (x : Bs) (W : List Bs) : stepN ⟨1, x, W⟩ 32 = ⟨0, [], W ++ [x]⟩ := rfl
/-- Words and a blank behind each. -/
theorem good_fold (ss : List Bs) (h : ∀ x ∈ ss, goodW x) (W : List Bs) : (joinL [32] ss ++ [32]).foldl stepN ⟨0, [], W⟩ = ⟨0, [], W ++ ss⟩ := by
  induction ss generalizing W with
  | nil => rw [List.append_nil]; rfl
  | cons x ss ih =>
    have hx := inW_fold (h x (by simp)) [] W
    rw [List.nil_append] at hx
    cases ss with
    | nil =>
      rw [show joinL [32] [x] = x from Lib.join_one x [32], List.foldl_append, hx]
      exact step_end x W
    | cons y ss =>
      have e : joinL [32] (x :: y :: ss) ++ [32] = x ++ ([32] ++ (joinL [32] (y :: ss) ++ [32])) := by
        unfold joinL
        rw [Lib.join_cons, Lib.join_cons, Lib.joinTail, Lib.joinTail]
        simp
      rw [e, List.foldl_append, hx, List.foldl_append]
      have h1 : ([32] : Bs).foldl stepN ⟨1, x, W⟩ = ⟨0, [], W ++ [x]⟩ := step_end x W
      rw [h1, ih (fun z hz => h z (by simp [hz]))]
      simp
theorem split_eq (l : Bs) : splitN l = if ((l ++ [32]).foldl stepN St.zero).pl = 0 ∨ ((l ++ [32]).foldl stepN St.zero).pl = 4 then some ((l ++ [32]).foldl stepN St.zero).words else none := by
  rw [List.foldl_append]; rfl
theorem good_join {ss : List Bs} (h : ∀ x ∈ ss, goodW x) : splitN (joinL [32] ss) = some ss := by
  rw [split_eq, show St.zero = ⟨0, [], []⟩ from rfl, good_fold ss h []]; rfl
theorem good_joinN {ss : List Bs} (h : ∀ x ∈ ss, goodW x) : joinN ss = some (joinL [32] ss) := by unfold joinN; rw [good_join h, if_pos rfl]
theorem remark_fold (l : Bs) (h : ∀ c ∈ l, ¬ c.toNat < 32) (w : Bs) (W : List Bs) : l.foldl stepN ⟨4, w, W⟩ = ⟨4, w, W⟩ := by
  induction l with
  | nil => rfl
  | cons c l ih =>
    have e : nextN 4 c.toNat = 4 := by simp [nextN, h c (by simp)]
    have h1 : stepN ⟨4, w, W⟩ c = ⟨4, w, W⟩ := by unfold stepN; rw [e, if_neg (by omega), if_neg (by omega)]
    rw [List.foldl_cons, h1]
    exact ih (fun d hd => h d (by simp [hd]))
theorem step_none (p : Nat) (c : UInt8) (q : Nat) (w : Bs) (W : List Bs) (h : nextN p c.toNat = q) (hq : q = 0 ∧ p ≠ 1 ∨ q = 4) : stepN ⟨p, w, W⟩ c = ⟨q, w, W⟩ := by
  unfold stepN
  simp only [h]
  rw [if_neg (by omega), if_neg (by omega)]
theorem rem_begin (W : List Bs) : ([9, 32, 35] : Bs).foldl stepN ⟨0, [], W⟩ = ⟨4, [], W⟩ := by
  have e1 := step_none 0 9 0 [] W (by decide) (by omega)
  have e2 := step_none 0 32 0 [] W (by decide) (by omega)
  have e3 := step_none 0 35 4 [] W (by decide) (by omega)
  rw [List.foldl_cons, e1, List.foldl_cons, e2, List.foldl_cons, e3]; rfl
/-- With blanks about them, and a remark behind. -/
theorem good_about {ss : List Bs} (h : ∀ x ∈ ss, goodW x) : splitN ([32, 32] ++ joinL [32] ss ++ [32, 9, 32, 35, 32, 105, 116, 39, 115, 32, 34, 113, 117, 111, 116, 101, 100, 34]) = some ss := by
  have e : ([32, 32] ++ joinL [32] ss ++ [32, 9, 32, 35, 32, 105, 116, 39, 115, 32, 34, 113, 117, 111, 116, 101, 100, 34]) ++ [32] = [32, 32] ++ ((joinL [32] ss ++ [32]) ++ [9, 32, 35, 32, 105, 116, 39, 115, 32, 34, 113, 117, 111, 116, 101, 100, 34, 32]) := by simp
  rw [split_eq, e, List.foldl_append, show ([32, 32] : Bs).foldl stepN St.zero = ⟨0, [], []⟩ from rfl, List.foldl_append, good_fold ss h [],
    show ([9, 32, 35, 32, 105, 116, 39, 115, 32, 34, 113, 117, 111, 116, 101, 100, 34, 32] : Bs) = [9, 32, 35] ++ [32, 105, 116, 39, 115, 32, 34, 113, 117, 111, 116, 101, 100, 34, 32] from rfl, List.foldl_append, List.nil_append,
    rem_begin, remark_fold _ (by decide)]
  exact if_pos (.inr rfl)
theorem fold_sum (l : Bs) : ((stepN (l.foldl stepN St.zero) 32).words.map List.length).sum + (stepN (l.foldl stepN St.zero) 32).words.length ≤ l.length + 1 := by
  have h1 := step_size (l.foldl stepN St.zero) 32
  have h2 := fold_size l St.zero
  have h3 : St.zero.size = 0 := rfl
  unfold St.size at *
  omega
theorem split_sum {l : Bs} {ss : List Bs} (h : splitN l = some ss) : (ss.map List.length).sum + ss.length ≤ l.length + 1 := by
  have := fold_sum l
  unfold splitN at h
  split at h
  · injection h with h
    rw [← h]; exact this
  · cases h
theorem join_len (sep : Bs) (ss : List Bs) : (joinL sep ss).length ≤ (ss.map List.length).sum + sep.length * ss.length := by
  unfold joinL
  cases ss with
  | nil => simp [Lib.join_nil]
  | cons x ss =>
    rw [Lib.join_cons]
    have : (Lib.joinTail sep ss).length = (ss.map List.length).sum + sep.length * ss.length := by
      unfold Lib.joinTail
      induction ss with
      | nil => simp
      | cons y ss ih =>
        simp only [List.map_cons, List.flatten_cons, List.length_append, List.sum_cons, List.length_cons, ih, Nat.mul_succ]
        omega
    simp only [List.length_append, this, List.map_cons, List.sum_cons, List.length_cons, Nat.mul_succ]
    omega
end Go.Proofs.YtcljijcggnfemaaDoor
