/- The document's way to split a line, as plain functions: it gives the same words. -/
import Derived.Test.YtcljijcggnfemaaDoorWGood
namespace Go.Proofs.YtcljijcggnfemaaDoor

def gd (c : UInt8) : Prop := ¬ (c.toNat < 32 ∧ c.toNat ≠ 9)
def bl (c : UInt8) : Prop := c.toNat = 32 ∨ c.toNat = 9
theorem next_gd {c : UInt8} (h : ¬ gd c) (p : Nat) : nextN p c.toNat = 5 := by
  unfold gd at h
  unfold nextN
  rw [if_pos (.inr (by omega))]
theorem fold_bad (l : Bs) (s : St) (h : s.pl = 5 ∨ ∃ c ∈ l, ¬ gd c) : (l.foldl stepN s).pl = 5 := by
  induction l generalizing s with
  | nil =>
    rcases h with h | ⟨c, hc, _⟩
    · exact h
    · cases hc
  | cons d l ih =>
    rw [List.foldl_cons]
    refine ih _ ?_
    rcases h with h | ⟨c, hc, hg⟩
    · left; rw [step_pl, h]; exact next_five _
    · rcases List.mem_cons.1 hc with rfl | hc
      · left; rw [step_pl]; exact next_gd hg _
      · right; exact ⟨c, hc, hg⟩
theorem bad_none {l : Bs} {k : Nat} {c : UInt8} (hk : l[k]? = some c) (h : ¬ gd c) : splitN l = none := by
  have h1 := fold_bad l St.zero (.inr ⟨c, List.mem_of_getElem? hk, h⟩)
  unfold splitN
  rw [if_neg]
  rw [step_pl, h1, next_five]; omega
/-- Between words, at byte k; W: the words so far. -/
structure ROut (l : Bs) (k : Nat) (W : List Bs) : Prop where
  le : k ≤ l.length
  st : stepN (upN l k) 32 = ⟨0, [], W⟩
  pl : (upN l k).pl ≤ 1
  here0 : upN l k = ⟨0, [], W⟩ ∨ k = l.length ∨ ∃ c, l[k]? = some c ∧ bl c
theorem up_zero (l : Bs) : upN l 0 = ⟨0, [], []⟩ := rfl
theorem ROut.start (l : Bs) : ROut l 0 [] := ⟨Nat.zero_le _, rfl, Nat.zero_le _, .inl rfl⟩
theorem step_bl {s : St} {c : UInt8} (hc : bl c) (hp : s.pl ≤ 1) : stepN s c = stepN s 32 := by
  have e : nextN s.pl c.toNat = 0 := by
    unfold bl at hc
    unfold nextN
    rw [if_neg (by omega), if_neg (by omega), if_neg (by omega), if_neg (by omega), if_pos (by omega)]
  have e2 : nextN s.pl (32 : UInt8).toNat = 0 := by
    unfold nextN
    rw [show (32 : UInt8).toNat = 32 from rfl, if_neg (by omega), if_neg (by omega), if_neg (by omega), if_neg (by omega), if_pos (by omega)]
  unfold stepN
  rw [e, e2]
  simp
theorem step_zero (W : List Bs) : stepN ⟨0, [], W⟩ 32 = ⟨0, [], W⟩ := rfl
theorem ROut.blank {l : Bs} {k : Nat} {W : List Bs} {c : UInt8} (h : ROut l k W) (hk : l[k]? = some c) (hc : bl c) : ROut l (k + 1) W := by
  have hlt := (List.getElem?_eq_some_iff.1 hk).1
  have e : upN l (k + 1) = ⟨0, [], W⟩ := by rw [up_succ l k c hk, step_bl hc h.pl, h.st]
  exact ⟨by omega, by rw [e]; rfl, by rw [e]; exact Nat.zero_le _, .inl e⟩
theorem ROut.done {l : Bs} {W : List Bs} (h : ROut l l.length W) : splitN l = some W := by
  have h1 := h.st
  rw [up_all] at h1
  unfold splitN
  rw [h1]; rfl
theorem ROut.here {l : Bs} {k : Nat} {W : List Bs} {c : UInt8} (h : ROut l k W) (hk : l[k]? = some c) (hc : ¬ bl c) : upN l k = ⟨0, [], W⟩ := by
  have hlt := (List.getElem?_eq_some_iff.1 hk).1
  rcases h.here0 with h | h | ⟨d, hd, hb⟩
  · exact h
  · omega
  · rw [hk] at hd; injection hd with hd; subst hd; exact absurd hb hc
theorem fold_rem (l : Bs) (h : ∀ c ∈ l, gd c) (w : Bs) (W : List Bs) : l.foldl stepN ⟨4, w, W⟩ = ⟨4, w, W⟩ := by
  induction l with
  | nil => rfl
  | cons c l ih =>
    have hc := h c (by simp)
    unfold gd at hc
    have e : nextN 4 c.toNat = 4 := by unfold nextN; rw [if_neg (by omega), if_pos (by omega)]
    have h1 : stepN ⟨4, w, W⟩ c = ⟨4, w, W⟩ := by unfold stepN; rw [e, if_neg (by omega), if_neg (by omega)]
    rw [List.foldl_cons, h1]
    exact ih (fun d hd => h d (by simp [hd]))
theorem ROut.rem {l : Bs} {k : Nat} {W : List Bs} {c : UInt8} (h : ROut l k W) (hk : l[k]? = some c) (hc : c.toNat = 35) (hg : ∀ c ∈ l, gd c) : splitN l = some W := by
  have h0 := h.here hk (by unfold bl; omega)
  have e : l = l.take (k + 1) ++ l.drop (k + 1) := (List.take_append_drop _ _).symm
  have h1 : upN l (k + 1) = ⟨4, [], W⟩ := by
    rw [up_succ l k c hk, h0]
    exact step_none 0 c 4 [] W (by rw [hc]; rfl) (.inr rfl)
  have h2 : l.foldl stepN St.zero = ⟨4, [], W⟩ := by
    rw [e, List.foldl_append, show (l.take (k + 1)).foldl stepN St.zero = upN l (k + 1) from rfl, h1]
    exact fold_rem _ (fun d hd => hg d (List.mem_of_mem_drop hd)) _ _
  unfold splitN
  rw [h2]; rfl
/-- Within a word that begins at byte f, at byte k; b: in quotes. -/
def RIn (l : Bs) (f k : Nat) (b : Bool) (W : List Bs) : Prop :=
  f ≤ k ∧ ((k ≤ l.length ∧ upN l k = ⟨if b then 2 else if k = f then 0 else 1, (l.take k).drop f, W⟩) ∨ (k = l.length + 1 ∧ b = true ∧ (upN l l.length).pl = 3))
theorem RIn.start {l : Bs} {k : Nat} {W : List Bs} {c : UInt8} (h : ROut l k W) (hk : l[k]? = some c) (hc : ¬ bl c) : RIn l k k false W := by
  refine ⟨Nat.le_refl _, .inl ⟨h.le, ?_⟩⟩
  rw [h.here hk hc, List.drop_eq_nil_of_le (by rw [List.length_take]; omega)]; simp
theorem take_snoc {l : Bs} {f k : Nat} {c : UInt8} (hf : f ≤ k) (hk : l[k]? = some c) : (l.take (k + 1)).drop f = (l.take k).drop f ++ [c] := by
  have hlt := (List.getElem?_eq_some_iff.1 hk).1
  rw [List.take_add_one, hk, List.drop_append_of_le_length (by rw [List.length_take]; omega)]; rfl
theorem RIn.inner {l : Bs} {f k : Nat} {b : Bool} {W : List Bs} (h : RIn l f k b W) (hk : k < l.length) : upN l k = ⟨if b then 2 else if k = f then 0 else 1, (l.take k).drop f, W⟩ := by
  rcases h.2 with h | h
  · exact h.2
  · omega
theorem step_in {p q : Nat} {w : Bs} {W : List Bs} {c : UInt8} (h : nextN p c.toNat = q) (hq : q = 1 ∨ q = 2 ∨ q = 3) : stepN ⟨p, w, W⟩ c = ⟨q, w ++ [c], W⟩ := by
  unfold stepN
  simp only [h]
  rw [if_pos hq]
theorem RIn.quote {l : Bs} {f k : Nat} {b : Bool} {W : List Bs} {c : UInt8} (h : RIn l f k b W) (hk : l[k]? = some c) (hc : c.toNat = 34) : RIn l f (k + 1) (!b) W := by
  have hlt := (List.getElem?_eq_some_iff.1 hk).1
  refine ⟨by have := h.1; omega, .inl ⟨by omega, ?_⟩⟩
  rw [up_succ l k c hk, h.inner hlt, take_snoc h.1 hk]
  have h1 := h.1
  cases b with
  | true => exact (step_in (p := 2) (q := 1) (by rw [hc]; rfl) (.inl rfl)).trans (by simp; omega)
  | false =>
    refine (step_in (q := 2) ?_ (.inr (.inl rfl))).trans (by simp)
    rw [hc]
    simp only [Bool.false_eq_true, if_false]
    split <;> rfl
theorem RIn.plain {l : Bs} {f k : Nat} {b : Bool} {W : List Bs} {c : UInt8} (h : RIn l f k b W) (hk : l[k]? = some c) (hg : gd c) (h34 : c.toNat ≠ 34) (h92 : b = true → c.toNat ≠ 92) (hbl : b = false → ¬ bl c) (h35 : k = f → c.toNat ≠ 35) : RIn l f (k + 1) b W := by
  have hlt := (List.getElem?_eq_some_iff.1 hk).1
  refine ⟨by have := h.1; omega, .inl ⟨by omega, ?_⟩⟩
  rw [up_succ l k c hk, h.inner hlt, take_snoc h.1 hk]
  have h1 := h.1
  unfold gd at hg
  cases b with
  | true =>
    have h2 := h92 rfl
    refine (step_in (p := 2) (q := 2) ?_ (.inr (.inl rfl))).trans (by simp)
    unfold nextN nextQ
    rw [if_neg (by omega), if_neg (by omega), if_pos rfl, if_neg h34, if_neg h2]
  | false =>
    have h2 := hbl rfl
    unfold bl at h2
    refine (step_in (q := 1) ?_ (.inl rfl)).trans (by simp; omega)
    simp only [Bool.false_eq_true, if_false]
    unfold nextN
    split
    · rename_i e
      have := h35 e
      repeat (first | rfl | rw [if_neg (by omega)])
    · repeat (first | rfl | rw [if_neg (by omega)])
theorem RIn.esc {l : Bs} {f k : Nat} {W : List Bs} {c : UInt8} (h : RIn l f k true W) (hk : l[k]? = some c) (hc : c.toNat = 92) (hg : ∀ c ∈ l, gd c) : RIn l f (k + 2) true W := by
  have hlt := (List.getElem?_eq_some_iff.1 hk).1
  have h3 : upN l (k + 1) = ⟨3, (l.take (k + 1)).drop f, W⟩ := by
    rw [up_succ l k c hk, h.inner hlt, take_snoc h.1 hk]
    exact step_in (p := 2) (q := 3) (by rw [hc]; rfl) (.inr (.inr rfl))
  refine ⟨by have := h.1; omega, ?_⟩
  by_cases hl : k + 1 < l.length
  · obtain ⟨d, hd⟩ : ∃ d, l[k + 1]? = some d := ⟨_, List.getElem?_eq_getElem hl⟩
    have hgd := hg d (List.mem_of_getElem? hd)
    unfold gd at hgd
    refine .inl ⟨by omega, ?_⟩
    rw [show k + 2 = (k + 1) + 1 from rfl, up_succ l (k + 1) d hd, h3, take_snoc (by have := h.1; omega) hd]
    refine (step_in (p := 3) (q := 2) ?_ (.inr (.inl rfl))).trans (by simp)
    unfold nextN
    rw [if_neg (by omega), if_neg (by omega), if_neg (by omega), if_pos rfl]
  · have e : l.length = k + 1 := by omega
    exact .inr ⟨by omega, rfl, by rw [e, h3]⟩
theorem RIn.fail {l : Bs} {f k : Nat} {b : Bool} {W : List Bs} (h : RIn l f k b W) (hk : l.length ≤ k) (hb : b = true ∨ l.length < k) : splitN l = none := by
  have h1 : (upN l l.length).pl = 2 ∨ (upN l l.length).pl = 3 := by
    rcases h.2 with h | h
    · have e : k = l.length := by omega
      subst e
      rcases hb with rfl | hb
      · rw [h.2]; exact .inl rfl
      · omega
    · exact .inr h.2.2
  rw [up_all] at h1
  unfold splitN
  rw [if_neg]
  rw [step_pl]
  rcases h1 with h1 | h1 <;> rw [h1] <;> decide
theorem RIn.word {l : Bs} {f k : Nat} {W : List Bs} (h : RIn l f k false W) (hk : k ≤ l.length) (hf : f < k) (he : k = l.length ∨ ∃ c, l[k]? = some c ∧ bl c) : ROut l k (W ++ [(l.take k).drop f]) := by
  have e : upN l k = ⟨1, (l.take k).drop f, W⟩ := by
    rcases h.2 with h | h
    · rw [h.2]; simp; omega
    · cases h.2.1
  exact ⟨hk, by rw [e]; exact step_end _ _, by rw [e]; exact Nat.le_refl _, .inr he⟩
end Go.Proofs.YtcljijcggnfemaaDoor
