/- Patterns, plain: the ways that never lead back, and their texts. -/
import Derived.Test.YtakkcofmbafneaaPRun
namespace Go.Proofs.Ytakkcofmbafneaa

mutual
/-- The texts of the ways that never lead back. -/
def fwR : Re → Bx → Prop
  | .set p, s => ∃ c, s = [c] ∧ p c = true
  | .grp a, s => fwA a s
  | .star _, s => s = []
  | .plus r, s => fwR r s
  | .opt r, s => s = [] ∨ fwR r s
def fwA : Al → Bx → Prop
  | .one q, s => fwS q s
  | .more q a, s => fwS q s ∨ fwA a s
def fwS : Sq → Bx → Prop
  | .nil, s => s = []
  | .cons r q, s => ∃ s1 s2, s = s1 ++ s2 ∧ fwR r s1 ∧ fwS q s2
end
/-- Of step k on: only what leads on. -/
def fwd : Nat → List Stp → List Stp
  | _, [] => []
  | k, s :: l => ⟨s.set, s.free.filter (fun m => decide (k < m))⟩ :: fwd (k + 1) l
mutual
def sfR : Re → Nat → List Stp
  | .set p, _ => [⟨p, []⟩]
  | .grp a, b => ⟨noSet, startsA a (b + 1)⟩ :: sfA a (b + 1) (b + 1 + lenA a)
  | .star r, b => addFree (sfR r b) (b + lenR r + 1) ++ [⟨noSet, []⟩]
  | .plus r, b => sfR r b ++ [⟨noSet, [b + lenR r + 1]⟩]
  | .opt r, b => addFree (sfR r b) (b + lenR r)
def sfA : Al → Nat → Nat → List Stp
  | .one q, b, E => sfS q b ++ [⟨noSet, [E]⟩]
  | .more q a, b, E => sfS q b ++ ⟨noSet, [E]⟩ :: sfA a (b + lenS q + 1) E
def sfS : Sq → Nat → List Stp
  | .nil, _ => []
  | .cons r q, b => sfR r b ++ sfS q (b + lenR r)
end
theorem fwd_length (k : Nat) (l : List Stp) : (fwd k l).length = l.length := by
  induction l generalizing k with
  | nil => rfl
  | cons s l ih => simp [fwd, ih]
theorem fwd_append (k : Nat) (l m : List Stp) : fwd k (l ++ m) = fwd k l ++ fwd (k + l.length) m := by
  induction l generalizing k with
  | nil => simp [fwd]
  | cons s l ih => simp only [List.cons_append, fwd, ih, List.length_cons]; rw [show k + 1 + l.length = k + (l.length + 1) by omega]
theorem fwd_addFree {k E : Nat} (l : List Stp) (h : k < E) : fwd k (addFree l E) = addFree (fwd k l) E := by
  cases l with
  | nil => rfl
  | cons s l => simp [addFree, fwd, List.filter_append, h]
theorem filter_all {l : List Nat} {k : Nat} (h : ∀ m ∈ l, k < m) : l.filter (fun m => decide (k < m)) = l := List.filter_eq_self.2 (fun m hm => by simp [h m hm])
theorem fwd_one {k : Nat} (p : UInt8 → Bool) {l : List Nat} (h : ∀ m ∈ l, k < m) : fwd k [⟨p, l⟩] = [⟨p, l⟩] := by simp only [fwd, filter_all h]
mutual
theorem fwd_stR (r : Re) (b : Nat) : fwd b (stR r b) = sfR r b := by
  cases r with
  | set p => rfl
  | grp a =>
    rw [stR, sfR, fwd, fwd_stA a (b + 1) (b + 1 + lenA a) (Nat.le_refl _), filter_all fun m hm => ?_]
    have := starts_mem hm
    omega
  | star r =>
    have := lenR_pos r
    rw [stR, sfR, fwd_append, fwd_addFree _ (by omega), fwd_stR r, addFree_length, stR_length]
    simp [fwd]
  | plus r =>
    have := lenR_pos r
    rw [stR, sfR, fwd_append, fwd_stR r, stR_length]
    simp [fwd]
  | opt r =>
    have := lenR_pos r
    rw [stR, sfR, fwd_addFree _ (by omega), fwd_stR r]
theorem fwd_stA (a : Al) (b E : Nat) (hE : b + lenA a ≤ E) : fwd b (stA a b E) = sfA a b E := by
  cases a with
  | one q =>
    rw [lenA] at hE
    rw [stA, sfA, fwd_append, fwd_stS q, stS_length, fwd_one _ fun m hm => ?_]
    rw [List.mem_singleton.1 hm]
    omega
  | more q a =>
    rw [lenA] at hE
    rw [stA, sfA, fwd_append, fwd_stS q, stS_length, fwd, fwd_stA a _ E (by omega), filter_all fun m hm => ?_]
    rw [List.mem_singleton.1 hm]
    omega
theorem fwd_stS (q : Sq) (b : Nat) : fwd b (stS q b) = sfS q b := by
  cases q with
  | nil => rfl
  | cons r q => rw [stS, sfS, fwd_append, fwd_stR r, stR_length, fwd_stS q]
end
theorem sfR_length (r : Re) (b : Nat) : (sfR r b).length = lenR r := by rw [← fwd_stR, fwd_length, stR_length]
theorem sfS_length (q : Sq) (b : Nat) : (sfS q b).length = lenS q := by rw [← fwd_stS, fwd_length, stS_length]
theorem fwd_mem {k : Nat} {l : List Stp} {st : Stp} (h : st ∈ fwd k l) : ∃ st0 ∈ l, ∀ m ∈ st.free, m ∈ st0.free := by
  induction l generalizing k with
  | nil => cases h
  | cons s l ih =>
    rw [fwd] at h
    rcases List.mem_cons.1 h with rfl | h
    · exact ⟨s, by simp, fun m hm => (List.mem_filter.1 hm).1⟩
    · obtain ⟨st0, h0, h1⟩ := ih h
      exact ⟨st0, by simp [h0], h1⟩
theorem clFR (r : Re) (b : Nat) : ∀ st ∈ sfR r b, ∀ m ∈ st.free, b ≤ m ∧ m ≤ b + lenR r := by
  intro st h m hm
  rw [← fwd_stR] at h
  obtain ⟨st0, h0, h1⟩ := fwd_mem h
  exact clR r b st0 h0 m (h1 m hm)
theorem clFS (q : Sq) (b : Nat) : ∀ st ∈ sfS q b, ∀ m ∈ st.free, b ≤ m ∧ m ≤ b + lenS q := by
  intro st h m hm
  rw [← fwd_stS] at h
  obtain ⟨st0, h0, h1⟩ := fwd_mem h
  exact clS q b st0 h0 m (h1 m hm)
theorem clFA (a : Al) (b E : Nat) (hE : b + lenA a ≤ E) : ∀ st ∈ sfA a b E, ∀ m ∈ st.free, (b ≤ m ∧ m ≤ b + lenA a) ∨ m = E := by
  intro st h m hm
  rw [← fwd_stA a b E hE] at h
  obtain ⟨st0, h0, h1⟩ := fwd_mem h
  exact clA a b E st0 h0 m (h1 m hm)
theorem cl1FR (r : Re) (b : Nat) (ha : atomR r) : ∀ st ∈ sfR r b, ∀ m ∈ st.free, b < m ∧ m ≤ b + lenR r := by
  intro st h m hm
  rw [← fwd_stR] at h
  obtain ⟨st0, h0, h1⟩ := fwd_mem h
  exact cl1R r b ha st0 h0 m (h1 m hm)
theorem sfR_cons (r : Re) (b : Nat) : ∃ x f, sfR r b = x :: f := by
  obtain ⟨x, f, h⟩ := stR_cons r b
  exact ⟨_, _, by rw [← fwd_stR, h, fwd]⟩
/-- Any number of times, without a way back: not at all. -/
theorem star_fw {S f : List Stp} {b A : Nat} {x : Stp} (hA : A = b + (x :: f).length) (h : Emb S b (addFree (x :: f) (A + 1) ++ [⟨noSet, []⟩]))
    (hc : ∀ st ∈ x :: f, ∀ m ∈ st.free, b < m ∧ m ≤ A) (s : Bx) : (∃ n, In S b (A + 1) n b s (A + 1)) ↔ s = [] := by
  have hb := addFree_head h
  have hag : S[A]? = some ⟨noSet, []⟩ := by
    have := h.right.head
    rwa [addFree_length, ← hA] at this
  have hbA : b < A := by rw [hA]; simp
  have hc2 : ∀ (k : Nat) (st : Stp), b < k → k < A → S[k]? = some st → ∀ m ∈ st.free, b < m ∧ m ≤ A := fun k st h1 h2 h3 m hm => hc st (addFree_rest h h1 (by omega) h3) m hm
  have back : ∀ (k n' : Nat) (s' : Bx), b < k → k ≤ A → In S b (A + 1) n' k s' (A + 1) → False := fun k n' s' h1 h2 h4 => by
    obtain ⟨n1, n2, s1, s2, e1, e2, e3, e4⟩ := In.inner (x := x) (by omega) hc2 h4 h1 h2 (by omega)
    cases e4 with
    | eps a1 a2 a3 a4 a5 =>
      rw [hag] at a3
      injection a3 with a3
      subst a3
      cases a4
    | byte a1 a2 a3 a4 a5 =>
      rw [hag] at a3
      injection a3 with a3
      subst a3
      cases a4
  constructor
  · rintro ⟨n, hn⟩
    cases hn with
    | refl k => omega
    | @eps n' _ m _ _ st a1 a2 a3 a4 a5 =>
      rw [hb] at a3
      injection a3 with a3
      subst a3
      rcases List.mem_append.1 a4 with a4 | a4
      · obtain ⟨m1, m2⟩ := hc x (by simp) m a4
        exact (back m n' s m1 m2 a5).elim
      · simp at a4
        subst a4
        exact (a5.stop (Nat.le_refl _)).1
    | @byte n' _ _ s' st c a1 a2 a3 a4 a5 => exact (back (b + 1) n' s' (by omega) (by omega) a5).elim
  · rintro rfl
    exact ⟨1, .eps (Nat.le_refl _) (by omega) hb (by simp) (.refl _)⟩
/-- Once and more, without a way back: once. -/
theorem plus_fw {S f : List Stp} {b A : Nat} {L : Bx → Prop} (hA : A = b + f.length) (h : Emb S b (f ++ [⟨noSet, [A + 1]⟩]))
    (hc : ∀ st ∈ f, ∀ m ∈ st.free, b ≤ m ∧ m ≤ A) (hL : ∀ s, (∃ n, In S b A n b s A) ↔ L s) (s : Bx) : (∃ n, In S b (A + 1) n b s (A + 1)) ↔ L s := by
  have hag : S[A]? = some ⟨noSet, [A + 1]⟩ := by
    have := h.right.head
    rwa [← hA] at this
  rw [← hL]
  constructor
  · rintro ⟨n, hn⟩
    exact alt_ways (emb_cl h.left hA hc) hag (by omega) (by omega) (Nat.le_refl _) hn
  · rintro ⟨n, hn⟩
    have := (hn.wider (Nat.le_refl b) (show A ≤ A + 1 by omega)).trans (.eps (m := A + 1) (by omega) (by omega) hag (by simp) (.refl _))
    rw [List.append_nil] at this
    exact ⟨_, this⟩
theorem sfA_length (a : Al) (b E : Nat) (hE : b + lenA a ≤ E) : (sfA a b E).length = lenA a := by rw [← fwd_stA a b E hE, fwd_length, stA_length]
mutual
theorem fwaysR (r : Re) (S : List Stp) (b : Nat) (ho : okR r) (h : Emb S b (sfR r b)) (s : Bx) : (∃ n, In S b (b + lenR r) n b s (b + lenR r)) ↔ fwR r s := by
  cases r with
  | set p =>
    rw [sfR] at h
    have hb := h.head
    rw [fwR, lenR]
    constructor
    · rintro ⟨n, hn⟩
      generalize hE : b + 1 = E at hn
      cases hn with
      | refl k => omega
      | @eps n' _ m _ _ st a1 a2 a3 a4 a5 =>
        rw [hb] at a3
        injection a3 with a3
        subst a3
        cases a4
      | @byte n' _ _ s' st c a1 a2 a3 a4 a5 =>
        rw [hb] at a3
        injection a3 with a3
        subst a3
        obtain ⟨rfl, _⟩ := a5.stop (by omega)
        exact ⟨c, rfl, a4⟩
    · rintro ⟨c, rfl, hc⟩
      exact ⟨1, .byte (Nat.le_refl _) (by omega) hb hc (.refl _)⟩
  | grp a =>
    rw [sfR] at h
    have hb := h.head
    have ht := h.tail
    have hA := fwaysA a S (b + 1) (b + 1 + lenA a) (Nat.le_refl _) (by rw [okR] at ho; exact ho) ht s
    rw [fwR, lenR, ← hA, show b + (1 + lenA a) = b + 1 + lenA a by omega]
    have hbE : b < b + 1 + lenA a := by omega
    constructor
    · rintro ⟨n, hn⟩
      generalize hE : b + 1 + lenA a = E at hn hbE ht ⊢
      cases hn with
      | refl k => omega
      | @eps n' _ m _ _ st a1 a2 a3 a4 a5 =>
        rw [hb] at a3
        injection a3 with a3
        subst a3
        have hm := starts_mem a4
        refine ⟨n', m, a4, In.right (fun k st h1 h2 h3 x hx => ?_) a5 hm.1⟩
        have := clFA a (b + 1) E (by omega) st (emb_mem ht h1 (by rw [sfA_length _ _ _ (by omega)]; omega) h3) x hx
        omega
      | @byte n' _ _ s' st c a1 a2 a3 a4 a5 =>
        rw [hb] at a3
        injection a3 with a3
        subst a3
        cases a4
    · rintro ⟨n, m, hm, w⟩
      exact ⟨n + 1, .eps (Nat.le_refl _) hbE hb hm (w.wider (by omega) (Nat.le_refl _))⟩
  | star r =>
    obtain ⟨x, f, hf⟩ := sfR_cons r b
    have hlen := sfR_length r b
    rw [okR] at ho
    have hc := cl1FR r b ho.1
    rw [hf] at hlen hc
    rw [sfR, hf] at h
    rw [fwR, lenR]
    exact star_fw (by rw [hlen]) h hc s
  | plus r =>
    rw [okR] at ho
    rw [sfR] at h
    rw [fwR, lenR]
    exact plus_fw (by rw [sfR_length]) h (clFR r b) (fun s => fwaysR r S b ho.2 h.left s) s
  | opt r =>
    obtain ⟨x, f, hf⟩ := sfR_cons r b
    have hlen := sfR_length r b
    rw [okR] at ho
    have hc := cl1FR r b ho.1
    have ih := fun (S : List Stp) (h : Emb S b (sfR r b)) (s : Bx) => fwaysR r S b ho.2 h s
    rw [hf] at hlen hc ih
    rw [sfR, hf] at h
    rw [fwR, lenR]
    have h' : Emb S b (addFree (x :: f) (b + lenR r) ++ []) := by rw [List.append_nil]; exact h
    exact opt_ways (by rw [hlen]) h hc (fun s => ih _ (addFree_emb h (some_lt (addFree_head h'))) s) s
theorem fwaysA (a : Al) (S : List Stp) (b E : Nat) (hE : b + lenA a ≤ E) (ho : okA a) (h : Emb S b (sfA a b E)) (s : Bx) : (∃ n, ∃ m ∈ startsA a b, In S b (b + lenA a) n m s E) ↔ fwA a s := by
  cases a with
  | one q =>
    rw [sfA] at h
    rw [okA] at ho
    rw [lenA] at hE ⊢
    rw [fwA, startsA]
    have hq := fwaysS q S b ho h.left s
    have hag := h.right.head
    rw [sfS_length] at hag
    have hcl : Cl S b (b + lenS q) := emb_cl h.left (by rw [sfS_length]) (clFS q b)
    rw [← hq]
    constructor
    · rintro ⟨n, m, hm, w⟩
      obtain rfl : m = b := by simpa using hm
      exact alt_ways hcl hag (by omega) (by omega) hE w
    · rintro ⟨n, w⟩
      exact ⟨n + 1, b, by simp, by have := (w.wider (Nat.le_refl b) (show b + lenS q ≤ b + (lenS q + 1) by omega)).trans (.eps (m := E) (by omega) (by omega) hag (by simp) (.refl _)); rwa [List.append_nil] at this⟩
  | more q a =>
    rw [sfA] at h
    rw [okA] at ho
    rw [lenA] at hE ⊢
    rw [fwA, startsA]
    have hq := fwaysS q S b ho.1 h.left s
    have hag := h.right.head
    have ht := h.right.tail
    rw [sfS_length] at hag ht
    have ha := fwaysA a S (b + lenS q + 1) E (by omega) ho.2 ht s
    have hcl : Cl S b (b + lenS q) := emb_cl h.left (by rw [sfS_length]) (clFS q b)
    rw [← hq, ← ha]
    constructor
    · rintro ⟨n, m, hm, w⟩
      rcases List.mem_cons.1 hm with rfl | hm
      · exact .inl (alt_ways hcl hag (by omega) (by omega) hE w)
      · have hm1 := starts_mem hm
        rw [show b + (lenS q + 1 + lenA a) = b + lenS q + 1 + lenA a by omega] at w
        refine .inr ⟨n, m, hm, In.right (fun k st h1 h2 h3 x hx => ?_) w hm1.1⟩
        have := clFA a (b + lenS q + 1) E (by omega) st (emb_mem ht h1 (by rw [sfA_length _ _ _ (by omega)]; omega) h3) x hx
        omega
    · rintro (⟨n, w⟩ | ⟨n, m, hm, w⟩)
      · exact ⟨n + 1, b, by simp, by have := (w.wider (Nat.le_refl b) (show b + lenS q ≤ b + (lenS q + 1 + lenA a) by omega)).trans (.eps (m := E) (by omega) (by omega) hag (by simp) (.refl _)); rwa [List.append_nil] at this⟩
      · exact ⟨n, m, by simp [hm], w.wider (by omega) (by omega)⟩
theorem fwaysS (q : Sq) (S : List Stp) (b : Nat) (ho : okS q) (h : Emb S b (sfS q b)) (s : Bx) : (∃ n, In S b (b + lenS q) n b s (b + lenS q)) ↔ fwS q s := by
  cases q with
  | nil =>
    rw [lenS, fwS]
    constructor
    · rintro ⟨n, w⟩
      exact (w.stop (by omega)).1
    · rintro rfl
      exact ⟨0, .refl _⟩
  | cons r q =>
    rw [sfS] at h
    rw [okS] at ho
    have hr := fwaysR r S b ho.1 h.left
    have hem := h.right
    rw [sfR_length] at hem
    have hq := fwaysS q S (b + lenR r) ho.2 hem
    have hcl : Cl S b (b + lenR r) := emb_cl h.left (by rw [sfR_length]) (clFR r b)
    rw [lenS, fwS, show b + (lenR r + lenS q) = b + lenR r + lenS q by omega]
    constructor
    · rintro ⟨n, w⟩
      obtain ⟨n1, n2, s1, s2, e1, e2, e3, e4⟩ := In.cut hcl w (Nat.le_refl _) (by omega) (by omega)
      refine ⟨s1, s2, e1, (hr s1).1 ⟨n1, e3⟩, (hq s2).1 ⟨n2, In.right (fun k st h1 h2 h3 x hx => ?_) e4 (Nat.le_refl _)⟩⟩
      exact (clFS q (b + lenR r) st (emb_mem hem h1 (by rw [sfS_length]; omega) h3) x hx).1
    · rintro ⟨s1, s2, rfl, h1, h2⟩
      obtain ⟨n1, w1⟩ := (hr s1).2 h1
      obtain ⟨n2, w2⟩ := (hq s2).2 h2
      exact ⟨_, (w1.wider (Nat.le_refl _) (by omega)).trans (w2.wider (by omega) (Nat.le_refl _))⟩
end
end Go.Proofs.Ytakkcofmbafneaa
