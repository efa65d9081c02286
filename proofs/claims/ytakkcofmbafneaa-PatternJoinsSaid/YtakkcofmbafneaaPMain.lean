/- Patterns, plain: the ways through the steps of a pattern have just the pattern's texts. -/
import Derived.Test.YtakkcofmbafneaaPText
namespace Go.Proofs.Ytakkcofmbafneaa

/-- A way through one alternative ends by its last step. -/
theorem alt_ways {S : List Stp} {b A e E n : Nat} {s : Bx} (hcl : Cl S b A) (hag : S[A]? = some ⟨noSet, [E]⟩) (hbA : b ≤ A) (hAe : A < e) (hE : e ≤ E) (h : In S b e n b s E) : ∃ n1, In S b A n1 b s A := by
  obtain ⟨n1, n2, s1, s2, e1, e2, e3, e4⟩ := In.cut hcl h (Nat.le_refl _) hbA (by omega)
  have hs2 : s2 = [] := by
    cases e4 with
    | refl k => rfl
    | @eps n3 _ m _ _ st a1 a2 a3 a4 a5 =>
      rw [hag] at a3
      injection a3 with a3
      subst a3
      simp at a4
      subst a4
      exact (a5.stop hE).1
    | byte a1 a2 a3 a4 a5 =>
      rw [hag] at a3
      injection a3 with a3
      subst a3
      cases a4
  subst hs2
  rw [List.append_nil] at e1
  exact ⟨n1, by rw [e1]; exact e3⟩
theorem emb_mem {S f : List Stp} {b k : Nat} {st : Stp} (h : Emb S b f) (h1 : b ≤ k) (h2 : k < b + f.length) (h3 : S[k]? = some st) : st ∈ f := List.mem_of_getElem? (emb_at h h1 h2 h3)
mutual
theorem waysR (r : Re) (S : List Stp) (b : Nat) (ho : okR r) (h : Emb S b (stR r b)) (s : Bx) : (∃ n, In S b (b + lenR r) n b s (b + lenR r)) ↔ langR r s := by
  cases r with
  | set p =>
    rw [stR] at h
    have hb := h.head
    rw [langR, lenR]
    constructor
    · rintro ⟨n, hn⟩
      generalize hE : b + 1 = E at hn
      cases hn with
      | refl k => omega
      | @eps n' _ m _ _ st a1 a2 a3 a4 a5 =>
        rw [hb] at a3
        injection a3 with a3
        subst a3
        cases a4
      | @byte n' _ _ s' st c a1 a2 a3 a4 a5 =>
        rw [hb] at a3
        injection a3 with a3
        subst a3
        obtain ⟨rfl, _⟩ := a5.stop (by omega)
        exact ⟨c, rfl, a4⟩
    · rintro ⟨c, rfl, hc⟩
      exact ⟨1, .byte (Nat.le_refl _) (by omega) hb hc (.refl _)⟩
  | grp a =>
    rw [stR] at h
    have hb := h.head
    have ht := h.tail
    have hA := waysA a S (b + 1) (b + 1 + lenA a) (Nat.le_refl _) (by rw [okR] at ho; exact ho) ht s
    rw [langR, lenR, ← hA, show b + (1 + lenA a) = b + 1 + lenA a by omega]
    have hbE : b < b + 1 + lenA a := by omega
    constructor
    · rintro ⟨n, hn⟩
      generalize hE : b + 1 + lenA a = E at hn hbE ht ⊢
      cases hn with
      | refl k => omega
      | @eps n' _ m _ _ st a1 a2 a3 a4 a5 =>
        rw [hb] at a3
        injection a3 with a3
        subst a3
        have hm := starts_mem a4
        refine ⟨n', m, a4, In.right (fun k st h1 h2 h3 x hx => ?_) a5 hm.1⟩
        have := clA a (b + 1) E st (emb_mem ht h1 (by rw [stA_length]; omega) h3) x hx
        omega
      | @byte n' _ _ s' st c a1 a2 a3 a4 a5 =>
        rw [hb] at a3
        injection a3 with a3
        subst a3
        cases a4
    · rintro ⟨n, m, hm, w⟩
      exact ⟨n + 1, .eps (Nat.le_refl _) hbE hb hm (w.wider (by omega) (Nat.le_refl _))⟩
  | star r =>
    obtain ⟨x, f, hf⟩ := stR_cons r b
    have hlen := stR_length r b
    rw [okR] at ho
    have hc := cl1R r b ho.1
    have ih := fun (S : List Stp) (h : Emb S b (stR r b)) (s : Bx) => waysR r S b ho.2 h s
    rw [hf] at hlen hc ih
    rw [stR, hf] at h
    rw [langR, lenR]
    exact star_ways (by rw [hlen]) h hc (fun s => ih _ (addFree_emb h.left (some_lt (addFree_head h))) s) s
  | plus r =>
    rw [okR] at ho
    rw [stR] at h
    rw [langR, lenR]
    exact plus_ways (by rw [stR_length]) (by rw [stR_length]; exact lenR_pos r) h (clR r b) (fun s => waysR r S b ho.2 h.left s) s
  | opt r =>
    obtain ⟨x, f, hf⟩ := stR_cons r b
    have hlen := stR_length r b
    rw [okR] at ho
    have hc := cl1R r b ho.1
    have ih := fun (S : List Stp) (h : Emb S b (stR r b)) (s : Bx) => waysR r S b ho.2 h s
    rw [hf] at hlen hc ih
    rw [stR, hf] at h
    rw [langR, lenR]
    have h' : Emb S b (addFree (x :: f) (b + lenR r) ++ []) := by rw [List.append_nil]; exact h
    exact opt_ways (by rw [hlen]) h hc (fun s => ih _ (addFree_emb h (some_lt (addFree_head h'))) s) s
theorem waysA (a : Al) (S : List Stp) (b E : Nat) (hE : b + lenA a ≤ E) (ho : okA a) (h : Emb S b (stA a b E)) (s : Bx) : (∃ n, ∃ m ∈ startsA a b, In S b (b + lenA a) n m s E) ↔ langA a s := by
  cases a with
  | one q =>
    rw [stA] at h
    rw [okA] at ho
    rw [lenA] at hE ⊢
    rw [langA, startsA]
    have hq := waysS q S b ho h.left s
    have hag := h.right.head
    rw [stS_length] at hag
    have hcl : Cl S b (b + lenS q) := emb_cl h.left (by rw [stS_length]) (clS q b)
    rw [← hq]
    constructor
    · rintro ⟨n, m, hm, w⟩
      obtain rfl : m = b := by simpa using hm
      exact alt_ways hcl hag (by omega) (by omega) hE w
    · rintro ⟨n, w⟩
      exact ⟨n + 1, b, by simp, by have := (w.wider (Nat.le_refl b) (show b + lenS q ≤ b + (lenS q + 1) by omega)).trans (.eps (m := E) (by omega) (by omega) hag (by simp) (.refl _)); rwa [List.append_nil] at this⟩
  | more q a =>
    rw [stA] at h
    rw [okA] at ho
    rw [lenA] at hE ⊢
    rw [langA, startsA]
    have hq := waysS q S b ho.1 h.left s
    have hag := h.right.head
    have ht := h.right.tail
    rw [stS_length] at hag ht
    have ha := waysA a S (b + lenS q + 1) E (by omega) ho.2 ht s
    have hcl : Cl S b (b + lenS q) := emb_cl h.left (by rw [stS_length]) (clS q b)
    rw [← hq, ← ha]
    constructor
    · rintro ⟨n, m, hm, w⟩
      rcases List.mem_cons.1 hm with rfl | hm
      · exact .inl (alt_ways hcl hag (by omega) (by omega) hE w)
      · have hm1 := starts_mem hm
        rw [show b + (lenS q + 1 + lenA a) = b + lenS q + 1 + lenA a by omega] at w
        refine .inr ⟨n, m, hm, In.right (fun k st h1 h2 h3 x hx => ?_) w hm1.1⟩
        have := clA a (b + lenS q + 1) E st (emb_mem ht h1 (by rw [stA_length]; omega) h3) x hx
        omega
    · rintro (⟨n, w⟩ | ⟨n, m, hm, w⟩)
      · exact ⟨n + 1, b, by simp, by have := (w.wider (Nat.le_refl b) (show b + lenS q ≤ b + (lenS q + 1 + lenA a) by omega)).trans (.eps (m := E) (by omega) (by omega) hag (by simp) (.refl _)); rwa [List.append_nil] at this⟩
      · exact ⟨n, m, by simp [hm], w.wider (by omega) (by omega)⟩
theorem waysS (q : Sq) (S : List Stp) (b : Nat) (ho : okS q) (h : Emb S b (stS q b)) (s : Bx) : (∃ n, In S b (b + lenS q) n b s (b + lenS q)) ↔ langS q s := by
  cases q with
  | nil =>
    rw [lenS, langS]
    constructor
    · rintro ⟨n, w⟩
      exact (w.stop (by omega)).1
    · rintro rfl
      exact ⟨0, .refl _⟩
  | cons r q =>
    rw [stS] at h
    rw [okS] at ho
    have hr := waysR r S b ho.1 h.left
    have hem := h.right
    rw [stR_length] at hem
    have hq := waysS q S (b + lenR r) ho.2 hem
    have hcl : Cl S b (b + lenR r) := emb_cl h.left (by rw [stR_length]) (clR r b)
    rw [lenS, langS, show b + (lenR r + lenS q) = b + lenR r + lenS q by omega]
    constructor
    · rintro ⟨n, w⟩
      obtain ⟨n1, n2, s1, s2, e1, e2, e3, e4⟩ := In.cut hcl w (Nat.le_refl _) (by omega) (by omega)
      refine ⟨s1, s2, e1, (hr s1).1 ⟨n1, e3⟩, (hq s2).1 ⟨n2, In.right (fun k st h1 h2 h3 x hx => ?_) e4 (Nat.le_refl _)⟩⟩
      exact (clS q (b + lenR r) st (emb_mem hem h1 (by rw [stS_length]; omega) h3) x hx).1
    · rintro ⟨s1, s2, rfl, h1, h2⟩
      obtain ⟨n1, w1⟩ := (hr s1).2 h1
      obtain ⟨n2, w2⟩ := (hq s2).2 h2
      exact ⟨_, (w1.wider (Nat.le_refl _) (by omega)).trans (w2.wider (by omega) (Nat.le_refl _))⟩
end
end Go.Proofs.Ytakkcofmbafneaa
