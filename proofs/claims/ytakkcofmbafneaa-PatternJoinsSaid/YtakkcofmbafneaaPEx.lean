/- Patterns, plain: the document's example; a byte, any number of times. -/
import Derived.Test.YtakkcofmbafneaaPJoin
import Derived.Test.YtakkcofmbafneaaPLst
namespace Go.Proofs.Ytakkcofmbafneaa

def exP : Bx := [97, 124, 98, 91, 48, 45, 57, 93, 42]
def digB : UInt8 → Bool := fun x => noSet x || (decide (48 ≤ x) && decide (x ≤ 57))
def exA : Al := .more (.cons (.set fun b => b == 97) .nil) (.one (.cons (.set fun b => b == 98) (.cons (.star (.set digB)) .nil)))
theorem ex_read : readN exP = .ok exA [] := by kernel_rfl
theorem open_read : readN [40] = .er .form := by kernel_rfl
theorem set_lang (p : UInt8 → Bool) (s : Bx) : langR (.set p) s ↔ ∃ c, s = [c] ∧ p c = true := by rw [langR]
theorem star_set (p : UInt8 → Bool) (s : Bx) : Star (langR (.set p)) s ↔ ∀ c ∈ s, p c = true := by
  constructor
  · intro h
    induction h with
    | nil => intro c hc; cases hc
    | cons h1 _ ih =>
      rw [set_lang] at h1
      obtain ⟨c, rfl, hc⟩ := h1
      intro d hd
      rcases List.mem_cons.1 hd with rfl | hd
      · exact hc
      · exact ih d hd
  · intro h
    induction s with
    | nil => exact .nil
    | cons c s ih => exact .cons (s := [c]) ((set_lang p [c]).2 ⟨c, rfl, h c (by simp)⟩) (ih fun d hd => h d (by simp [hd]))
theorem one_lang (r : Re) (s : Bx) : langA (.one (.cons r .nil)) s ↔ langR r s := by
  rw [langA, langS]
  constructor
  · rintro ⟨s1, s2, rfl, h1, h2⟩
    rw [langS] at h2
    subst h2
    rw [List.append_nil]
    exact h1
  · intro h
    exact ⟨s, [], by simp, h, by rw [langS]⟩
theorem ex_lang (s : Bx) : langA exA s ↔ s = [97] ∨ ∃ t, s = 98 :: t ∧ ∀ c ∈ t, digB c = true := by
  have h1 : langS (.cons (.set fun b => b == 97) .nil) s ↔ s = [97] := by
    have h0 := one_lang (.set fun b => b == 97) s
    rw [langA] at h0
    rw [h0, set_lang]
    constructor
    · rintro ⟨c, rfl, hc⟩
      rw [show c = 97 by simpa using hc]
    · rintro rfl
      exact ⟨97, rfl, rfl⟩
  rw [exA, langA, h1, langA, langS]
  refine or_congr Iff.rfl ⟨?_, ?_⟩
  · rintro ⟨s1, s2, rfl, h2, h3⟩
    rw [set_lang] at h2
    obtain ⟨c, rfl, hc⟩ := h2
    have h4 := one_lang (.star (.set digB)) s2
    rw [langA] at h4
    rw [h4, langR, star_set] at h3
    rw [show c = 98 by simpa using hc]
    exact ⟨s2, rfl, h3⟩
  · rintro ⟨t, rfl, h⟩
    have h4 := one_lang (.star (.set digB)) t
    rw [langA] at h4
    exact ⟨[98], t, rfl, (set_lang _ _).2 ⟨98, rfl, rfl⟩, h4.2 (by rw [langR, star_set]; exact h)⟩
theorem ex_a : langA exA [97] := (ex_lang _).2 (.inl rfl)
theorem ex_b : langA exA [98] := (ex_lang _).2 (.inr ⟨[], rfl, fun c h => by cases h⟩)
theorem ex_b7 : langA exA [98, 55] := (ex_lang _).2 (.inr ⟨[55], rfl, fun c h => by rw [List.mem_singleton.1 h]; rfl⟩)
theorem ex_ab : ¬ langA exA [97, 98] := fun h => by
  rcases (ex_lang _).1 h with h | ⟨t, h, _⟩
  · cases h
  · injection h with h _
    exact absurd h (by decide)
theorem ex_least {o : Option Bx} (h : IsLst (langA exA) o) : o = some [97] := by
  cases o with
  | none => exact absurd ex_a (h _)
  | some t =>
    have h1 := le_iff.1 (h.2 _ ex_a)
    rcases (ex_lang _).1 h.1 with rfl | ⟨u, rfl, _⟩
    · rfl
    · rcases h1 with h1 | ⟨h1, h2⟩
      · simp at h1
      · obtain rfl : u = [] := List.length_eq_zero_iff.1 (by simpa using h1)
        rcases h2 with h2 | h2
        · exact absurd h2 (by decide)
        · exact absurd h2 (by decide)
/-- One byte, with *, + and ? behind it. -/
def byteR (c : UInt8) : Re := .set fun b => b == c
theorem byte_part (c : UInt8) (r : Bx) (n d : Nat) : partN (n + 1 + 1) d (quoteN [c] ++ r) = .ok (often (byteR c) r).1 (often (byteR c) r).2 := by
  rw [partN, quoteN, List.flatMap_cons, List.flatMap_nil, List.append_nil, quote_atom]
  rfl
theorem byte_read (c : UInt8) {t : Bx} {x : Re} (h : often (byteR c) t = (x, [])) : readN (quoteN [c] ++ t) = .ok (.one (.cons x .nil)) [] := by
  unfold readN
  generalize hN : 4 * (quoteN [c] ++ t).length + 4 = N
  have hl : 0 < (quoteN [c]).length := by rw [quoteN, List.flatMap_cons]; split <;> simp
  rw [List.length_append] at hN
  obtain ⟨n, rfl⟩ : ∃ k, N = k + 1 + 1 + 1 + 1 := ⟨N - 4, by omega⟩
  have hp := byte_part c t n 0
  rw [h] at hp
  have hne : ∃ x y, quoteN [c] ++ t = x :: y ∧ ¬ (x = 124 ∨ x = 41) := by
    rw [quoteN, List.flatMap_cons]
    by_cases hc : spcB c = true
    · rw [if_pos hc]
      exact ⟨92, _, rfl, by decide⟩
    · rw [if_neg hc]
      exact ⟨c, _, rfl, fun h => hc (h.elim (fun e => by subst e; rfl) (fun e => by subst e; rfl))⟩
  obtain ⟨y, z, e, hy⟩ := hne
  rw [e] at hp ⊢
  rw [altN, seq_last hy hp (.inl rfl)]
theorem byte_star (c : UInt8) (s : Bx) : langA (.one (.cons (.star (byteR c)) .nil)) s ↔ ∀ d ∈ s, d = c := by
  rw [one_lang, langR, byteR, star_set]
  simp
theorem byte_plus (c : UInt8) (s : Bx) : langA (.one (.cons (.plus (byteR c)) .nil)) s ↔ s ≠ [] ∧ ∀ d ∈ s, d = c := by
  rw [one_lang, langR, byteR]
  constructor
  · rintro ⟨s1, s2, rfl, h1, h2⟩
    rw [set_lang] at h1
    obtain ⟨d, rfl, hd⟩ := h1
    rw [star_set] at h2
    refine ⟨by simp, fun x hx => ?_⟩
    rcases List.mem_cons.1 hx with rfl | hx
    · simpa using hd
    · simpa using h2 x hx
  · rintro ⟨h1, h2⟩
    cases s with
    | nil => exact absurd rfl h1
    | cons x s => exact ⟨[x], s, rfl, (set_lang _ _).2 ⟨x, rfl, by simpa using h2 x (by simp)⟩, (star_set _ _).2 fun d hd => by simpa using h2 d (by simp [hd])⟩
theorem byte_opt (c : UInt8) (s : Bx) : langA (.one (.cons (.opt (byteR c)) .nil)) s ↔ s = [] ∨ s = [c] := by
  rw [one_lang, langR, byteR, set_lang]
  refine or_congr Iff.rfl ⟨?_, ?_⟩
  · rintro ⟨d, rfl, hd⟩
    rw [show d = c by simpa using hd]
  · rintro rfl
    exact ⟨c, rfl, by simp⟩
end Go.Proofs.Ytakkcofmbafneaa
