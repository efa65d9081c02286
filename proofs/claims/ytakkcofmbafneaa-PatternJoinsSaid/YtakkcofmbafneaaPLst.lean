/- Patterns, plain: which text comes first; the least text of a pattern. -/
import Derived.Test.YtakkcofmbafneaaPFwd
import GoSem.Op.String
namespace Go.Proofs.Ytakkcofmbafneaa

/-- Shorter, or as long and less. -/
def cf (a b : Bx) : Bool := decide (a.length < b.length) || (decide (a.length = b.length) && Op.bytesLess a b)
theorem bl_self (a : Bx) : Op.bytesLess a a = false := by
  induction a with
  | nil => rfl
  | cons x a ih => simp [Op.bytesLess, ih]
theorem bl_tot (a b : Bx) (h1 : Op.bytesLess a b = false) (h2 : Op.bytesLess b a = false) : a = b := by
  induction a generalizing b with
  | nil => cases b with
    | nil => rfl
    | cons y b => simp [Op.bytesLess] at h1
  | cons x a ih => cases b with
    | nil => simp [Op.bytesLess] at h2
    | cons y b =>
      simp [Op.bytesLess] at h1 h2
      have e : x = y := UInt8.le_antisymm h2.1 h1.1
      subst e
      rw [ih b (h1.2 rfl) (h2.2 rfl)]
theorem bl_trans {a b c : Bx} (h1 : Op.bytesLess a b = true) (h2 : Op.bytesLess b c = true) : Op.bytesLess a c = true := by
  induction a generalizing b c with
  | nil => cases b with
    | nil => exact h2
    | cons y b => cases c with
      | nil => simp [Op.bytesLess] at h2
      | cons z c => rfl
  | cons x a ih => cases b with
    | nil => simp [Op.bytesLess] at h1
    | cons y b => cases c with
      | nil => simp [Op.bytesLess] at h2
      | cons z c =>
        simp [Op.bytesLess] at h1 h2 ⊢
        rcases h1 with h1 | ⟨e1, h1⟩ <;> rcases h2 with h2 | ⟨e2, h2⟩
        · exact .inl (UInt8.lt_trans h1 h2)
        · exact .inl (e2 ▸ h1)
        · exact .inl (e1 ▸ h2)
        · exact .inr ⟨e1.trans e2, ih h1 h2⟩
/-- Of two of one length, each with a tail. -/
theorem bl_app {a b : Bx} (h : a.length = b.length) (s t : Bx) : Op.bytesLess (a ++ s) (b ++ t) = (Op.bytesLess a b || (decide (a = b) && Op.bytesLess s t)) := by
  induction a generalizing b with
  | nil =>
    obtain rfl : b = [] := List.length_eq_zero_iff.1 h.symm
    simp [Op.bytesLess]
  | cons x a ih => cases b with
    | nil => cases h
    | cons y b =>
      have h' : a.length = b.length := by simpa using h
      simp only [List.cons_append, Op.bytesLess, ih h']
      by_cases e : x = y
      · subst e
        simp
      · have e' : (x == y) = false := by simpa using e
        simp [e, e']
/-- Not behind. -/
def le (a b : Bx) : Prop := cf b a = false
theorem le_iff {a b : Bx} : le a b ↔ a.length < b.length ∨ (a.length = b.length ∧ (a = b ∨ Op.bytesLess a b = true)) := by
  unfold le cf
  constructor
  · intro h
    simp at h
    rcases Nat.lt_or_eq_of_le h.1 with h1 | h1
    · exact .inl h1
    · refine .inr ⟨h1, ?_⟩
      have h2 := h.2 h1.symm
      cases h3 : Op.bytesLess a b with
      | true => exact .inr rfl
      | false => exact .inl (bl_tot a b h3 h2)
  · intro h
    simp
    rcases h with h | ⟨h, h2⟩
    · exact ⟨by omega, fun e => by omega⟩
    · refine ⟨by omega, fun _ => ?_⟩
      rcases h2 with rfl | h2
      · exact bl_self a
      · cases h3 : Op.bytesLess b a with
        | false => rfl
        | true => have := bl_trans h2 h3; rw [bl_self] at this; cases this
theorem le_refl (a : Bx) : le a a := le_iff.2 (.inr ⟨rfl, .inl rfl⟩)
theorem le_trans {a b c : Bx} (h1 : le a b) (h2 : le b c) : le a c := by
  rw [le_iff] at *
  rcases h1 with h1 | ⟨h1, h1'⟩ <;> rcases h2 with h2 | ⟨h2, h2'⟩
  · exact .inl (by omega)
  · exact .inl (by omega)
  · exact .inl (by omega)
  · refine .inr ⟨by omega, ?_⟩
    rcases h1' with rfl | h1' <;> rcases h2' with rfl | h2'
    · exact .inl rfl
    · exact .inr h2'
    · exact .inr h1'
    · exact .inr (bl_trans h1' h2')
theorem le_total (a b : Bx) : le a b ∨ le b a := by
  by_cases h : a.length = b.length
  · cases h3 : Op.bytesLess a b with
    | true => exact .inl (le_iff.2 (.inr ⟨h, .inr h3⟩))
    | false => exact .inr (by unfold le cf; simp [h, h3])
  · rcases Nat.lt_or_gt_of_ne h with h | h
    · exact .inl (le_iff.2 (.inl h))
    · exact .inr (le_iff.2 (.inl h))
theorem le_app {a a' b b' : Bx} (h1 : le a a') (h2 : le b b') : le (a ++ b) (a' ++ b') := by
  rw [le_iff] at *
  rw [List.length_append, List.length_append]
  rcases h1 with h1 | ⟨h1, h1'⟩ <;> rcases h2 with h2 | ⟨h2, h2'⟩
  · exact .inl (by omega)
  · exact .inl (by omega)
  · exact .inl (by omega)
  · refine .inr ⟨by omega, ?_⟩
    rw [bl_app h1]
    rcases h1' with rfl | h1'
    · rcases h2' with rfl | h2'
      · exact .inl rfl
      · exact .inr (by simp [h2'])
    · exact .inr (by simp [h1'])
theorem le_head {a : Bx} (b : Bx) : le a (a ++ b) := by
  cases b with
  | nil => rw [List.append_nil]; exact le_refl a
  | cons x b => exact le_iff.2 (.inl (by simp))
theorem nil_le (a : Bx) : le [] a := le_head a
/-- The first text of some; none: there is none. -/
def IsLst (L : Bx → Prop) : Option Bx → Prop
  | none => ∀ s, ¬ L s
  | some t => L t ∧ ∀ s, L s → le t s
/-- The one of two that comes first; the first one of two that are the same. -/
def lesr : Option Bx → Option Bx → Option Bx
  | none, b => b
  | some x, none => some x
  | some x, some y => if cf y x then some y else some x
theorem lesr_lst {L M : Bx → Prop} {a b : Option Bx} (ha : IsLst L a) (hb : IsLst M b) : IsLst (fun s => L s ∨ M s) (lesr a b) := by
  cases a with
  | none => cases b with
    | none => exact fun s h => h.elim (ha s) (hb s)
    | some y => exact ⟨.inr hb.1, fun s h => h.elim (fun h => absurd h (ha s)) (hb.2 s)⟩
  | some x => cases b with
    | none => exact ⟨.inl ha.1, fun s h => h.elim (ha.2 s) (fun h => absurd h (hb s))⟩
    | some y =>
      rw [lesr]
      cases hc : cf y x with
      | true =>
        have hyx : le y x := (le_total y x).elim id (fun h => by unfold le at h; rw [hc] at h; cases h)
        exact ⟨.inr hb.1, fun s h => h.elim (fun h => le_trans hyx (ha.2 s h)) (hb.2 s)⟩
      | false => exact ⟨.inl ha.1, fun s h => h.elim (ha.2 s) (fun h => le_trans hc (hb.2 s h))⟩
theorem IsLst.iff {L M : Bx → Prop} {a : Option Bx} (h : IsLst L a) (hi : ∀ s, L s ↔ M s) : IsLst M a := by
  cases a with
  | none => exact fun s hs => h s ((hi s).2 hs)
  | some t => exact ⟨(hi t).1 h.1, fun s hs => h.2 s ((hi s).2 hs)⟩
/-- Fewer texts, but for each of the others one ahead of it. -/
theorem IsLst.up {L M : Bx → Prop} {a : Option Bx} (h : IsLst L a) (h1 : ∀ s, L s → M s) (h2 : ∀ s, M s → ∃ t, L t ∧ le t s) : IsLst M a := by
  cases a with
  | none => exact fun s hs => let ⟨t, ht, _⟩ := h2 s hs; h t ht
  | some t => exact ⟨h1 t h.1, fun s hs => let ⟨u, hu, hl⟩ := h2 s hs; le_trans (h.2 u hu) hl⟩
mutual
theorem fw_sub (r : Re) (s : Bx) (h : fwR r s) : langR r s := by
  cases r with
  | set p => rw [fwR] at h; rw [langR]; exact h
  | grp a => rw [fwR] at h; rw [langR]; exact fwA_sub a s h
  | star r => rw [fwR] at h; rw [langR, h]; exact .nil
  | plus r => rw [fwR] at h; rw [langR]; exact ⟨s, [], by simp, fw_sub r s h, .nil⟩
  | opt r => rw [fwR] at h; rw [langR]; exact h.elim .inl (fun h => .inr (fw_sub r s h))
theorem fwA_sub (a : Al) (s : Bx) (h : fwA a s) : langA a s := by
  cases a with
  | one q => rw [fwA] at h; rw [langA]; exact fwS_sub q s h
  | more q a => rw [fwA] at h; rw [langA]; exact h.elim (fun h => .inl (fwS_sub q s h)) (fun h => .inr (fwA_sub a s h))
theorem fwS_sub (q : Sq) (s : Bx) (h : fwS q s) : langS q s := by
  cases q with
  | nil => rw [fwS] at h; rw [langS]; exact h
  | cons r q =>
    rw [fwS] at h
    rw [langS]
    obtain ⟨s1, s2, e, h1, h2⟩ := h
    exact ⟨s1, s2, e, fw_sub r s1 h1, fwS_sub q s2 h2⟩
end
mutual
theorem fw_low (r : Re) (s : Bx) (h : langR r s) : ∃ t, fwR r t ∧ le t s := by
  cases r with
  | set p => rw [langR] at h; exact ⟨s, by rw [fwR]; exact h, le_refl s⟩
  | grp a => rw [langR] at h; obtain ⟨t, h1, h2⟩ := fwA_low a s h; exact ⟨t, by rw [fwR]; exact h1, h2⟩
  | star r => exact ⟨[], by rw [fwR], nil_le s⟩
  | plus r =>
    rw [langR] at h
    obtain ⟨s1, s2, rfl, h1, _⟩ := h
    obtain ⟨t, h3, h4⟩ := fw_low r s1 h1
    exact ⟨t, by rw [fwR]; exact h3, le_trans h4 (le_head s2)⟩
  | opt r => exact ⟨[], by rw [fwR]; exact .inl rfl, nil_le s⟩
theorem fwA_low (a : Al) (s : Bx) (h : langA a s) : ∃ t, fwA a t ∧ le t s := by
  cases a with
  | one q => rw [langA] at h; obtain ⟨t, h1, h2⟩ := fwS_low q s h; exact ⟨t, by rw [fwA]; exact h1, h2⟩
  | more q a =>
    rw [langA] at h
    rcases h with h | h
    · obtain ⟨t, h1, h2⟩ := fwS_low q s h; exact ⟨t, by rw [fwA]; exact .inl h1, h2⟩
    · obtain ⟨t, h1, h2⟩ := fwA_low a s h; exact ⟨t, by rw [fwA]; exact .inr h1, h2⟩
theorem fwS_low (q : Sq) (s : Bx) (h : langS q s) : ∃ t, fwS q t ∧ le t s := by
  cases q with
  | nil => rw [langS] at h; exact ⟨s, by rw [fwS]; exact h, le_refl s⟩
  | cons r q =>
    rw [langS] at h
    obtain ⟨s1, s2, rfl, h1, h2⟩ := h
    obtain ⟨t1, a1, a2⟩ := fw_low r s1 h1
    obtain ⟨t2, b1, b2⟩ := fwS_low q s2 h2
    exact ⟨t1 ++ t2, by rw [fwS]; exact ⟨t1, t2, rfl, a1, b1⟩, le_app a2 b2⟩
end
/-- The texts of the ways from step k to the end that never lead back. -/
def Fw (S : List Stp) (k : Nat) (s : Bx) : Prop := ∃ n, In (fwd 0 S) 0 S.length n k s S.length
theorem fwd_get (b : Nat) (l : List Stp) (k : Nat) : (fwd b l)[k]? = (l[k]?).map fun st => ⟨st.set, st.free.filter (fun m => decide (b + k < m))⟩ := by
  induction l generalizing b k with
  | nil => simp [fwd]
  | cons s l ih => cases k with
    | zero => simp [fwd]
    | succ k => simp only [fwd, List.getElem?_cons_succ, ih]; rw [show b + 1 + k = b + (k + 1) by omega]
theorem fw_end (S : List Stp) (s : Bx) : Fw S S.length s ↔ s = [] :=
  ⟨fun ⟨_, h⟩ => (h.stop (Nat.le_refl _)).1, fun h => by subst h; exact ⟨0, .refl _⟩⟩
theorem fw_at {S : List Stp} {k : Nat} {st : Stp} (h : S[k]? = some st) (s : Bx) :
    Fw S k s ↔ (∃ m ∈ st.free, k < m ∧ Fw S m s) ∨ ∃ c t, s = c :: t ∧ st.set c = true ∧ Fw S (k + 1) t := by
  have hk := some_lt h
  have hg : (fwd 0 S)[k]? = some ⟨st.set, st.free.filter (fun m => decide (k < m))⟩ := by rw [fwd_get, h, Nat.zero_add]; rfl
  constructor
  · rintro ⟨n, w⟩
    generalize hE : S.length = E at w
    cases w with
    | refl k => omega
    | eps a1 a2 a3 a4 a5 =>
      rw [hg] at a3
      injection a3 with a3
      subst a3
      have := List.mem_filter.1 a4
      exact .inl ⟨_, this.1, by simpa using this.2, _, by rw [hE]; exact a5⟩
    | byte a1 a2 a3 a4 a5 =>
      rw [hg] at a3
      injection a3 with a3
      subst a3
      exact .inr ⟨_, _, rfl, a4, _, by rw [hE]; exact a5⟩
  · rintro (⟨m, h1, h2, n, w⟩ | ⟨c, t, rfl, h1, n, w⟩)
    · exact ⟨_, .eps (Nat.zero_le _) hk hg (List.mem_filter.2 ⟨h1, by simpa using h2⟩) w⟩
    · exact ⟨_, .byte (Nat.zero_le _) hk hg h1 w⟩
/-- What step k makes of its followers' least texts. -/
def bestF (f : Nat → Option Bx) (k : Nat) : List Nat → Option Bx → Option Bx
  | [], b => b
  | m :: l, b => bestF f k l (if k < m then lesr b (f m) else b)
theorem bestF_lst {S : List Stp} {f : Nat → Option Bx} {k : Nat} (hf : ∀ m, k < m → m ≤ S.length → IsLst (Fw S m) (f m)) (l : List Nat) (hl : ∀ m ∈ l, m ≤ S.length) {L : Bx → Prop} {b : Option Bx} (hb : IsLst L b) :
    IsLst (fun s => L s ∨ ∃ m ∈ l, k < m ∧ Fw S m s) (bestF f k l b) := by
  induction l generalizing L b with
  | nil => exact hb.iff fun s => ⟨.inl, fun h => h.elim id (fun ⟨_, h, _⟩ => by cases h)⟩
  | cons m l ih =>
    rw [bestF]
    by_cases hm : k < m
    · rw [if_pos hm]
      refine (ih (fun m' h => hl m' (by simp [h])) (lesr_lst hb (hf m hm (hl m (by simp))))).iff fun s => ⟨?_, ?_⟩
      · rintro ((h | h) | ⟨m', h1, h2⟩)
        · exact .inl h
        · exact .inr ⟨m, by simp, hm, h⟩
        · exact .inr ⟨m', by simp [h1], h2⟩
      · rintro (h | ⟨m', h1, h2⟩)
        · exact .inl (.inl h)
        · rcases List.mem_cons.1 h1 with rfl | h1
          · exact .inl (.inr h2.2)
          · exact .inr ⟨m', h1, h2⟩
    · rw [if_neg hm]
      refine (ih (fun m' h => hl m' (by simp [h])) hb).iff fun s => ⟨?_, ?_⟩
      · rintro (h | ⟨m', h1, h2⟩)
        · exact .inl h
        · exact .inr ⟨m', by simp [h1], h2⟩
      · rintro (h | ⟨m', h1, h2⟩)
        · exact .inl h
        · rcases List.mem_cons.1 h1 with rfl | h1
          · exact absurd h2.1 hm
          · exact .inr ⟨m', h1, h2⟩
/-- The least byte of a set. -/
def FstB (p : UInt8 → Bool) (c : UInt8) : Prop := p c = true ∧ ∀ d, p d = true → c ≤ d
theorem byte_lst {L : Bx → Prop} {p : UInt8 → Bool} {c : UInt8} {t : Bx} (hc : FstB p c) (ht : IsLst L (some t)) : IsLst (fun s => ∃ d u, s = d :: u ∧ p d = true ∧ L u) (some (c :: t)) := by
  refine ⟨⟨c, t, rfl, hc.1, ht.1⟩, ?_⟩
  rintro s ⟨d, u, rfl, h1, h2⟩
  have h3 := hc.2 d h1
  by_cases e : c = d
  · subst e
    exact le_app (le_refl [c]) (ht.2 u h2)
  · have hlt : c < d := UInt8.lt_of_le_of_ne h3 e
    have h4 := le_iff.1 (ht.2 u h2)
    refine le_iff.2 ?_
    rcases h4 with h4 | ⟨h4, _⟩
    · exact .inl (by simpa using h4)
    · exact .inr ⟨by simpa using h4, .inr (by simp [Op.bytesLess, hlt])⟩
theorem none_lst {L : Bx → Prop} {p : UInt8 → Bool} (h : (∀ c, p c = false) ∨ IsLst L none) : IsLst (fun s => ∃ d u, s = d :: u ∧ p d = true ∧ L u) none := by
  rintro s ⟨d, u, rfl, h1, h2⟩
  rcases h with h | h
  · rw [h d] at h1; cases h1
  · exact h u h2
theorem fw_whole {a : Al} (ho : okA a) (s : Bx) : Fw (stR (.grp a) 0) 0 s ↔ fwA a s := by
  have h := fwaysR (.grp a) (sfR (.grp a) 0) 0 (by rw [okR]; exact ho) (fun i _ => by rw [Nat.zero_add]) s
  rw [fwR, Nat.zero_add, ← stR_length (.grp a) 0, ← fwd_stR] at h
  exact h
/-- The first text of those of the ways that never lead back is the pattern's. -/
theorem least_whole {a : Al} (ho : okA a) {o : Option Bx} (h : IsLst (Fw (stR (.grp a) 0) 0) o) : IsLst (langA a) o :=
  (h.iff (fw_whole ho)).up (fwA_sub a) (fwA_low a)
end Go.Proofs.Ytakkcofmbafneaa
