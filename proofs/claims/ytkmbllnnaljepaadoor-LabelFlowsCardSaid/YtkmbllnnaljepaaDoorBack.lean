/- A text is read as a label just where it is that label's text: plain facts, of no program. -/
import Derived.Test.YtkmbllnnaljepaaDoorRead
namespace Go.Proofs.YtkmbllnnaljepaaDoor
open Go.ChangeShapes Go.WideShapes Go.RowKit

theorem asc_ext : ∀ (xs ys : List Nat), xs.Pairwise (· < ·) → ys.Pairwise (· < ·) → (∀ a, a ∈ xs ↔ a ∈ ys) → xs = ys
  | [], [], _, _, _ => rfl
  | [], y :: ys, _, _, h => by have := (h y).2 (by simp); simp at this
  | x :: xs, [], _, _, h => by have := (h x).1 (by simp); simp at this
  | x :: xs, y :: ys, hx, hy, h => by
    rw [List.pairwise_cons] at hx hy
    have e : x = y := by
      have h1 := (h x).1 (by simp)
      have h2 := (h y).2 (by simp)
      simp only [List.mem_cons] at h1 h2
      rcases h1 with h1 | h1
      · exact h1
      · rcases h2 with h2 | h2
        · exact h2.symm
        · have := hx.1 y h2; have := hy.1 x h1; omega
    subst e
    congr 1
    refine asc_ext xs ys hx.2 hy.2 fun a => ⟨fun ha => ?_, fun ha => ?_⟩
    · have := (h a).1 (by simp [ha])
      simp only [List.mem_cons] at this
      rcases this with rfl | this
      · have := hx.1 _ ha; omega
      · exact this
    · have := (h a).2 (by simp [ha])
      simp only [List.mem_cons] at this
      rcases this with rfl | this
      · have := hy.1 _ ha; omega
      · exact this

theorem range_asc (n : Nat) : (List.range n).Pairwise (· < ·) := List.pairwise_lt_range
theorem tms_asc (c : Int) (n : Nat) : (tms c n).Pairwise (· < ·) := (range_asc n).sublist List.filter_sublist
theorem tms_mem (c : Int) (n a : Nat) : a ∈ tms c n ↔ a < n ∧ c.toNat.testBit a = true := by simp [tms]

/-- All bits of a list of teams. -/
def orAll (c : Nat) (ks : List Nat) : Nat := ks.foldl (fun c k => c ||| 2 ^ k) c
theorem orAll_bit : ∀ (ks : List Nat) (c i : Nat), (orAll c ks).testBit i = (c.testBit i || decide (i ∈ ks))
  | [], c, i => by simp [orAll]
  | k :: ks, c, i => by
    show (orAll (c ||| 2 ^ k) ks).testBit i = _
    rw [orAll_bit ks, Nat.testBit_or, Nat.testBit_two_pow]
    by_cases h : k = i
    · subst h; simp
    · have : i ≠ k := fun e => h e.symm
      simp [h, this]
theorem orAll_lt (ks : List Nat) : ∀ (c : Nat), c < 4294967296 → (∀ k ∈ ks, k < 32) → orAll c ks < 4294967296 := by
  induction ks with
  | nil => intro c hc _; exact hc
  | cons k ks ih => intro c hc h; exact ih _ (or_lt c k hc (h k (by simp))) (fun j hj => h j (by simp [hj]))
theorem tms_orAll (ks : List Nat) (h : ks.Pairwise (· < ·)) (h32 : ∀ k ∈ ks, k < 32) : tms ((orAll 0 ks : Nat) : Int) 32 = ks := by
  refine asc_ext _ _ (tms_asc _ _) h fun a => ?_
  rw [tms_mem, Int.toNat_natCast, orAll_bit]
  simp
  exact h32 a
theorem orAll_tms (c : Nat) (hc : c < 4294967296) : orAll 0 (tms (c : Int) 32) = c := by
  apply Nat.eq_of_testBit_eq
  intro i
  rw [orAll_bit]
  by_cases h : i < 32
  · have : (i ∈ tms (c : Int) 32) ↔ c.testBit i = true := by rw [tms_mem]; simp [h]
    cases hb : c.testBit i <;> simp [this, hb]
  · have h1 : i ∉ tms (c : Int) 32 := by rw [tms_mem]; simp [h]
    have h2 : c.testBit i = false := Nat.testBit_lt_two_pow (Nat.lt_of_lt_of_le hc (by have := Nat.pow_le_pow_right (n := 2) (by omega) (show 32 ≤ i by omega); omega))
    simp [h1, h2]

/-- The words, with commas between them. -/
def joinT : List (List UInt8) → List UInt8
  | [] => []
  | p :: ps => p ++ ps.flatMap fun q => 44 :: q
theorem join_pcs : ∀ l : List UInt8, joinT (pcs l) = l
  | [] => rfl
  | b :: r => by
    have ih := join_pcs r
    simp only [pcs]
    split
    · next h =>
      cases hp : pcs r with
      | nil => exact absurd hp (pcs_ne r)
      | cons p ps => rw [hp] at ih; simp [joinT] at ih ⊢; rw [ih, h]; exact ⟨rfl, rfl⟩
    · split
      · next hp => exact absurd hp (pcs_ne r)
      · next p ps hp => rw [hp] at ih; simp [joinT] at ih ⊢; exact ih
theorem pcs_word : ∀ (p : List UInt8) (m : List UInt8), 44 ∉ p → pcs (p ++ 44 :: m) = p :: pcs m
  | [], m, _ => by simp [pcs]
  | b :: p, m, h => by
    have hb : b ≠ 44 := fun e => h (by simp [e])
    have := pcs_word p m (fun e => h (by simp [e]))
    simp [pcs, hb, this]
theorem pcs_one : ∀ (p : List UInt8), 44 ∉ p → pcs p = [p]
  | [], _ => rfl
  | b :: p, h => by
    have hb : b ≠ 44 := fun e => h (by simp [e])
    have := pcs_one p (fun e => h (by simp [e]))
    simp [pcs, hb, this]
theorem pcs_join : ∀ (ps : List (List UInt8)) (p : List UInt8), (∀ q ∈ p :: ps, 44 ∉ q) → pcs (joinT (p :: ps)) = p :: ps
  | [], p, h => by simp [joinT]; exact pcs_one p (h p (by simp))
  | q :: ps, p, h => by
    have e : joinT (p :: q :: ps) = p ++ 44 :: joinT (q :: ps) := by simp [joinT]
    rw [e, pcs_word p _ (h p (by simp)), pcs_join ps q (fun x hx => h x (by simp at hx ⊢; exact .inr hx))]

theorem dig_small (k : Nat) (hk : k < 32) : Lib.decDigits k = (if k < 10 then [UInt8.ofNat (48 + k)] else [UInt8.ofNat (48 + k / 10), UInt8.ofNat (48 + k % 10)]) := by
  rw [Lib.decDigits]
  split
  · simp_all
  · rw [Lib.decDigits, dif_pos (by omega)]; simp_all
theorem dig_comma (k : Nat) (hk : k < 32) : 44 ∉ Lib.decDigits k := by
  have key : ∀ j : Fin 32, (44 : UInt8) ∉ (if j.val < 10 then [UInt8.ofNat (48 + j.val)] else [UInt8.ofNat (48 + j.val / 10), UInt8.ofNat (48 + j.val % 10)]) := by decide +kernel
  rw [dig_small k hk]
  exact key ⟨k, hk⟩

theorem rdT_some : ∀ (ps : List (List UInt8)) (last : Int) (c d : Nat), rdT ps last c = some d ↔ ∃ ks : List Nat, ps = ks.map Lib.decDigits ∧ (∀ k ∈ ks, k < 32 ∧ last < (k : Int)) ∧ ks.Pairwise (· < ·) ∧ d = orAll c ks
  | [], last, c, d => by
    simp only [rdT]
    constructor
    · intro h; injection h with h; exact ⟨[], rfl, by simp, .nil, h.symm⟩
    · rintro ⟨ks, h1, _, _, rfl⟩
      cases ks with
      | nil => rfl
      | cons => cases h1
  | p :: ps, last, c, d => by
    simp only [rdT]
    constructor
    · intro h
      split at h
      · cases h
      · next k hk =>
        obtain ⟨hk32, hkd⟩ := rt_some.1 hk
        split at h
        · cases h
        · next hle =>
          obtain ⟨ks, rfl, h1, h2, rfl⟩ := (rdT_some ps k (c ||| 2 ^ k) d).1 h
          refine ⟨k :: ks, by simp [hkd], ?_, ?_, rfl⟩
          · intro j hj
            simp only [List.mem_cons] at hj
            rcases hj with rfl | hj
            · exact ⟨hk32, by omega⟩
            · have := h1 j hj; exact ⟨this.1, by omega⟩
          · rw [List.pairwise_cons]
            exact ⟨fun j hj => by have := (h1 j hj).2; omega, h2⟩
    · rintro ⟨ks, h1, h2, h3, rfl⟩
      cases ks with
      | nil => cases h1
      | cons k ks =>
        simp only [List.map_cons, List.cons.injEq] at h1
        obtain ⟨rfl, rfl⟩ := h1
        have hk := h2 k (by simp)
        rw [rt_some.2 ⟨hk.1, rfl⟩]
        simp only
        rw [if_neg (by omega)]
        rw [List.pairwise_cons] at h3
        exact (rdT_some _ k (c ||| 2 ^ k) _).2 ⟨ks, rfl, fun j hj => ⟨(h2 j (by simp [hj])).1, by have := h3.1 j hj; omega⟩, h3.2, rfl⟩

theorem tailT_join (k : Nat) (ks : List Nat) : tailT (k :: ks) = 43 :: joinT ((k :: ks).map Lib.decDigits) := by
  simp [tailT, joinT, List.flatMap_map]
theorem rdTs_some (t : List UInt8) (c : Nat) : rdTs t = some c ↔ c < 4294967296 ∧ t = tailT (tms (c : Int) 32) := by
  constructor
  · intro h
    cases t with
    | nil =>
      simp only [rdTs] at h
      injection h with h
      subst h
      refine ⟨by omega, ?_⟩
      have : tms ((0 : Nat) : Int) 32 = [] := by decide
      rw [this]; rfl
    | cons b r =>
      simp only [rdTs] at h
      split at h
      · next hb =>
        obtain ⟨ks, h1, h2, h3, rfl⟩ := (rdT_some _ _ _ _).1 h
        have h32 : ∀ k ∈ ks, k < 32 := fun k hk => (h2 k hk).1
        refine ⟨orAll_lt ks 0 (by omega) h32, ?_⟩
        rw [tms_orAll ks h3 h32, hb]
        cases ks with
        | nil => exact absurd h1 (pcs_ne r)
        | cons k ks => rw [tailT_join, ← h1, join_pcs]
      · cases h
  · rintro ⟨hc, rfl⟩
    have ho := orAll_tms c hc
    have ha := tms_asc (c : Int) 32
    have h32 : ∀ k ∈ tms (c : Int) 32, k < 32 := fun k hk => ((tms_mem _ _ _).1 hk).1
    cases hk : tms (c : Int) 32 with
    | nil =>
      rw [hk] at ho
      simp [orAll] at ho
      subst ho
      rfl
    | cons k ks =>
      rw [hk] at ho ha h32
      rw [tailT_join]
      simp only [rdTs, if_true]
      rw [List.map_cons, pcs_join _ _ (by
        intro q hq
        rw [← List.map_cons (f := Lib.decDigits)] at hq
        obtain ⟨j, hj, rfl⟩ := List.mem_map.1 hq
        exact dig_comma j (h32 j hj)), ← List.map_cons (f := Lib.decDigits)]
      exact (rdT_some _ _ _ _).2 ⟨k :: ks, rfl, fun j hj => ⟨h32 j hj, by omega⟩, ha, ho.symm⟩

/-- A text is read as the label of which it is the text, and no other is. -/
theorem rdAll_some (s : List UInt8) (l c : Nat) : rdAll s = some (l, c) ↔ l < 8 ∧ c < 4294967296 ∧ s = txtL l (tms (c : Int) 32) := by
  constructor
  · intro h
    cases s with
    | nil => cases h
    | cons b r =>
      simp only [rdAll] at h
      split at h
      · next hb =>
        cases hr : rdTs r with
        | none => rw [hr] at h; cases h
        | some d =>
          rw [hr] at h
          simp only [Option.map_some, Option.some.injEq, Prod.mk.injEq] at h
          obtain ⟨rfl, rfl⟩ := h
          obtain ⟨h1, h2⟩ := (rdTs_some r d).1 hr
          refine ⟨by omega, h1, ?_⟩
          unfold txtL
          rw [dig_small _ (by omega), if_pos (by omega), show 48 + (b.toNat - 48) = b.toNat by omega, UInt8.ofNat_toNat, ← h2]
          rfl
      · cases h
  · rintro ⟨hl, hc, rfl⟩
    unfold txtL
    rw [dig_small l (by omega), if_pos (by omega)]
    have hb : (UInt8.ofNat (48 + l)).toNat = 48 + l := by simp; omega
    show rdAll (UInt8.ofNat (48 + l) :: tailT (tms (c : Int) 32)) = _
    simp only [rdAll, hb]
    rw [if_pos (by omega), (rdTs_some _ c).2 ⟨hc, rfl⟩]
    simp
theorem rdAll_lt {s : List UInt8} {l c : Nat} (h : rdAll s = some (l, c)) : l < 8 ∧ c < 4294967296 := ⟨((rdAll_some s l c).1 h).1, ((rdAll_some s l c).1 h).2.1⟩
end Go.Proofs.YtkmbllnnaljepaaDoor
