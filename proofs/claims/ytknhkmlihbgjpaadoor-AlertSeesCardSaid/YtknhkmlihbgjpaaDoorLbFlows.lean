/- The document's own Flows: what each call returns. -/
import Derived.Test.YtknhkmlihbgjpaaDoorLG
import Derived.BigQuiet
import Derived.Deep.QuietTactic
import Derived.Deep.AppendLies
import Derived.RegionTactic
import Derived.RangeFuncOwn
import Derived.Deep.DrawnRows
import Derived.Deep.RegionHeld3
namespace Go.Proofs.YtknhkmlihbgjpaaDoor.Lb
open Go.ChangeShapes Go.WideShapes Go.RowKit


/-- Of the first k teams those in c. -/
def tms (c : Int) (k : Nat) : List Nat := (List.range k).filter fun i => c.toNat.testBit i
theorem tms_le (c : Int) (k : Nat) : (tms c k).length ≤ k := by
  have := List.length_filter_le (fun i => c.toNat.testBit i) (List.range k)
  simpa [tms] using this
theorem tms_hit (c : Int) (k : Nat) (h : c.toNat.testBit k = true) : tms c (k + 1) = tms c k ++ [k] := by simp [tms, List.range_succ, List.filter_append, h]
theorem tms_miss (c : Int) (k : Nat) (h : c.toNat.testBit k = false) : tms c (k + 1) = tms c k := by simp [tms, List.range_succ, List.filter_append, h]
def intV (n : Nat) : Value := .int .i64 (n : Int)

theorem two_pow_lt {k : Nat} (hk : k < 32) : (2 : Nat) ^ k < 4294967296 := Nat.lt_of_lt_of_eq (Nat.pow_lt_pow_right (a := 2) (by omega) hk) (by decide)
theorem two_pow_mod {k : Nat} (hk : k < 32) : ((2 : Int) ^ k % 4294967296) = ((2 ^ k : Nat) : Int) := by
  have hp := two_pow_lt hk
  rw [show ((2 : Int) ^ k) = ((2 ^ k : Nat) : Int) by simp]
  generalize (2 : Nat) ^ k = n at *
  omega
theorem and_bit (X k : Nat) : (X &&& 2 ^ k != 0) = X.testBit k := by
  cases h : X.testBit k
  · have : X &&& 2 ^ k = 0 := by
      apply Nat.eq_of_testBit_eq
      intro i
      rw [Nat.testBit_and, Nat.testBit_two_pow]
      by_cases e : k = i
      · subst e; simp [h]
      · simp [e]
    simp [this]
  · rw [bne_iff_ne]
    intro e
    have : (X &&& 2 ^ k).testBit k = false := by rw [e]; simp
    rw [Nat.testBit_and, Nat.testBit_two_pow] at this
    simp [h] at this
theorem bit_test (c : Int) (k : Nat) (hc0 : 0 ≤ c) (hc1 : c < 4294967296) (hk : k < 32) : (bits BinOp.and IntKind.u32 c (2 ^ k % 4294967296) != 0) = c.toNat.testBit k := by
  have hp := two_pow_lt hk
  rw [two_pow_mod hk, u32_and c ((2 ^ k : Nat) : Int) hc0 hc1 (Int.natCast_nonneg _) (by generalize (2 : Nat) ^ k = n at *; omega), Int.toNat_natCast, ← and_bit]
  generalize c.toNat &&& 2 ^ k = n
  rw [Bool.eq_iff_iff, bne_iff_ne, bne_iff_ne]
  omega

theorem below_drewN {B : Nat} {a w : World} (h : Below B a w) (n : Nat) : Below B a (w.drewN n) := ⟨h.os, h.tape, h.output, h.size, h.block⟩
theorem teams_round {c : Int} {k B : Nat} {w w2 w1 : World} {v v' : Value} {x : Obj} (hm : tms c (k + 1) = tms c k ++ [k]) (hB : Below B w w2) (hsz : B + 1 ≤ w2.heap.size)
    (hown : w2.ownsRow (B + 1) 3 1 v (tms c k).length ((tms c k).map intV))
    (hown' : w1.ownsRow (B + 1) 3 1 v' ((tms c k).length + 1) ((tms c k).map intV ++ [.int .i64 k])) (hgrow : (w2.alloc x).grownBy w1 v.ownBlock)
    (hcr : w2.cell? ⟨B, 1, none⟩ = some (.int .u32 c)) :
    w1.ownsRow (B + 1) 3 1 v' (tms c (k + 1)).length ((tms c (k + 1)).map intV) ∧ w1.cell? ⟨B, 1, none⟩ = some (.int .u32 c) ∧ Below B w w1 ∧ B + 1 ≤ w1.heap.size := by
  have hlt := hown.lt
  have hs := hgrow.size
  simp at hs
  refine ⟨?_, ?_, ?_, by omega⟩
  · rw [hm]; simpa [intV] using hown'
  · have hne : (some B) ≠ v.ownBlock := fun e => by have := (hlt B e.symm).1; omega
    exact hgrow.cell (a := ⟨B, 1, none⟩) (Below.keeps ((Below.refl _ _).alloc (Nat.le_refl _) _) hcr) hne
  · exact (hB.alloc (by omega) x).grown hgrow (by simp; omega) (fun j e => by have := (hlt j e).1; omega)

theorem info3 : (Tryd.prog.info? 3).map (fun i => (i.zero, i.size, i.bytes)) = some (some (.int .i64 0), 1, 8) := by kernel_rfl

theorem own_shape {w : World} {base : Nat} {e : TypeId} {v : Value} {n : Nat} {xs : List Value} (h : w.ownsRow base e 1 v n xs) :
    ∃ a cap, v = .slice a n cap ∧ ((a = none ∧ n = 0) ∨ ∃ g o, a = some ⟨g, 0, none⟩ ∧ base ≤ g ∧ w.heap[g]? = some o ∧ o.isCells = true ∧ ∀ W : World, W.heap[g]? = some o → ∀ j u, xs[j]? = some u → W.cell? ⟨g, j, none⟩ = some u) := by
  have hc := h
  rcases h.2 with ⟨rfl, h0⟩ | ⟨g, cap, cur, rfl, hb, hg, _⟩
  · exact ⟨none, 0, by rw [h0], .inl ⟨rfl, h0⟩⟩
  · refine ⟨_, cap, rfl, .inr ⟨g, _, rfl, hb, hg, rfl, fun W hW j u hu => ?_⟩⟩
    have h1 := hc.cells (g := g) rfl j u hu
    have hadd : (⟨g, 0, none⟩ : Addr).add j = ⟨g, j, none⟩ := by unfold Addr.add; split <;> simp_all
    rw [hadd] at h1
    rw [← h1]
    exact World.cell?_of_block (a := ⟨g, j, none⟩) (hW.trans hg.symm)

/-- The slice v holds the numbers xs. -/
def IntsAt (w : World) (v : Value) (xs : List Nat) : Prop := ∃ a cap, v = .slice a xs.length cap ∧ ∀ (j x : Nat), xs[j]? = some x → ∃ g, a = some ⟨g, 0, none⟩ ∧ w.cell? ⟨g, j, none⟩ = some (.int .i64 (x : Int))
theorem IntsAt.keep {w w' : World} {v : Value} {xs : List Nat} (h : IntsAt w v xs) (hb : Below w.heap.size w w') : IntsAt w' v xs := by
  obtain ⟨a, cap, e, hc⟩ := h
  refine ⟨a, cap, e, fun j x hx => ?_⟩
  obtain ⟨g, e2, h2⟩ := hc j x hx
  exact ⟨g, e2, Below.keeps hb h2⟩
theorem IntsAt.of_own {w : World} {base : Nat} {v : Value} {xs : List Nat} (h : w.ownsRow base 3 1 v xs.length (xs.map intV)) : IntsAt w v xs := by
  obtain ⟨a, cap, e, hs⟩ := own_shape h
  refine ⟨a, cap, e, fun j x hx => ?_⟩
  rcases hs with ⟨_, h0⟩ | ⟨g, o, e2, _, hg, _, hc⟩
  · rw [List.length_eq_zero_iff.1 h0] at hx; simp at hx
  · exact ⟨g, e2, hc w hg j (intV x) (by simp [hx])⟩
theorem IntsAt.nil {w : World} {v : Value} (h : IntsAt w v []) : ∃ a cap, v = .slice a 0 cap := by
  obtain ⟨a, cap, e, _⟩ := h
  exact ⟨a, cap, e⟩
theorem IntsAt.block {w : World} {v : Value} {xs : List Nat} (h : IntsAt w v xs) (hn : xs ≠ []) : ∃ g cap, v = .slice (some ⟨g, 0, none⟩) xs.length cap ∧ ∀ (j x : Nat), xs[j]? = some x → w.cell? ⟨g, j, none⟩ = some (.int .i64 (x : Int)) := by
  obtain ⟨a, cap, e, hc⟩ := h
  cases xs with
  | nil => exact absurd rfl hn
  | cons x xs =>
    obtain ⟨g, e2, _⟩ := hc 0 x rfl
    subst e2
    refine ⟨g, cap, e, fun j y hy => ?_⟩
    obtain ⟨g', e3, h3⟩ := hc j y hy
    injection e3 with e3
    injection e3 with e3
    subst e3
    exact h3

set_option maxHeartbeats 400000 in
theorem rhas_nil (a : Option Addr) (cap : Nat) (k : Int) (w : World) :
    Calls Tryd.prog 64 #[.slice a 0 cap, .int .i64 k] w fun e w' => e = .returned (.bool false) ∧ w = w' := by
  go_enter Tryd.func64, Tryd.ntmps64
  go_wp2
  go_loop [5] (fun i => i = .int .i64 0) (fun _ => 0)
  case atStart => rfl
  case round =>
    subst hrel
    go_wp2
    go_ret
    exact ⟨rfl, rfl⟩

set_option maxHeartbeats 400000 in
theorem rhas_some (g cap : Nat) (xs : List Nat) (k : Int) (hx : xs.length ≤ 1000000) (w : World) (hc : ∀ (j x : Nat), xs[j]? = some x → w.cell? ⟨g, j, none⟩ = some (.int .i64 (x : Int))) :
    Calls Tryd.prog 64 #[.slice (some ⟨g, 0, none⟩) xs.length cap, .int .i64 k] w fun e w' => e = .returned (.bool (decide (∃ x ∈ xs, (x : Int) = k))) ∧ w = w' := by
  have Hc := Lib.hid hc
  clear hc
  go_enter Tryd.func64, Tryd.ntmps64
  go_wp2
  go_loop [5] (fun i => ∃ n : Nat, n ≤ xs.length ∧ i = .int .i64 n ∧ Hid (∀ x ∈ xs.take n, (x : Int) ≠ k)) (fun i => xs.length - (intOf i).toNat)
  case atStart => exact ⟨0, Nat.zero_le _, rfl, fun x hx => by simp at hx⟩
  case round =>
    obtain ⟨n, hn, rfl, hno⟩ := hrel
    by_cases hlt : n < xs.length
    · obtain ⟨x, hx⟩ : ∃ x, xs[n]? = some x := ⟨_, List.getElem?_eq_getElem hlt⟩
      have hcx := Hc.out n x hx
      have Hx := Lib.hid hx
      clear hx
      by_cases hk : (x : Int) = k
      · have hkb : ((x : Int) == k) = true := by simpa using hk
        have Hk := Lib.hid hk
        clear hk
        go_wp2
        go_ret
        exact ⟨ret_bool (by rw [eq_comm, decide_eq_true_iff]; exact ⟨x, List.mem_of_getElem? Hx.out, Hk.out⟩), rfl⟩
      · have hkb : ((x : Int) == k) = false := by simpa using hk
        have Hk := Lib.hid hk
        clear hk
        go_wp2
        go_round
        case rel => exact ⟨n + 1, by omega, by go_num, fun y hy => by
          rw [List.take_add_one, Hx.out] at hy
          rcases List.mem_append.1 hy with h | h
          · exact hno y h
          · simp at h; subst h; exact Hk.out⟩
        case measure => simp [intOf]; omega
    · go_wp2
      go_ret
      have hno' := hno
      refine ⟨ret_bool ?_, rfl⟩
      rw [eq_comm, decide_eq_false_iff_not]
      rintro ⟨x, hx, e⟩
      exact hno' x (by rw [List.take_of_length_le (by omega)]; exact hx) e

theorem rhas_any (v : Value) (xs : List Nat) (k : Int) (hx : xs.length ≤ 1000000) (w : World) (h : IntsAt w v xs) :
    Calls Tryd.prog 64 #[v, .int .i64 k] w fun e w' => e = .returned (.bool (decide (∃ x ∈ xs, (x : Int) = k))) ∧ w = w' := by
  by_cases hn : xs = []
  · subst hn
    obtain ⟨a, cap, rfl⟩ := h.nil
    have e : decide (∃ x ∈ ([] : List Nat), (x : Int) = k) = false := by simp
    rw [e]
    exact rhas_nil a cap k w
  · obtain ⟨g, cap, rfl, hc⟩ := h.block hn
    exact rhas_some g cap xs k hx w hc

set_option maxHeartbeats 400000 in
theorem rright_any (l c : Int) (w : World) :
    Calls Tryd.prog 33 #[.agg #[.int .i64 l, .int .u32 c]] w fun e w' => e = .returned (.bool (rB l)) ∧ Below w.heap.size w w' := by
  go_enter Tryd.func33, Tryd.ntmps33
  go_wp2
  · have h0 : 0 ≤ l := by assumption
    go_ret
    exact ⟨ret_bool (by unfold rB; rw [Bool.eq_iff_iff]; simp; omega), (Below.refl _ _).alloc (Nat.le_refl _) _⟩
  · have h0 : l < 0 := by assumption
    go_ret
    exact ⟨ret_bool (by symm; rw [rB_false]; omega), (Below.refl _ _).alloc (Nat.le_refl _) _⟩

/-- A number of 32 bits. -/
def U32 (m : Nat) : Prop := m < 4294967296
theorem half_bit (C k : Nat) : ((C / 2 ^ k) % 2 == 1) = C.testBit k := by
  rw [Nat.testBit_eq_decide_div_mod_eq, Bool.eq_iff_iff]; simp
theorem half_succ (C k : Nat) : C / 2 ^ k / 2 = C / 2 ^ (k + 1) := by rw [Nat.div_div_eq_div_mul, Nat.pow_succ]

set_option maxHeartbeats 800000 in
set_option maxRecDepth 100000 in
theorem rteams_own (l c : Int) (hc0 : 0 ≤ c) (hc1 : c < 4294967296) (w : World) :
    Calls Tryd.prog 63 #[.agg #[.int .i64 l, .int .u32 c]] w fun e w' =>
      ∃ v, e = .returned v ∧ w'.ownsRow (w.heap.size + 1) 3 1 v (tms c 32).length ((tms c 32).map intV) ∧ Below w.heap.size w w' := by
  obtain ⟨C, rfl⟩ := Int.eq_ofNat_of_zero_le hc0
  have hC : U32 C := by unfold U32; omega
  clear hc1 hc0
  obtain ⟨i0, hi, hz0, hz1, hz2⟩ := info_parts info3
  go_enter Tryd.func63, Tryd.ntmps63
  go_wp2
  go_loopw [3, 4, 5] (fun v r i wr => ∃ k m : Nat, k ≤ 32 ∧ i = .int .i64 k ∧ r = .int .u32 m ∧ Hid (m = C / 2 ^ k) ∧ U32 m ∧ wr.ownsRow (w.heap.size + 1) 3 1 v (tms (C : Int) k).length ((tms (C : Int) k).map intV) ∧
      wr.cell? ⟨w.heap.size, 1, none⟩ = some (.int .u32 (C : Int)) ∧ Below w.heap.size w wr ∧ w.heap.size + 1 ≤ wr.heap.size)
    (fun _ _ i _ => 32 - (intOf i).toNat)
  case atStart => exact ⟨0, C, by omega, rfl, rfl, (by show C = C / 2 ^ 0; simp), hC, World.ownsRow_nil _ _ _ _, by simp [go_sem], (Below.refl _ _).alloc (Nat.le_refl _) _, by simp⟩
  case round =>
    obtain ⟨k, m, hk, rfl, rfl, hm, hm2, hown, hcr, hB, hsz⟩ := hrel
    by_cases hlt : k < 32
    · have hle := tms_le (C : Int) k
      have Hs := Lib.hid (show m / 2 = C / 2 ^ (k + 1) by rw [hm.out, half_succ])
      have Hb := Lib.hid (show ((m : Int) % 2 == 1) = C.testBit k by
        rw [← half_bit C k, ← hm.out, Bool.eq_iff_iff, beq_iff_eq, beq_iff_eq]; omega)
      go_wp2_with (at_builtin; refine wpList_append_lies _ rfl _ _ 107 rfl (w.heap.size + 1) 3 i0 (.int .i64 0) 1 8 Tryd.underlying107 hi hz0 hz1 hz2 rfl (by decide) _ _ _ rfl (World.ownsRow.alloc hown _) ⟨wr.heap.size, 0, none⟩ 1 1 [.int .i64 k] rfl rfl ?c1 ?c2 (by omega) ?c3 ?c4 ?c5 (wr.heap.size + 1) (by simp) ?_)
      case c1 =>
        intro j u hj
        match j, hj with
        | 0, hj => simp at hj; subst hj; exact (World.cell?_alloc_at _ _ _ _ rfl).trans rfl
      case c2 => intro u hu; simp at hu; subst hu; rfl
      case c3 => unfold maxLen; omega
      case c4 => omega
      case c5 => simp; omega
      · intro g cap w1 hown' hgrow hat hlt'
        have hbt : ((m : Int) % 2 == 1) = true := by assumption
        have R := teams_round (tms_hit (C : Int) k (Hb.out.symm.trans hbt)) (hB := hB) hsz hown hown' hgrow hcr
        clear hown' hgrow hown hcr hat hlt' hbt
        go_wp2
        go_roundw
        case rel => exact ⟨k + 1, m / 2, by omega, by go_num, (by unfold U32 at hm2; go_num), Hs.out, (by unfold U32 at hm2 ⊢; omega), R.1, R.2.1, R.2.2.1, R.2.2.2⟩
        case measure => simp [intOf]; omega
      · have hbt : ((m : Int) % 2 == 1) = false := by assumption
        have Hm := Lib.hid (tms_miss (C : Int) k (Hb.out.symm.trans hbt))
        clear hbt
        go_roundw
        case rel => exact ⟨k + 1, m / 2, by omega, by go_num, (by unfold U32 at hm2; go_num), Hs.out, (by unfold U32 at hm2 ⊢; omega), by rw [Hm.out]; exact hown, hcr, hB, hsz⟩
        case measure => simp [intOf]; omega
    · have : k = 32 := by omega
      subst this
      go_wp2
      go_ret
      exact ⟨_, rfl, hown, hB⟩

/-- What both Teams answer: a slice that holds the teams' numbers. -/
def TeamsRet (c : Int) (w : World) (e : Ending) (w' : World) : Prop := ∃ v, e = .returned v ∧ IntsAt w' v (tms c 32) ∧ Below w.heap.size w w'
theorem rteams_ints (l c : Int) (hc0 : 0 ≤ c) (hc1 : c < 4294967296) (w : World) : Calls Tryd.prog 63 #[.agg #[.int .i64 l, .int .u32 c]] w (TeamsRet c w) :=
  (rteams_own l c hc0 hc1 w).mono fun _ _ ⟨v, he, ho, hb⟩ => ⟨v, he, IntsAt.of_own ho, hb⟩
theorem tms_mem (c : Int) (n a : Nat) : a ∈ tms c n ↔ a < n ∧ c.toNat.testBit a = true := by simp [tms]

/-- Two labels lie in the two blocks from N on, and what lay below N lies as it lay. -/
abbrev S2 (N : Nat) (w : World) (la ca lb cb : Int) (w' : World) : Prop :=
  Below N w w' ∧ N + 1 < w'.heap.size ∧ w'.cell? ⟨N, 0, none⟩ = some (.int .i64 la) ∧ w'.cell? ⟨N, 1, none⟩ = some (.int .u32 ca) ∧ w'.cell? ⟨N + 1, 0, none⟩ = some (.int .i64 lb) ∧ w'.cell? ⟨N + 1, 1, none⟩ = some (.int .u32 cb)
theorem S2.keep {N : Nat} {w w1 w2 : World} {la ca lb cb : Int} (h : S2 N w la ca lb cb w1) (hb : Below w1.heap.size w1 w2) : S2 N w la ca lb cb w2 :=
  ⟨h.1.trans (hb.mono (by have := h.2.1; omega)), Nat.lt_of_lt_of_le h.2.1 hb.size, Below.keeps hb h.2.2.1, Below.keeps hb h.2.2.2.1, Below.keeps hb h.2.2.2.2.1, Below.keeps hb h.2.2.2.2.2⟩
theorem S2.drew {N : Nat} {w w1 : World} {la ca lb cb : Int} (h : S2 N w la ca lb cb w1) : S2 N w la ca lb cb w1.drew := ⟨h.1.drew, h.2⟩
theorem S2.start (w : World) (la ca lb cb : Int) : S2 w.heap.size w la ca lb cb ((w.alloc (.cells #[.int .i64 la, .int .u32 ca] 25)).alloc (.cells #[.int .i64 lb, .int .u32 cb] 25)) := by
  have h1 := (LabAt.one w la ca).later (.cells #[.int .i64 lb, .int .u32 cb] 25)
  have h2 := LabAt.one (w.alloc (.cells #[.int .i64 la, .int .u32 ca] 25)) lb cb
  simp only [World.size_alloc] at h2
  exact ⟨((Below.refl _ _).alloc (Nat.le_refl _) _).alloc (by simp) _, by simp, h1.1, h1.2, h2.1, h2.2⟩
theorem has_bit (c : Int) (x : Nat) (h : x < 32) : decide (∃ y ∈ tms c 32, (y : Int) = (x : Int)) = c.toNat.testBit x := by
  rw [Bool.eq_iff_iff, decide_eq_true_iff]
  constructor
  · rintro ⟨y, hy, e⟩
    obtain rfl : y = x := by omega
    exact ((tms_mem c 32 y).1 hy).2
  · intro hb
    exact ⟨x, (tms_mem c 32 x).2 ⟨h, hb⟩, rfl⟩
attribute [local go_sem ↓] Go.wp_at_zero Go.wp_at_succ

theorem sub_iff (c d : Int) (h1 : c < 4294967296) : subB c d = true ↔ ∀ x ∈ tms c 32, d.toNat.testBit x = true := by
  unfold subB
  rw [decide_eq_true_iff]
  constructor
  · intro h x hx
    have hb := ((tms_mem c 32 x).1 hx).2
    rw [← h, Nat.testBit_and, Bool.and_eq_true] at hb
    exact hb.2
  · intro h
    apply Nat.eq_of_testBit_eq
    intro i
    rw [Nat.testBit_and]
    cases hb : c.toNat.testBit i
    · rfl
    · have hi : i < 32 := by
        rcases Nat.lt_or_ge i 32 with h2 | h2
        · exact h2
        · rw [Nat.testBit_lt_two_pow (Nat.lt_of_lt_of_le (show c.toNat < 2 ^ 32 by omega) (Nat.pow_le_pow_right (by omega) h2))] at hb
          cases hb
      rw [h i ((tms_mem c 32 i).2 ⟨hi, hb⟩)]
      rfl
theorem flB_no {la ca lb cb : Int} (h : subB ca cb = false) : flB la ca lb cb = false := by unfold flB; rw [h]; simp

/-- Two labels, and a number in a cell. -/
abbrev S2x (N : Nat) (w : World) (la ca lb cb : Int) (v : Value) (xs : List Nat) (g k : Nat) (x : Nat) (w' : World) : Prop := S2 N w la ca lb cb w' ∧ IntsAt w' v xs ∧ w'.cell? ⟨g, k, none⟩ = some (.int .i64 (x : Int))
theorem S2x.keep {N g k x : Nat} {w w1 w2 : World} {la ca lb cb : Int} {v : Value} {xs : List Nat} (h : S2x N w la ca lb cb v xs g k x w1) (hb : Below w1.heap.size w1 w2) : S2x N w la ca lb cb v xs g k x w2 := ⟨h.1.keep hb, h.2.1.keep hb, Below.keeps hb h.2.2⟩
theorem S2x.drew {N g k x : Nat} {w w1 : World} {la ca lb cb : Int} {v : Value} {xs : List Nat} (h : S2x N w la ca lb cb v xs g k x w1) : S2x N w la ca lb cb v xs g k x w1.drew := ⟨h.1.drew, h.2⟩

set_option maxHeartbeats 1000000 in
set_option maxRecDepth 100000 in
theorem rflows_any (la ca lb cb : Int) (ha0 : 0 ≤ ca) (ha1 : ca < 4294967296) (hb0 : 0 ≤ cb) (hb1 : cb < 4294967296) (w : World) :
    Calls Tryd.prog 34 #[.agg #[.int .i64 la, .int .u32 ca], .agg #[.int .i64 lb, .int .u32 cb]] w fun e w' => e = .returned (.bool (flB la ca lb cb)) ∧ Below w.heap.size w w' := by
  have hS := S2.start w la ca lb cb
  have hsub := Lib.hid (sub_iff ca cb ha1)
  go_enter Tryd.func34, Tryd.ntmps34
  go_wp2_with fail
  refine (rteams_ints la ca ha0 ha1 _).mono ?_
  rintro e w1 ⟨v, rfl, hI, hb⟩
  replace hS := hS.keep hb
  clear hb
  generalize hN : w.heap.size = N at *
  have HN := Lib.hid hN
  clear hN
  have hxl := tms_le ca 32
  have Hmem := Lib.hid (fun x => tms_mem ca 32 x)
  generalize tms ca 32 = xs at *
  obtain ⟨av, cap, rfl, hcx⟩ := hI
  have hI : IntsAt w1 (.slice av xs.length cap) xs := ⟨av, cap, rfl, hcx⟩
  clear hcx
  go_wp2
  go_loopw [6] (fun i wr => ∃ k : Nat, k ≤ xs.length ∧ i = .int .i64 k ∧ Hid (∀ x ∈ xs.take k, cb.toNat.testBit x = true) ∧ S2 N w la ca lb cb wr ∧ IntsAt wr (.slice av xs.length cap) xs) (fun i _ => xs.length - (intOf i).toNat)
  case atStart => exact ⟨0, Nat.zero_le _, rfl, fun x hx => (by simp at hx), hS, hI⟩
  case round =>
    clear hS hI
    obtain ⟨k, hk, rfl, hall, hS, hI⟩ := hrel
    by_cases hlt : k < xs.length
    · obtain ⟨x, hx⟩ : ∃ x, xs[k]? = some x := ⟨_, List.getElem?_eq_getElem hlt⟩
      have hx32 := ((Hmem.out x).1 (List.mem_of_getElem? hx)).1
      obtain ⟨_, _, e1, hcx⟩ := id hI
      injection e1 with e1 _ e2
      subst e1 e2
      obtain ⟨g, rfl, hc⟩ := hcx k x hx
      have hX : S2x N w la ca lb cb (.slice (some ⟨g, 0, none⟩) xs.length cap) xs g k x wr := ⟨hS, hI, hc⟩
      have Hx := Lib.hid hx
      clear hcx hx hc hS hI
      have b1 : (0 : Int) ≤ (k : Int) := by omega
      have b3 : IntKind.i64.wrap (k : Int) = (k : Int) := IntWalk.i64_in _ (by omega)
      go_wp2_with fail
      go_region_held3 (fun w' => S2x N w la ca lb cb (.slice (some ⟨g, 0, none⟩) xs.length cap) xs g k x w') (first | assumption | exact S2x.drew (by assumption) | exact S2x.keep (by assumption) hb)
        (first
          | (go_at_call 63; refine (rteams_ints lb cb hb0 hb1 _).mono ?_; rintro e w' ⟨vb, rfl, hIb, hb⟩)
          | (go_at_call 64; refine (rhas_any vb (tms cb 32) x (by have := tms_le cb 32; omega) _ hIb).mono ?_; rw [has_bit _ _ hx32]; rintro e w' ⟨rfl, rfl⟩))
      have hHeld := ‹S2x N w la ca lb cb _ xs g k x _›
      cases ht : cb.toNat.testBit x
      · have Hno := Lib.hid (flB_no (la := la) (lb := lb) (show subB ca cb = false by
          cases h : subB ca cb
          · rfl
          · have := hsub.out.1 h x (List.mem_of_getElem? Hx.out)
            rw [ht] at this
            cases this))
        clear ht
        go_wp2
        go_ret
        exact ⟨ret_bool (by rw [Hno.out]), by rw [HN.out]; exact hHeld.1.1⟩
      · have Hht := Lib.hid ht
        clear ht
        go_wp2
        go_roundw
        case rel => exact ⟨k + 1, hlt, by go_num, fun y hy => (by
          rw [List.take_add_one, Hx.out] at hy
          rcases List.mem_append.1 hy with h | h
          · exact hall y h
          · simp at h; subst h; exact Hht.out), hHeld.1, hHeld.2.1⟩
        case measure => simp [intOf]; omega
    · obtain rfl : k = xs.length := by omega
      have Hs := Lib.hid (hsub.out.2 (fun x hx => hall x (by rw [List.take_length]; exact hx)))
      have Hf := Lib.hid (show flB la ca lb cb = (rB la && (rB lb && decide (la ≤ lb))) by unfold flB; rw [Hs.out, Bool.and_true])
      go_wp2_with fail
      refine (rright_any _ _ _).mono ?_
      rintro e w2 ⟨rfl, hb⟩
      replace hS := hS.keep hb
      clear hb hI Hs hall
      cases hra : rB la
      · rw [hra, Bool.false_and] at Hf
        go_wp2
        go_ret
        exact ⟨ret_bool (by rw [Hf.out]), by rw [HN.out]; exact hS.1⟩
      · rw [hra, Bool.true_and] at Hf
        obtain ⟨hB, hsz, a0, a1, b0, b1⟩ := hS
        go_wp2_with fail
        refine (rright_any _ _ _).mono ?_
        rintro e w3 ⟨rfl, hb⟩
        have hS := S2.keep (w1 := w2) ⟨hB, hsz, a0, a1, b0, b1⟩ hb
        clear hb hB hsz a0 a1 b0 b1
        cases hrb : rB lb
        · rw [hrb, Bool.false_and] at Hf
          go_wp2
          go_ret
          exact ⟨ret_bool (by rw [Hf.out]), by rw [HN.out]; exact hS.1⟩
        · rw [hrb, Bool.true_and] at Hf
          obtain ⟨hB, hsz, a0, a1, b0, b1⟩ := hS
          go_wp2
          go_ret
          exact ⟨ret_bool (by rw [Hf.out]), by rw [HN.out]; exact hB⟩
end Go.Proofs.YtknhkmlihbgjpaaDoor.Lb
