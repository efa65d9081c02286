/- The document's own: a label of teams, and whether two lists are the same: what each call returns. -/
import Derived.Test.YtkmbllnnaljepaaDoorAbove
import Derived.Test.YtkmbllnnaljepaaDoorPair
namespace Go.Proofs.YtkmbllnnaljepaaDoor
open Go.ChangeShapes Go.WideShapes Go.RowKit

/-- The number whose bits are xs. -/
def catsOf (xs : List Nat) : Nat := (xs.map (2 ^ ·)).sum
theorem catsOf_snoc (xs : List Nat) (x : Nat) : catsOf (xs ++ [x]) = catsOf xs + 2 ^ x := by simp [catsOf, List.sum_append]
theorem catsOf_take_le (xs : List Nat) (k : Nat) : catsOf (xs.take k) ≤ catsOf xs := by
  have h : catsOf xs = catsOf (xs.take k) + catsOf (xs.drop k) := by
    unfold catsOf
    rw [← List.sum_append, ← List.map_append, List.take_append_drop]
  omega
theorem catsOf_tms (c : Int) (k : Nat) : catsOf (tms c k) = c.toNat % 2 ^ k := by
  induction k with
  | zero => simp [catsOf, tms, Nat.mod_one]
  | succ k ih =>
    rw [Nat.pow_succ, Nat.mod_mul]
    cases h : c.toNat.testBit k
    · rw [tms_miss c k h, ih]
      rw [Nat.testBit_eq_decide_div_mod_eq, decide_eq_false_iff_not] at h
      have : c.toNat / 2 ^ k % 2 = 0 := by omega
      rw [this]; simp
    · rw [tms_hit c k h, catsOf_snoc, ih]
      rw [Nat.testBit_eq_decide_div_mod_eq, decide_eq_true_iff] at h
      rw [h]; simp
theorem catsOf_all (c : Int) (h0 : 0 ≤ c) (h1 : c < 4294967296) : ((catsOf (tms c 32) : Nat) : Int) = c := by
  rw [catsOf_tms, Nat.mod_eq_of_lt (by omega)]
  omega

set_option maxHeartbeats 400000 in
theorem same_nil (a b : Option Addr) (p q : Nat) (w : World) :
    Calls Tryd.prog 20 #[.slice a 0 p, .slice b 0 q] w fun e w' => e = .returned (.bool true) ∧ ∃ m, w' = w.drewN m := by
  go_enter Tryd.func20, Tryd.ntmps20
  go_wp2
  go_loopw [5] (fun i wr => i = .int .i64 0 ∧ ∃ m, wr = w.drewN m) (fun _ _ => 0)
  case atStart => exact ⟨rfl, 0, rfl⟩
  case round =>
    obtain ⟨rfl, hm⟩ := hrel
    go_wp2
    go_ret
    exact ⟨rfl, hm⟩

set_option maxHeartbeats 400000 in
theorem same_some (g h p q : Nat) (xs : List Nat) (hn : xs.length ≤ 1000000) (w : World) (hg : ∀ (j x : Nat), xs[j]? = some x → w.cell? ⟨g, j, none⟩ = some (.int .i64 (x : Int))) (hh : ∀ (j x : Nat), xs[j]? = some x → w.cell? ⟨h, j, none⟩ = some (.int .i64 (x : Int))) :
    Calls Tryd.prog 20 #[.slice (some ⟨g, 0, none⟩) xs.length p, .slice (some ⟨h, 0, none⟩) xs.length q] w fun e w' => e = .returned (.bool true) ∧ ∃ m, w' = w.drewN m := by
  have Hg := Lib.hid hg
  have Hh := Lib.hid hh
  clear hg hh
  go_enter Tryd.func20, Tryd.ntmps20
  go_wp2
  go_loopw [5] (fun i wr => ∃ n : Nat, n ≤ xs.length ∧ i = .int .i64 n ∧ ∃ m, wr = w.drewN m) (fun i _ => xs.length - (intOf i).toNat)
  case atStart => exact ⟨0, Nat.zero_le _, rfl, 0, rfl⟩
  case round =>
    obtain ⟨n, hle, rfl, m, rfl⟩ := hrel
    by_cases hlt : n < xs.length
    · obtain ⟨x, hx⟩ : ∃ x, xs[n]? = some x := ⟨_, List.getElem?_eq_getElem hlt⟩
      have c0 := Hg.out n x hx
      have c1 := Hh.out n x hx
      clear hx
      have b1 : (0 : Int) ≤ (n : Int) := by omega
      have b3 : IntKind.i64.wrap (n : Int) = (n : Int) := IntWalk.i64_in _ (by omega)
      go_wp2_with fail
      go_quiet (fail)
      go_wp2
      go_roundw
      case rel => exact ⟨n + 1, hlt, by go_num, _, rfl⟩
      case measure => simp [intOf]; omega
    · obtain rfl : n = xs.length := by omega
      go_wp2
      go_ret
      exact ⟨rfl, m, rfl⟩

theorem same_any (u v : Value) (xs : List Nat) (hn : xs.length ≤ 1000000) (w : World) (hu : IntsAt w u xs) (hv : IntsAt w v xs) :
    Calls Tryd.prog 20 #[u, v] w fun e w' => e = .returned (.bool true) ∧ ∃ m, w' = w.drewN m := by
  by_cases h : xs = []
  · subst h
    obtain ⟨a, p, rfl⟩ := hu.nil
    obtain ⟨b, q, rfl⟩ := hv.nil
    exact same_nil a b p q w
  · obtain ⟨g, p, rfl, hg⟩ := hu.block h
    obtain ⟨k, q, rfl, hk⟩ := hv.block h
    exact same_some g k p q xs hn w hg hk
theorem LabU.cat {w : World} {g : Nat} {l c : Int} (h : LabU w g l c) (d : Int) : LabU (w.setCell ⟨g, 1, none⟩ (.int .u32 d)) g l d := by
  obtain ⟨h0, h1, h2, h3⟩ := h
  refine ⟨?_, ?_, ?_, ?_⟩
  · rw [World.cell?_setCell_other _ _ _ _ (by simp)]; exact h0
  · exact World.cell?_setCell_same' _ _ _ (by rw [h1]; rfl)
  · rw [World.frozen?_setCell]; exact h2
  · rw [World.frozen?_setCell]; exact h3
theorem LabU.far1 {w : World} {g x : Nat} {l c : Int} (h : LabU w x l c) (hgx : g ≠ x) (o : Nat) (v : Value) : LabU (w.setCell ⟨g, o, none⟩ v) x l c := by
  obtain ⟨h0, h1, h2, h3⟩ := h
  refine ⟨?_, ?_, ?_, ?_⟩
  · rw [cell_set_far (by simpa using hgx)]; exact h0
  · rw [cell_set_far (by simpa using hgx)]; exact h1
  · rw [World.frozen?_setCell]; exact h2
  · rw [World.frozen?_setCell]; exact h3
theorem pow_step {k : Nat} (hk : k + 1 < 32) : ((2 ^ k : Nat) : Int) * 2 % 4294967296 = ((2 ^ (k + 1) : Nat) : Int) := by
  have h := two_pow_lt hk
  rw [Nat.pow_succ] at h ⊢
  generalize (2 : Nat) ^ k = m at *
  omega

set_option maxHeartbeats 800000 in
set_option maxRecDepth 100000 in
theorem of_some (l : Int) (g cap : Nat) (xs : List Nat) (hx : ∀ x ∈ xs, x < 32) (hs : catsOf xs < 4294967296) (hn : xs.length ≤ 32) (w : World) (hc : ∀ (j x : Nat), xs[j]? = some x → w.cell? ⟨g, j, none⟩ = some (.int .i64 (x : Int))) :
    Calls Tryd.prog 32 #[.int .i64 l, .slice (some ⟨g, 0, none⟩) xs.length cap] w fun e w' => e = .returned (.agg #[.int .i64 l, .int .u32 ((catsOf xs : Nat) : Int)]) ∧ Below w.heap.size w w' := by
  have Hc := Lib.hid hc
  have Hx := Lib.hid hx
  have Hs := Lib.hid hs
  clear hc hx hs
  have hu := (LabU.one w 0 0).later (.cells #[.int .i64 l, .int .u32 0] 24)
  have ha := LabU.one (w.alloc (.cells #[.int .i64 0, .int .u32 0] 24)) l 0
  simp only [World.size_alloc] at ha
  have hB := ((Below.refl w.heap.size w).alloc (Nat.le_refl _) (.cells #[.int .i64 0, .int .u32 0] 24)).alloc (by simp) (.cells #[.int .i64 l, .int .u32 0] 24)
  go_enter Tryd.func32, Tryd.ntmps32
  go_wp2
  go_loopw [6] (fun i wr => ∃ n s : Nat, n ≤ xs.length ∧ i = .int .i64 n ∧ Hid (s = catsOf (xs.take n)) ∧ LabU wr (w.heap.size + 1) l (s : Int) ∧ LabU wr w.heap.size 0 0 ∧ Below w.heap.size w wr) (fun i _ => xs.length - (intOf i).toNat)
  case atStart => exact ⟨0, 0, Nat.zero_le _, rfl, rfl, ha, hu, hB⟩
  case round =>
    clear hu ha hB
    obtain ⟨n, s, hle, rfl, hs, ha, hu, hB⟩ := hrel
    by_cases hlt : n < xs.length
    · obtain ⟨x, hx⟩ : ∃ x, xs[n]? = some x := ⟨_, List.getElem?_eq_getElem hlt⟩
      have c0 := Below.keeps hB (Hc.out n x hx)
      have hx32 := Hx.out x (List.mem_of_getElem? hx)
      have Hn := Lib.hid (show catsOf (xs.take (n + 1)) = s + 2 ^ x by rw [List.take_add_one, hx, hs.out]; exact catsOf_snoc _ _)
      have Hb := Lib.hid (show s + 2 ^ x < 4294967296 by have h1 := catsOf_take_le xs (n + 1); rw [Hn.out] at h1; have := Hs.out; omega)
      have Ha := Lib.hid ha
      have Hu := Lib.hid hu
      clear hx ha hu
      go_wp2
      go_loop [7, 8] (fun b i => ∃ k : Nat, k ≤ x ∧ i = .int .i64 k ∧ b = .int .u32 ((2 ^ k : Nat) : Int)) (fun _ i => x - (intOf i).toNat)
      case atStart => exact ⟨0, Nat.zero_le _, rfl, rfl⟩
      case round =>
        obtain ⟨k, hk, rfl, rfl⟩ := hrel
        by_cases hkx : k < x
        · have hp := pow_step (k := k) (by omega)
          go_wp2
          go_round
          case rel => exact ⟨k + 1, hkx, by go_num, by rw [← hp]; simp⟩
          case measure => simp [intOf]; omega
        · obtain rfl : k = x := by omega
          obtain ⟨a0, a1, a2, a3⟩ := Ha.out
          go_wp2
          have hv : ((s : Int) + 2 ^ k) % 4294967296 = ((s + 2 ^ k : Nat) : Int) := by
            have h1 := Hb.out
            have h2 : ((2 : Int) ^ k) = ((2 ^ k : Nat) : Int) := by simp
            rw [h2]
            generalize (2 : Nat) ^ k = m at *
            omega
          rw [hv]
          exact ⟨⟨n + 1, s + 2 ^ k, hlt, by go_num, Hn.out.symm, Ha.out.cat _, Hu.out.far1 (by omega) _ _, hB.setCell (p := ⟨w.heap.size + 1, 1, none⟩) (by simp) _⟩, by simp [intOf]; omega⟩
    · obtain rfl : n = xs.length := by omega
      have Hs1 := Lib.hid (show s = catsOf xs by rw [hs.out, List.take_length])
      have hlt3 : w.heap.size < wr.heap.size := World.block_lt_of_cell? _ _ hu.1
      have hU3 := hu.put l (s : Int)
      obtain ⟨j0, j1, j2, j3⟩ := ha
      obtain ⟨u0, u1, u2, u3⟩ := hu
      go_wp2
      obtain ⟨v0, v1, _, _⟩ := hU3
      exact bodyPost_ret (v := .agg #[.int .i64 l, .int .u32 (s : Int)]) (by simp [results, Tryd.results32, go_sem, v0, v1]) rfl ⟨by rw [Hs1.out], (hB.setCell (p := ⟨w.heap.size, 0, none⟩) (by simp) _).setCell (p := ⟨w.heap.size, 1, none⟩) (by simp) _⟩

set_option maxHeartbeats 800000 in
set_option maxRecDepth 100000 in
theorem of_nil (l : Int) (a : Option Addr) (cap : Nat) (w : World) :
    Calls Tryd.prog 32 #[.int .i64 l, .slice a 0 cap] w fun e w' => e = .returned (.agg #[.int .i64 l, .int .u32 0]) ∧ Below w.heap.size w w' := by
  have hu := (LabU.one w 0 0).later (.cells #[.int .i64 l, .int .u32 0] 24)
  have ha := LabU.one (w.alloc (.cells #[.int .i64 0, .int .u32 0] 24)) l 0
  simp only [World.size_alloc] at ha
  have hB := ((Below.refl w.heap.size w).alloc (Nat.le_refl _) (.cells #[.int .i64 0, .int .u32 0] 24)).alloc (by simp) (.cells #[.int .i64 l, .int .u32 0] 24)
  go_enter Tryd.func32, Tryd.ntmps32
  go_wp2
  go_loopw [6] (fun i wr => i = .int .i64 0 ∧ LabU wr (w.heap.size + 1) l 0 ∧ LabU wr w.heap.size 0 0 ∧ Below w.heap.size w wr) (fun _ _ => 0)
  case atStart => exact ⟨rfl, ha, hu, hB⟩
  case round =>
    clear hu ha hB
    obtain ⟨rfl, ha, hu, hB⟩ := hrel
    have hlt3 : w.heap.size < wr.heap.size := World.block_lt_of_cell? _ _ hu.1
    have hU3 := hu.put l 0
    obtain ⟨j0, j1, j2, j3⟩ := ha
    obtain ⟨u0, u1, u2, u3⟩ := hu
    go_wp2
    obtain ⟨v0, v1, _, _⟩ := hU3
    exact bodyPost_ret (v := .agg #[.int .i64 l, .int .u32 0]) (by simp [results, Tryd.results32, go_sem, v0, v1]) rfl ⟨rfl, (hB.setCell (p := ⟨w.heap.size, 0, none⟩) (by simp) _).setCell (p := ⟨w.heap.size, 1, none⟩) (by simp) _⟩
theorem of_any (l : Int) (v : Value) (xs : List Nat) (hx : ∀ x ∈ xs, x < 32) (hs : catsOf xs < 4294967296) (hn : xs.length ≤ 32) (w : World) (hI : IntsAt w v xs) :
    Calls Tryd.prog 32 #[.int .i64 l, v] w fun e w' => e = .returned (.agg #[.int .i64 l, .int .u32 ((catsOf xs : Nat) : Int)]) ∧ Below w.heap.size w w' := by
  by_cases h : xs = []
  · subst h
    obtain ⟨a, p, rfl⟩ := hI.nil
    exact of_nil l a p w
  · obtain ⟨g, p, rfl, hg⟩ := hI.block h
    exact of_some l g p xs hx hs hn w hg
end Go.Proofs.YtkmbllnnaljepaaDoor
