/- The document's own digest. -/
import Derived.Test.YtknhkmlihbgjpaaDoorDG
import Derived.Deep.AppendLies
import Derived.Deep.RegionHeld3
import Derived.Deep.DrawnRows
import Derived.RegionTactic
namespace Go.Proofs.YtknhkmlihbgjpaaDoor.Dg
open Go.ChangeShapes Go.WideShapes Go.RowKit

/-- A word, turned right n times by one place. -/
def trN (x : Nat) : Nat → Nat
  | 0 => x
  | n + 1 => trN x n / 2 + trN x n % 2 * 2147483648
theorem trN_u {x : Nat} (h : U32 x) (n : Nat) : U32 (trN x n) := by
  induction n with
  | zero => exact h
  | succ n ih => unfold U32 at *; rw [trN]; omega
theorem trN_is (x n : Nat) (hn : n ≤ 32) : trN x n = (x % 2 ^ n) * 2 ^ (32 - n) + x / 2 ^ n := by
  induction n with
  | zero => simp [trN, Nat.mod_one]
  | succ n ih =>
    rw [trN, ih (by omega)]
    obtain ⟨k, hk⟩ : ∃ k, 32 - n = k + 1 := ⟨31 - n, by omega⟩
    have hk2 : 32 - (n + 1) = k := by omega
    have hp : (2 : Nat) ^ n * 2 ^ k = 2147483648 := by
      rw [← Nat.pow_add, show n + k = 31 by omega]
    have e1 : x / 2 ^ (n + 1) = x / 2 ^ n / 2 := by rw [Nat.pow_succ, Nat.div_div_eq_div_mul]
    have e2 : x % 2 ^ (n + 1) = x % 2 ^ n + 2 ^ n * (x / 2 ^ n % 2) := by rw [Nat.pow_succ, Nat.mod_mul]
    rw [hk, hk2, e1, e2, Nat.pow_succ, Nat.add_mul, ← Nat.mul_assoc]
    generalize x / 2 ^ n = q
    have e3 : 2 ^ n * (q % 2) * 2 ^ k = q % 2 * 2147483648 := by rw [Nat.mul_right_comm, hp, Nat.mul_comm]
    rw [e3]
    generalize x % 2 ^ n * 2 ^ k = r
    omega
theorem rrN_is (x a : Nat) (ha : a ≤ 32) (hx : U32 x) : rrN x a = (x % 2 ^ a) * 2 ^ (32 - a) + x / 2 ^ a := by
  unfold rrN U32 at *
  have hp : (2 : Nat) ^ a * 2 ^ (32 - a) = 4294967296 := by rw [← Nat.pow_add, show a + (32 - a) = 32 by omega]
  have e1 : x * 2 ^ (32 - a) % 4294967296 = (x % 2 ^ a) * 2 ^ (32 - a) := by rw [← hp, Nat.mul_mod_mul_right]
  rw [e1, nat_join (32 - a) _ _ (Nat.mul_mod_left _ _)]
  rw [Nat.div_lt_iff_lt_mul (Nat.two_pow_pos a), Nat.mul_comm, hp]
  exact hx
theorem trN_rrN {x n : Nat} (hn : n ≤ 32) (hx : U32 x) : trN x n = rrN x n := by rw [trN_is x n hn, rrN_is x n hn hx]

set_option maxHeartbeats 400000 in
theorem turn_any (x n : Nat) (hn : n ≤ 32) (hx : U32 x) (w : World) :
    Calls Tryd.prog 83 #[.int .u32 (x : Int), .int .i64 (n : Int)] w fun e w' => e = .returned (.int .u32 (rrN x n : Int)) ∧ w' = w := by
  have Hr : Unit → trN x n = rrN x n := fun _ => trN_rrN hn hx
  have Hu : Unit → ∀ k, U32 (trN x k) := fun _ => trN_u hx
  clear hx
  go_enter Tryd.func83, Tryd.ntmps83
  go_wp2
  go_loop [0, 5] (fun y i => ∃ k : Nat, k ≤ n ∧ y = .int .u32 (trN x k : Int) ∧ i = .int .i64 (k : Int)) (fun _ i => n - (intOf i).toNat)
  case atStart => exact ⟨0, by omega, rfl, rfl⟩
  case round =>
    obtain ⟨k, hk, rfl, rfl⟩ := hrel
    by_cases hlt : k < n
    · have hu := Hu () k
      have Hn : Unit → trN x (k + 1) = trN x k / 2 + trN x k % 2 * 2147483648 := fun _ => rfl
      generalize trN x k = y at *
      have hy : y < 4294967296 := hu
      obtain ⟨q, hq⟩ : ∃ q, q = y / 2 := ⟨_, rfl⟩
      obtain ⟨r, hr⟩ : ∃ r, r = y % 2 := ⟨_, rfl⟩
      have e1 : (y : Int).tdiv 2 = (q : Int) := by rw [hq]; rfl
      have e2 : (y : Int).tmod 2 = (r : Int) := by rw [hr]; rfl
      have e1' : (y : Int) / 2 = (q : Int) := by rw [hq]; rfl
      have e2' : (y : Int) % 2 = (r : Int) := by rw [hr]; rfl
      have hq1 : q < 2147483648 := by omega
      have hr1 : r < 2 := by omega
      rw [← hq, ← hr] at Hn
      clear hu hy hq hr
      have w1 : IntKind.u32.wrap (q : Int) = (q : Int) := by rw [IntKind.wrap_u32']; omega
      have w2 : IntKind.u32.wrap ((r : Int) * 2147483648) = (r : Int) * 2147483648 := by rw [IntKind.wrap_u32']; omega
      have w3 : IntKind.u32.wrap ((q : Int) + (r : Int) * 2147483648) = (q : Int) + (r : Int) * 2147483648 := by rw [IntKind.wrap_u32']; omega
      go_wp2
      go_round
      case rel => exact ⟨k + 1, by omega, by rw [Hn ()]; simp; try omega, by go_num⟩
      case measure => simp [intOf]; omega
    · obtain rfl : k = n := by omega
      rw [Hr ()]
      go_wp2
      go_ret
      exact ⟨rfl, rfl⟩

/-- A whole array is built. -/
theorem build_arr {P : Program} {ops : Array Oper} {rest : List Oper} {o : Oper} {a : Act} {w : World} {Q : Exit → Act → World → Prop} (cs : List Value) (t : TypeId) (parts : Array (Nat × Operand)) (hgd : o.guard = none) (ho : o.op = .build t parts)
    (hb : P.built t (parts.map fun (i, x) => (i, a.eval x)).toList = some cs.toArray)
    (h : wpList P ops Q rest (a.put o.dst (.agg cs.toArray)) w) : wpList P ops Q (o :: rest) a w :=
  wpList_build hgd t parts ho (by rw [hb]; rfl) (by rw [hb]; exact h)
set_option maxHeartbeats 400000 in
theorem rstart_any (w : World) :
    Calls Tryd.prog 72 #[] w fun e w' => e = .returned (.agg (startL.map v32).toArray) ∧ Below w.heap.size w w' := by
  have hs : (startL.map v32).length = 8 := rfl
  have h1 := one32 startL
  go_enter Tryd.func72, Tryd.ntmps72
  go_upto_region 1 with fail
  have r0 := Rw.new w 115 ((List.replicate 8 0).map v32)
  have hB := (Below.refl _ w).alloc (Nat.le_refl _) (.cells ((List.replicate 8 0).map v32).toArray 115)
  change Code.wp _ _ _ _ (w.alloc (.cells ((List.replicate 8 0).map v32).toArray 115))
  generalize w.alloc (.cells ((List.replicate 8 0).map v32).toArray 115) = W at *
  go_wp2_with (first
    | (refine build_arr (startL.map v32) 115 _ rfl rfl (by kernel_rfl) ?_)
    | (refine store_arr _ _ _ r0 8 rfl 115 (by kernel_rfl) (startL.map v32) hs h1 _ _ rfl rfl rfl rfl ?_))
  refine ret_arr w.heap.size 115 _ (r0.row _) 8 hs 23 (by kernel_rfl) (by kernel_rfl) (by rfl) rfl rfl ?_
  exact ⟨rfl, below_setRow hB (Nat.le_refl _) _⟩
set_option maxHeartbeats 400000 in
theorem rkeys_any (w : World) :
    Calls Tryd.prog 73 #[] w fun e w' => e = .returned (.agg (keyL.map v32).toArray) ∧ Below w.heap.size w w' := by
  have hs : (keyL.map v32).length = 64 := rfl
  have h1 := one32 keyL
  go_enter Tryd.func73, Tryd.ntmps73
  go_upto_region 1 with fail
  have r0 := Rw.new w 117 ((List.replicate 64 0).map v32)
  have hB := (Below.refl _ w).alloc (Nat.le_refl _) (.cells ((List.replicate 64 0).map v32).toArray 117)
  change Code.wp _ _ _ _ (w.alloc (.cells ((List.replicate 64 0).map v32).toArray 117))
  generalize w.alloc (.cells ((List.replicate 64 0).map v32).toArray 117) = W at *
  go_wp2_with (first
    | (refine build_arr (keyL.map v32) 117 _ rfl rfl (by kernel_rfl) ?_)
    | (refine store_arr _ _ _ r0 64 rfl 117 (by kernel_rfl) (keyL.map v32) hs h1 _ _ rfl rfl rfl rfl ?_))
  refine ret_arr w.heap.size 117 _ (r0.row _) 64 hs 23 (by kernel_rfl) (by kernel_rfl) (by rfl) rfl rfl ?_
  exact ⟨rfl, below_setRow hB (Nat.le_refl _) _⟩

theorem turn_2 (x : Nat) (hx : U32 x) (w : World) : Calls Tryd.prog 83 #[.int .u32 (x : Int), .int .i64 2] w fun e w' => e = .returned (.int .u32 (rrN x 2 : Int)) ∧ w' = w := turn_any x 2 (by omega) hx w
theorem turn_6 (x : Nat) (hx : U32 x) (w : World) : Calls Tryd.prog 83 #[.int .u32 (x : Int), .int .i64 6] w fun e w' => e = .returned (.int .u32 (rrN x 6 : Int)) ∧ w' = w := turn_any x 6 (by omega) hx w
theorem turn_7 (x : Nat) (hx : U32 x) (w : World) : Calls Tryd.prog 83 #[.int .u32 (x : Int), .int .i64 7] w fun e w' => e = .returned (.int .u32 (rrN x 7 : Int)) ∧ w' = w := turn_any x 7 (by omega) hx w
theorem turn_11 (x : Nat) (hx : U32 x) (w : World) : Calls Tryd.prog 83 #[.int .u32 (x : Int), .int .i64 11] w fun e w' => e = .returned (.int .u32 (rrN x 11 : Int)) ∧ w' = w := turn_any x 11 (by omega) hx w
theorem turn_13 (x : Nat) (hx : U32 x) (w : World) : Calls Tryd.prog 83 #[.int .u32 (x : Int), .int .i64 13] w fun e w' => e = .returned (.int .u32 (rrN x 13 : Int)) ∧ w' = w := turn_any x 13 (by omega) hx w
theorem turn_17 (x : Nat) (hx : U32 x) (w : World) : Calls Tryd.prog 83 #[.int .u32 (x : Int), .int .i64 17] w fun e w' => e = .returned (.int .u32 (rrN x 17 : Int)) ∧ w' = w := turn_any x 17 (by omega) hx w
theorem turn_18 (x : Nat) (hx : U32 x) (w : World) : Calls Tryd.prog 83 #[.int .u32 (x : Int), .int .i64 18] w fun e w' => e = .returned (.int .u32 (rrN x 18 : Int)) ∧ w' = w := turn_any x 18 (by omega) hx w
theorem turn_19 (x : Nat) (hx : U32 x) (w : World) : Calls Tryd.prog 83 #[.int .u32 (x : Int), .int .i64 19] w fun e w' => e = .returned (.int .u32 (rrN x 19 : Int)) ∧ w' = w := turn_any x 19 (by omega) hx w
theorem turn_22 (x : Nat) (hx : U32 x) (w : World) : Calls Tryd.prog 83 #[.int .u32 (x : Int), .int .i64 22] w fun e w' => e = .returned (.int .u32 (rrN x 22 : Int)) ∧ w' = w := turn_any x 22 (by omega) hx w
theorem turn_25 (x : Nat) (hx : U32 x) (w : World) : Calls Tryd.prog 83 #[.int .u32 (x : Int), .int .i64 25] w fun e w' => e = .returned (.int .u32 (rrN x 25 : Int)) ∧ w' = w := turn_any x 25 (by omega) hx w
theorem s1_zero (bl : List Nat) (k j : Nat) (hk : k ≤ j) (hj : j < 64) : (s1 bl k)[j]? = some 0 := by
  induction k with
  | zero => rw [s1, List.getElem?_replicate, if_pos hj]
  | succ k ih => rw [s1, List.getElem?_set_ne (by omega)]; exact ih (by omega)
/-- The number of t bytes, the highest first. -/
def pwd (l : List Nat) (j : Nat) : Nat → Nat
  | 0 => 0
  | t + 1 => pwd l j t * 256 + l[j + t]?.getD 0
theorem pwd_lt {l : List Nat} (h : ∀ x ∈ l, U8 x) (j : Nat) (t : Nat) (ht : t ≤ 4) : pwd l j t < 256 ^ t ∧ pwd l j t < 4294967296 := by
  have key : ∀ t, pwd l j t < 256 ^ t := by
    intro t
    induction t with
    | zero => simp [pwd]
    | succ t ih =>
      have := u8_get h (j + t)
      unfold U8 at this
      rw [pwd, Nat.pow_succ]; omega
  refine ⟨key t, Nat.lt_of_lt_of_le (key t) ?_⟩
  exact Nat.le_trans (Nat.pow_le_pow_right (by omega) ht) (by decide)
theorem pwd4 (l : List Nat) (j : Nat) : pwd l j 4 = wd (l[j]?.getD 0) (l[j + 1]?.getD 0) (l[j + 2]?.getD 0) (l[j + 3]?.getD 0) := by simp only [pwd, wd, Nat.add_zero]; omega
/-- The words, k of them laid and t bytes of the next. -/
def sp (bl : List Nat) (k t : Nat) : List Nat := (s1 bl k).set k (pwd bl (4 * k) t)
theorem sp_zero (bl : List Nat) (k : Nat) (hk : k < 64) : sp bl k 0 = s1 bl k := by
  unfold sp
  rw [pwd]
  apply List.ext_getElem?
  intro i
  by_cases h : k = i
  · subst h; rw [List.getElem?_set_self (by rw [s1_len]; exact hk), s1_zero bl k k (Nat.le_refl _) hk]
  · rw [List.getElem?_set_ne h]
theorem sp_four (bl : List Nat) (k : Nat) : sp bl k 4 = s1 bl (k + 1) := by unfold sp; rw [pwd4]; rfl
theorem sp_len (bl : List Nat) (k t : Nat) : (sp bl k t).length = 64 := by unfold sp; rw [List.length_set, s1_len]
theorem sp_at (bl : List Nat) (k t : Nat) (hk : k < 64) : (sp bl k t)[k]? = some (pwd bl (4 * k) t) := by unfold sp; rw [List.getElem?_set_self (by rw [s1_len]; exact hk)]
theorem sp_next (bl : List Nat) (k t : Nat) : sp bl k (t + 1) = (sp bl k t).set k (pwd bl (4 * k) t * 256 + bl[4 * k + t]?.getD 0) := by unfold sp; rw [List.set_set]; rfl

theorem not_xor {x : Nat} (h : U32 x) : 4294967295 - x = 4294967295 ^^^ x := by
  unfold U32 at h
  apply Nat.eq_of_testBit_eq
  intro i
  have h1 := Nat.testBit_two_pow_sub_succ (x := x) (n := 32) (by omega) i
  rw [show 2 ^ 32 - (x + 1) = 4294967295 - x by omega] at h1
  rw [h1, Nat.testBit_xor, show (4294967295 : Nat) = 2 ^ 32 - 1 by decide, Nat.testBit_two_pow_sub_one]
  by_cases hi : i < 32
  · simp [hi]
  · have : x.testBit i = false := Nat.testBit_lt_two_pow (Nat.lt_of_lt_of_le h (by have := Nat.pow_le_pow_right (n := 2) (by omega) (show 32 ≤ i by omega); omega))
    simp [hi, this]
/-- What a round reads, and nothing but draws since W. -/
def C9 (W : World) (v p q k a b c d e f g i y z : Nat) (w : World) : Prop := Drew W w ∧ (w.cell? ⟨v, 0, none⟩ = some (.int .u32 (a : Int)) ∧ w.cell? ⟨v, 1, none⟩ = some (.int .u32 (b : Int)) ∧ w.cell? ⟨v, 2, none⟩ = some (.int .u32 (c : Int)) ∧ w.cell? ⟨v, 3, none⟩ = some (.int .u32 (d : Int)) ∧
  w.cell? ⟨v, 4, none⟩ = some (.int .u32 (e : Int)) ∧ w.cell? ⟨v, 5, none⟩ = some (.int .u32 (f : Int)) ∧ w.cell? ⟨v, 6, none⟩ = some (.int .u32 (g : Int)) ∧ w.cell? ⟨v, 7, none⟩ = some (.int .u32 (i : Int)) ∧ w.cell? ⟨p, k, none⟩ = some (.int .u32 (y : Int)) ∧ w.cell? ⟨q, k, none⟩ = some (.int .u32 (z : Int)))
theorem list8_len (a b c d e f g i : Nat) : ([a, b, c, d, e, f, g, i].map v32).length = 8 := rfl
theorem ad8_comm {ws vs : List Nat} (h : ws.length = 8) (k : vs.length = 8) : ad8 vs ws 8 = ad8 ws vs 8 := by
  obtain ⟨a, b, c, d, e, f, g, i, rfl⟩ := list8 h
  obtain ⟨a', b', c', d', e', f', g', i', rfl⟩ := list8 k
  simp [ad8, Nat.add_comm]
/-- What lies in memory: the words, the keys, the result, the words of the rounds, the bytes. -/
def Rd (w : World) (N g o : Nat) (ws bl : List Nat) (Z : List Value) (pl : List Nat) (wr : World) : Prop :=
  Rw wr N 115 (ws.map v32) ∧ Rw wr (N + 1) 117 (keyL.map v32) ∧ Rw wr (N + 1 + 1) 115 Z ∧ Rw wr (N + 1 + 1 + 1) 117 (pl.map v32) ∧ Cls wr g o (bl.map v8) ∧ Below N w wr
theorem Rd.drew {w wr w' : World} {N g o : Nat} {ws bl pl : List Nat} {Z : List Value} (h : Rd w N g o ws bl Z pl wr) (hd : Drew wr w') (hN : N ≤ wr.heap.size) : Rd w N g o ws bl Z pl w' :=
  ⟨h.1.drew hd, h.2.1.drew hd, h.2.2.1.drew hd, h.2.2.2.1.drew hd, fun j v hv => by rw [hd.cell]; exact h.2.2.2.2.1 j v hv, h.2.2.2.2.2.trans (hd.below.mono hN)⟩
theorem Rd.set {w wr : World} {N g o : Nat} {ws bl pl : List Nat} {Z : List Value} (h : Rd w N g o ws bl Z pl wr) (hg : g < N) (i x : Nat) : Rd w N g o ws bl Z (pl.set i x) (wr.setCell ⟨N + 1 + 1 + 1, i, none⟩ (v32 x)) := by
  refine ⟨h.1.other (by omega) _ _, h.2.1.other (by omega) _ _, h.2.2.1.other (by omega) _ _, by rw [List.map_set]; exact h.2.2.2.1.setCell i (v32 x), fun j v hv => ?_, h.2.2.2.2.2.setCell (p := ⟨N + 1 + 1 + 1, i, none⟩) (by simp; omega) _⟩
  rw [World.cell?_setCell_other _ _ _ _ (by intro e; injection e; omega)]
  exact h.2.2.2.2.1 j v hv
theorem Rd.lt {w wr : World} {N g o : Nat} {ws bl pl : List Nat} {Z : List Value} (h : Rd w N g o ws bl Z pl wr) : N ≤ wr.heap.size := Nat.le_of_lt h.1.lt

set_option maxRecDepth 100000 in
set_option maxHeartbeats 3200000 in
theorem round_any (ws bl : List Nat) (hw : ws.length = 8) (hl : bl.length = 64) (uw : ∀ x ∈ ws, U32 x) (ub : ∀ x ∈ bl, U8 x) (g o cap : Nat) (w : World) (hg : Cls w g o (bl.map v8)) :
    Calls Tryd.prog 74 #[.agg (ws.map v32).toArray, .agg (keyL.map v32).toArray, .slice (some ⟨g, o, none⟩) 64 cap] w fun e w' => e = .returned (.agg ((mixN ws bl).map v32).toArray) ∧ Below w.heap.size w w' := by
  have hgN : g < w.heap.size := hg.lt (by intro e; rw [e] at hl; simp at hl)
  go_enter Tryd.func74, Tryd.ntmps74
  go_upto_region 2 with fail
  have r0 := (((Rw.new w 115 (ws.map v32)).past (.cells (keyL.map v32).toArray 117)).past (.cells ((List.replicate 8 0).map v32).toArray 115)).past (.cells ((List.replicate 64 0).map v32).toArray 117)
  have r1 := ((Rw.new (w.alloc (.cells (ws.map v32).toArray 115)) 117 (keyL.map v32)).past (.cells ((List.replicate 8 0).map v32).toArray 115)).past (.cells ((List.replicate 64 0).map v32).toArray 117)
  have r2 := (Rw.new ((w.alloc (.cells (ws.map v32).toArray 115)).alloc (.cells (keyL.map v32).toArray 117)) 115 ((List.replicate 8 0).map v32)).past (.cells ((List.replicate 64 0).map v32).toArray 117)
  have r3 := Rw.new (((w.alloc (.cells (ws.map v32).toArray 115)).alloc (.cells (keyL.map v32).toArray 117)).alloc (.cells ((List.replicate 8 0).map v32).toArray 115)) 117 ((List.replicate 64 0).map v32)
  have hB := ((((Below.refl _ w).alloc (Nat.le_refl _) (.cells (ws.map v32).toArray 115)).alloc (by simp) (.cells (keyL.map v32).toArray 117)).alloc (by simp; omega) (.cells ((List.replicate 8 0).map v32).toArray 115)).alloc (by simp; omega) (.cells ((List.replicate 64 0).map v32).toArray 117)
  simp only [World.size_alloc] at r1 r2 r3
  change Code.wp _ _ _ _ ((((w.alloc (.cells (ws.map v32).toArray 115)).alloc (.cells (keyL.map v32).toArray 117)).alloc (.cells ((List.replicate 8 0).map v32).toArray 115)).alloc (.cells ((List.replicate 64 0).map v32).toArray 117))
  generalize (((w.alloc (.cells (ws.map v32).toArray 115)).alloc (.cells (keyL.map v32).toArray 117)).alloc (.cells ((List.replicate 8 0).map v32).toArray 115)).alloc (.cells ((List.replicate 64 0).map v32).toArray 117) = W at *
  generalize hZ : (List.replicate 8 0).map v32 = Z at r2
  have HZ : Unit → Z.length = 8 := fun _ => by rw [← hZ]; rfl
  clear hZ
  have hR : Rd w w.heap.size g o ws bl Z (s1 bl 0) W := ⟨r0, r1, r2, r3, hg.keep hB, hB⟩
  clear r0 r1 r2 r3 hB hg
  generalize hN : w.heap.size = N at *
  have HN : Unit → w.heap.size = N := fun _ => hN
  clear hN
  generalize hK : (keyL.map v32).toArray = KK
  go_upto_region 3 with fail
  go_loopw [8] (fun i wr => ∃ k : Nat, k ≤ 16 ∧ i = .int .i64 (k : Int) ∧ Rd w N g o ws bl Z (s1 bl k) wr) (fun i _ => 16 - (intOf i).toNat)
  case atStart => exact ⟨0, by omega, rfl, hR⟩
  case round =>
    clear hR
    obtain ⟨k, hk, rfl, hR⟩ := hrel
    by_cases hlt : k < 16
    · go_upto_region 6 with fail
      try simp only [show ((k : Int) < 16) = True from eq_true (by omega), decide_true]
      go_loopw [9] (fun j wi => ∃ t : Nat, t ≤ 4 ∧ j = .int .i64 (t : Int) ∧ Rd w N g o ws bl Z (sp bl k t) wi) (fun j _ => 4 - (intOf j).toNat)
      case atStart => exact ⟨0, by omega, rfl, by rw [sp_zero bl k (by omega)]; exact hR⟩
      case round =>
        clear hR
        obtain ⟨t, ht, rfl, hR⟩ := hrel
        by_cases hlt2 : t < 4
        · obtain ⟨x, hx⟩ : ∃ x, bl[4 * k + t]? = some x := ⟨_, List.getElem?_eq_getElem (by omega)⟩
          have ux : x < 256 := ub x (List.mem_of_getElem? hx)
          have Hnx : Unit → sp bl k (t + 1) = (sp bl k t).set k (pwd bl (4 * k) t * 256 + x) := fun _ => by rw [sp_next, hx]; rfl
          have hp3 : pwd bl (4 * k) t < 16777216 := Nat.lt_of_lt_of_le (pwd_lt ub (4 * k) t (by omega)).1 (Nat.le_trans (Nat.pow_le_pow_right (by omega) (show t ≤ 3 by omega)) (by decide))
          have z0 := (hR.2.2.2.1.cell k).trans (at32 (sp_at bl k t (by omega)))
          have y0 := hR.2.2.2.1.frozen k
          have z1 : wr.cell? ⟨g, o + (4 * k + t), none⟩ = some (.int .u8 (x : Int)) := hR.2.2.2.2.1 (4 * k + t) (v8 x) (by simp [hx])
          generalize pwd bl (4 * k) t = P0 at *
          obtain ⟨j, hj⟩ : ∃ j, j = 4 * k + t := ⟨_, rfl⟩
          rw [← hj] at z1
          have hjl : (j : Int) < 64 := by omega
          have hjn : j < 64 := by omega
          have x1 : IntKind.i64.wrap (4 * (k : Int)) = 4 * (k : Int) := by simp [IntKind.wrap, IntKind.bits, IntKind.signed]; omega
          have x2 : IntKind.i64.wrap (4 * (k : Int) + (t : Int)) = (j : Int) := by rw [show 4 * (k : Int) + (t : Int) = (j : Int) by omega]; simp [IntKind.wrap, IntKind.bits, IntKind.signed]; omega
          have x3 : IntKind.u32.wrap (x : Int) = (x : Int) := by rw [IntKind.wrap_u32']; omega
          have x4 : IntKind.u32.wrap ((P0 : Int) * 256) = (P0 : Int) * 256 := by rw [IntKind.wrap_u32']; omega
          have x5 : IntKind.u32.wrap ((P0 : Int) * 256 + (x : Int)) = ((P0 * 256 + x : Nat) : Int) := by rw [IntKind.wrap_u32']; omega
          obtain ⟨P1, hP1⟩ : ∃ P1, P1 = P0 * 256 + x := ⟨_, rfl⟩
          rw [← hP1] at x5 Hnx
          have hkl : (k : Int) < 64 := by omega
          clear hj hP1 hx
          go_upto_region 8 with fail
          refine region_loose (fun _ w' => Drew wr w' ∧ w'.cell? ⟨N + 1 + 1 + 1, k, none⟩ = some (.int .u32 (P0 : Int)) ∧ w'.cell? ⟨g, o + j, none⟩ = some (.int .u8 (x : Int))) 14 14 2 #[true, true, true, true, true, true, true, true, true, true, true, true, true, true, false, false] rfl (by kernel_rfl) (by kernel_rfl) (by kernel_rfl) (⟨⟨_, rfl⟩, z0, z1⟩) ?_
          simp only [List.take_succ_cons, List.take_zero]
          repeat
            first
            | (refine loose_val (by decide) rfl ?_
               apply Exists.intro
               refine ⟨fun L' w' hw' => ?_, ?_⟩
               · obtain ⟨_, e0, e1⟩ := hw'
                 go_simp
                 first | done | rfl | exact ⟨rfl, rfl⟩
               simp only [Act.put, List.setIfInBounds_toArray, List.set_cons_zero, List.set_cons_succ])
            | (refine loose_call (by decide) rfl ?_
               apply Exists.intro
               apply Exists.intro
               refine ⟨fun w' => ?_, ?_⟩
               · go_simp
                 first | done | rfl | exact ⟨rfl, rfl⟩
               apply Exists.intro
               refine ⟨fun L' w' hw' => ?_, ?_⟩
               · first
                 | fail
               simp only [Act.put, List.setIfInBounds_toArray, List.set_cons_zero, List.set_cons_succ])
            | (refine loose_new (by decide) rfl (fun L' w' hw' => ?_) (fun v => ?_)
               · fail
               simp only [Act.put, List.setIfInBounds_toArray, List.set_cons_zero, List.set_cons_succ])
          intro w5 hw5
          obtain ⟨hdr, _⟩ := hw5
          replace hR := (hR.drew hdr hR.lt).set hgN k P1
          rw [← hdr.cell] at z0
          rw [← hdr.frozen] at y0
          rw [← Hnx ()] at hR
          clear hdr z1 x1 x2 x3 x4 x5
          refine wpAny_ready (rs := [14]) (by kernel_rfl) (by simp) ?_
          refine AllReady.cons rfl (fun K hK => ?_) AllReady.nil
          go_simp
          refine hK _ _ ?_
          clear hK K
          refine wpAny_ready (rs := [15]) (by kernel_rfl) (by simp) ?_
          refine AllReady.cons rfl (fun K hK => ?_) AllReady.nil
          go_simp
          refine hK _ _ ?_
          clear hK K
          refine wpAny_done (by kernel_rfl) ?_ _
          clear z0 y0
          go_wp2_with fail
          go_roundw
          case rel => exact ⟨t + 1, by omega, by go_num, hR⟩
          case measure => simp [intOf]; omega
        · obtain rfl : t = 4 := by omega
          rw [sp_four] at hR
          go_wp2_with fail
          go_roundw
          case rel => exact ⟨k + 1, by omega, by go_num, hR⟩
          case measure => simp [intOf]; omega
    · obtain rfl : k = 16 := by omega
      change Rd w N g o ws bl Z (s2 bl 0) wr at hR
      clear hk hlt
      try simp only [Int.cast_ofNat_Int]
      go_upto_region 10 with fail
      try simp only [Int.cast_ofNat_Int]
      go_loopw [10] (fun i wr => ∃ k j : Nat, k ≤ 48 ∧ Hid (j = k + 16) ∧ i = .int .i64 (j : Int) ∧ Rd w N g o ws bl Z (s2 bl k) wr) (fun i _ => 64 - (intOf i).toNat)
      case atStart => exact ⟨0, 16, by omega, rfl, rfl, hR⟩
      case round =>
        clear hR
        obtain ⟨k, i, hk, Hi, rfl, hR⟩ := hrel
        have hi := Hi.out
        by_cases hlt : k < 48
        · have hil : (i : Int) < 64 := by omega
          obtain ⟨a, ha⟩ : ∃ a, (s2 bl k)[k]? = some a := ⟨_, List.getElem?_eq_getElem (by rw [s2_len]; omega)⟩
          obtain ⟨b, hb'⟩ : ∃ b, (s2 bl k)[k + 1]? = some b := ⟨_, List.getElem?_eq_getElem (by rw [s2_len]; omega)⟩
          obtain ⟨c, hc⟩ : ∃ c, (s2 bl k)[k + 9]? = some c := ⟨_, List.getElem?_eq_getElem (by rw [s2_len]; omega)⟩
          obtain ⟨d, hd⟩ : ∃ d, (s2 bl k)[k + 14]? = some d := ⟨_, List.getElem?_eq_getElem (by rw [s2_len]; omega)⟩
          obtain ⟨y, hy⟩ : ∃ y, (s2 bl k)[i]? = some y := ⟨_, List.getElem?_eq_getElem (by rw [s2_len]; omega)⟩
          have ubb := s2_u ub k b (List.mem_of_getElem? hb')
          have ud := s2_u ub k d (List.mem_of_getElem? hd)
          have Hnx : Unit → nx (s2 bl k) k = (((a + shN b 7 18 3) % 4294967296 + c) % 4294967296 + shN d 17 19 10) % 4294967296 := fun _ => by unfold nx; rw [ha, hb', hc, hd]; rfl
          have K7 := Lib.hid (turn_7 b ubb)
          have K18 := Lib.hid (turn_18 b ubb)
          have K17 := Lib.hid (turn_17 d ud)
          have K19 := Lib.hid (turn_19 d ud)
          have xb1 := b_xor (rrN_u ubb (a := 7)) (rrN_u ubb (a := 18))
          have xb2 : bits .xor .u32 ((rrN b 7 ^^^ rrN b 18 : Nat) : Int) ((b / 8 : Nat) : Int) = (shN b 7 18 3 : Int) := b_xor ((rrN_u ubb).xor (rrN_u ubb)) (ubb.div 8)
          have xd1 := b_xor (rrN_u ud (a := 17)) (rrN_u ud (a := 19))
          have xd2 : bits .xor .u32 ((rrN d 17 ^^^ rrN d 19 : Nat) : Int) ((d / 1024 : Nat) : Int) = (shN d 17 19 10 : Int) := b_xor ((rrN_u ud).xor (rrN_u ud)) (ud.div 1024)
          obtain ⟨b8, hb8⟩ : ∃ b8, b8 = b / 8 := ⟨_, rfl⟩
          obtain ⟨d8, hd8⟩ : ∃ d8, d8 = d / 1024 := ⟨_, rfl⟩
          rw [← hb8] at xb2
          rw [← hd8] at xd2
          have q1 : (b : Int).tdiv 8 = (b8 : Int) := by rw [hb8]; rfl
          have q2 : (d : Int).tdiv 1024 = (d8 : Int) := by rw [hd8]; rfl
          have q1' : IntKind.u32.wrap (b8 : Int) = (b8 : Int) := by unfold U32 at ubb; rw [IntKind.wrap_u32']; omega
          have q2' : IntKind.u32.wrap (d8 : Int) = (d8 : Int) := by unfold U32 at ud; rw [IntKind.wrap_u32']; omega
          obtain ⟨k1, hk1⟩ : ∃ k1, k1 = k + 1 := ⟨_, rfl⟩
          obtain ⟨k9, hk9⟩ : ∃ k9, k9 = k + 9 := ⟨_, rfl⟩
          obtain ⟨k14, hk14⟩ : ∃ k14, k14 = k + 14 := ⟨_, rfl⟩
          have x0 : IntKind.i64.wrap ((i : Int) - 16) = (k : Int) := by rw [show (i : Int) - 16 = (k : Int) by omega]; simp [IntKind.wrap, IntKind.bits, IntKind.signed]; omega
          have x1 : IntKind.i64.wrap ((i : Int) - 15) = (k1 : Int) := by rw [show (i : Int) - 15 = (k1 : Int) by omega]; simp [IntKind.wrap, IntKind.bits, IntKind.signed]; omega
          have x9 : IntKind.i64.wrap ((i : Int) - 7) = (k9 : Int) := by rw [show (i : Int) - 7 = (k9 : Int) by omega]; simp [IntKind.wrap, IntKind.bits, IntKind.signed]; omega
          have x14 : IntKind.i64.wrap ((i : Int) - 2) = (k14 : Int) := by rw [show (i : Int) - 2 = (k14 : Int) by omega]; simp [IntKind.wrap, IntKind.bits, IntKind.signed]; omega
          have y0 : (k : Int) < 64 := by omega
          have y1 : (k1 : Int) < 64 := by omega
          have y9 : (k9 : Int) < 64 := by omega
          have y14 : (k14 : Int) < 64 := by omega
          have hca := (hR.2.2.2.1.cell k).trans (at32 ha)
          have hcb := (hR.2.2.2.1.cell (k + 1)).trans (at32 hb')
          have hcc := (hR.2.2.2.1.cell (k + 9)).trans (at32 hc)
          have hcd := (hR.2.2.2.1.cell (k + 14)).trans (at32 hd)
          have hcy := (hR.2.2.2.1.cell i).trans (at32 hy)
          rw [← hk1] at hcb
          rw [← hk9] at hcc
          rw [← hk14] at hcd
          have hfy := hR.2.2.2.1.frozen i
          clear ha hb' hc hd hy ubb ud hk1 hk9 hk14 hi hb8 hd8
          go_upto_region 12 with fail
          try simp only [List.append_eq, List.cons_append, List.nil_append]
          refine region_class (fun w' => C4 wr (N + 1 + 1 + 1) k k1 k9 k14 a b c d w') (by kernel_rfl) (by kernel_rfl) (⟨⟨_, rfl⟩, hca, hcb, hcc, hcd⟩) ?_
          repeat
            first
            | go_big_quiet_skip
            | (go_big_quiet_want
               refine quiet_val ?_
               apply Exists.intro
               refine ⟨fun w' hw' => ?_, ?_⟩
               · obtain ⟨_, e0, e1, e9, e14⟩ := hw'
                 go_simp
                 first | done | rfl | exact ⟨rfl, rfl⟩
               simp only [Act.put, List.setIfInBounds_toArray, List.set_cons_zero, List.set_cons_succ]
               go_big_quiet_on)
            | (go_big_quiet_want
               refine quiet_call ?_
               apply Exists.intro
               apply Exists.intro
               refine ⟨fun w' => ?_, ?_⟩
               · go_simp
                 first | done | rfl | exact ⟨rfl, rfl⟩
               apply Exists.intro
               refine ⟨fun w' hw' => ?_, ?_⟩
               · first
                 | (with_reducible refine (K7.out _).mono ?_); (rintro e w2 ⟨rfl, rfl⟩; exact ⟨rfl, hw'⟩)
                 | (with_reducible refine (K18.out _).mono ?_); (rintro e w2 ⟨rfl, rfl⟩; exact ⟨rfl, hw'⟩)
               simp only [Act.put, List.setIfInBounds_toArray, List.set_cons_zero, List.set_cons_succ]
               go_big_quiet_on)
          refine wpQuiet_nil ?_
          intro w5 hw5
          obtain ⟨hdr, p0, p1, p9, p14⟩ := hw5
          replace hR := hR.drew hdr hR.lt
          rw [← hdr.cell] at hcy
          rw [← hdr.frozen] at hfy
          clear hdr hca hcb hcc hcd K7 K18 xb1 xb2 q1 q1'
          obtain ⟨hca, hcb, hcc, hcd⟩ : _ ∧ _ ∧ _ ∧ _ := ⟨p0, p1, p9, p14⟩
          clear p0 p1 p9 p14
          go_upto_region 13 with fail
          try simp only [List.append_eq, List.cons_append, List.nil_append]
          refine region_class (fun w' => C4 w5 (N + 1 + 1 + 1) k k1 k9 k14 a b c d w') (by kernel_rfl) (by kernel_rfl) (⟨⟨_, rfl⟩, hca, hcb, hcc, hcd⟩) ?_
          repeat
            first
            | go_big_quiet_skip
            | (go_big_quiet_want
               refine quiet_val ?_
               apply Exists.intro
               refine ⟨fun w' hw' => ?_, ?_⟩
               · obtain ⟨_, e0, e1, e9, e14⟩ := hw'
                 go_simp
                 first | done | rfl | exact ⟨rfl, rfl⟩
               simp only [Act.put, List.setIfInBounds_toArray, List.set_cons_zero, List.set_cons_succ]
               go_big_quiet_on)
            | (go_big_quiet_want
               refine quiet_call ?_
               apply Exists.intro
               apply Exists.intro
               refine ⟨fun w' => ?_, ?_⟩
               · go_simp
                 first | done | rfl | exact ⟨rfl, rfl⟩
               apply Exists.intro
               refine ⟨fun w' hw' => ?_, ?_⟩
               · first
                 | (with_reducible refine (K17.out _).mono ?_); (rintro e w2 ⟨rfl, rfl⟩; exact ⟨rfl, hw'⟩)
                 | (with_reducible refine (K19.out _).mono ?_); (rintro e w2 ⟨rfl, rfl⟩; exact ⟨rfl, hw'⟩)
               simp only [Act.put, List.setIfInBounds_toArray, List.set_cons_zero, List.set_cons_succ]
               go_big_quiet_on)
          refine wpQuiet_nil ?_
          intro w5 hw5
          obtain ⟨hdr, p0, p1, p9, p14⟩ := hw5
          replace hR := hR.drew hdr hR.lt
          rw [← hdr.cell] at hcy
          rw [← hdr.frozen] at hfy
          clear hdr hca hcb hcc hcd K17 K19 xd1 xd2 q2 q2'
          obtain ⟨hca, hcb, hcc, hcd⟩ : _ ∧ _ ∧ _ ∧ _ := ⟨p0, p1, p9, p14⟩
          clear p0 p1 p9 p14
          go_upto_region 14 with fail
          refine region_loose (fun _ w' => C4 w5 (N + 1 + 1 + 1) k k1 k9 k14 a b c d w') 14 14 2 #[true, true, true, true, true, true, true, true, true, true, true, true, true, true, false, false] rfl (by kernel_rfl) (by kernel_rfl) (by kernel_rfl) (⟨⟨_, rfl⟩, hca, hcb, hcc, hcd⟩) ?_
          simp only [List.take_succ_cons, List.take_zero]
          repeat
            first
            | (refine loose_val (by decide) rfl ?_
               apply Exists.intro
               refine ⟨fun L' w' hw' => ?_, ?_⟩
               · obtain ⟨_, e0, e1, e9, e14⟩ := hw'
                 go_simp
                 first | done | rfl | exact ⟨rfl, rfl⟩
               simp only [Act.put, List.setIfInBounds_toArray, List.set_cons_zero, List.set_cons_succ])
            | (refine loose_call (by decide) rfl ?_
               apply Exists.intro
               apply Exists.intro
               refine ⟨fun w' => ?_, ?_⟩
               · go_simp
                 first | done | rfl | exact ⟨rfl, rfl⟩
               apply Exists.intro
               refine ⟨fun L' w' hw' => ?_, ?_⟩
               · first
                 | fail
               simp only [Act.put, List.setIfInBounds_toArray, List.set_cons_zero, List.set_cons_succ])
            | (refine loose_new (by decide) rfl (fun L' w' hw' => ?_) (fun v => ?_)
               · fail
               simp only [Act.put, List.setIfInBounds_toArray, List.set_cons_zero, List.set_cons_succ])
          intro w5 hw5
          rw [show IntKind.u32.wrap (IntKind.u32.wrap (IntKind.u32.wrap ((a : Int) + (shN b 7 18 3 : Int)) + (c : Int)) + (shN d 17 19 10 : Int)) = (nx (s2 bl k) k : Int) by rw [Hnx (), IntKind.wrap_u32', IntKind.wrap_u32', IntKind.wrap_u32']; omega]
          obtain ⟨hdr, _⟩ := hw5
          replace hR := (hR.drew hdr hR.lt).set hgN i (nx (s2 bl k) k)
          rw [← hdr.cell] at hcy
          rw [← hdr.frozen] at hfy
          rw [show (s2 bl k).set i (nx (s2 bl k) k) = s2 bl (k + 1) by rw [Hi.out]; rfl] at hR
          clear hdr hca hcb hcc hcd x0 x1 x9 x14 y0 y1 y9 y14 Hnx
          refine wpAny_ready (rs := [14]) (by kernel_rfl) (by simp) ?_
          refine AllReady.cons rfl (fun K hK => ?_) AllReady.nil
          go_simp
          refine hK _ _ ?_
          clear hK K
          refine wpAny_ready (rs := [15]) (by kernel_rfl) (by simp) ?_
          refine AllReady.cons rfl (fun K hK => ?_) AllReady.nil
          go_simp
          refine hK _ _ ?_
          clear hK K
          refine wpAny_done (by kernel_rfl) ?_ _
          clear hcy hfy
          go_wp2_with fail
          go_roundw
          case rel => exact ⟨k + 1, i + 1, by omega, by have := Hi.out; exact (show i + 1 = k + 1 + 16 by omega), by go_num, hR⟩
          case measure => simp [intOf]; omega
        · obtain rfl : k = 48 := by omega
          obtain rfl : i = 64 := hi
          clear Hi hk hlt
          try simp only [Int.cast_ofNat_Int]
          have oo := one32 ws
          have hl32 : (ws.map v32).length = 8 := by rw [List.length_map, hw]
          obtain ⟨r0, r1, r2, r3, r4, hB⟩ := hR
          clear r4
          go_upto_region 15 with fail
          try simp only [Int.cast_ofNat_Int]
          go_upto_region 16 with (first
            | (refine load_arr _ _ _ r0 8 hl32 115 23 (by kernel_rfl) (by kernel_rfl) _ rfl rfl rfl ?_)
            | (refine store_arr wr.heap.size 115 ((List.replicate 8 0).map v32) (Rw.new wr 115 ((List.replicate 8 0).map v32)) 8 rfl 115 (by kernel_rfl) _ hl32 oo _ _ rfl rfl rfl rfl ?_))
          rw [World.setRow_alloc_new]
          have q0 := r0.past (.cells (ws.map v32).toArray 115)
          have q1 := r1.past (.cells (ws.map v32).toArray 115)
          have q2 := r2.past (.cells (ws.map v32).toArray 115)
          have q3 := r3.past (.cells (ws.map v32).toArray 115)
          have q4 := Rw.new wr 115 (ws.map v32)
          replace hB := hB.alloc (Nat.le_of_lt r0.lt) (.cells (ws.map v32).toArray 115)
          have hV := r3.lt
          clear r0 r1 r2 r3 oo
          generalize wr.alloc (.cells (ws.map v32).toArray 115) = W9 at *
          generalize wr.heap.size = V at *
          have hpl : (s2 bl 48).length = 64 := s2_len bl 48
          have upl := s2_u ub 48
          have Hmx : Unit → mixN ws bl = ad8 ws (rds ws (s2 bl 48) 64) 8 := fun _ => rfl
          generalize s2 bl 48 = plan at *
          simp only [Act.put]
          go_upto_region 17 with fail
          go_loopw [14] (fun i wr => ∃ k : Nat, k ≤ 64 ∧ i = .int .i64 (k : Int) ∧ Rw wr N 115 (ws.map v32) ∧ Rw wr (N + 1) 117 (keyL.map v32) ∧ Rw wr (N + 1 + 1) 115 Z ∧ Rw wr (N + 1 + 1 + 1) 117 (plan.map v32) ∧ Rw wr V 115 ((rds ws plan k).map v32) ∧ Below N w wr) (fun i _ => 64 - (intOf i).toNat)
          case atStart => exact ⟨0, by omega, rfl, q0, q1, q2, q3, q4, hB⟩
          case round =>
            clear q0 q1 q2 q3 q4 hB
            obtain ⟨k, hk, rfl, q0, q1, q2, q3, q4, hB⟩ := hrel
            by_cases hlt : k < 64
            · obtain ⟨z, hz⟩ : ∃ z, plan[k]? = some z := ⟨_, List.getElem?_eq_getElem (by omega)⟩
              obtain ⟨y, hy⟩ : ∃ y, keyL[k]? = some y := ⟨_, List.getElem?_eq_getElem (by simpa [keyL] using hlt)⟩
              have hur := rds_u (plan := plan) uw k
              obtain ⟨a, b, c, d, e, f, g', i, hr⟩ := list8 (rds_len (plan := plan) hw k)
              rw [hr] at q4 hur
              have Hrd : Unit → rds ws plan (k + 1) = rd y z [a, b, c, d, e, f, g', i] := fun _ => by rw [rds, hr, hz, hy]; rfl
              clear hr
              simp only [List.mem_cons, List.not_mem_nil, or_false, forall_eq_or_imp, forall_eq] at hur
              obtain ⟨ua, ubb, uc, ud, ue, uf, ug, ui⟩ := hur
              have hz' := (q3.cell k).trans (at32 hz)
              have hy' := (q1.cell k).trans (at32 hy)
              have z0 := q4.cell 0
              have z1 := q4.cell 1
              have z2 := q4.cell 2
              have z3 := q4.cell 3
              have z4 := q4.cell 4
              have z5 := q4.cell 5
              have z6 := q4.cell 6
              have z7 := q4.cell 7
              simp only [List.map_cons, List.map_nil, List.getElem?_cons_zero, List.getElem?_cons_succ, v32] at z0 z1 z2 z3 z4 z5 z6 z7
              have hkl : (k : Int) < 64 := by omega
              have K6 := Lib.hid (turn_6 e ue)
              have K11 := Lib.hid (turn_11 e ue)
              have K25 := Lib.hid (turn_25 e ue)
              have K2 := Lib.hid (turn_2 a ua)
              have K13 := Lib.hid (turn_13 a ua)
              have K22 := Lib.hid (turn_22 a ua)
              have e1 := b_xor (rrN_u ue (a := 6)) (rrN_u ue (a := 11))
              have e2 : bits .xor .u32 ((rrN e 6 ^^^ rrN e 11 : Nat) : Int) (rrN e 25 : Int) = (tnN e 6 11 25 : Int) := b_xor ((rrN_u ue).xor (rrN_u ue)) (rrN_u ue)
              have a1 := b_xor (rrN_u ua (a := 2)) (rrN_u ua (a := 13))
              have a2 : bits .xor .u32 ((rrN a 2 ^^^ rrN a 13 : Nat) : Int) (rrN a 22 : Int) = (tnN a 2 13 22 : Int) := b_xor ((rrN_u ua).xor (rrN_u ua)) (rrN_u ua)
              have c1 := b_and ue uf
              have c2 : bits .and .u32 (4294967295 - (e : Int)) (g' : Int) = (((4294967295 ^^^ e) &&& g' : Nat) : Int) := by
                rw [show (4294967295 : Int) - (e : Int) = ((4294967295 ^^^ e : Nat) : Int) by rw [← not_xor ue]; unfold U32 at ue; omega]
                exact b_and (m32.xor ue) ug
              have c0 : IntKind.u32.wrap (4294967295 - (e : Int)) = 4294967295 - (e : Int) := by unfold U32 at ue; rw [IntKind.wrap_u32']; omega
              have c3 : bits .xor .u32 ((e &&& f : Nat) : Int) (((4294967295 ^^^ e) &&& g' : Nat) : Int) = (chN e f g' : Int) := b_xor ue.and (m32.xor ue).and
              have m1 := b_and ua ubb
              have m2 := b_and ua uc
              have m3 := b_and ubb uc
              have m4 := b_xor (ua.and (b := b)) (ua.and (b := c))
              have m5 : bits .xor .u32 (((a &&& b) ^^^ (a &&& c) : Nat) : Int) ((b &&& c : Nat) : Int) = (mjN a b c : Int) := b_xor (ua.and.xor ua.and) ubb.and
              clear hz hy
              have hue : (e : Int) ≤ 4294967295 := by unfold U32 at ue; omega
              clear ua ubb uc ud ue uf ug ui
              go_upto_region 19 with fail
              try simp only [List.append_eq, List.cons_append, List.nil_append]
              refine region_class (fun w' => C9 wr V (N + 1) (N + 1 + 1 + 1) k a b c d e f g' i y z w') (by kernel_rfl) (by kernel_rfl) (⟨⟨_, rfl⟩, z0, z1, z2, z3, z4, z5, z6, z7, hy', hz'⟩) ?_
              repeat
                first
                | go_big_quiet_skip
                | (go_big_quiet_want
                   refine quiet_val ?_
                   apply Exists.intro
                   refine ⟨fun w' hw' => ?_, ?_⟩
                   · obtain ⟨_, t0, t1, t2, t3, t4, t5, t6, t7, ty, tz⟩ := hw'
                     go_simp
                     first | done | rfl | exact ⟨rfl, rfl⟩
                   simp only [Act.put, List.setIfInBounds_toArray, List.set_cons_zero, List.set_cons_succ]
                   go_big_quiet_on)
                | (go_big_quiet_want
                   refine quiet_call ?_
                   apply Exists.intro
                   apply Exists.intro
                   refine ⟨fun w' => ?_, ?_⟩
                   · go_simp
                     first | done | rfl | exact ⟨rfl, rfl⟩
                   apply Exists.intro
                   refine ⟨fun w' hw' => ?_, ?_⟩
                   · first
                     | (with_reducible refine (K6.out _).mono ?_); (rintro e w2 ⟨rfl, rfl⟩; exact ⟨rfl, hw'⟩)
                     | (with_reducible refine (K11.out _).mono ?_); (rintro e w2 ⟨rfl, rfl⟩; exact ⟨rfl, hw'⟩)
                     | (with_reducible refine (K25.out _).mono ?_); (rintro e w2 ⟨rfl, rfl⟩; exact ⟨rfl, hw'⟩)
                   simp only [Act.put, List.setIfInBounds_toArray, List.set_cons_zero, List.set_cons_succ]
                   go_big_quiet_on)
              refine wpQuiet_nil ?_
              intro w5 hw5
              clear z0 z1 z2 z3 z4 z5 z6 z7 hy' hz' K6 K11 K25 e1 e2
              obtain ⟨hdr, z0, z1, z2, z3, z4, z5, z6, z7, hy', hz'⟩ := hw5
              replace q0 := q0.drew hdr
              replace q1 := q1.drew hdr
              replace q2 := q2.drew hdr
              replace q3 := q3.drew hdr
              replace q4 := q4.drew hdr
              replace hB := hB.trans (hdr.below.mono (by have := q0.lt; rw [hdr.heap] at this; omega))
              clear hdr
              go_upto_region 21 with fail
              clear c0 c1 c2 c3 hue
              try simp only [List.append_eq, List.cons_append, List.nil_append]
              refine region_class (fun w' => C9 w5 V (N + 1) (N + 1 + 1 + 1) k a b c d e f g' i y z w') (by kernel_rfl) (by kernel_rfl) (⟨⟨_, rfl⟩, z0, z1, z2, z3, z4, z5, z6, z7, hy', hz'⟩) ?_
              repeat
                first
                | go_big_quiet_skip
                | (go_big_quiet_want
                   refine quiet_val ?_
                   apply Exists.intro
                   refine ⟨fun w' hw' => ?_, ?_⟩
                   · obtain ⟨_, t0, t1, t2, t3, t4, t5, t6, t7, ty, tz⟩ := hw'
                     go_simp
                     first | done | rfl | exact ⟨rfl, rfl⟩
                   simp only [Act.put, List.setIfInBounds_toArray, List.set_cons_zero, List.set_cons_succ]
                   go_big_quiet_on)
                | (go_big_quiet_want
                   refine quiet_call ?_
                   apply Exists.intro
                   apply Exists.intro
                   refine ⟨fun w' => ?_, ?_⟩
                   · go_simp
                     first | done | rfl | exact ⟨rfl, rfl⟩
                   apply Exists.intro
                   refine ⟨fun w' hw' => ?_, ?_⟩
                   · first
                     | fail
                   simp only [Act.put, List.setIfInBounds_toArray, List.set_cons_zero, List.set_cons_succ]
                   go_big_quiet_on)
              refine wpQuiet_nil ?_
              intro w5 hw5
              rw [show IntKind.u32.wrap (IntKind.u32.wrap (IntKind.u32.wrap (IntKind.u32.wrap ((i : Int) + (tnN e 6 11 25 : Int)) + (chN e f g' : Int)) + (y : Int)) + (z : Int)) = (oneN [a, b, c, d, e, f, g', i] y z : Int) by rw [IntKind.wrap_u32', IntKind.wrap_u32', IntKind.wrap_u32', IntKind.wrap_u32']; simp only [oneN, List.getElem?_cons_zero, List.getElem?_cons_succ, Option.getD_some]; omega]
              clear z0 z1 z2 z3 z4 z5 z6 z7 hy' hz'
              obtain ⟨hdr, z0, z1, z2, z3, z4, z5, z6, z7, hy', hz'⟩ := hw5
              replace q0 := q0.drew hdr
              replace q1 := q1.drew hdr
              replace q2 := q2.drew hdr
              replace q3 := q3.drew hdr
              replace q4 := q4.drew hdr
              replace hB := hB.trans (hdr.below.mono (by have := q0.lt; rw [hdr.heap] at this; omega))
              clear hdr
              go_upto_region 22 with fail
              try simp only [List.append_eq, List.cons_append, List.nil_append]
              refine region_class (fun w' => C9 w5 V (N + 1) (N + 1 + 1 + 1) k a b c d e f g' i y z w') (by kernel_rfl) (by kernel_rfl) (⟨⟨_, rfl⟩, z0, z1, z2, z3, z4, z5, z6, z7, hy', hz'⟩) ?_
              repeat
                first
                | go_big_quiet_skip
                | (go_big_quiet_want
                   refine quiet_val ?_
                   apply Exists.intro
                   refine ⟨fun w' hw' => ?_, ?_⟩
                   · obtain ⟨_, t0, t1, t2, t3, t4, t5, t6, t7, ty, tz⟩ := hw'
                     go_simp
                     first | done | rfl | exact ⟨rfl, rfl⟩
                   simp only [Act.put, List.setIfInBounds_toArray, List.set_cons_zero, List.set_cons_succ]
                   go_big_quiet_on)
                | (go_big_quiet_want
                   refine quiet_call ?_
                   apply Exists.intro
                   apply Exists.intro
                   refine ⟨fun w' => ?_, ?_⟩
                   · go_simp
                     first | done | rfl | exact ⟨rfl, rfl⟩
                   apply Exists.intro
                   refine ⟨fun w' hw' => ?_, ?_⟩
                   · first
                     | (with_reducible refine (K2.out _).mono ?_); (rintro e w2 ⟨rfl, rfl⟩; exact ⟨rfl, hw'⟩)
                     | (with_reducible refine (K13.out _).mono ?_); (rintro e w2 ⟨rfl, rfl⟩; exact ⟨rfl, hw'⟩)
                     | (with_reducible refine (K22.out _).mono ?_); (rintro e w2 ⟨rfl, rfl⟩; exact ⟨rfl, hw'⟩)
                   simp only [Act.put, List.setIfInBounds_toArray, List.set_cons_zero, List.set_cons_succ]
                   go_big_quiet_on)
              refine wpQuiet_nil ?_
              intro w5 hw5
              clear z0 z1 z2 z3 z4 z5 z6 z7 hy' hz' K2 K13 K22 a1 a2
              obtain ⟨hdr, z0, z1, z2, z3, z4, z5, z6, z7, hy', hz'⟩ := hw5
              replace q0 := q0.drew hdr
              replace q1 := q1.drew hdr
              replace q2 := q2.drew hdr
              replace q3 := q3.drew hdr
              replace q4 := q4.drew hdr
              replace hB := hB.trans (hdr.below.mono (by have := q0.lt; rw [hdr.heap] at this; omega))
              clear hdr
              go_upto_region 24 with fail
              clear m1 m2 m3 m4 m5 hy' hz'
              have Hrd2 : Unit → (rds ws plan (k + 1)).map v32 = [Value.int .u32 ((((oneN [a, b, c, d, e, f, g', i] y z : Int) + (tnN a 2 13 22 : Int)) % 4294967296 + (mjN a b c : Int)) % 4294967296), v32 a, v32 b, v32 c, Value.int .u32 (((d : Int) + (oneN [a, b, c, d, e, f, g', i] y z : Int)) % 4294967296), v32 e, v32 f, v32 g'] := fun _ => by
                rw [Hrd ()]
                have h9 : (((oneN [a, b, c, d, e, f, g', i] y z : Int) + (tnN a 2 13 22 : Int)) % 4294967296 + (mjN a b c : Int)) % 4294967296 = (((oneN [a, b, c, d, e, f, g', i] y z + twoN [a, b, c, d, e, f, g', i]) % 4294967296 : Nat) : Int) := by
                  simp only [twoN, List.getElem?_cons_zero, List.getElem?_cons_succ, Option.getD_some]
                  omega
                rw [h9]
                rfl
              have Hone : Unit → ∀ v ∈ (rds ws plan (k + 1)).map v32, v.oneCell' = true := fun _ => one32 _
              have Hl8 : Unit → ((rds ws plan (k + 1)).map v32).length = 8 := fun _ => by rw [List.length_map, rds_len hw]
              generalize oneN [a, b, c, d, e, f, g', i] y z = T1 at *
              generalize tnN a 2 13 22 = T2 at *
              generalize mjN a b c = T3 at *
              have q4l : ([a, b, c, d, e, f, g', i].map v32).length = 8 := rfl
              go_wp2_with (first
                | (refine build_arr [Value.int .u32 ((((T1 : Int) + (T2 : Int)) % 4294967296 + (T3 : Int)) % 4294967296), v32 a, v32 b, v32 c, Value.int .u32 (((d : Int) + (T1 : Int)) % 4294967296), v32 e, v32 f, v32 g'] 115 _ rfl rfl (by kernel_rfl) ?_)
                | (refine store_arr _ _ _ q4 8 q4l 115 (by kernel_rfl) [Value.int .u32 ((((T1 : Int) + (T2 : Int)) % 4294967296 + (T3 : Int)) % 4294967296), v32 a, v32 b, v32 c, Value.int .u32 (((d : Int) + (T1 : Int)) % 4294967296), v32 e, v32 f, v32 g'] rfl (by rw [← Hrd2 ()]; exact Hone ()) _ _ rfl rfl rfl rfl ?_))
              refine ⟨⟨k + 1, by omega, by go_num, q0.rowOther (by omega) _, q1.rowOther (by omega) _, q2.rowOther (by omega) _, q3.rowOther (by omega) _, ?_, below_setRow hB (by omega) _⟩, by simp [intOf]; omega⟩
              rw [Hrd2 (), show (((T1 : Int) + (T2 : Int)) % 4294967296 + (T3 : Int)) % 4294967296 = ((T1 : Int) + (T2 : Int) + (T3 : Int)) % 4294967296 by omega]
              exact q4.row [Value.int .u32 (((T1 : Int) + (T2 : Int) + (T3 : Int)) % 4294967296), v32 a, v32 b, v32 c, Value.int .u32 (((d : Int) + (T1 : Int)) % 4294967296), v32 e, v32 f, v32 g']
            · obtain rfl : k = 64 := by omega
              clear q1 q3 hk hlt
              try simp only [Int.cast_ofNat_Int]
              have hvl : (rds ws plan 64).length = 8 := rds_len hw 64
              generalize rds ws plan 64 = vs at *
              have Hmix : Unit → mixN ws bl = ad8 vs ws 8 := fun _ => by rw [Hmx (), ad8_comm hw hvl]
              go_upto_region 26 with fail
              try simp only [Int.cast_ofNat_Int]
              go_loopw [20] (fun i wr => ∃ k : Nat, k ≤ 8 ∧ i = .int .i64 (k : Int) ∧ Rw wr N 115 (ws.map v32) ∧ Rw wr (N + 1 + 1) 115 Z ∧ Rw wr V 115 ((ad8 vs ws k).map v32) ∧ Below N w wr) (fun i _ => 8 - (intOf i).toNat)
              case atStart => exact ⟨0, by omega, rfl, q0, q2, q4, hB⟩
              case round =>
                clear q0 q2 q4 hB
                obtain ⟨k, hk, rfl, q0, q2, q4, hB⟩ := hrel
                by_cases hlt : k < 8
                · have hkl : (k : Int) < 8 := by omega
                  obtain ⟨a, ha⟩ : ∃ a, (ad8 vs ws k)[k]? = some a := ⟨_, List.getElem?_eq_getElem (by rw [ad8_len hvl]; omega)⟩
                  obtain ⟨b, hb'⟩ : ∃ b, ws[k]? = some b := ⟨_, List.getElem?_eq_getElem (by omega)⟩
                  have Hnx : Unit → ad8 vs ws (k + 1) = (ad8 vs ws k).set k ((a + b) % 4294967296) := fun _ => by rw [ad8, ha, hb']; rfl
                  have z0 := (q4.cell k).trans (at32 ha)
                  have z1 := (q0.cell k).trans (at32 hb')
                  have y0 := q4.frozen k
                  clear ha hb'
                  go_upto_region 28 with fail
                  refine region_loose (fun _ w' => C2 wr V N k a b w') 7 7 2 #[true, true, true, true, true, true, true, false, false] rfl (by kernel_rfl) (by kernel_rfl) (by kernel_rfl) (⟨⟨_, rfl⟩, z0, z1⟩) ?_
                  simp only [List.take_succ_cons, List.take_zero]
                  repeat
                    first
                    | (refine loose_val (by decide) rfl ?_
                       apply Exists.intro
                       refine ⟨fun L' w' hw' => ?_, ?_⟩
                       · obtain ⟨_, e0, e1⟩ := hw'
                         go_simp
                         first | done | rfl | exact ⟨rfl, rfl⟩
                       simp only [Act.put, List.setIfInBounds_toArray, List.set_cons_zero, List.set_cons_succ])
                    | (refine loose_call (by decide) rfl ?_
                       apply Exists.intro
                       apply Exists.intro
                       refine ⟨fun w' => ?_, ?_⟩
                       · go_simp
                         first | done | rfl | exact ⟨rfl, rfl⟩
                       apply Exists.intro
                       refine ⟨fun L' w' hw' => ?_, ?_⟩
                       · first
                         | fail
                       simp only [Act.put, List.setIfInBounds_toArray, List.set_cons_zero, List.set_cons_succ])
                    | (refine loose_new (by decide) rfl (fun L' w' hw' => ?_) (fun v => ?_)
                       · fail
                       simp only [Act.put, List.setIfInBounds_toArray, List.set_cons_zero, List.set_cons_succ])
                  intro w5 hw5
                  obtain ⟨hdr, _⟩ := hw5
                  replace q0 := q0.drew hdr
                  replace q2 := q2.drew hdr
                  replace q4 := q4.drew hdr
                  replace hB := hB.trans (hdr.below.mono (by have := q0.lt; rw [hdr.heap] at this; omega))
                  rw [← hdr.cell] at z0
                  rw [← hdr.frozen] at y0
                  clear z1 hdr
                  refine wpAny_ready (rs := [7]) (by kernel_rfl) (by simp) ?_
                  refine AllReady.cons rfl (fun K hK => ?_) AllReady.nil
                  go_simp
                  refine hK _ _ ?_
                  clear hK K
                  refine wpAny_ready (rs := [8]) (by kernel_rfl) (by simp) ?_
                  refine AllReady.cons rfl (fun K hK => ?_) AllReady.nil
                  go_simp
                  refine hK _ _ ?_
                  clear hK K
                  refine wpAny_done (by kernel_rfl) ?_ _
                  clear z0 y0
                  go_wp2_with fail
                  go_roundw
                  case rel =>
                    refine ⟨k + 1, by omega, by go_num, q0.other (by omega) _ _, q2.other (by omega) _ _, ?_, hB.setCell (p := ⟨V, k, none⟩) (by simp; omega) _⟩
                    have := q4.setCell k (v32 ((a + b) % 4294967296))
                    rw [← List.map_set, ← Hnx ()] at this
                    exact this
                  case measure => simp [intOf]; omega
                · obtain rfl : k = 8 := by omega
                  have hs : ((ad8 vs ws 8).map v32).length = 8 := by rw [List.length_map, ad8_len hvl]
                  have h1 := one32 (ad8 vs ws 8)
                  have hzl := HZ ()
                  generalize hcs : (ad8 vs ws 8).map v32 = cs at *
                  have Hcs : Unit → (ad8 vs ws 8).map v32 = cs := fun _ => hcs
                  clear hcs hk hlt
                  go_wp2_with (first
                    | (refine load_arr _ _ _ q4 8 hs 115 23 (by kernel_rfl) (by kernel_rfl) _ rfl rfl rfl ?_)
                    | (refine store_arr _ _ _ q2 8 hzl 115 (by kernel_rfl) cs hs h1 _ _ rfl rfl rfl rfl ?_))
                  refine ret_arr (N + 1 + 1) 115 cs (q2.row cs) 8 hs 23 (by kernel_rfl) (by kernel_rfl) (by rfl) rfl rfl ?_
                  exact ⟨by rw [Hmix (), Hcs ()], by rw [HN ()]; exact below_setRow hB (by omega) _⟩

/-- A number divided by 256 so often. -/
def dv (x : Nat) : Nat → Nat
  | 0 => x
  | j + 1 => dv x j / 256
theorem dv_le (x j : Nat) : dv x j ≤ x := by
  induction j with
  | zero => exact Nat.le_refl _
  | succ j ih => rw [dv]; omega
/-- The first k of eight bytes of a number, the highest first. -/
def ln8 (x : Nat) : Nat → List Nat
  | 0 => []
  | k + 1 => ln8 x k ++ [dv x (7 - k) % 256]
theorem ln8_len (x k : Nat) : (ln8 x k).length = k := by
  induction k with
  | zero => rfl
  | succ k ih => simp [ln8, ih]
theorem ln8_u (x k : Nat) : ∀ y ∈ ln8 x k, U8 y := by
  induction k with
  | zero => simp [ln8]
  | succ k ih =>
    intro y hy
    rcases List.mem_append.1 hy with h | h
    · exact ih y h
    · rw [List.mem_singleton.1 h]; exact Nat.mod_lt _ (by omega)
theorem ln8_all (x : Nat) : ln8 x 8 = [dv x 7 % 256, dv x 6 % 256, dv x 5 % 256, dv x 4 % 256, dv x 3 % 256, dv x 2 % 256, dv x 1 % 256, dv x 0 % 256] := rfl
theorem set_at {α : Type} (A B : List α) (n j : Nat) (h : A.length = n) (x : α) : (A ++ B).set (n + j) x = A ++ B.set j x := by
  subst h
  rw [List.set_append_right _ _ (by omega), Nat.add_sub_cancel_left]
theorem pad_eq (T : Nat) (hT : T ≤ 100000000) : padL T = 128 :: zs (tlN T - 1) ++ ln8 (T * 8) 8 := by
  obtain ⟨n, hn⟩ : ∃ n, tlN T = n + 1 := ⟨tlN T - 1, by unfold tlN; omega⟩
  unfold padL
  rw [hn, Nat.add_sub_cancel]
  have e : (zs (n + 1 + 8)).set 0 128 = (128 :: zs n) ++ [0, 0, 0, 0, 0, 0, 0, 0] := by
    unfold zs
    rw [show n + 1 + 8 = (n + 8) + 1 by omega, List.replicate_succ, List.set_cons_zero, ← List.replicate_append_replicate]
    rfl
  rw [e]
  have hA : (128 :: zs n).length = n + 1 := by simp [zs]
  generalize 128 :: zs n = A at *
  unfold put4L
  simp only [show ∀ x : Nat, (A ++ [0, 0, 0, 0, 0, 0, 0, 0]).set (n + 1) x = A ++ [0, 0, 0, 0, 0, 0, 0, 0].set 0 x from fun x => set_at A _ (n + 1) 0 hA x, Nat.add_assoc (n + 1) 4, set_at A _ (n + 1) _ hA]
  rw [ln8_all]
  congr 1
  simp only [List.set_cons_zero, List.set_cons_succ, b0, b1, b2, b3, dv]
  simp only [List.cons.injEq, and_true]
  refine ⟨?_, ?_, ?_, ?_, ?_, ?_, ?_, ?_⟩ <;> omega
/-- The bytes of words, the first i of them. -/
def dgo (ws : List Nat) : Nat → List Nat
  | 0 => zs 32
  | i + 1 => (dgo ws i).set i (dv (ws[i / 4]?.getD 0) (3 - i % 4) % 256)
theorem dgo_len (ws : List Nat) (i : Nat) : (dgo ws i).length = 32 := by
  induction i with
  | zero => rfl
  | succ i ih => rw [dgo, List.length_set, ih]
theorem dgo_four (ws : List Nat) (uw : ∀ x ∈ ws, U32 x) (k : Nat) : dgo ws (4 * k) = dg ws k := by
  induction k with
  | zero => rfl
  | succ k ih =>
    have ux : (ws[k]?.getD 0) < 4294967296 := by
      cases hx : ws[k]? with
      | none => simp
      | some x => exact uw x (List.mem_of_getElem? hx)
    rw [show 4 * (k + 1) = 4 * k + 1 + 1 + 1 + 1 by omega, dgo, dgo, dgo, dgo, ih, dg]
    rw [show (4 * k) / 4 = k by omega, show (4 * k + 1) / 4 = k by omega, show (4 * k + 1 + 1) / 4 = k by omega, show (4 * k + 1 + 1 + 1) / 4 = k by omega,
      show (4 * k) % 4 = 0 by omega, show (4 * k + 1) % 4 = 1 by omega, show (4 * k + 1 + 1) % 4 = 2 by omega, show (4 * k + 1 + 1 + 1) % 4 = 3 by omega]
    generalize ws[k]?.getD 0 = x at *
    unfold put4L b0 b1 b2 b3
    simp only [dv]
    rw [show x / 256 / 256 / 256 % 256 = x / 16777216 by omega, show x / 256 / 256 % 256 = x / 65536 % 256 by omega]
    rfl
theorem info_parts {e : TypeId} {z : Value} {s b : Nat} (h : (Tryd.prog.info? e).map (fun i => (i.zero, i.size, i.bytes)) = some (some z, s, b)) : ∃ i, Tryd.prog.info? e = some i ∧ i.zero = some z ∧ i.size = s ∧ i.bytes = b := by
  cases hq : Tryd.prog.info? e with
  | none => rw [hq] at h; cases h
  | some i =>
    rw [hq] at h
    simp only [Option.map_some, Option.some.injEq, Prod.mk.injEq] at h
    exact ⟨i, rfl, h.1, h.2.1, h.2.2⟩
theorem bytes_of_own {w : World} {base : Nat} {v : Value} {xs : List Nat} (h : w.ownsRow base 5 1 v xs.length (xs.map v8)) : BytesAt w v xs := by
  have hc := h
  rcases h.2 with ⟨rfl, h0⟩ | ⟨g, cap, cur, rfl, hb, hg, hn, _⟩
  · exact ⟨none, 0, by rw [h0], by omega, fun hne => absurd (List.eq_nil_of_length_eq_zero h0) hne⟩
  · refine ⟨_, cap, rfl, hn, fun _ => ⟨g, 0, rfl, fun j u hu => ?_⟩⟩
    have h1 := hc.cells (g := g) rfl j u hu
    rw [add_off] at h1
    rw [Nat.zero_add]; exact h1

theorem own_drew {w w' : World} {base : Nat} {e : TypeId} {v : Value} {n : Nat} {xs : List Value} (h : w.ownsRow base e 1 v n xs) (hd : Drew w w') : w'.ownsRow base e 1 v n xs := by obtain ⟨d, rfl⟩ := hd; exact h

theorem sz8 (w : World) : (sizeOf 5).run Tryd.prog w = .ok 1 w := by
  have h : (Tryd.prog.info? 5).map (·.size) = some 1 := by kernel_rfl
  cases hq : Tryd.prog.info? 5 with
  | none => rw [hq] at h; cases h
  | some i => rw [hq] at h; simp at h; simp [sizeOf, typeInfo, hq, h]
theorem el8 : Tryd.prog.elem 88 = 5 := by kernel_rfl
theorem un8 : Tryd.prog.underlying 88 = some (.slice (Tryd.prog.elem 88)) := by kernel_rfl
theorem BytesAt.part {w : World} {v : Value} {b : List Nat} (h : BytesAt w v b) (l m : Nat) (hl : l + m ≤ b.length) (i j : Int) (hi : i = (l : Int)) (hj : j = ((l + m : Nat) : Int)) :
    ∃ u, (∀ w', (Instr.slice 88 v (some (.int .i64 i)) (some (.int .i64 j)) none).run Tryd.prog w' = .ok u w') ∧ BytesAt w u ((b.drop l).take m) := by
  subst hi hj
  obtain ⟨a, cap, rfl, hc, hk⟩ := h
  have hlen : ((b.drop l).take m).length = m := by simp; omega
  refine ⟨sliced a l (l + m) cap 1, fun w' => ?_, if cap = l then a else a.map (·.add (l * 1)), cap - l, by simp only [sliced, hlen]; congr 1; omega, by rw [hlen]; omega, fun hn => ?_⟩
  · rw [run_slice_lh w' _ a b.length cap un8 .i64 .i64 _ _ (by omega) (by omega) (by omega), el8, sz8, Result.andThen_ok, Int.toNat_natCast, Int.toNat_natCast]
  · have hb : b ≠ [] := by intro e; subst e; simp at hn
    obtain ⟨g, o, rfl, hcl⟩ := hk hb
    have h0 : 0 < m := by rcases Nat.eq_zero_or_pos m with h | h; exact absurd (List.eq_nil_of_length_eq_zero (by rw [hlen]; exact h)) hn; exact h
    refine ⟨g, o + l, by simp [add_any, show ¬ cap = l by omega], ?_⟩
    rw [List.map_take, List.map_drop]
    exact (hcl.drop l).take m

theorem run_append_nil (t e ty : TypeId) (c : Nat) (ht : Tryd.prog.underlying t = some (.slice e)) (w : World) (he : (Tryd.prog.info? e).map (·.size) = some 1) :
    (Builtin.append_ #[t, t] ty #[.slice none 0 0, .slice none 0 c]).run Tryd.prog w = .ok (.slice none 0 0) w := by
  cases hq : Tryd.prog.info? e with
  | none => rw [hq] at he; cases he
  | some i =>
    rw [hq] at he
    simp at he
    simp [Builtin.append_, run_underlying ht, sizeOf, typeInfo, hq, Builtin.lenOf, Builtin.firstCells]
/-- Bytes are appended to a slice of one's own. -/
theorem app_bytes {ops : Array Oper} {rest : List Oper} {o : Oper} {a : Act} {w : World} {Q : Exit → Act → World → Prop} (base : Nat) (v u : Value) (xs ys : List Nat) (hown : w.ownsRow base 5 1 v xs.length (xs.map v8)) (hu : BytesAt w u ys) (hl : xs.length + ys.length ≤ 800000000) (hb : base ≤ w.heap.size)
    (hnil : (∃ c, u = .slice none 0 c) → v = .slice none 0 0) (s x : Operand) (hgd : o.guard = none) (ho : o.op = .call { callee := .builtin .append, args := #[s, x], argTypes := #[88, 88] }) (hs : a.eval s = v) (hx : a.eval x = u)
    (h : ∀ v' w', w'.ownsRow base 5 1 v' (xs ++ ys).length ((xs ++ ys).map v8) → w.grownBy w' v.ownBlock → wpList Tryd.prog ops Q rest (a.put o.dst v') w') : wpList Tryd.prog ops Q (o :: rest) a w := by
  obtain ⟨i0, hi, hz0, hz1, hz2⟩ := info_parts info_u8
  obtain ⟨aa, cap, rfl, hc, hk⟩ := hu
  cases aa with
  | none =>
    have hys : ys = [] := by
      rcases ys with _ | ⟨y, ys⟩
      · rfl
      · obtain ⟨g, o, e, _⟩ := hk (by simp); cases e
    subst hys
    have hv := hnil ⟨cap, rfl⟩
    subst hv
    have hx0 : xs = [] := by
      rcases hown.2 with ⟨_, h0⟩ | ⟨g, _, _, e, _⟩
      · exact List.eq_nil_of_length_eq_zero h0
      · cases e
    subst hx0
    refine wpList_plain hgd fun K hK => ?_
    have hrun := run_append_nil 88 5 o.type cap (by kernel_rfl) w (by kernel_rfl)
    unfold Oper.wp
    simp only [execOp, ho, resolve, invoke, builtin, List.map_toArray, List.map_cons, List.map_nil, hs, hx, List.length_nil]
    simp [hrun, Result.andThen]
    exact hK _ _ (h _ _ hown ⟨rfl, rfl, rfl, Nat.le_refl _, fun _ _ _ => rfl⟩)
  | some ad =>
    refine wpList_append_own w hgd s x 88 ho base 5 i0 (.int .u8 0) 1 1 Tryd.underlying88 hi hz0 hz1 hz2 rfl (by decide) v xs.length (xs.map v8) hs hown ad ys.length cap (ys.map v8) hx (by simp) (fun j u' hu' => ?_) (one8 ys) (by unfold maxLen; omega) (by omega) hb (fun v' w' h1 h2 _ => ?_)
    · clear hl
      have hne : ys ≠ [] := by intro e; subst e; simp at hu'
      obtain ⟨g, o', e, hcl⟩ := hk hne
      have e2 := Option.some.inj e
      subst e2
      rw [add_any]; exact hcl j u' hu'
    · rw [← List.map_append, ← List.length_append] at h1
      exact h v' w' h1 h2
theorem rw_grown {w w' : World} {g : Nat} {t : TypeId} {cs : List Value} {row : Option Nat} (h : Rw w g t cs) (hg : w.grownBy w' row) (hne : some g ≠ row) : Rw w' g t cs := by
  unfold Rw at *
  rw [hg.block g (Rw.lt h) hne]; exact h
/-- What lies in memory: the result, the words, the keys, the bytes of one's own. -/
def Os (w : World) (N g : Nat) (Z : List Value) (hs : List Nat) (v : Value) (xs : List Nat) (wr : World) : Prop :=
  Rw wr N 90 Z ∧ Rw wr g 115 (hs.map v32) ∧ Rw wr (g + 1) 117 (keyL.map v32) ∧ wr.ownsRow (g + 2) 5 1 v xs.length (xs.map v8) ∧ Below N w wr ∧ g + 2 ≤ wr.heap.size ∧ N < g
/-- An append, where new memory was made before it. -/
theorem Os.app {w wr wr' w' : World} {N g : Nat} {Z : List Value} {hs : List Nat} {v v' : Value} {xs ys : List Nat} (h : Os w N g Z hs v xs wr) (hb : Below wr.heap.size wr wr') (h1 : w'.ownsRow (g + 2) 5 1 v' ys.length (ys.map v8)) (hg : wr'.grownBy w' v.ownBlock) : Os w N g Z hs v' ys w' := by
  obtain ⟨q0, q1, q2, q3, q4, q5, q6⟩ := h
  have hlt := q3.lt
  have hne : ∀ k, k < g + 2 → some k ≠ v.ownBlock := fun k hk e => by have := (hlt k e.symm).1; omega
  refine ⟨rw_grown (q0.keep hb) hg (hne _ (by omega)), rw_grown (q1.keep hb) hg (hne _ (by omega)), rw_grown (q2.keep hb) hg (hne _ (by omega)), h1, ?_, Nat.le_trans q5 (Nat.le_trans hb.size hg.size), q6⟩
  exact (q4.trans (hb.mono (Nat.le_of_lt q0.lt))).grown hg (Nat.le_trans (Nat.le_of_lt q0.lt) hb.size) (fun j e => by have := (hlt j e).1; omega)
/-- One byte is appended: a slice of it was made just before. -/
theorem app_byte {ops : Array Oper} {rest : List Oper} {o : Oper} {a : Act} {w wr : World} {Q : Exit → Act → World → Prop} {N g : Nat} {Z : List Value} {hs : List Nat} {v : Value} {xs : List Nat} (q : Os w N g Z hs v xs wr) (x : Nat) (X : Int) (hX : X = (x : Int)) (hl : xs.length ≤ 400000000)
    (s y : Operand) (hgd : o.guard = none) (ho : o.op = .call { callee := .builtin .append, args := #[s, y], argTypes := #[88, 88] }) (hs' : a.eval s = v) (hy : a.eval y = .slice (some ⟨wr.heap.size, 0, none⟩) 1 1)
    (h : ∀ v' w', Os w N g Z hs v' (xs ++ [x]) w' → wpList Tryd.prog ops Q rest (a.put o.dst v') w') : wpList Tryd.prog ops Q (o :: rest) a (wr.alloc (.cells #[.int .u8 X] 5)) := by
  subst hX
  have hb : Below wr.heap.size wr (wr.alloc (.cells #[.int .u8 (x : Int)] 5)) := (Below.refl _ _).alloc (Nat.le_refl _) _
  refine app_bytes (g + 2) v (.slice (some ⟨wr.heap.size, 0, none⟩) 1 1) xs [x] (World.ownsRow.alloc q.2.2.2.1 _) (Rw.bytes (xs := [x]) (Rw.new wr 5 ([x].map v8)) 1 (Nat.le_refl _)) (by simp; omega) (by have := q.2.2.2.2.2.1; have := hb.size; omega) (by rintro ⟨_, e⟩; injection e with e; cases e) s y hgd ho hs' hy fun v' w' h1 h2 => h v' w' (q.app hb h1 h2)
/-- The same when nothing is appended any more: the bytes lie in a block of their own. -/
def Ot (w : World) (N g : Nat) (Z : List Value) (hs : List Nat) (gm : Nat) (m : List Nat) (wr : World) : Prop :=
  Rw wr N 90 Z ∧ Rw wr g 115 (hs.map v32) ∧ Rw wr (g + 1) 117 (keyL.map v32) ∧ Cls wr gm 0 (m.map v8) ∧ Below N w wr ∧ N < g ∧ g + 1 < gm
theorem Os.ot {w wr : World} {N g : Nat} {Z : List Value} {hs : List Nat} {v : Value} {xs : List Nat} (h : Os w N g Z hs v xs wr) (hne : 0 < xs.length) : ∃ gm cap, v = .slice (some ⟨gm, 0, none⟩) xs.length cap ∧ xs.length ≤ cap ∧ Ot w N g Z hs gm xs wr := by
  obtain ⟨q0, q1, q2, q3, q4, q5, q6⟩ := h
  have hc := q3
  rcases q3.2 with ⟨rfl, h0⟩ | ⟨gm, cap, cur, rfl, hb, hg, hn, _⟩
  · omega
  · refine ⟨gm, cap, rfl, hn, q0, q1, q2, fun j u hu => ?_, q4, q6, by omega⟩
    have h1 := hc.cells (g := gm) rfl j u hu
    rw [add_off] at h1
    rw [Nat.zero_add]; exact h1
theorem Ot.row {w wr w5 : World} {N g : Nat} {Z : List Value} {hs : List Nat} {gm : Nat} {m : List Nat} (h : Ot w N g Z hs gm m wr) (hb : Below wr.heap.size wr w5) (hs' : List Nat) : Ot w N g Z hs' gm m (w5.setRow g (hs'.map v32).toArray) := by
  obtain ⟨q0, q1, q2, q3, q4, q5, q6⟩ := h
  have hlt := q0.lt
  exact ⟨(q0.keep hb).rowOther (by omega) _, (q1.keep hb).row _, (q2.keep hb).rowOther (by omega) _, (q3.keep hb).row (by omega) _, below_setRow (q4.trans (hb.mono (by omega))) (by omega) _, q5, q6⟩
/-- A part of a slice, in a region that draws its order. -/
theorem loose_slice {P : Program} {ops : Array Oper} {C : Marks → World → Prop} {q i : Nat} {a : Act} {L : Marks} {o : Oper} {rest : List Oper} {E : Act → Marks → Prop} (t e : TypeId) (ht : P.underlying t = some (.slice e)) (al : Option Addr) (ln cp : Nat) (u lo hi : Value)
    (hc : ∀ w, (Instr.slice t (.slice al ln cp) (some lo) (some hi) none).run P w = .ok u w) (x y z : Operand) (hq : i < q) (hg : o.guard = none) (ho : o.op = .slice t x (some y) (some z) none) (hx : a.eval x = .slice al ln cp) (hy : a.eval y = lo) (hz : a.eval z = hi) (h : wpLoose P ops C q E rest (i + 1) (a.put o.dst u) L) : wpLoose P ops C q E (o :: rest) i a L := by
  refine loose_val hq hg ⟨u, fun L w hw => ?_, h⟩
  unfold execOp
  simp [ho, hx, hy, hz, Instr.sliceAt, run_underlying ht, hc]
def two (w : World) : World := (w.alloc (.cells ((zs 8).map v32).toArray 115)).alloc (.cells ((zs 64).map v32).toArray 117)
theorem two_a (w : World) : Rw (two w) w.heap.size 115 ((zs 8).map v32) := (Rw.new w _ _).past _
theorem two_b (w : World) : Rw (two w) (w.heap.size + 1) 117 ((zs 64).map v32) := by
  have := Rw.new (w.alloc (.cells ((zs 8).map v32).toArray 115)) 117 ((zs 64).map v32)
  have e : (w.alloc (.cells ((zs 8).map v32).toArray 115)).heap.size = w.heap.size + 1 := by simp
  rw [e] at this
  exact this
theorem two_below (w : World) : Below w.heap.size w (two w) := ((Below.refl _ w).alloc (Nat.le_refl _) _).alloc (by simp) _
theorem two_size (w : World) : (two w).heap.size = w.heap.size + 2 := by simp [two]

set_option maxRecDepth 800000000 in
set_option maxHeartbeats 1600000 in
theorem rof_any (u : Value) (c : List Nat) (w : World) (hu : BytesAt w u c) (uc : ∀ x ∈ c, U8 x) (hl : c.length ≤ 100000000) :
    Calls Tryd.prog 48 #[u] w fun e w' => e = .returned (.agg ((shaN c).map v8).toArray) ∧ Below w.heap.size w w' := by
  obtain ⟨au, cu, hue, _, _⟩ := id hu
  subst hue
  go_enter Tryd.func48, Tryd.ntmps48
  go_upto_region 1 with fail
  have r0 := Rw.new w 90 ((zs 32).map v8)
  have hB := (Below.refl _ w).alloc (Nat.le_refl _) (.cells ((zs 32).map v8).toArray 90)
  change Code.wp _ _ _ _ (w.alloc (.cells ((zs 32).map v8).toArray 90))
  generalize w.alloc (.cells ((zs 32).map v8).toArray 90) = W at *
  generalize hZ : (zs 32).map v8 = Z at r0
  have HZ : Unit → Z.length = 32 := fun _ => by rw [← hZ]; rfl
  clear hZ
  go_wp2_with fail
  refine (rstart_any _).mono ?_
  rintro e w1 ⟨rfl, hb1⟩
  replace r0 := r0.keep hb1
  replace hB := hB.trans (hb1.mono hB.size)
  clear hb1
  generalize hSt : (startL.map v32).toArray = ST
  go_wp2_with fail
  refine (rkeys_any _).mono ?_
  rintro e w2 ⟨rfl, hb2⟩
  replace r0 := r0.keep hb2
  replace hB := hB.trans (hb2.mono hB.size)
  clear hb2
  rw [← hSt]
  clear hSt ST
  go_upto_region 2 with (first
    | (change wpList _ _ _ _ _ (two w2); refine store_arr w2.heap.size 115 ((zs 8).map v32) (two_a w2) 8 rfl 115 (by kernel_rfl) (startL.map v32) rfl (one32 _) _ _ rfl rfl rfl rfl ?_)
    | (refine store_arr (w2.heap.size + 1) 117 ((zs 64).map v32) ((two_b w2).rowOther (by omega) _) 64 rfl 117 (by kernel_rfl) (keyL.map v32) rfl (one32 _) _ _ rfl rfl rfl rfl ?_))
  have q0 : Os w w.heap.size w2.heap.size Z startL (.slice none 0 0) [] (((two w2).setRow w2.heap.size (startL.map v32).toArray).setRow (w2.heap.size + 1) (keyL.map v32).toArray) := by
    have hlt := r0.lt
    have hs := two_size w2
    refine ⟨((r0.keep (two_below w2)).rowOther (by omega) _).rowOther (by omega) _, ((two_a w2).row _).rowOther (by omega) _, ((two_b w2).rowOther (by omega) _).row _, World.ownsRow_nil _ _ _ _, ?_, by simp only [setRow_size]; omega, hlt⟩
    exact below_setRow (below_setRow (hB.trans ((two_below w2).mono (by omega))) (by omega) _) (by omega) _
  replace hu : BytesAt (((two w2).setRow w2.heap.size (startL.map v32).toArray).setRow (w2.heap.size + 1) (keyL.map v32).toArray) (.slice au c.length cu) c := hu.keep q0.2.2.2.2.1
  generalize ((two w2).setRow w2.heap.size (startL.map v32).toArray).setRow (w2.heap.size + 1) (keyL.map v32).toArray = W3 at *
  generalize w2.heap.size = g at *
  clear r0 hB
  simp only [Act.put]
  generalize (startL.map v32).toArray = ST
  generalize (keyL.map v32).toArray = KT
  go_wp2_with (at_builtin; refine app_bytes (g + 2) (.slice none 0 0) _ [] c (World.ownsRow_nil _ _ _ _) hu (by simp; omega) q0.2.2.2.2.2.1 (fun _ => rfl) _ _ rfl rfl rfl rfl ?_)
  intro v1 w4 h1 h2
  replace q0 : Os w w.heap.size g Z startL v1 c w4 := q0.app (ys := c) (Below.refl _ _) h1 h2
  clear h1 h2 hu
  go_wp2_with (at_builtin; refine app_byte q0 128 _ rfl (by omega) _ _ rfl rfl rfl rfl ?_)
  clear q0
  intro v2 w5 q0
  go_upto_region 3 with fail
  have htl : tlN c.length = 64 - (c.length + 8) % 64 := rfl
  generalize htd : tlN c.length = tl at *
  go_loopw [5] (fun v wr => ∃ t : Nat, t + 1 ≤ tl ∧ Os w w.heap.size g Z startL v (c ++ 128 :: zs t) wr) (fun v _ => 1000000000 - slen v)
  case atStart => exact ⟨0, by omega, q0⟩
  case round =>
    clear q0
    obtain ⟨t, ht, q0⟩ := hrel
    obtain ⟨a5, cap5, rfl, hc5, _⟩ := bytes_of_own q0.2.2.2.1
    have hlen : (c ++ 128 :: zs t).length = c.length + 1 + t := by simp [zs]; omega
    obtain ⟨n, hn⟩ : ∃ n, n = c.length + 1 + t := ⟨_, rfl⟩
    rw [← hn] at hlen
    have Hx : Unit → (c ++ 128 :: zs t) ++ [0] = c ++ 128 :: zs (t + 1) := fun _ => by simp [zs, List.replicate_succ']
    have Hpad : Unit → t + 1 = tl → ∀ ys, (c ++ 128 :: zs t) ++ ys = c ++ (128 :: zs (tl - 1) ++ ys) := fun _ e ys => by rw [← e, Nat.add_sub_cancel, List.append_assoc]
    generalize c ++ 128 :: zs t = xs at *
    rw [hlen] at q0 ⊢
    have Hn : Unit → n = c.length + 1 + t := fun _ => hn
    have hnb : n ≤ 200000000 := by omega
    by_cases hlt : t + 1 < tl
    · have hne : ((n : Int) % 64 == 56) = false := by rw [beq_eq_false_iff_ne]; omega
      have hne' : ((n : Int) % 64 != 56) = true := by rw [bne, hne]; rfl
      have Hr : Unit → t + 1 + 1 ≤ tl := fun _ => hlt
      have hlx : xs.length ≤ 400000000 := by omega
      clear hn hlt Hpad
      go_upto_region 4 with fail
      go_wp2_with (at_builtin; refine app_byte q0 0 _ rfl hlx _ _ rfl rfl rfl rfl ?_)
      intro v6 w6 q1
      clear q0
      obtain ⟨a6, cap6, rfl, _, _⟩ := bytes_of_own q1.2.2.2.1
      have hl6 : (xs ++ [0]).length = xs.length + 1 := by simp
      generalize (xs ++ [0]).length = n6 at *
      go_wp2_with fail
      go_roundw
      case rel => exact ⟨t + 1, Hr (), by rw [← Hx ()]; exact q1⟩
      case measure => simp [slen]; omega
    · have hne : ((n : Int) % 64 == 56) = true := by rw [beq_iff_eq]; omega
      have hne' : ((n : Int) % 64 != 56) = false := by rw [bne, hne]; rfl
      have e := Hpad () (by omega)
      have He : Unit → ∀ ys, xs ++ ys = c ++ (128 :: zs (tl - 1) ++ ys) := fun _ => e
      clear Hpad Hx e hn hlt
      clear hc5 Hn
      go_upto_region 7 with fail
      rw [show (c.length : Int) * 8 = ((c.length * 8 : Nat) : Int) by omega]
      obtain ⟨T8, hT8⟩ : ∃ T8, c.length * 8 = T8 := ⟨_, rfl⟩
      rw [hT8]
      have hTb : T8 ≤ 800000000 := by omega
      generalize wr = wo at *
      have qs : Os w w.heap.size g Z startL (.slice a5 n cap5) (xs ++ ln8 T8 0) wo := by rw [ln8, List.append_nil]; exact q0
      clear q0 hne hne'
      go_loopw [5, 7] (fun v i wr => ∃ k : Nat, k ≤ 8 ∧ i = .int .i64 (7 - (k : Int)) ∧ Os w w.heap.size g Z startL v (xs ++ ln8 T8 k) wr) (fun _ i _ => (intOf i + 1).toNat)
      case atStart => exact ⟨0, by omega, rfl, qs⟩
      case round =>
        clear qs
        obtain ⟨k, hk, rfl, qs⟩ := hrel
        by_cases hlt : k < 8
        · have hge : (0 : Int) ≤ 7 - (k : Int) := by omega
          go_upto_region 11 with fail
          generalize wr = wo at *
          go_loopw [8, 9] (fun x j wi => ∃ t : Nat, t + k ≤ 7 ∧ x = .int .u64 (dv T8 t : Int) ∧ j = .int .i64 (t : Int) ∧ wi = wo) (fun _ j _ => 8 - (intOf j).toNat)
          case atStart => exact ⟨0, by omega, rfl, rfl, rfl⟩
          case round =>
            obtain ⟨t, ht, rfl, rfl, rfl⟩ := hrel
            have hdl := dv_le T8 t
            by_cases hlt2 : t + k < 7
            · have hlj : (t : Int) < 7 - (k : Int) := by omega
              have Hdv : Unit → dv T8 (t + 1) = dv T8 t / 256 := fun _ => rfl
              generalize dv T8 t = D at *
              go_wp2_with fail
              exact ⟨⟨t + 1, by omega, by rw [Hdv ()]; simp, by simp, trivial⟩, by simp [intOf]; omega⟩
            · obtain rfl : t = 7 - k := by omega
              have Hln : Unit → ln8 T8 (k + 1) = ln8 T8 k ++ [dv T8 (7 - k) % 256] := fun _ => rfl
              have hll := ln8_len T8 k
              have hlx : (xs ++ ln8 T8 k).length ≤ 400000000 := by rw [List.length_append]; omega
              have hnl : ¬ ((7 - k : Nat) : Int) < 7 - (k : Int) := by omega
              generalize dv T8 (7 - k) = D at *
              generalize ln8 T8 k = L at *
              go_upto_region 14 with fail
              go_wp2_with (at_builtin; refine app_byte qs (D % 256) _ (by first | rfl | omega | simp) hlx _ _ rfl rfl rfl rfl ?_)
              clear qs
              intro v6 w6 qs
              rw [← Hln ()] at qs
              go_wp2_with fail
              go_roundw
              case rel => exact ⟨k + 1, by omega, by simp; omega, qs⟩
              case measure => simp [intOf]; omega
        · obtain rfl : k = 8 := by omega
          have hm : xs ++ ln8 T8 8 = c ++ padL c.length := by rw [He (), pad_eq _ (by omega), htd, hT8]
          have hml := padL_len c.length
          have hdv64 : (c ++ padL c.length).length = 64 * ((c ++ padL c.length).length / 64) := by rw [List.length_append, hml, htd]; omega
          have hmb : (c ++ padL c.length).length ≤ 200000000 ∧ 0 < (c ++ padL c.length).length := by rw [List.length_append, hml, htd]; omega
          have um : ∀ x ∈ c ++ padL c.length, U8 x := fun x hx => by
            rcases List.mem_append.1 hx with h | h
            · exact uc x h
            · exact padL_u _ (by omega) x h
          have Hsha : Unit → shaN c = dg (hsN (c ++ padL c.length) ((c ++ padL c.length).length / 64)) 8 := fun _ => rfl
          rw [hm] at qs
          generalize c ++ padL c.length = m at *
          generalize m.length / 64 = nb at *
          have Hdv64 : Unit → m.length = 64 * nb := fun _ => hdv64
          clear hdv64 He hm hml htl htd hlen hnb hT8 hTb hk hlt
          obtain ⟨gm, cap7, rfl, hcap, q0⟩ := qs.ot hmb.2
          clear qs
          replace q0 : Ot w w.heap.size g Z (hsN m 0) gm m wr := q0
          go_upto_region 16 with fail
          generalize wr = wo at *
          try simp only [Int.cast_ofNat_Int, Int.reduceSub]
          go_loopw [10] (fun i wr => ∃ k : Nat, k ≤ nb ∧ i = .int .i64 (64 * (k : Int)) ∧ Ot w w.heap.size g Z (hsN m k) gm m wr) (fun i _ => 1000000000 - (intOf i).toNat)
          case atStart => exact ⟨0, by omega, rfl, q0⟩
          case round =>
            clear q0
            obtain ⟨k, hk, rfl, q0⟩ := hrel
            by_cases hlt : k < nb
            · have hd64 := Hdv64 ()
              have hli : 64 * (k : Int) < (m.length : Int) := by omega
              obtain ⟨us, hcut, hus⟩ := BytesAt.part (w := wr) (v := .slice (some ⟨gm, 0, none⟩) m.length cap7) (b := m) ⟨_, _, rfl, hcap, fun _ => ⟨gm, 0, rfl, q0.2.2.2.1⟩⟩ (64 * k) 64 (by omega) (64 * (k : Int)) (64 * (k : Int) + 64) (by omega) (by omega)
              have hbl : ((m.drop (64 * k)).take 64).length = 64 := by rw [List.length_take, List.length_drop]; omega
              obtain ⟨ga, cp, rfl, hcp, hk2⟩ := hus
              obtain ⟨gs, os, rfl, hcs⟩ := hk2 (by intro e; rw [e] at hbl; simp at hbl)
              have Kr := Lib.hid (fun w' (h : Cls w' gs os _) => round_any (hsN m k) ((m.drop (64 * k)).take 64) (hsN_len m k) hbl (hsN_u m k) (fun x hx => um x (List.mem_of_mem_drop (List.mem_of_mem_take hx))) gs os cp w' h)
              have Hnx : Unit → hsN m (k + 1) = mixN (hsN m k) ((m.drop (64 * k)).take 64) := fun _ => rfl
              rw [hbl] at hcut
              have hhl := hsN_len m k
              have hml : (mixN (hsN m k) ((m.drop (64 * k)).take 64)).length = 8 := mixN_len hhl
              clear hcp hk2 hbl hd64
              generalize (m.drop (64 * k)).take 64 = bl at *
              generalize hsN m k = ws at *
              have hl1 : (ws.map v32).length = 8 := by rw [List.length_map, hhl]
              have hl2 : (keyL.map v32).length = 64 := rfl
              have hcw : ∀ (L : Marks) w', (fun (_ : Marks) w' => Below wr.heap.size wr w') L w' → Cls w' g 0 (ws.map v32) := fun _ w' h => (q0.2.1.keep h).cls 0 _ (fun j v hv => by rw [Nat.zero_add]; exact hv)
              have hck : ∀ (L : Marks) w', (fun (_ : Marks) w' => Below wr.heap.size wr w') L w' → Cls w' (g + 1) 0 (keyL.map v32) := fun _ w' h => (q0.2.2.1.keep h).cls 0 _ (fun j v hv => by rw [Nat.zero_add]; exact hv)
              have hx1 : IntKind.i64.wrap (64 * (k : Int) + 64) = 64 * (k : Int) + 64 := by simp [IntKind.wrap, IntKind.bits, IntKind.signed]; omega
              generalize keyL.map v32 = KL at *
              go_upto_region 18 with fail
              refine region_loose (fun _ w' => Below wr.heap.size wr w') 8 8 1 #[true, true, true, true, true, true, true, true, false] rfl (by kernel_rfl) (by kernel_rfl) (by kernel_rfl) ((Below.refl _ _).drew) ?_
              simp only [List.take_succ_cons, List.take_zero]
              repeat
                first
                | (refine loose_load g 0 _ 8 hl1 115 23 (by kernel_rfl) (by kernel_rfl) hcw _ (by decide) rfl rfl rfl ?_
                   simp only [Act.put, List.setIfInBounds_toArray, List.set_cons_zero, List.set_cons_succ])
                | (refine loose_load (g + 1) 0 _ 64 hl2 117 23 (by kernel_rfl) (by kernel_rfl) hck _ (by decide) rfl rfl rfl ?_
                   simp only [Act.put, List.setIfInBounds_toArray, List.set_cons_zero, List.set_cons_succ])
                | (refine loose_slice _ 5 (by kernel_rfl) _ _ _ _ _ _ hcut _ _ _ (by decide) rfl rfl rfl rfl rfl ?_
                   simp only [Act.put, List.setIfInBounds_toArray, List.set_cons_zero, List.set_cons_succ])
                | (refine loose_val (by decide) rfl ?_
                   apply Exists.intro
                   refine ⟨fun L' w' hw' => ?_, ?_⟩
                   · obtain hhh := hw'
                     go_simp
                     first | done | rfl | exact ⟨rfl, rfl⟩
                   simp only [Act.put, List.setIfInBounds_toArray, List.set_cons_zero, List.set_cons_succ])
                | (refine loose_call (by decide) rfl ?_
                   apply Exists.intro
                   apply Exists.intro
                   refine ⟨fun w' => ?_, ?_⟩
                   · go_simp
                     first | done | rfl | exact ⟨rfl, rfl⟩
                   apply Exists.intro
                   refine ⟨fun L' w' hw' => ?_, ?_⟩
                   · first
                     | (with_reducible refine (Kr.out _ (hcs.keep hw')).mono ?_); (rintro e w2 ⟨rfl, hdd⟩; exact ⟨rfl, hw'.trans (hdd.mono hw'.size)⟩)
                   simp only [Act.put, List.setIfInBounds_toArray, List.set_cons_zero, List.set_cons_succ])
                | (refine loose_new (by decide) rfl (fun L' w' hw' => ?_) (fun v => ?_)
                   · fail
                   simp only [Act.put, List.setIfInBounds_toArray, List.set_cons_zero, List.set_cons_succ])
              intro w5 hw5
              have q1 := q0.row hw5 (mixN ws bl)
              have h1 := q0.2.1.keep hw5
              refine wpAny_ready (rs := [8]) (by kernel_rfl) (by simp) ?_
              refine AllReady.cons rfl (fun K hK => ?_) AllReady.nil
              refine step_store g 0 _ _ h1 115 8 (by kernel_rfl) ((mixN ws bl).map v32) (by rw [List.length_map, hml]) (by rw [hl1]; omega) (one32 _) _ _ rfl rfl rfl rfl ?_
              refine hK _ _ ?_
              clear hK K
              refine wpAny_done (by kernel_rfl) ?_ _
              rw [splice_all _ _ (by rw [hl1, List.length_map, hml])]
              generalize w5.setRow g ((mixN ws bl).map v32).toArray = w8 at *
              clear h1 hw5 q0 hcw hck hl1 hl2 hcut hcs Kr
              generalize ((mixN ws bl).map v32).toArray = MA
              go_wp2_with fail
              go_roundw
              case rel => exact ⟨k + 1, by omega, by rw [show 64 * (k : Int) + 64 = 64 * ((k + 1 : Nat) : Int) by omega], by rw [Hnx ()]; exact q1⟩
              case measure => simp [intOf]; omega
            · obtain rfl : k = nb := by omega
              have hni : ¬ 64 * (k : Int) < (m.length : Int) := by have := Hdv64 (); omega
              have uws := hsN_u m k
              have hwl := hsN_len m k
              have Hsh : Unit → shaN c = dgo (hsN m k) 32 := fun _ => by rw [Hsha (), ← dgo_four _ uws 8]
              generalize hsN m k = ws at *
              go_upto_region 19 with fail
              go_upto_region 20 with fail
              have r5 := Rw.new wr 90 ((dgo ws 0).map v8)
              have hb5 : Below wr.heap.size wr (wr.alloc (.cells ((dgo ws 0).map v8).toArray 90)) := (Below.refl _ _).alloc (Nat.le_refl _) _
              change Code.wp _ _ _ _ (wr.alloc (.cells ((dgo ws 0).map v8).toArray 90))
              obtain ⟨q1, q2, q3, q4, q5, q6, q7⟩ := q0
              have hgo := q2.lt
              replace q1 := q1.keep hb5
              replace q2 := q2.keep hb5
              replace q5 := q5.trans (hb5.mono (Nat.le_of_lt (by omega)))
              generalize wr.alloc (.cells ((dgo ws 0).map v8).toArray 90) = w9 at *
              generalize wr.heap.size = O at *
              clear q3 q4 hb5 Hsha
              go_upto_region 21 with fail
              have hn1 : w.heap.size < O := by omega
              clear hni uc hl
              go_loopw [12] (fun i wr => ∃ k : Nat, k ≤ 32 ∧ i = .int .i64 (k : Int) ∧ Rw wr w.heap.size 90 Z ∧ Rw wr g 115 (ws.map v32) ∧ Rw wr O 90 ((dgo ws k).map v8) ∧ Below w.heap.size w wr) (fun i _ => 32 - (intOf i).toNat)
              case atStart => exact ⟨0, by omega, rfl, q1, q2, r5, q5⟩
              case round =>
                clear q1 q2 r5 q5
                obtain ⟨k, hk, rfl, q1, q2, r5, q5⟩ := hrel
                by_cases hlt : k < 32
                · obtain ⟨j, hj⟩ : ∃ j, j = k / 4 := ⟨_, rfl⟩
                  obtain ⟨r, hr⟩ : ∃ r, r = k % 4 := ⟨_, rfl⟩
                  have hj1 : (k : Int) / 4 = (j : Int) := by omega
                  have hr1 : (k : Int) % 4 = (r : Int) := by omega
                  have hj8 : (j : Int) < 8 := by omega
                  have hj8' : j < 8 := by omega
                  have hr4 : r < 4 := by omega
                  obtain ⟨x, hx⟩ : ∃ x, ws[j]? = some x := ⟨_, List.getElem?_eq_getElem (by omega)⟩
                  have ux : x < 4294967296 := uws x (List.mem_of_getElem? hx)
                  obtain ⟨y, hy⟩ : ∃ y, (dgo ws k)[k]? = some y := ⟨_, List.getElem?_eq_getElem (by rw [dgo_len]; omega)⟩
                  have Hnx : Unit → dgo ws (k + 1) = (dgo ws k).set k (dv x (3 - r) % 256) := fun _ => by rw [dgo, ← hj, hx, ← hr]; rfl
                  have z0 := (q2.cell j).trans (at32 hx)
                  have z1 := (r5.cell k).trans (at8 hy)
                  have y1 := r5.frozen k
                  have hki : (k : Int) < 32 := by omega
                  clear hj hr hx hy
                  go_upto_region 25 with fail
                  generalize wr = wo at *
                  go_loopw [13, 14] (fun n i wr => ∃ t : Nat, t + r ≤ 3 ∧ n = .int .u32 (dv x t : Int) ∧ i = .int .i64 (3 - (t : Int)) ∧ wr = wo) (fun _ i _ => (intOf i).toNat)
                  case atStart => exact ⟨0, by omega, rfl, rfl, rfl⟩
                  case round =>
                    obtain ⟨t, ht, rfl, rfl, rfl⟩ := hrel
                    have hdl := dv_le x t
                    by_cases hlt2 : t + r < 3
                    · have hgt : (r : Int) < 3 - (t : Int) := by omega
                      have Hdv : Unit → dv x (t + 1) = dv x t / 256 := fun _ => rfl
                      generalize dv x t = D at *
                      go_wp2_with fail
                      exact ⟨⟨t + 1, by omega, by rw [Hdv ()]; simp, by simp; omega, trivial⟩, by simp [intOf]; omega⟩
                    · obtain rfl : t = 3 - r := by omega
                      have hng : ¬ (r : Int) < 3 - ((3 - r : Nat) : Int) := by omega
                      generalize dv x (3 - r) = D at *
                      go_upto_region 28 with fail
                      go_wp2_with fail
                      refine ⟨⟨k + 1, by omega, by simp, q1.other (by omega) _ _, q2.other (by omega) _ _, ?_, q5.setCell (p := ⟨O, k, none⟩) (by simp; omega) _⟩, by simp [intOf]; omega⟩
                      have h7 := r5.setCell k (v8 (D % 256))
                      rw [← List.map_set, ← Hnx ()] at h7
                      exact h7
                · obtain rfl : k = 32 := by omega
                  have hs : ((dgo ws 32).map v8).length = 32 := by rw [List.length_map, dgo_len]
                  have h1 := one8 (dgo ws 32)
                  have hzl := HZ ()
                  have Hcs : Unit → (shaN c).map v8 = (dgo ws 32).map v8 := fun _ => by rw [Hsh ()]
                  generalize (dgo ws 32).map v8 = cs at *
                  clear hk hlt Hsh
                  go_wp2_with (first
                    | (refine load_arr _ _ _ r5 32 hs 90 5 (by kernel_rfl) (by kernel_rfl) _ rfl rfl rfl ?_)
                    | (refine store_arr _ _ _ q1 32 hzl 90 (by kernel_rfl) cs hs h1 _ _ rfl rfl rfl rfl ?_))
                  refine ret_arr w.heap.size 90 cs (q1.row cs) 32 hs 5 (by kernel_rfl) (by kernel_rfl) (by rfl) rfl rfl ?_
                  exact ⟨by rw [Hcs ()], below_setRow q5 (Nat.le_refl _) _⟩
end Go.Proofs.YtknhkmlihbgjpaaDoor.Dg
