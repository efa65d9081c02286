/- The document's own turning of words, and its tables: what each call returns. -/
import Derived.Test.YtlhgpnkhfahlbaaDoorSame
import Derived.Deep.CutRange
namespace Go.Proofs.YtlhgpnkhfahlbaaDoor
open Go.ChangeShapes Go.WideShapes Go.RowKit

/-- A word, turned right n times by one place. -/
def trN (x : Nat) : Nat → Nat
  | 0 => x
  | n + 1 => trN x n / 2 + trN x n % 2 * 2147483648
theorem trN_u {x : Nat} (h : U32 x) (n : Nat) : U32 (trN x n) := by
  induction n with
  | zero => exact h
  | succ n ih => unfold U32 at *; rw [trN]; omega
theorem trN_is (x n : Nat) (hn : n ≤ 32) : trN x n = (x % 2 ^ n) * 2 ^ (32 - n) + x / 2 ^ n := by
  induction n with
  | zero => simp [trN, Nat.mod_one]
  | succ n ih =>
    rw [trN, ih (by omega)]
    obtain ⟨k, hk⟩ : ∃ k, 32 - n = k + 1 := ⟨31 - n, by omega⟩
    have hk2 : 32 - (n + 1) = k := by omega
    have hp : (2 : Nat) ^ n * 2 ^ k = 2147483648 := by
      rw [← Nat.pow_add, show n + k = 31 by omega]
    have e1 : x / 2 ^ (n + 1) = x / 2 ^ n / 2 := by rw [Nat.pow_succ, Nat.div_div_eq_div_mul]
    have e2 : x % 2 ^ (n + 1) = x % 2 ^ n + 2 ^ n * (x / 2 ^ n % 2) := by rw [Nat.pow_succ, Nat.mod_mul]
    rw [hk, hk2, e1, e2, Nat.pow_succ, Nat.add_mul, ← Nat.mul_assoc]
    generalize x / 2 ^ n = q
    have e3 : 2 ^ n * (q % 2) * 2 ^ k = q % 2 * 2147483648 := by rw [Nat.mul_right_comm, hp, Nat.mul_comm]
    rw [e3]
    generalize x % 2 ^ n * 2 ^ k = r
    omega
theorem rrN_is (x a : Nat) (ha : a ≤ 32) (hx : U32 x) : rrN x a = (x % 2 ^ a) * 2 ^ (32 - a) + x / 2 ^ a := by
  unfold rrN U32 at *
  have hp : (2 : Nat) ^ a * 2 ^ (32 - a) = 4294967296 := by rw [← Nat.pow_add, show a + (32 - a) = 32 by omega]
  have e1 : x * 2 ^ (32 - a) % 4294967296 = (x % 2 ^ a) * 2 ^ (32 - a) := by rw [← hp, Nat.mul_mod_mul_right]
  rw [e1, nat_join (32 - a) _ _ (Nat.mul_mod_left _ _)]
  rw [Nat.div_lt_iff_lt_mul (Nat.two_pow_pos a), Nat.mul_comm, hp]
  exact hx
theorem trN_rrN {x n : Nat} (hn : n ≤ 32) (hx : U32 x) : trN x n = rrN x n := by rw [trN_is x n hn, rrN_is x n hn hx]

set_option maxHeartbeats 400000 in
theorem turn_any (x n : Nat) (hn : n ≤ 32) (hx : U32 x) (w : World) :
    Calls Tryd.prog 33 #[.int .u32 (x : Int), .int .i64 (n : Int)] w fun e w' => e = .returned (.int .u32 (rrN x n : Int)) ∧ w' = w := by
  have Hr : Unit → trN x n = rrN x n := fun _ => trN_rrN hn hx
  have Hu : Unit → ∀ k, U32 (trN x k) := fun _ => trN_u hx
  clear hx
  go_enter Tryd.func33, Tryd.ntmps33
  go_wp2
  go_loop [0, 5] (fun y i => ∃ k : Nat, k ≤ n ∧ y = .int .u32 (trN x k : Int) ∧ i = .int .i64 (k : Int)) (fun _ i => n - (intOf i).toNat)
  case atStart => exact ⟨0, by omega, rfl, rfl⟩
  case round =>
    obtain ⟨k, hk, rfl, rfl⟩ := hrel
    by_cases hlt : k < n
    · have hu := Hu () k
      have Hn : Unit → trN x (k + 1) = trN x k / 2 + trN x k % 2 * 2147483648 := fun _ => rfl
      generalize trN x k = y at *
      have hy : y < 4294967296 := hu
      obtain ⟨q, hq⟩ : ∃ q, q = y / 2 := ⟨_, rfl⟩
      obtain ⟨r, hr⟩ : ∃ r, r = y % 2 := ⟨_, rfl⟩
      have e1 : (y : Int).tdiv 2 = (q : Int) := by rw [hq]; rfl
      have e2 : (y : Int).tmod 2 = (r : Int) := by rw [hr]; rfl
      have e1' : (y : Int) / 2 = (q : Int) := by rw [hq]; rfl
      have e2' : (y : Int) % 2 = (r : Int) := by rw [hr]; rfl
      have hq1 : q < 2147483648 := by omega
      have hr1 : r < 2 := by omega
      rw [← hq, ← hr] at Hn
      clear hu hy hq hr
      have w1 : IntKind.u32.wrap (q : Int) = (q : Int) := by rw [IntKind.wrap_u32']; omega
      have w2 : IntKind.u32.wrap ((r : Int) * 2147483648) = (r : Int) * 2147483648 := by rw [IntKind.wrap_u32']; omega
      have w3 : IntKind.u32.wrap ((q : Int) + (r : Int) * 2147483648) = (q : Int) + (r : Int) * 2147483648 := by rw [IntKind.wrap_u32']; omega
      go_wp2
      go_round
      case rel => exact ⟨k + 1, by omega, by rw [Hn ()]; simp; try omega, by go_num⟩
      case measure => simp [intOf]; omega
    · obtain rfl : k = n := by omega
      rw [Hr ()]
      go_wp2
      go_ret
      exact ⟨rfl, rfl⟩

/-- A whole array is built. -/
theorem build_arr {P : Program} {ops : Array Oper} {rest : List Oper} {o : Oper} {a : Act} {w : World} {Q : Exit → Act → World → Prop} (cs : List Value) (t : TypeId) (parts : Array (Nat × Operand)) (hgd : o.guard = none) (ho : o.op = .build t parts)
    (hb : P.built t (parts.map fun (i, x) => (i, a.eval x)).toList = some cs.toArray)
    (h : wpList P ops Q rest (a.put o.dst (.agg cs.toArray)) w) : wpList P ops Q (o :: rest) a w :=
  wpList_build hgd t parts ho (by rw [hb]; rfl) (by rw [hb]; exact h)
set_option maxHeartbeats 400000 in
theorem rstart_any (w : World) :
    Calls Tryd.prog 22 #[] w fun e w' => e = .returned (.agg (startL.map v32).toArray) ∧ Below w.heap.size w w' := by
  have hs : (startL.map v32).length = 8 := rfl
  have h1 := one32 startL
  go_enter Tryd.func22, Tryd.ntmps22
  go_upto_region 1 with fail
  have r0 := Rw.new w 46 ((List.replicate 8 0).map v32)
  have hB := (Below.refl _ w).alloc (Nat.le_refl _) (.cells ((List.replicate 8 0).map v32).toArray 46)
  change Code.wp _ _ _ _ (w.alloc (.cells ((List.replicate 8 0).map v32).toArray 46))
  generalize w.alloc (.cells ((List.replicate 8 0).map v32).toArray 46) = W at *
  go_wp2_with (first
    | (refine build_arr (startL.map v32) 46 _ rfl rfl (by kernel_rfl) ?_)
    | (refine store_arr _ _ _ r0 8 rfl 46 (by kernel_rfl) (startL.map v32) hs h1 _ _ rfl rfl rfl rfl ?_))
  refine ret_arr w.heap.size 46 _ (r0.row _) 8 hs 45 (by kernel_rfl) (by kernel_rfl) (by rfl) rfl rfl ?_
  exact ⟨rfl, below_setRow hB (Nat.le_refl _) _⟩
set_option maxHeartbeats 400000 in
theorem rkeys_any (w : World) :
    Calls Tryd.prog 23 #[] w fun e w' => e = .returned (.agg (keyL.map v32).toArray) ∧ Below w.heap.size w w' := by
  have hs : (keyL.map v32).length = 64 := rfl
  have h1 := one32 keyL
  go_enter Tryd.func23, Tryd.ntmps23
  go_upto_region 1 with fail
  have r0 := Rw.new w 48 ((List.replicate 64 0).map v32)
  have hB := (Below.refl _ w).alloc (Nat.le_refl _) (.cells ((List.replicate 64 0).map v32).toArray 48)
  change Code.wp _ _ _ _ (w.alloc (.cells ((List.replicate 64 0).map v32).toArray 48))
  generalize w.alloc (.cells ((List.replicate 64 0).map v32).toArray 48) = W at *
  go_wp2_with (first
    | (refine build_arr (keyL.map v32) 48 _ rfl rfl (by kernel_rfl) ?_)
    | (refine store_arr _ _ _ r0 64 rfl 48 (by kernel_rfl) (keyL.map v32) hs h1 _ _ rfl rfl rfl rfl ?_))
  refine ret_arr w.heap.size 48 _ (r0.row _) 64 hs 45 (by kernel_rfl) (by kernel_rfl) (by rfl) rfl rfl ?_
  exact ⟨rfl, below_setRow hB (Nat.le_refl _) _⟩
end Go.Proofs.YtlhgpnkhfahlbaaDoor
