/- The first of a digest: the statement's own function returns true, of whatever bytes. -/
import Derived.Test.YtlhgpnkhfahlbaaDoorSame
namespace Go.Proofs.YtlhgpnkhfahlbaaDoor
open Go.ChangeShapes Go.WideShapes Go.RowKit

/-- The number of the first k bytes. -/
def vl (s : List Nat) : Nat → Nat
  | 0 => 0
  | k + 1 => vl s k * 256 + s[k]?.getD 0
theorem vl8 (s : List Nat) : n8 s = vl s 8 := by simp only [n8, wd, vl]; omega
theorem vl_lt {s : List Nat} (h : ∀ x ∈ s, U8 x) (k : Nat) : vl s k < 256 ^ k := by
  induction k with
  | zero => simp [vl]
  | succ k ih =>
    have := u8_get h k
    unfold U8 at this
    rw [vl, Nat.pow_succ]
    omega

set_option maxHeartbeats 400000 in
theorem add_nil (v : Value) (w : World) :
    Calls Tryd.prog 18 #[.pointer none, v] w fun e w' => e = .returned (.int .i64 0) ∧ w' = w := by
  go_enter Tryd.func18, Tryd.ntmps18
  go_wp2_with fail
  go_ret
  exact ⟨rfl, rfl⟩

set_option maxHeartbeats 1600000 in
theorem shortLaw_any (v : Value) (b : List Nat) (w : World) (ht : Tabs w) (hv : BytesAt w v b) (ub : ∀ x ∈ b, U8 x) (hl : b.length ≤ 9223372036854775807) :
    Calls Tryd.prog 6 #[v] w fun e w' => e = .returned (.bool true) ∧ Below w.heap.size w w' := by
  go_enter Tryd.func6, Tryd.ntmps6
  go_wp2_with fail
  refine (lives_any _ ht).mono ?_
  rintro e w1 ⟨rfl, hB⟩
  go_wp2_with fail
  refine (early_any _ b _ (hv.keep hB) hl).mono ?_
  rintro e w2 ⟨⟨u, rfl, hu⟩, rfl⟩
  have ub' : ∀ x ∈ b.take 300, U8 x := fun x hx => ub x (List.mem_of_mem_take hx)
  have hl' : (b.take 300).length < 576460752303423488 := by simp; omega
  clear hv ub hl
  generalize b.take 300 = c at *
  have hsl : (shaN c).length = 32 := shaN_len c
  have hsu := shaN_u c
  have Hsame : Unit → ∀ w, (binOp .eql 25 (.agg ((shaN []).map v8).toArray) (.agg ((shaN []).map v8).toArray)).run Tryd.prog w = .ok (.bool true) w := fun _ w => (same_sha [] w).1
  generalize hS : shaN c = S at *
  have HS : Unit → shaN c = S := fun _ => hS
  clear hS
  go_wp2_with fail
  refine (of_any _ c _ (ht.keep hB) hu ub' hl').mono ?_
  rintro e w3 ⟨rfl, hb3⟩
  rw [HS ()]
  replace hu := (hu.keep hb3).keep ((Below.refl _ _).alloc (Nat.le_refl _) (.cells (S.map v8).toArray 25))
  replace hB := hB.trans (hb3.mono hB.size)
  have r0 := Rw.new w3 25 (S.map v8)
  replace hB := hB.alloc hB.size (.cells (S.map v8).toArray 25)
  have hs : (S.map v8).length = 32 := by rw [List.length_map, hsl]
  have h1 := one8 S
  clear hb3
  go_upto_region 5 with (refine store_arr w3.heap.size 25 ((zs 32).map v8) (Rw.new w3 25 ((zs 32).map v8)) 32 rfl 25 (by kernel_rfl) _ hs h1 _ _ rfl rfl rfl rfl ?_)
  rw [World.setRow_alloc_new]
  generalize w3.alloc (.cells (S.map v8).toArray 25) = W1 at *
  generalize w3.heap.size = D at *
  simp only [Act.put]
  go_wp2_with fail
  refine (short_any _ c _ (ht.keep hB) hu ub' hl').mono ?_
  rintro e w4 ⟨rfl, hb4⟩
  rw [HS (), vl8]
  replace hB := hB.trans (hb4.mono hB.size)
  replace r0 := r0.keep hb4
  clear hb4 hs h1 hu ub' hl' HS
  go_upto_region 7 with fail
  go_loopw [4, 5] (fun n i wr => ∃ k : Nat, k ≤ 8 ∧ n = .int .u64 (vl S k : Int) ∧ i = .int .i64 ((k : Int) - 1) ∧ Rw wr D 25 (S.map v8) ∧ Below w.heap.size w wr) (fun _ i _ => (intOf i + 1).toNat)
  case atStart => exact ⟨8, by omega, rfl, rfl, r0, hB⟩
  case round =>
    clear r0 hB
    obtain ⟨k, hk, rfl, rfl, q0, qB⟩ := hrel
    by_cases h0 : k = 0
    · subst h0
      have hneg : ¬ (0 : Int) ≤ ((0 : Nat) : Int) - 1 := by omega
      clear hneg
      have hneg : ¬ (0 : Int) ≤ ((0 : Nat) : Int) - 1 := by omega
      go_wp2_with fail
      refine (add_nil _ _).mono ?_
      rintro e w5 ⟨rfl, rfl⟩
      go_wp2_with fail
      refine (now_any none [] _ (ht.keep qB) (.inl ⟨rfl, rfl⟩) (by simp) (by simp)).mono ?_
      rintro e w6 ⟨rfl, hb6⟩
      replace qB := qB.trans (hb6.mono qB.size)
      clear hb6 q0
      go_wp2_with fail
      refine (of_any (.slice none 0 0) [] _ (ht.keep qB) ⟨none, 0, rfl, by simp, fun h => absurd rfl h⟩ (by simp) (by simp)).mono ?_
      rintro e w7 ⟨rfl, hb7⟩
      replace qB := qB.trans (hb7.mono qB.size)
      clear hb7
      have hsame := Hsame ()
      generalize ((shaN []).map v8).toArray = Z0 at *
      go_wp2_with fail
      go_ret
      exact ⟨rfl, qB⟩
    · obtain ⟨j, rfl⟩ : ∃ j, k = j + 1 := ⟨k - 1, by omega⟩
      obtain ⟨x, hx⟩ : ∃ x, S[j]? = some x := ⟨_, List.getElem?_eq_getElem (by omega)⟩
      have ux : x < 256 := hsu x (List.mem_of_getElem? hx)
      have Hv : Unit → vl S (j + 1) = vl S j * 256 + x := fun _ => by rw [vl, hx]; rfl
      have cx := (q0.cell j).trans (at8 hx)
      have hj : ((j + 1 : Nat) : Int) - 1 = (j : Int) := by omega
      rw [hj, Hv ()]
      have hm : (((vl S j * 256 + x : Nat) : Int)).tmod 256 = (x : Int) := by
        show (((vl S j * 256 + x) % 256 : Nat) : Int) = _
        omega
      have hq : (((vl S j * 256 + x : Nat) : Int)).tdiv 256 = (vl S j : Int) := by
        show (((vl S j * 256 + x) / 256 : Nat) : Int) = _
        omega
      generalize vl S j * 256 + x = y at *
      have hjl : (j : Int) < 32 := by omega
      have hwr : IntKind.u64.wrap (vl S j : Int) = (vl S j : Int) := by
        have h1 := vl_lt hsu j
        have h2 : 256 ^ j ≤ 256 ^ 7 := Nat.pow_le_pow_right (by omega) (by omega)
        simp [IntKind.wrap, IntKind.bits, IntKind.signed]; omega
      go_wp2_with fail
      exact ⟨⟨j, by omega, rfl, rfl, q0, qB⟩, by simp [intOf]⟩
end Go.Proofs.YtlhgpnkhfahlbaaDoor
