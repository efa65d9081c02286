/- Words of 32 bits: turned, shifted, chosen, by majority: what each call returns; memory stays as it was. -/
import Derived.Test.YtknhkmlihbgjpaaDoorProg
import Derived.WalkKit
import Derived.ProofKit
import Derived.Lib.Hide
import Derived.Laws.BitsAllLaws
import Derived.Laws.Shifts
import Derived.BigQuiet
import Derived.KernelRfl
namespace Go.Proofs.YtknhkmlihbgjpaaDoor.Dg
open Go.ChangeShapes Go.WideShapes Go.RowKit

section
variable {P : Program} {ops : Array Oper} {C : World → Prop} {Q : Act → Prop} {a : Act} {o : Oper} {rest : List Oper} {K : Act → Prop}
theorem quiet_val (h : ∃ v, (∀ w, C w → (execOp a.eval o).run P w = .ok (.value v) w) ∧ K (a.put o.dst v)) : o.quiet P a C K := by
  obtain ⟨v, h1, h2⟩ := h
  exact ⟨v, fun w hw => by unfold Oper.quietAt; rw [h1 w hw]; exact ⟨rfl, rfl⟩, h2⟩
theorem quiet_call (h : ∃ f args, (∀ w, (execOp a.eval o).run P w = .ok (.enter f args) w) ∧ ∃ v, (∀ w, C w → Calls P f args w fun e w' => e = .returned v ∧ C w') ∧ K (a.put o.dst v)) : o.quiet P a C K := by
  obtain ⟨f, args, hr, v, h1, h2⟩ := h
  exact ⟨v, fun w hw => by unfold Oper.quietAt; rw [hr w]; exact ⟨rfl, h1 w hw⟩, h2⟩
theorem region_class {id : Nat} {R : Exit → Act → World → Prop} {w : World} {l : List Oper} (C : World → Prop) (hm : P.follows .mixedOrders = true) (hB : Region.lexB .any l.toArray = true) (hC : C w.drew)
    (h : wpQuiet P l.toArray C (fun a' => ∀ w', C w' → R .normal a' w') l a) : (Code.region id l.toArray true).wp P R a w :=
  wp_region_quiet (C := C) hm hB hC (by simpa using h)
end

/-- A number of 32 bits. -/
def U32 (x : Nat) : Prop := x < 4294967296
theorem U32.xor {a b : Nat} (ha : U32 a) (hb : U32 b) : U32 (a ^^^ b) := Nat.xor_lt_two_pow (n := 32) ha hb
theorem U32.and {a b : Nat} (ha : U32 a) : U32 (a &&& b) := Nat.lt_of_le_of_lt Nat.and_le_left ha
theorem U32.or {a b : Nat} (ha : U32 a) (hb : U32 b) : U32 (a ||| b) := Nat.or_lt_two_pow (n := 32) ha hb
theorem U32.mod (a : Nat) : U32 (a % 4294967296) := Nat.mod_lt _ (by omega)
theorem U32.div {a : Nat} (ha : U32 a) (b : Nat) : U32 (a / b) := Nat.lt_of_le_of_lt (Nat.div_le_self _ _) ha
theorem b_xor {a b : Nat} (ha : U32 a) (hb : U32 b) : bits .xor .u32 (a : Int) (b : Int) = ((a ^^^ b : Nat) : Int) := u32_xor_nat a b ha hb
theorem b_and {a b : Nat} (ha : U32 a) (hb : U32 b) : bits .and .u32 (a : Int) (b : Int) = ((a &&& b : Nat) : Int) := u32_and_nat a b ha hb
theorem b_or {a b : Nat} (ha : U32 a) (hb : U32 b) : bits .or .u32 (a : Int) (b : Int) = ((a ||| b : Nat) : Int) := u32_or_nat a b ha hb

/-- Only more was drawn. -/
def Drew (w w' : World) : Prop := ∃ d, w' = { w with drawn := d }
theorem Drew.refl (w : World) : Drew w w := ⟨_, rfl⟩
theorem Drew.drew {w w' : World} (h : Drew w w') : Drew w w'.drew := by obtain ⟨d, rfl⟩ := h; exact ⟨_, rfl⟩
theorem Drew.trans {a b c : World} (h : Drew a b) (k : Drew b c) : Drew a c := by obtain ⟨d, rfl⟩ := h; obtain ⟨e, rfl⟩ := k; exact ⟨e, rfl⟩
theorem Drew.below {w w' : World} (h : Drew w w') : Below w.heap.size w w' := by obtain ⟨d, rfl⟩ := h; exact ⟨rfl, rfl, rfl, Nat.le_refl _, fun _ _ => rfl⟩
theorem Drew.heap {w w' : World} (h : Drew w w') : w'.heap = w.heap := by obtain ⟨d, rfl⟩ := h; rfl

def chN (x y z : Nat) : Nat := (x &&& y) ^^^ ((4294967295 ^^^ x) &&& z)
def mjN (x y z : Nat) : Nat := ((x &&& y) ^^^ (x &&& z)) ^^^ (y &&& z)
def rrN (x a : Nat) : Nat := (x * 2 ^ (32 - a)) % 4294967296 ||| x / 2 ^ a
def tnN (x a b c : Nat) : Nat := (rrN x a ^^^ rrN x b) ^^^ rrN x c
def shN (x a b c : Nat) : Nat := (rrN x a ^^^ rrN x b) ^^^ x / 2 ^ c
theorem m32 : U32 4294967295 := by unfold U32; omega
theorem chN_u {x y z : Nat} (hx : U32 x) : U32 (chN x y z) := hx.and.xor (m32.xor hx).and
theorem mjN_u {x y z : Nat} (hx : U32 x) (hy : U32 y) : U32 (mjN x y z) := (hx.and.xor hx.and).xor hy.and
theorem rrN_u {x a : Nat} (hx : U32 x) : U32 (rrN x a) := (U32.mod _).or (hx.div _)
theorem tnN_u {x a b c : Nat} (hx : U32 x) : U32 (tnN x a b c) := ((rrN_u hx).xor (rrN_u hx)).xor (rrN_u hx)
theorem shN_u {x a b c : Nat} (hx : U32 x) : U32 (shN x a b c) := ((rrN_u hx).xor (rrN_u hx)).xor (hx.div _)

theorem ret_u32 {a : Int} {b : Nat} (h : a = (b : Int)) : Ending.returned (.int .u32 a) = .returned (.int .u32 (b : Int)) := by rw [h]

set_option maxHeartbeats 400000 in
theorem choice_any (x y z : Nat) (hx : U32 x) (hy : U32 y) (hz : U32 z) (w : World) :
    Calls Tryd.prog 109 #[.int .u32 (x : Int), .int .u32 (y : Int), .int .u32 (z : Int)] w fun e w' => e = .returned (.int .u32 (chN x y z : Int)) ∧ w' = w := by
  have h1 := Lib.hid (b_and hx hy)
  have h2 := Lib.hid (show bits .xor .u32 IntKind.u32.max (x : Int) = ((4294967295 ^^^ x : Nat) : Int) from b_xor (a := 4294967295) m32 hx)
  have h3 := Lib.hid (b_and (m32.xor hx) hz)
  have h4 := Lib.hid (b_xor hx.and (m32.xor hx).and (a := x &&& y) (b := (4294967295 ^^^ x) &&& z))
  go_enter Tryd.func109, Tryd.ntmps109
  go_wp2
  go_ret
  refine ⟨ret_u32 ?_, rfl⟩
  rw [h1.out, h2.out, h3.out, h4.out]
  rfl
set_option maxHeartbeats 400000 in
theorem majority_any (x y z : Nat) (hx : U32 x) (hy : U32 y) (hz : U32 z) (w : World) :
    Calls Tryd.prog 110 #[.int .u32 (x : Int), .int .u32 (y : Int), .int .u32 (z : Int)] w fun e w' => e = .returned (.int .u32 (mjN x y z : Int)) ∧ w' = w := by
  have h1 := Lib.hid (b_and hx hy)
  have h2 := Lib.hid (b_and hx hz)
  have h3 := Lib.hid (b_and hy hz)
  have h4 := Lib.hid (b_xor hx.and hx.and (a := x &&& y) (b := x &&& z))
  have h5 := Lib.hid (b_xor (hx.and.xor hx.and) hy.and (a := (x &&& y) ^^^ (x &&& z)) (b := y &&& z))
  go_enter Tryd.func110, Tryd.ntmps110
  go_wp2
  go_ret
  refine ⟨ret_u32 ?_, rfl⟩
  rw [h1.out, h2.out, h3.out, h4.out, h5.out]
  rfl

theorem neg_31 : ∀ a : Fin 32, 0 < a.val → bits .and .u64 (IntKind.u64.wrap (-(a.val : Int))) 31 = ((32 - a.val : Nat) : Int) := by decide
set_option maxHeartbeats 400000 in
theorem rotate_any (x a : Nat) (ha0 : 0 < a) (ha : a < 32) (hx : U32 x) (w : World) :
    Calls Tryd.prog 115 #[.int .u32 (x : Int), .int .i64 (-(a : Int))] w fun e w' => e = .returned (.int .u32 (rrN x a : Int)) ∧ w' = w := by
  have hn : bits .and .u64 (IntKind.u64.wrap (-(a : Int))) 31 = ((32 - a : Nat) : Int) := neg_31 ⟨a, ha⟩ ha0
  obtain ⟨s, hs⟩ : ∃ s, s = 32 - a := ⟨_, rfl⟩
  rw [← hs] at hn
  have hs1 : s < 32 := by omega
  have hs0 : 0 < s := by omega
  have Hs := Lib.hid hs
  have Hx := Lib.hid hx
  clear hs hx
  go_enter Tryd.func115, Tryd.ntmps115
  go_wp2
  go_ret
  refine ⟨ret_u32 ?_, rfl⟩
  have e1 : ((x : Int) * 2 ^ s % 4294967296) = ((x * 2 ^ s % 4294967296 : Nat) : Int) := by simp
  have e2 : ((x : Int) / 2 ^ (32 - s)) = ((x / 2 ^ (32 - s) : Nat) : Int) := by simp
  have e3 : 32 - s = a := by have := Hs.out; omega
  rw [e1, e2, b_or (U32.mod _) (Hx.out.div _), e3, Hs.out]
  rfl

theorem wrap_neg (a : Nat) (ha : a < 32) : IntKind.i64.wrap (-(a : Int)) = -(a : Int) := by
  simp [IntKind.wrap, IntKind.bits, IntKind.signed]; omega
set_option maxHeartbeats 800000 in
theorem turned_any (x a b c : Nat) (ha0 : 0 < a) (ha : a < 32) (hb0 : 0 < b) (hb : b < 32) (hc0 : 0 < c) (hc : c < 32) (hx : U32 x) (w : World) :
    Calls Tryd.prog 108 #[.int .u32 (x : Int), .int .i64 (a : Int), .int .i64 (b : Int), .int .i64 (c : Int)] w fun e w' => e = .returned (.int .u32 (tnN x a b c : Int)) ∧ w' = w := by
  have ka := Lib.hid (fun w => rotate_any x a ha0 ha hx w)
  have kb := Lib.hid (fun w => rotate_any x b hb0 hb hx w)
  have kc := Lib.hid (fun w => rotate_any x c hc0 hc hx w)
  have wa := wrap_neg a ha
  have wb := wrap_neg b hb
  have wc := wrap_neg c hc
  have h1 := b_xor (rrN_u hx (a := a)) (rrN_u hx (a := b))
  have h2 := b_xor ((rrN_u hx (a := a)).xor (rrN_u hx (a := b))) (rrN_u hx (a := c))
  clear ha0 ha hb0 hb hc0 hc hx
  go_enter Tryd.func108, Tryd.ntmps108
  go_wp2_with fail
  refine (ka.out _).mono ?_
  rintro e w1 ⟨rfl, rfl⟩
  go_wp2_with fail
  refine (kb.out _).mono ?_
  rintro e w1 ⟨rfl, rfl⟩
  go_wp2_with fail
  refine (kc.out _).mono ?_
  rintro e w1 ⟨rfl, rfl⟩
  go_wp2
  go_ret
  exact ⟨ret_u32 rfl, rfl⟩
set_option maxHeartbeats 800000 in
theorem shifted_any (x a b c : Nat) (ha0 : 0 < a) (ha : a < 32) (hb0 : 0 < b) (hb : b < 32) (hc : c < 32) (hx : U32 x) (w : World) :
    Calls Tryd.prog 114 #[.int .u32 (x : Int), .int .i64 (a : Int), .int .i64 (b : Int), .int .i64 (c : Int)] w fun e w' => e = .returned (.int .u32 (shN x a b c : Int)) ∧ Drew w w' := by
  have ka := Lib.hid (fun w => rotate_any x a ha0 ha hx w)
  have kb := Lib.hid (fun w => rotate_any x b hb0 hb hx w)
  have wa := wrap_neg a ha
  have wb := wrap_neg b hb
  have h1 := b_xor (rrN_u hx (a := a)) (rrN_u hx (a := b))
  have h2 : bits .xor .u32 ((rrN x a ^^^ rrN x b : Nat) : Int) ((x : Int) / 2 ^ c) = (shN x a b c : Int) := by
    rw [show (x : Int) / 2 ^ c = ((x / 2 ^ c : Nat) : Int) by simp, b_xor ((rrN_u hx (a := a)).xor (rrN_u hx (a := b))) (hx.div (2 ^ c))]
    rfl
  have h3 : min c 32 = c := by omega
  clear ha0 ha hb0 hb hx
  go_enter Tryd.func114, Tryd.ntmps114
  go_wp2_with fail
  try simp only [List.append_eq, List.cons_append, List.nil_append]
  refine region_class (fun w' => Drew w w') (by kernel_rfl) (by kernel_rfl) (⟨_, rfl⟩) ?_
  repeat
    first
    | go_big_quiet_skip
    | (go_big_quiet_want
       refine quiet_val ?_
       apply Exists.intro
       refine ⟨fun w' hw' => ?_, ?_⟩
       · obtain ⟨d, rfl⟩ := hw'
         go_simp
         first | done | rfl | exact ⟨rfl, rfl⟩
       simp only [Act.put, List.setIfInBounds_toArray, List.set_cons_zero, List.set_cons_succ]
       go_big_quiet_on)
    | (go_big_quiet_want
       refine quiet_call ?_
       apply Exists.intro
       apply Exists.intro
       refine ⟨fun w' => ?_, ?_⟩
       · go_simp
         first | done | rfl | exact ⟨rfl, rfl⟩
       apply Exists.intro
       refine ⟨fun w' hw' => ?_, ?_⟩
       · first
         | (with_reducible refine (ka.out _).mono ?_); (rintro e w2 ⟨rfl, rfl⟩; exact ⟨rfl, hw'⟩)
         | (with_reducible refine (kb.out _).mono ?_); (rintro e w2 ⟨rfl, rfl⟩; exact ⟨rfl, hw'⟩)
       simp only [Act.put, List.setIfInBounds_toArray, List.set_cons_zero, List.set_cons_succ]
       go_big_quiet_on)
  refine wpQuiet_nil ?_
  intro w5 hw5
  go_wp2
  go_ret
  exact ⟨rfl, hw5⟩
end Go.Proofs.YtknhkmlihbgjpaaDoor.Dg
