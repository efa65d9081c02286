/- DG: several texts in one. -/
import Derived.Test.YtknhkmlihbgjpaaDoorProg
import Derived.WalkKit
import Derived.ProofKit
import Derived.Lib.Hide
import Derived.Laws.BitsAllLaws
import Derived.Laws.Shifts
import Derived.BigQuiet
import Derived.KernelRfl
import Derived.Deep.WholeRow
import Derived.Laws.CopyOwn
import Derived.Deep.CutRange
import Derived.Deep.DeepCutAuto
import Derived.Laws.MakeOwn
import Derived.Laws.OwnMore
import Derived.Laws.BytesArg
import Derived.Laws.AppendOwn
import Derived.Laws.StructEq
/- Words of 32 bits: turned, shifted, chosen, by majority: what each call returns; memory stays as it was. -/
namespace Go.Proofs.YtknhkmlihbgjpaaDoor.Dg
open Go.ChangeShapes Go.WideShapes Go.RowKit

section
variable {P : Program} {ops : Array Oper} {C : World → Prop} {Q : Act → Prop} {a : Act} {o : Oper} {rest : List Oper} {K : Act → Prop}
theorem quiet_val (h : ∃ v, (∀ w, C w → (execOp a.eval o).run P w = .ok (.value v) w) ∧ K (a.put o.dst v)) : o.quiet P a C K := by
  obtain ⟨v, h1, h2⟩ := h
  exact ⟨v, fun w hw => by unfold Oper.quietAt; rw [h1 w hw]; exact ⟨rfl, rfl⟩, h2⟩
theorem quiet_call (h : ∃ f args, (∀ w, (execOp a.eval o).run P w = .ok (.enter f args) w) ∧ ∃ v, (∀ w, C w → Calls P f args w fun e w' => e = .returned v ∧ C w') ∧ K (a.put o.dst v)) : o.quiet P a C K := by
  obtain ⟨f, args, hr, v, h1, h2⟩ := h
  exact ⟨v, fun w hw => by unfold Oper.quietAt; rw [hr w]; exact ⟨rfl, h1 w hw⟩, h2⟩
theorem region_class {id : Nat} {R : Exit → Act → World → Prop} {w : World} {l : List Oper} (C : World → Prop) (hm : P.follows .mixedOrders = true) (hB : Region.lexB .any l.toArray = true) (hC : C w.drew)
    (h : wpQuiet P l.toArray C (fun a' => ∀ w', C w' → R .normal a' w') l a) : (Code.region id l.toArray true).wp P R a w :=
  wp_region_quiet (C := C) hm hB hC (by simpa using h)
end

/-- A number of 32 bits. -/
def U32 (x : Nat) : Prop := x < 4294967296
theorem U32.xor {a b : Nat} (ha : U32 a) (hb : U32 b) : U32 (a ^^^ b) := Nat.xor_lt_two_pow (n := 32) ha hb
theorem U32.and {a b : Nat} (ha : U32 a) : U32 (a &&& b) := Nat.lt_of_le_of_lt Nat.and_le_left ha
theorem U32.or {a b : Nat} (ha : U32 a) (hb : U32 b) : U32 (a ||| b) := Nat.or_lt_two_pow (n := 32) ha hb
theorem U32.mod (a : Nat) : U32 (a % 4294967296) := Nat.mod_lt _ (by omega)
theorem U32.div {a : Nat} (ha : U32 a) (b : Nat) : U32 (a / b) := Nat.lt_of_le_of_lt (Nat.div_le_self _ _) ha
theorem b_xor {a b : Nat} (ha : U32 a) (hb : U32 b) : bits .xor .u32 (a : Int) (b : Int) = ((a ^^^ b : Nat) : Int) := u32_xor_nat a b ha hb
theorem b_and {a b : Nat} (ha : U32 a) (hb : U32 b) : bits .and .u32 (a : Int) (b : Int) = ((a &&& b : Nat) : Int) := u32_and_nat a b ha hb
theorem b_or {a b : Nat} (ha : U32 a) (hb : U32 b) : bits .or .u32 (a : Int) (b : Int) = ((a ||| b : Nat) : Int) := u32_or_nat a b ha hb

/-- Only more was drawn. -/
def Drew (w w' : World) : Prop := ∃ d, w' = { w with drawn := d }
theorem Drew.refl (w : World) : Drew w w := ⟨_, rfl⟩
theorem Drew.drew {w w' : World} (h : Drew w w') : Drew w w'.drew := by obtain ⟨d, rfl⟩ := h; exact ⟨_, rfl⟩
theorem Drew.trans {a b c : World} (h : Drew a b) (k : Drew b c) : Drew a c := by obtain ⟨d, rfl⟩ := h; obtain ⟨e, rfl⟩ := k; exact ⟨e, rfl⟩
theorem Drew.below {w w' : World} (h : Drew w w') : Below w.heap.size w w' := by obtain ⟨d, rfl⟩ := h; exact ⟨rfl, rfl, rfl, Nat.le_refl _, fun _ _ => rfl⟩
theorem Drew.heap {w w' : World} (h : Drew w w') : w'.heap = w.heap := by obtain ⟨d, rfl⟩ := h; rfl

def chN (x y z : Nat) : Nat := (x &&& y) ^^^ ((4294967295 ^^^ x) &&& z)
def mjN (x y z : Nat) : Nat := ((x &&& y) ^^^ (x &&& z)) ^^^ (y &&& z)
def rrN (x a : Nat) : Nat := (x * 2 ^ (32 - a)) % 4294967296 ||| x / 2 ^ a
def tnN (x a b c : Nat) : Nat := (rrN x a ^^^ rrN x b) ^^^ rrN x c
def shN (x a b c : Nat) : Nat := (rrN x a ^^^ rrN x b) ^^^ x / 2 ^ c
theorem m32 : U32 4294967295 := by unfold U32; omega
theorem chN_u {x y z : Nat} (hx : U32 x) : U32 (chN x y z) := hx.and.xor (m32.xor hx).and
theorem mjN_u {x y z : Nat} (hx : U32 x) (hy : U32 y) : U32 (mjN x y z) := (hx.and.xor hx.and).xor hy.and
theorem rrN_u {x a : Nat} (hx : U32 x) : U32 (rrN x a) := (U32.mod _).or (hx.div _)
theorem tnN_u {x a b c : Nat} (hx : U32 x) : U32 (tnN x a b c) := ((rrN_u hx).xor (rrN_u hx)).xor (rrN_u hx)
theorem shN_u {x a b c : Nat} (hx : U32 x) : U32 (shN x a b c) := ((rrN_u hx).xor (rrN_u hx)).xor (hx.div _)

theorem ret_u32 {a : Int} {b : Nat} (h : a = (b : Int)) : Ending.returned (.int .u32 a) = .returned (.int .u32 (b : Int)) := by rw [h]

set_option maxHeartbeats 400000 in
set_option maxRecDepth 100000 in
theorem choice_any (x y z : Nat) (hx : U32 x) (hy : U32 y) (hz : U32 z) (w : World) :
    Calls Tryd.prog 109 #[.int .u32 (x : Int), .int .u32 (y : Int), .int .u32 (z : Int)] w fun e w' => e = .returned (.int .u32 (chN x y z : Int)) ∧ w' = w := by
  have h1 := Lib.hid (b_and hx hy)
  have h2 := Lib.hid (show bits .xor .u32 IntKind.u32.max (x : Int) = ((4294967295 ^^^ x : Nat) : Int) from b_xor (a := 4294967295) m32 hx)
  have h3 := Lib.hid (b_and (m32.xor hx) hz)
  have h4 := Lib.hid (b_xor hx.and (m32.xor hx).and (a := x &&& y) (b := (4294967295 ^^^ x) &&& z))
  go_enter Tryd.func109, Tryd.ntmps109
  go_wp2
  go_ret
  refine ⟨ret_u32 ?_, rfl⟩
  rw [h1.out, h2.out, h3.out, h4.out]
  rfl
set_option maxHeartbeats 400000 in
set_option maxRecDepth 100000 in
theorem majority_any (x y z : Nat) (hx : U32 x) (hy : U32 y) (hz : U32 z) (w : World) :
    Calls Tryd.prog 110 #[.int .u32 (x : Int), .int .u32 (y : Int), .int .u32 (z : Int)] w fun e w' => e = .returned (.int .u32 (mjN x y z : Int)) ∧ w' = w := by
  have h1 := Lib.hid (b_and hx hy)
  have h2 := Lib.hid (b_and hx hz)
  have h3 := Lib.hid (b_and hy hz)
  have h4 := Lib.hid (b_xor hx.and hx.and (a := x &&& y) (b := x &&& z))
  have h5 := Lib.hid (b_xor (hx.and.xor hx.and) hy.and (a := (x &&& y) ^^^ (x &&& z)) (b := y &&& z))
  go_enter Tryd.func110, Tryd.ntmps110
  go_wp2
  go_ret
  refine ⟨ret_u32 ?_, rfl⟩
  rw [h1.out, h2.out, h3.out, h4.out, h5.out]
  rfl

theorem neg_31 : ∀ a : Fin 32, 0 < a.val → bits .and .u64 (IntKind.u64.wrap (-(a.val : Int))) 31 = ((32 - a.val : Nat) : Int) := by decide
set_option maxHeartbeats 400000 in
set_option maxRecDepth 100000 in
theorem rotate_any (x a : Nat) (ha0 : 0 < a) (ha : a < 32) (hx : U32 x) (w : World) :
    Calls Tryd.prog 115 #[.int .u32 (x : Int), .int .i64 (-(a : Int))] w fun e w' => e = .returned (.int .u32 (rrN x a : Int)) ∧ w' = w := by
  have hn : bits .and .u64 (IntKind.u64.wrap (-(a : Int))) 31 = ((32 - a : Nat) : Int) := neg_31 ⟨a, ha⟩ ha0
  obtain ⟨s, hs⟩ : ∃ s, s = 32 - a := ⟨_, rfl⟩
  rw [← hs] at hn
  have hs1 : s < 32 := by omega
  have hs0 : 0 < s := by omega
  have Hs := Lib.hid hs
  have Hx := Lib.hid hx
  clear hs hx
  go_enter Tryd.func115, Tryd.ntmps115
  go_wp2
  go_ret
  refine ⟨ret_u32 ?_, rfl⟩
  have e1 : ((x : Int) * 2 ^ s % 4294967296) = ((x * 2 ^ s % 4294967296 : Nat) : Int) := by simp
  have e2 : ((x : Int) / 2 ^ (32 - s)) = ((x / 2 ^ (32 - s) : Nat) : Int) := by simp
  have e3 : 32 - s = a := by have := Hs.out; omega
  rw [e1, e2, b_or (U32.mod _) (Hx.out.div _), e3, Hs.out]
  rfl

theorem wrap_neg (a : Nat) (ha : a < 32) : IntKind.i64.wrap (-(a : Int)) = -(a : Int) := by
  simp [IntKind.wrap, IntKind.bits, IntKind.signed]; omega
set_option maxHeartbeats 800000 in
set_option maxRecDepth 100000 in
theorem turned_any (x a b c : Nat) (ha0 : 0 < a) (ha : a < 32) (hb0 : 0 < b) (hb : b < 32) (hc0 : 0 < c) (hc : c < 32) (hx : U32 x) (w : World) :
    Calls Tryd.prog 108 #[.int .u32 (x : Int), .int .i64 (a : Int), .int .i64 (b : Int), .int .i64 (c : Int)] w fun e w' => e = .returned (.int .u32 (tnN x a b c : Int)) ∧ w' = w := by
  have ka := Lib.hid (fun w => rotate_any x a ha0 ha hx w)
  have kb := Lib.hid (fun w => rotate_any x b hb0 hb hx w)
  have kc := Lib.hid (fun w => rotate_any x c hc0 hc hx w)
  have wa := wrap_neg a ha
  have wb := wrap_neg b hb
  have wc := wrap_neg c hc
  have h1 := b_xor (rrN_u hx (a := a)) (rrN_u hx (a := b))
  have h2 := b_xor ((rrN_u hx (a := a)).xor (rrN_u hx (a := b))) (rrN_u hx (a := c))
  clear ha0 ha hb0 hb hc0 hc hx
  go_enter Tryd.func108, Tryd.ntmps108
  go_wp2_with fail
  refine (ka.out _).mono ?_
  rintro e w1 ⟨rfl, rfl⟩
  go_wp2_with fail
  refine (kb.out _).mono ?_
  rintro e w1 ⟨rfl, rfl⟩
  go_wp2_with fail
  refine (kc.out _).mono ?_
  rintro e w1 ⟨rfl, rfl⟩
  go_wp2
  go_ret
  exact ⟨ret_u32 rfl, rfl⟩
set_option maxHeartbeats 800000 in
set_option maxRecDepth 100000 in
theorem shifted_any (x a b c : Nat) (ha0 : 0 < a) (ha : a < 32) (hb0 : 0 < b) (hb : b < 32) (hc : c < 32) (hx : U32 x) (w : World) :
    Calls Tryd.prog 114 #[.int .u32 (x : Int), .int .i64 (a : Int), .int .i64 (b : Int), .int .i64 (c : Int)] w fun e w' => e = .returned (.int .u32 (shN x a b c : Int)) ∧ Drew w w' := by
  have ka := Lib.hid (fun w => rotate_any x a ha0 ha hx w)
  have kb := Lib.hid (fun w => rotate_any x b hb0 hb hx w)
  have wa := wrap_neg a ha
  have wb := wrap_neg b hb
  have h1 := b_xor (rrN_u hx (a := a)) (rrN_u hx (a := b))
  have h2 : bits .xor .u32 ((rrN x a ^^^ rrN x b : Nat) : Int) ((x : Int) / 2 ^ c) = (shN x a b c : Int) := by
    rw [show (x : Int) / 2 ^ c = ((x / 2 ^ c : Nat) : Int) by simp, b_xor ((rrN_u hx (a := a)).xor (rrN_u hx (a := b))) (hx.div (2 ^ c))]
    rfl
  have h3 : min c 32 = c := by omega
  clear ha0 ha hb0 hb hx
  go_enter Tryd.func114, Tryd.ntmps114
  go_wp2_with fail
  try simp only [List.append_eq, List.cons_append, List.nil_append]
  refine region_class (fun w' => Drew w w') (by kernel_rfl) (by kernel_rfl) (⟨_, rfl⟩) ?_
  repeat
    first
    | go_big_quiet_skip
    | (go_big_quiet_want
       refine quiet_val ?_
       apply Exists.intro
       refine ⟨fun w' hw' => ?_, ?_⟩
       · obtain ⟨d, rfl⟩ := hw'
         go_simp
         first | done | rfl | exact ⟨rfl, rfl⟩
       simp only [Act.put, List.setIfInBounds_toArray, List.set_cons_zero, List.set_cons_succ]
       go_big_quiet_on)
    | (go_big_quiet_want
       refine quiet_call ?_
       apply Exists.intro
       apply Exists.intro
       refine ⟨fun w' => ?_, ?_⟩
       · go_simp
         first | done | rfl | exact ⟨rfl, rfl⟩
       apply Exists.intro
       refine ⟨fun w' hw' => ?_, ?_⟩
       · first
         | (with_reducible refine (ka.out _).mono ?_); (rintro e w2 ⟨rfl, rfl⟩; exact ⟨rfl, hw'⟩)
         | (with_reducible refine (kb.out _).mono ?_); (rintro e w2 ⟨rfl, rfl⟩; exact ⟨rfl, hw'⟩)
       simp only [Act.put, List.setIfInBounds_toArray, List.set_cons_zero, List.set_cons_succ]
       go_big_quiet_on)
  refine wpQuiet_nil ?_
  intro w5 hw5
  go_wp2
  go_ret
  exact ⟨rfl, hw5⟩
end Go.Proofs.YtknhkmlihbgjpaaDoor.Dg
/- A word of four bytes: how it is read and written. -/
namespace Go.Proofs.YtknhkmlihbgjpaaDoor.Dg
open Go.ChangeShapes Go.WideShapes Go.RowKit

/-- A byte. -/
def U8 (x : Nat) : Prop := x < 256
def wd (a b c d : Nat) : Nat := a * 16777216 + b * 65536 + c * 256 + d
theorem wd_u {a b c d : Nat} (ha : U8 a) (hb : U8 b) (hc : U8 c) (hd : U8 d) : U32 (wd a b c d) := by unfold U8 at *; unfold U32 wd; omega
theorem or_join {i x y : Nat} {p : Int} (hp : p = ((x + y : Nat) : Int)) (hx : x % 2 ^ i = 0) (hy : y < 2 ^ i) (ux : U32 x) (uy : U32 y) : bits .or .u32 (x : Int) (y : Int) = p := by
  rw [b_or ux uy, nat_join i x y hx hy, hp]

/-- Four bytes lie from place o of block g on. -/
def Four (w : World) (g o a b c d : Nat) : Prop := w.cell? ⟨g, o, none⟩ = some (.int .u8 (a : Int)) ∧ w.cell? ⟨g, o + 1, none⟩ = some (.int .u8 (b : Int)) ∧ w.cell? ⟨g, o + 2, none⟩ = some (.int .u8 (c : Int)) ∧ w.cell? ⟨g, o + 3, none⟩ = some (.int .u8 (d : Int))
theorem Drew.cell {w w' : World} (h : Drew w w') (a : Addr) : w'.cell? a = w.cell? a := by obtain ⟨d, rfl⟩ := h; rfl
theorem Drew.frozen {w w' : World} (h : Drew w w') (a : Addr) : w'.frozen? a = w.frozen? a := by obtain ⟨d, rfl⟩ := h; rfl
theorem Four.drew {w w' : World} {g o a b c d : Nat} (h : Four w g o a b c d) (k : Drew w w') : Four w' g o a b c d := by
  unfold Four at *; rw [k.cell, k.cell, k.cell, k.cell]; exact h
theorem wd_bits {a b c d : Nat} (ha : U8 a) (hb : U8 b) (hc : U8 c) (hd : U8 d) : bits .or .u32 (bits .or .u32 (bits .or .u32 (IntKind.u32.wrap ((a : Int) * 16777216)) (IntKind.u32.wrap ((b : Int) * 65536))) (IntKind.u32.wrap ((c : Int) * 256))) (d : Int) = (wd a b c d : Int) := by
  unfold U8 at *
  rw [IntKind.wrap_u32', IntKind.wrap_u32', IntKind.wrap_u32']
  rw [show (a : Int) * 16777216 % 4294967296 = ((a * 16777216 : Nat) : Int) by omega, show (b : Int) * 65536 % 4294967296 = ((b * 65536 : Nat) : Int) by omega, show (c : Int) * 256 % 4294967296 = ((c * 256 : Nat) : Int) by omega]
  rw [or_join (i := 24) rfl (by omega) (by omega) (show _ < _ by omega) (show _ < _ by omega)]
  rw [or_join (i := 16) rfl (by omega) (by omega) (show _ < _ by omega) (show _ < _ by omega)]
  rw [or_join (i := 8) rfl (by omega) (by omega) (show _ < _ by omega) (show _ < _ by omega)]
  rfl
set_option maxHeartbeats 800000 in
set_option maxRecDepth 100000 in
theorem word_any (g o len cap : Nat) (hl : 4 ≤ len) (a b c d : Nat) (ha : U8 a) (hb : U8 b) (hc : U8 c) (hd : U8 d) (w : World) (h4 : Four w g o a b c d) :
    Calls Tryd.prog 71 #[.slice (some ⟨g, o, none⟩) len cap] w fun e w' => e = .returned (.int .u32 (wd a b c d : Int)) ∧ Drew w w' := by
  have l0 : 0 < len := by omega
  have l1 : (1 : Int) < (len : Int) := by omega
  have l2 : (2 : Int) < (len : Int) := by omega
  have l3 : (3 : Int) < (len : Int) := by omega
  have a1 : IntKind.u32.wrap (a : Int) = (a : Int) := by rw [IntKind.wrap_u32']; unfold U8 at ha; omega
  have b1 : IntKind.u32.wrap (b : Int) = (b : Int) := by rw [IntKind.wrap_u32']; unfold U8 at hb; omega
  have c1 : IntKind.u32.wrap (c : Int) = (c : Int) := by rw [IntKind.wrap_u32']; unfold U8 at hc; omega
  have d1 : IntKind.u32.wrap (d : Int) = (d : Int) := by rw [IntKind.wrap_u32']; unfold U8 at hd; omega
  go_enter Tryd.func71, Tryd.ntmps71
  go_wp2_with fail
  try simp only [List.append_eq, List.cons_append, List.nil_append]
  refine region_class (fun w' => Drew w w' ∧ Four w' g o a b c d) (by kernel_rfl) (by kernel_rfl) (⟨⟨_, rfl⟩, h4⟩) ?_
  repeat
    first
    | go_big_quiet_skip
    | (go_big_quiet_want
       refine quiet_val ?_
       apply Exists.intro
       refine ⟨fun w' hw' => ?_, ?_⟩
       · obtain ⟨_, k0, k1, k2, k3⟩ := hw'
         go_simp
         first | done | rfl | exact ⟨rfl, rfl⟩
       simp only [Act.put, List.setIfInBounds_toArray, List.set_cons_zero, List.set_cons_succ]
       go_big_quiet_on)
    | (go_big_quiet_want
       refine quiet_call ?_
       apply Exists.intro
       apply Exists.intro
       refine ⟨fun w' => ?_, ?_⟩
       · go_simp
         first | done | rfl | exact ⟨rfl, rfl⟩
       apply Exists.intro
       refine ⟨fun w' hw' => ?_, ?_⟩
       · first
         | fail
       simp only [Act.put, List.setIfInBounds_toArray, List.set_cons_zero, List.set_cons_succ]
       go_big_quiet_on)
  refine wpQuiet_nil ?_
  intro w5 hw5
  go_wp2
  go_ret
  exact ⟨ret_u32 (wd_bits ha hb hc hd), hw5.1⟩

/-- The four bytes of a word. -/
def b0 (x : Nat) : Nat := x / 16777216
def b1 (x : Nat) : Nat := x / 65536 % 256
def b2 (x : Nat) : Nat := x / 256 % 256
def b3 (x : Nat) : Nat := x % 256
def put4 (w : World) (g o x : Nat) : World :=
  (((w.setCell ⟨g, o, none⟩ (.int .u8 (b0 x : Int))).setCell ⟨g, o + 1, none⟩ (.int .u8 (b1 x : Int))).setCell ⟨g, o + 2, none⟩ (.int .u8 (b2 x : Int))).setCell ⟨g, o + 3, none⟩ (.int .u8 (b3 x : Int))
set_option maxHeartbeats 800000 in
set_option maxRecDepth 100000 in
theorem putWord_any (g o len cap : Nat) (hl : 4 ≤ len) (x : Nat) (hx : U32 x) (w : World) (a b c d : Nat) (h4 : Four w g o a b c d)
    (f0 : w.frozen? ⟨g, o, none⟩ = false) (f1 : w.frozen? ⟨g, o + 1, none⟩ = false) (f2 : w.frozen? ⟨g, o + 2, none⟩ = false) (f3 : w.frozen? ⟨g, o + 3, none⟩ = false) :
    Calls Tryd.prog 98 #[.slice (some ⟨g, o, none⟩) len cap, .int .u32 (x : Int)] w fun e w' => (∃ v, e = .returned v) ∧ w' = put4 w g o x := by
  have l0 : 0 < len := by omega
  have l1 : (1 : Int) < (len : Int) := by omega
  have l2 : (2 : Int) < (len : Int) := by omega
  have l3 : (3 : Int) < (len : Int) := by omega
  obtain ⟨k0, k1, k2, k3⟩ := h4
  go_enter Tryd.func98, Tryd.ntmps98
  go_wp2
  go_end0
  refine ⟨⟨_, rfl⟩, ?_⟩
  have e0 : (x : Int) / 16777216 % 256 = (b0 x : Int) := by unfold U32 at hx; unfold b0; omega
  have e1 : (x : Int) / 65536 % 256 = (b1 x : Int) := by unfold b1; omega
  have e2 : (x : Int) / 256 % 256 = (b2 x : Int) := by unfold b2; omega
  have e3 : (x : Int) % 256 = (b3 x : Int) := by unfold b3; omega
  rw [e0, e1, e2, e3]
  rfl
end Go.Proofs.YtknhkmlihbgjpaaDoor.Dg
/- Rows of numbers in memory: what is read, what a store and a copy make of them. -/
namespace Go.Proofs.YtknhkmlihbgjpaaDoor.Dg
open Go.ChangeShapes Go.WideShapes Go.RowKit

/-- Block g holds the row cs of type t. -/
def Rw (w : World) (g : Nat) (t : TypeId) (cs : List Value) : Prop := w.heap[g]? = some (.cells cs.toArray t (0, 0))
def v8 (x : Nat) : Value := .int .u8 (x : Int)
def v32 (x : Nat) : Value := .int .u32 (x : Int)
theorem Rw.lt {w : World} {g : Nat} {t : TypeId} {cs : List Value} (h : Rw w g t cs) : g < w.heap.size := (Array.getElem?_eq_some_iff.1 h).1
theorem Rw.drew {w w' : World} {g : Nat} {t : TypeId} {cs : List Value} (h : Rw w g t cs) (k : Drew w w') : Rw w' g t cs := by unfold Rw at *; rw [k.heap]; exact h
theorem Rw.keep {w w' : World} {g : Nat} {t : TypeId} {cs : List Value} (h : Rw w g t cs) (k : Below w.heap.size w w') : Rw w' g t cs := by unfold Rw at *; rw [k.block g (Rw.lt h)]; exact h
theorem Rw.cell {w : World} {g : Nat} {t : TypeId} {cs : List Value} (h : Rw w g t cs) (j : Nat) : w.cell? ⟨g, j, none⟩ = cs[j]? := by
  rw [cell_of_row w g j cs.toArray t (0, 0) h]; simp
theorem Rw.frozen {w : World} {g : Nat} {t : TypeId} {cs : List Value} (h : Rw w g t cs) (j : Nat) : w.frozen? ⟨g, j, none⟩ = false := by
  unfold Rw at h; simp [World.frozen?, h]
theorem Rw.setCell {w : World} {g : Nat} {t : TypeId} {cs : List Value} (h : Rw w g t cs) (i : Nat) (v : Value) : Rw (w.setCell ⟨g, i, none⟩ v) g t (cs.set i v) := by
  rw [setCell_eq_setRow w g i cs.toArray t (0, 0) v h]
  unfold Rw
  rw [setRow_heap w g _ _ t _ h]; simp
theorem Rw.other {w : World} {g k : Nat} {t : TypeId} {cs : List Value} (h : Rw w g t cs) (hk : g ≠ k) (i : Nat) (v : Value) : Rw (w.setCell ⟨k, i, none⟩ v) g t cs := by
  unfold Rw at *; rw [← h]; exact Below.heap_setCell _ ⟨k, i, none⟩ _ g hk
theorem Rw.new (w : World) (t : TypeId) (cs : List Value) : Rw (w.alloc (.cells cs.toArray t)) w.heap.size t cs := heap_alloc_last w _
theorem Rw.past {w : World} {g : Nat} {t : TypeId} {cs : List Value} (h : Rw w g t cs) (o : Obj) : Rw (w.alloc o) g t cs := h.keep ((Below.refl _ _).alloc (Nat.le_refl _) _)
theorem at8 {xs : List Nat} {j x : Nat} (h : xs[j]? = some x) : (xs.map v8)[j]? = some (.int .u8 (x : Int)) := by simp [h, v8]
theorem at32 {xs : List Nat} {j x : Nat} (h : xs[j]? = some x) : (xs.map v32)[j]? = some (.int .u32 (x : Int)) := by simp [h, v32]
theorem Rw.four {w : World} {g : Nat} {t : TypeId} {xs : List Nat} (h : Rw w g t (xs.map v8)) (o : Nat) (ho : o + 4 ≤ xs.length) :
    Four w g o (xs[o]?.getD 0) (xs[o + 1]?.getD 0) (xs[o + 2]?.getD 0) (xs[o + 3]?.getD 0) := by
  refine ⟨?_, ?_, ?_, ?_⟩ <;> rw [h.cell] <;> apply at8 <;> rw [List.getElem?_eq_getElem (by omega)] <;> rfl
theorem u8_get {xs : List Nat} (h : ∀ x ∈ xs, U8 x) (j : Nat) : U8 (xs[j]?.getD 0) := by
  cases e : xs[j]? with
  | none => exact (show 0 < 256 by omega)
  | some x => exact h x (List.mem_of_getElem? e)
theorem u32_get {xs : List Nat} (h : ∀ x ∈ xs, U32 x) (j : Nat) : U32 (xs[j]?.getD 0) := by
  cases e : xs[j]? with
  | none => exact (show 0 < 4294967296 by omega)
  | some x => exact h x (List.mem_of_getElem? e)
theorem u32_set {xs : List Nat} (h : ∀ x ∈ xs, U32 x) {y : Nat} (hy : U32 y) (j : Nat) : ∀ x ∈ xs.set j y, U32 x := by
  intro x hx
  rcases List.mem_or_eq_of_mem_set hx with h1 | rfl
  · exact h x h1
  · exact hy
theorem add_off (g k : Nat) : (⟨g, 0, none⟩ : Addr).add k = ⟨g, k, none⟩ := by unfold Addr.add; split <;> simp_all
/-- The part of an array from place k on. -/
theorem cut_from {P : Program} (t e : TypeId) (n g k : Nat) (l : Int) (hl : l = (k : Int)) (hk : k < n) (ht : P.underlying t = some (.array n e)) (he : (P.info? e).map (·.size) = some 1) (w : World) :
    (Instr.sliceAt t (.pointer (some ⟨g, 0, none⟩)) (some (.int .i64 l)) none none).run P w = .ok (.slice (some ⟨g, k, none⟩) (n - k) (n - k)) w := by
  subst hl
  have hz : ∀ w, (sizeOf e).run P w = .ok 1 w := fun w => by
    cases hq : P.info? e with
    | none => simp [hq] at he
    | some i => simp [hq] at he; simp [sizeOf, typeInfo, hq, he]
  have hne : ¬ n = k := by omega
  simp [Instr.sliceAt, Instr.sureAddr, run_underlying ht, Instr.sliceBounds, run_sliceBound, hz, hne, add_off, show (k : Int) ≤ (n : Int) by omega]
theorem cut_all {P : Program} (t e : TypeId) (n g : Nat) (ht : P.underlying t = some (.array n e)) (he : (P.info? e).map (·.size) = some 1) (w : World) :
    (Instr.sliceAt t (.pointer (some ⟨g, 0, none⟩)) none none none).run P w = .ok (.slice (some ⟨g, 0, none⟩) n n) w := by
  have hz : ∀ w, (sizeOf e).run P w = .ok 1 w := fun w => by
    cases hq : P.info? e with
    | none => simp [hq] at he
    | some i => simp [hq] at he; simp [sizeOf, typeInfo, hq, he]
  simp [Instr.sliceAt, Instr.sureAddr, run_underlying ht, Instr.sliceBounds, hz, add_off]
theorem one8 (xs : List Nat) : ∀ v ∈ xs.map v8, v.oneCell' = true := by intro v hv; obtain ⟨x, _, rfl⟩ := List.mem_map.1 hv; rfl
theorem one32 (xs : List Nat) : ∀ v ∈ xs.map v32, v.oneCell' = true := by intro v hv; obtain ⟨x, _, rfl⟩ := List.mem_map.1 hv; rfl
theorem Rw.row {w : World} {g : Nat} {t : TypeId} {cs : List Value} (h : Rw w g t cs) (cs' : List Value) : Rw (w.setRow g cs'.toArray) g t cs' := setRow_heap w g _ _ t _ h
theorem Rw.rowOther {w : World} {g k : Nat} {t : TypeId} {cs : List Value} (h : Rw w g t cs) (hk : g ≠ k) (a : Array Value) : Rw (w.setRow k a) g t cs := by unfold Rw at *; rw [setRow_other w k g a hk]; exact h
section
variable {P : Program} {ops : Array Oper} {rest : List Oper} {o : Oper} {a : Act} {w : World} {Q : Exit → Act → World → Prop}
/-- A whole array is read. -/
theorem load_arr (g : Nat) (t : TypeId) (cs : List Value) (hr : Rw w g t cs) (n : Nat) (hn : cs.length = n) (ty e : TypeId) (hu : P.underlying ty = some (.array n e)) (hi : (P.info? ty).map (·.size) = some n) (x : Operand) (hgd : o.guard = none) (ho : o.op = .load ty x)
    (hx : a.eval x = .pointer (some ⟨g, 0, none⟩))
    (h : wpList P ops Q rest (a.put o.dst (.agg cs.toArray)) w) : wpList P ops Q (o :: rest) a w :=
  wpList_load_row hgd ty x ho g hx t cs.toArray (0, 0) (.array n e) hr hu rfl (by rw [hi]; simp [hn]) h
/-- A whole array is written. -/
theorem store_arr (g : Nat) (t : TypeId) (old : List Value) (hr : Rw w g t old) (n : Nat) (ho' : old.length = n) (ty : TypeId) (hi : (P.info? ty).map (·.size) = some n) (cs : List Value) (hn : cs.length = n) (h1 : ∀ v ∈ cs, v.oneCell' = true) (x y : Operand) (hgd : o.guard = none) (ho : o.op = .store ty x y)
    (hx : a.eval x = .pointer (some ⟨g, 0, none⟩)) (hy : a.eval y = .agg cs.toArray)
    (h : wpList P ops Q rest (a.put o.dst undef) (w.setRow g cs.toArray)) : wpList P ops Q (o :: rest) a w :=
  wpList_store_row hgd ty x y ho g cs.toArray hx hy t old.toArray hr (by rw [hi]; simp [hn]) (by simp [hn, ho']) (by rw [Array.all_eq_true_iff_forall_mem]; intro v hv; exact h1 v (by simpa using hv)) h
/-- A result that is a whole array. -/
theorem ret_arr {fn : Func} {p : Tmp} {ty : TypeId} {R : Ending → World → Prop} (g : Nat) (t : TypeId) (cs : List Value) (hr : Rw w g t cs) (n : Nat) (hn : cs.length = n) (e : TypeId) (hu : P.underlying ty = some (.array n e)) (hi : (P.info? ty).map (·.size) = some n)
    (hf : fn.results = #[.cell p ty]) (hd : a.defers = []) (hp : a.tmps.getD p undef = .pointer (some ⟨g, 0, none⟩)) (h : R (.returned (.agg cs.toArray)) w) : bodyPost P fn R .ret a w :=
  bodyPost_ret (v := .agg cs.toArray) (results_cell_row hf a.tmps w g t cs.toArray (0, 0) (.array n e) hp hr hu rfl (by rw [hi]; simp [hn])) hd h
end
/-- The eight words at first, and the words of the rounds. -/
def startL : List Nat := [1779033703, 3144134277, 1013904242, 2773480762, 1359893119, 2600822924, 528734635, 1541459225]
def keyL : List Nat := [1116352408, 1899447441, 3049323471, 3921009573, 961987163, 1508970993, 2453635748, 2870763221, 3624381080, 310598401, 607225278, 1426881987, 1925078388, 2162078206, 2614888103, 3248222580, 3835390401, 4022224774, 264347078, 604807628, 770255983, 1249150122, 1555081692, 1996064986, 2554220882, 2821834349, 2952996808, 3210313671, 3336571891, 3584528711, 113926993, 338241895, 666307205, 773529912, 1294757372, 1396182291, 1695183700, 1986661051, 2177026350, 2456956037, 2730485921, 2820302411, 3259730800, 3345764771, 3516065817, 3600352804, 4094571909, 275423344, 430227734, 506948616, 659060556, 883997877, 958139571, 1322822218, 1537002063, 1747873779, 1955562222, 2024104815, 2227730452, 2361852424, 2428436474, 2756734187, 3204031479, 3329325298]
theorem start_u : ∀ x ∈ startL, U32 x := by unfold U32; decide
theorem key_u : ∀ x ∈ keyL, U32 x := by unfold U32; decide
/-- From place o of block g on lie the values cs. -/
def Cls (w : World) (g o : Nat) (cs : List Value) : Prop := ∀ j v, cs[j]? = some v → w.cell? ⟨g, o + j, none⟩ = some v
theorem Rw.cls {w : World} {g : Nat} {t : TypeId} {cs : List Value} (h : Rw w g t cs) (o : Nat) (xs : List Value) (k : ∀ j v, xs[j]? = some v → cs[o + j]? = some v) : Cls w g o xs := fun j v hv => by rw [h.cell]; exact k j v hv
theorem Cls.keep {w w' : World} {g o : Nat} {cs : List Value} (h : Cls w g o cs) (k : Below w.heap.size w w') : Cls w' g o cs := fun j v hv => by
  have := h j v hv
  rw [k.cell (World.block_lt_of_cell? w _ this)]; exact this
/-- The two tables of the package lie in memory. -/
def Tabs (w : World) : Prop := Cls w 0 0 (startL.map v32) ∧ Cls w 1 0 (keyL.map v32)
theorem Tabs.keep {w w' : World} (h : Tabs w) (k : Below w.heap.size w w') : Tabs w' := ⟨h.1.keep k, h.2.keep k⟩
section
variable {P : Program} {ops : Array Oper} {rest : List Oper} {o : Oper} {a : Act} {w : World} {Q : Exit → Act → World → Prop}
theorem add_any (g k j : Nat) : (⟨g, k, none⟩ : Addr).add j = ⟨g, k + j, none⟩ := by unfold Addr.add; split <;> simp_all
theorem run_load_cells (w : World) (g k : Nat) (ty : TypeId) (cs : List Value) (d : TypeDesc) (hc : Cls w g k cs)
    (hu : P.underlying ty = some d) (hd : (match d with | .struct _ | .array _ _ => true | _ => false) = true) (hi : (P.info? ty).map (·.size) = some cs.length) :
    (loadVar ty ⟨g, k, none⟩).run P w = .ok (.agg cs.toArray) w := by
  have hl := run_loadCells_list (P := P) w ⟨g, k, none⟩ cs (fun j v hv => by rw [add_any]; exact hc j v hv)
  cases hq : P.info? ty with
  | none => simp [hq] at hi
  | some i =>
    have hs : i.size = cs.length := by simpa [hq] using hi
    have hagg : (isAgg ty).run P w = .ok true w := by
      unfold isAgg
      rw [Sem.run_bind, run_underlying hu w]
      cases d <;> simp_all
    simp [loadVar, Sem.run_bind, hagg, sizeOf, typeInfo, hq, hs, hl]
/-- A whole array (or struct) is read, wherever it lies. -/
theorem load_at (g k : Nat) (cs : List Value) (hc : Cls w g k cs) (n : Nat) (hn : cs.length = n) (ty : TypeId) (d : TypeDesc) (hu : P.underlying ty = some d) (hd : (match d with | .struct _ | .array _ _ => true | _ => false) = true) (hi : (P.info? ty).map (·.size) = some n) (x : Operand) (hgd : o.guard = none) (ho : o.op = .load ty x)
    (hx : a.eval x = .pointer (some ⟨g, k, none⟩))
    (h : wpList P ops Q rest (a.put o.dst (.agg cs.toArray)) w) : wpList P ops Q (o :: rest) a w :=
  wpList_plain hgd fun _ hK => by
    unfold Oper.wp execOp
    simp only [ho, hx, Instr.loadAt, Instr.sureAddr, Sem.run_bind, Sem.run_pure, Result.andThen_ok, run_load_cells w g k ty cs d hc hu hd (by rw [hi, hn])]
    exact hK _ _ h
theorem run_store_at (w : World) (g k : Nat) (t ty : TypeId) (cur cs : List Value) (hr : Rw w g t cur) (hi : (P.info? ty).map (·.size) = some cs.length) (hk : k + cs.length ≤ cur.length) (h1 : ∀ v ∈ cs, v.oneCell' = true) :
    (storeVar ty ⟨g, k, none⟩ (.agg cs.toArray)).run P w = .ok () (w.setRow g (splice cur k cs).toArray) := by
  have := run_storeCells_at (P := P) g k t cs 0 cur.toArray w hr (by simpa using hk) h1
  cases hq : P.info? ty with
  | none => simp [hq] at hi
  | some i =>
    have hs : cs.length = i.size := by simpa [hq] using hi.symm
    simpa [storeVar, sizeOf, typeInfo, hq, Value.cells, hs, splice] using this
/-- A whole array (or struct) is written, wherever it lies. -/
theorem store_at (g k : Nat) (t : TypeId) (cur : List Value) (hr : Rw w g t cur) (ty : TypeId) (n : Nat) (hi : (P.info? ty).map (·.size) = some n) (cs : List Value) (hn : cs.length = n) (hk : k + n ≤ cur.length) (h1 : ∀ v ∈ cs, v.oneCell' = true) (x y : Operand) (hgd : o.guard = none) (ho : o.op = .store ty x y)
    (hx : a.eval x = .pointer (some ⟨g, k, none⟩)) (hy : a.eval y = .agg cs.toArray)
    (h : wpList P ops Q rest (a.put o.dst undef) (w.setRow g (splice cur k cs).toArray)) : wpList P ops Q (o :: rest) a w :=
  wpList_plain hgd fun _ hK => by
    unfold Oper.wp execOp
    simp only [ho, hx, hy, Instr.storeAt, Instr.sureAddr, Sem.run_bind, Sem.run_pure, Result.andThen_ok, run_store_at w g k t ty cur cs hr (by rw [hi, hn]) (by rw [hn]; exact hk) h1]
    exact hK _ _ h
end
theorem idx_arr {P : Program} (t e : TypeId) (n : Nat) (kd : IntKind) (cs : List Value) (k : Nat) (v : Value) (ht : P.underlying t = some (.array n e)) (he : P.underlying e = some (.int kd)) (hz : (P.info? e).map (·.size) = some 1) (hk : k < n) (hv : cs[k]? = some v) (w : World) :
    (Instr.index t (.agg cs.toArray) (.int .i64 (k : Int))).run P w = .ok v w := by
  have hz : ∀ w, (sizeOf e).run P w = .ok 1 w := fun w => by
    cases hq : P.info? e with
    | none => simp [hq] at hz
    | some i => simp [hq] at hz; simp [sizeOf, typeInfo, hq, hz]
  have ha : ∀ w, (isAgg e).run P w = .ok false w := fun w => by
    unfold isAgg
    rw [Sem.run_bind, run_underlying he w]
    simp
  simp [Instr.index, asIntOf, run_underlying ht, hz, part, ha, hv, hk]
end Go.Proofs.YtknhkmlihbgjpaaDoor.Dg
/- A region that draws its order: operations that yield one value in a class of worlds, then operations that make new memory (their values: whatever they are), then operations that wait for all of these: one walk in the order of the text serves every order. -/
namespace Go.Proofs.YtknhkmlihbgjpaaDoor.Dg
open Go

abbrev Marks := Nat → Option Value
def upd (L : Marks) (i : Nat) (v : Value) : Marks := fun j => if j = i then some v else L j
theorem upd_comm (L : Marks) {i j : Nat} (h : i ≠ j) (v u : Value) : upd (upd L i v) j u = upd (upd L j u) i v := by
  funext x
  unfold upd
  by_cases h1 : x = j
  · subst h1; simp [Ne.symm h]
  · simp [h1]

section
variable {P : Program} {ops : Array Oper} {C : Marks → World → Prop} {Q : Exit → Act → World → Prop} {md : Region.Mode} {q k : Nat}

/-- One value in every world of whichever class. -/
def YieldsL (P : Program) (ops : Array Oper) (C : Marks → World → Prop) (o : Oper) (v : Value) (a : Act) : Prop :=
  (Region.wanted o (yielded ops a.tmps) = true ∧ ∀ L w, C L w → o.quietAt P a (C L) w v) ∨ (Region.wanted o (yielded ops a.tmps) = false ∧ v = undef)
def looseUpon (P : Program) (C : Marks → World → Prop) (i : Nat) (L : Marks) : Result Next → Prop
  | .ok (.value v) w' => C (upd L i v) w'
  | .ok (.enter f args) w' => Calls P f args w' fun e w'' => ∃ v, e = .returned v ∧ C (upd L i v) w''
  | _ => False
/-- Some value, and a world of the class in which that value is marked. -/
def LooseIn (P : Program) (ops : Array Oper) (C : Marks → World → Prop) (o : Oper) (i : Nat) (a : Act) : Prop :=
  Region.wanted o (yielded ops a.tmps) = true ∧ ∀ L w, C L w → looseUpon P C i L ((execOp a.eval o).run P w)

theorem YieldsL.of_same {o : Oper} {v : Value} {a a' : Act} (hy : YieldsL P ops C o v a) (he : execOp a'.eval o = execOp a.eval o)
    (hw : Region.wanted o (yielded ops a'.tmps) = Region.wanted o (yielded ops a.tmps)) : YieldsL P ops C o v a' := by
  unfold YieldsL Oper.quietAt at *
  rw [he, hw]
  exact hy
theorem LooseIn.of_same {o : Oper} {i : Nat} {a a' : Act} (hy : LooseIn P ops C o i a) (he : execOp a'.eval o = execOp a.eval o)
    (hw : Region.wanted o (yielded ops a'.tmps) = Region.wanted o (yielded ops a.tmps)) : LooseIn P ops C o i a' := by
  unfold LooseIn at *
  rw [he, hw]
  exact hy

def lOp (P : Program) (ops : Array Oper) (C : Marks → World → Prop) (q i : Nat) (K : Act → Marks → Prop) (a : Act) (L : Marks) : Prop :=
  match ops[i]? with
  | none => K a L
  | some o => if q ≤ i then LooseIn P ops C o i a ∧ ∀ v, K (a.put o.dst v) (upd L i v) else ∃ v, YieldsL P ops C o v a ∧ K (a.put o.dst v) L

theorem lOp_mono {i : Nat} {a : Act} {L : Marks} {K K' : Act → Marks → Prop} (h : ∀ a L, K a L → K' a L) (hh : lOp P ops C q i K a L) : lOp P ops C q i K' a L := by
  unfold lOp at *
  cases ho : ops[i]? with
  | none => simp only [ho] at hh ⊢; exact h _ _ hh
  | some o =>
    simp only [ho] at hh ⊢
    split
    · rename_i hq; rw [if_pos hq] at hh; exact ⟨hh.1, fun v => h _ _ (hh.2 v)⟩
    · rename_i hq; rw [if_neg hq] at hh; obtain ⟨v, h1, h2⟩ := hh; exact ⟨v, h1, h _ _ h2⟩

/-- The first k have all come up. -/
def allB (k : Nat) (listed : Array Bool) : Bool := (List.range k).all fun i => listed.getD i true
theorem allB_false {k i : Nat} {listed : Array Bool} (hi : i < k) (h : listed.getD i true = false) : allB k listed = false := by
  rw [Bool.eq_false_iff]
  intro hc
  have := List.all_eq_true.1 hc i (List.mem_range.2 hi)
  rw [h] at this
  cases this

def wpAnyL (P : Program) (md : Region.Mode) (ops : Array Oper) (C : Marks → World → Prop) (Q : Exit → Act → World → Prop) (q k : Nat) : Nat → Array Bool → Act → Marks → Prop
  | 0, listed, a, L => allB k listed = true ∧ ∀ w, C L w → wpAny P md ops Q 0 listed a w
  | fuel + 1, listed, a, L => (allB k listed = true ∧ ∀ w, C L w → wpAny P md ops Q (fuel + 1) listed a w) ∨
      (Region.ready md ops listed ≠ [] ∧ ∀ i ∈ Region.ready md ops listed, lOp P ops C q i (wpAnyL P md ops C Q q k fuel (listed.setIfInBounds i true)) a L)

theorem wpOp_of_lOp {i : Nat} {a : Act} {L : Marks} {K : Act → Marks → Prop} {K' : Act → World → Prop} {w : World} (hC : C L w) (h : ∀ a L w', C L w' → K a L → K' a w') (hh : lOp P ops C q i K a L) : wpOp P ops Q i K' a w := by
  unfold lOp at hh
  unfold wpOp
  cases ho : ops[i]? with
  | none => simp only [ho] at hh ⊢; exact h _ _ _ hC hh
  | some o =>
    simp only [ho] at hh ⊢
    split at hh
    · obtain ⟨⟨hw, hl⟩, hk⟩ := hh
      rw [if_pos hw]
      refine .inl ?_
      have h3 := hl L w hC
      unfold Oper.wp
      generalize (execOp a.eval o).run P w = r at *
      cases r with
      | ok n w' =>
        cases n <;> simp only [looseUpon] at h3 <;> simp only [Oper.upon]
        case value u => exact h _ _ _ h3 (hk u)
        case enter f args => exact h3.mono fun e w'' ⟨v, he, hw''⟩ => by subst he; exact h _ _ _ hw'' (hk v)
      | halt x w' => simp only [looseUpon] at h3
    · obtain ⟨v, hy, hk⟩ := hh
      rcases hy with ⟨hw, hv⟩ | ⟨hw, rfl⟩
      · rw [if_pos hw]
        exact .inl (Oper.wp_of_quiet (C := C L) (K := fun a' => a' = a.put o.dst v) hC (fun a' w' hw' he => by subst he; exact h _ _ _ hw' hk) ⟨v, hv L, rfl⟩)
      · rw [if_neg (by simp [hw])]
        exact h _ _ _ hC hk

theorem wpAny_of_L : ∀ (fuel : Nat) (listed : Array Bool) (a : Act) (L : Marks) (w : World), C L w → wpAnyL P md ops C Q q k fuel listed a L → wpAny P md ops Q fuel listed a w
  | 0, _, _, _, _, hw, h => h.2 _ hw
  | fuel + 1, _, _, _, _, hw, h => by
    rcases h with ⟨_, h⟩ | ⟨h0, h⟩
    · exact h _ hw
    · exact ⟨fun h1 => absurd h1 h0, fun i hi => wpOp_of_lOp hw (fun a' L' w' hw' => wpAny_of_L fuel _ a' L' w' hw') (h i hi)⟩

theorem lOp_put {i j : Nat} {oi oj : Oper} {v : Value} (_hi : ops[i]? = some oi) (hj : ops[j]? = some oj) (hap : oi.apart ops oj = true)
    (hsi : ∀ cs b, oi.op ≠ .select cs b) (hsj : ∀ cs b, oj.op ≠ .select cs b) {K : Act → Marks → Prop} {a : Act} {L : Marks}
    (hy : YieldsL P ops C oi v a) (h : lOp P ops C q j K (a.put oi.dst v) L) :
    lOp P ops C q j (fun a' L' => YieldsL P ops C oi v a' ∧ K (a'.put oi.dst v) L') a L := by
  obtain ⟨h1, h2, h3⟩ := Oper.apart_spec hap
  have keep : ∀ u, YieldsL P ops C oi v (a.put oj.dst u) := fun u => hy.of_same (execOp_put oi hsi a oj.dst u h3) (wanted_put oi a oj.dst u h3)
  unfold lOp at *
  simp only [hj] at *
  split
  · rename_i hq
    rw [if_pos hq] at h
    exact ⟨h.1.of_same (execOp_put oj hsj a oi.dst v h1).symm (wanted_put oj a oi.dst v h1).symm, fun u => ⟨keep u, by rw [← Act.put_comm a v u h2]; exact h.2 u⟩⟩
  · rename_i hq
    rw [if_neg hq] at h
    obtain ⟨u, hu, hk⟩ := h
    exact ⟨u, hu.of_same (execOp_put oj hsj a oi.dst v h1).symm (wanted_put oj a oi.dst v h1).symm, keep u, by rw [← Act.put_comm a v u h2]; exact hk⟩

/-- What has come up waited for what has come up. -/
def Closed (md : Region.Mode) (ops : Array Oper) (listed : Array Bool) : Prop := ∀ j oj, ops[j]? = some oj → listed.getD j false = true → ∀ e ∈ oj.after, Region.binds md e = true → listed.getD e.on false = true
theorem Closed.set {j : Nat} {listed : Array Bool} (h : Closed md ops listed) (hj : j ∈ Region.ready md ops listed) : Closed md ops (listed.setIfInBounds j true) := fun x ox hx hl e he hb => by
  refine getD_set_true ?_
  by_cases hxj : j = x
  · subst hxj
    obtain ⟨_, oj', hoj', hall⟩ := mem_ready.1 hj
    obtain rfl : ox = oj' := by rw [hx] at hoj'; exact Option.some.inj hoj'
    exact hall e he hb
  · rw [getD_set_ne false hxj] at hl
    exact h x ox hx hl e he hb
/-- Number j waits for number i, by way of at most n others. -/
def reachB (md : Region.Mode) (ops : Array Oper) : Nat → Nat → Nat → Bool
  | 0, _, _ => false
  | n + 1, j, i => match ops[j]? with
    | none => false
    | some o => o.after.any fun e => Region.binds md e && (e.on == i || reachB md ops n e.on i)
theorem reach_after {listed : Array Bool} (hc : Closed md ops listed) : ∀ (n j i : Nat) (oj : Oper), ops[j]? = some oj → (∀ e ∈ oj.after, Region.binds md e = true → listed.getD e.on false = true) → reachB md ops n j i = true → listed.getD i false = true
  | 0, _, _, _, _, _, h => by simp [reachB] at h
  | n + 1, j, i, oj, hj, hall, h => by
    simp only [reachB, hj] at h
    obtain ⟨e, he, hb⟩ := Array.any_eq_true'.1 h
    rw [Bool.and_eq_true, Bool.or_eq_true, beq_iff_eq] at hb
    have h1 := hall e he hb.1
    rcases hb.2 with rfl | h2
    · exact h1
    · cases ho : ops[e.on]? with
      | none => cases n <;> simp [reachB, ho] at h2
      | some o => exact reach_after hc n e.on i o ho (fun x hx hb => hc e.on o ho h1 x hx hb) h2
/-- Every operation from number k on waits for every one of the first k. -/
def Waits (md : Region.Mode) (ops : Array Oper) (k : Nat) : Prop := ∀ j oj i, ops[j]? = some oj → k ≤ j → i < k → ∃ n, reachB md ops n j i = true

theorem ready_lt (hW : Waits md ops k) {i j : Nat} {listed : Array Bool} (hc : Closed md ops listed) (hi : i < k) (hr : i ∈ Region.ready md ops listed) (hj : j ∈ Region.ready md ops listed) : j < k := by
  rcases Nat.lt_or_ge j k with h | h
  · exact h
  · obtain ⟨_, oj, hoj, hall⟩ := mem_ready.1 hj
    obtain ⟨n, hn⟩ := hW j oj i hoj h hi
    have h1 := reach_after hc n j i oj hoj hall hn
    have h0 := (mem_ready.1 hr).1
    rcases Nat.lt_or_ge i listed.size with h' | h'
    · simp [h'] at h0 h1; rw [h0] at h1; cases h1
    · simp [Array.getElem?_eq_none h'] at h1

theorem not_waits {i j : Nat} {oj : Oper} {listed : Array Bool} (hr : i ∈ Region.ready md ops listed) (hoj : ops[j]? = some oj) (hj : j ∈ Region.ready md ops listed) : ∀ e ∈ oj.after, Region.binds md e = true → e.on ≠ i := fun e he hb heq => by
  obtain ⟨_, oj', hoj', hall⟩ := mem_ready.1 hj
  obtain rfl : oj = oj' := by rw [hoj] at hoj'; exact Option.some.inj hoj'
  have h1 := hall e he hb
  have h0 := (mem_ready.1 hr).1
  rw [heq] at h1
  rcases Nat.lt_or_ge i listed.size with h' | h'
  · simp [h'] at h0 h1; rw [h0] at h1; cases h1
  · simp [Array.getElem?_eq_none h'] at h1

theorem free_keep {i j : Nat} {oi : Oper} {listed : Array Bool} (hjun : listed.getD j true = false)
    (hfree : ∀ j oj, ops[j]? = some oj → j ≠ i → listed.getD j true = false → (∀ e ∈ oj.after, Region.binds md e = true → e.on ≠ i) → oi.apart ops oj = true) :
    ∀ k ok, ops[k]? = some ok → k ≠ i → (listed.setIfInBounds j true).getD k true = false → (∀ e ∈ ok.after, Region.binds md e = true → e.on ≠ i) → oi.apart ops ok = true := fun k ok hk hki hun hno => by
  refine hfree k ok hk hki ?_ hno
  by_cases hjk : j = k
  · subst hjk; exact hjun
  · rw [getD_set_ne true hjk] at hun; exact hun

theorem wpAnyL_quiet (hW : Waits md ops k) {i : Nat} {oi : Oper} {v : Value} (hi : ops[i]? = some oi) (hiq : i < q) (hik : i < k) (hsel : ∀ (j : Nat) (o : Oper) cs b, ops[j]? = some o → o.op ≠ .select cs b) :
    ∀ (fuel : Nat) (listed : Array Bool) (a : Act) (L : Marks), Closed md ops listed →
      (∀ j oj, ops[j]? = some oj → j ≠ i → listed.getD j true = false → (∀ e ∈ oj.after, Region.binds md e = true → e.on ≠ i) → oi.apart ops oj = true) →
      i ∈ Region.ready md ops listed → YieldsL P ops C oi v a →
      wpAnyL P md ops C Q q k fuel (listed.setIfInBounds i true) (a.put oi.dst v) L → wpAnyL P md ops C Q q k (fuel + 1) listed a L := by
  intro fuel
  induction fuel with
  | zero =>
    intro listed a L hc _ hr hy H
    refine .inr ⟨fun h => (by rw [h] at hr; cases hr), fun j hj => ?_⟩
    by_cases hji : j = i
    · subst hji; unfold lOp; simp only [hi]; rw [if_neg (by omega)]; exact ⟨v, hy, H⟩
    · have hjk := ready_lt hW hc hik hr hj
      have h1 := H.1
      rw [allB_false hjk (by rw [getD_set_ne true (Ne.symm hji)]; exact (mem_ready.1 hj).1)] at h1
      cases h1
  | succ fuel ih =>
    intro listed a L hc hfree hr hy H
    refine .inr ⟨fun h => (by rw [h] at hr; cases hr), fun j hj => ?_⟩
    by_cases hji : j = i
    · subst hji; unfold lOp; simp only [hi]; rw [if_neg (by omega)]; exact ⟨v, hy, H⟩
    · have hjk := ready_lt hW hc hik hr hj
      obtain ⟨hjun, oj, hoj, _⟩ := mem_ready.1 hj
      rcases H with ⟨h1, _⟩ | ⟨_, H⟩
      · rw [allB_false hjk (by rw [getD_set_ne true (Ne.symm hji)]; exact hjun)] at h1
        cases h1
      · have h1 := H j (ready_mono hj hji)
        have h2 := lOp_put hi hoj (hfree j oj hoj hji hjun (not_waits hr hoj hj)) (fun cs b => hsel i oi cs b hi) (fun cs b => hsel j oj cs b hoj) hy h1
        refine lOp_mono (fun a' L' h3 => ih (listed.setIfInBounds j true) a' L' (hc.set hj) (free_keep hjun hfree) (ready_mono hr (Ne.symm hji)) h3.1 ?_) h2
        rw [Array.setIfInBounds_comm _ _ hji]
        exact h3.2

theorem wpAnyL_loose (hW : Waits md ops k) {i : Nat} {oi : Oper} (hi : ops[i]? = some oi) (hiq : q ≤ i) (hik : i < k) (hsel : ∀ (j : Nat) (o : Oper) cs b, ops[j]? = some o → o.op ≠ .select cs b) :
    ∀ (fuel : Nat) (listed : Array Bool) (a : Act) (L : Marks), Closed md ops listed → (∀ j, j < q → listed.getD j true = true) →
      (∀ j oj, ops[j]? = some oj → j ≠ i → listed.getD j true = false → (∀ e ∈ oj.after, Region.binds md e = true → e.on ≠ i) → oi.apart ops oj = true) →
      i ∈ Region.ready md ops listed → LooseIn P ops C oi i a →
      (∀ v, wpAnyL P md ops C Q q k fuel (listed.setIfInBounds i true) (a.put oi.dst v) (upd L i v)) → wpAnyL P md ops C Q q k (fuel + 1) listed a L := by
  intro fuel
  induction fuel with
  | zero =>
    intro listed a L hc _ _ hr hy H
    refine .inr ⟨fun h => (by rw [h] at hr; cases hr), fun j hj => ?_⟩
    by_cases hji : j = i
    · subst hji; unfold lOp; simp only [hi]; rw [if_pos hiq]; exact ⟨hy, H⟩
    · have hjk := ready_lt hW hc hik hr hj
      have h1 := (H undef).1
      rw [allB_false hjk (by rw [getD_set_ne true (Ne.symm hji)]; exact (mem_ready.1 hj).1)] at h1
      cases h1
  | succ fuel ih =>
    intro listed a L hc hq hfree hr hy H
    refine .inr ⟨fun h => (by rw [h] at hr; cases hr), fun j hj => ?_⟩
    by_cases hji : j = i
    · subst hji; unfold lOp; simp only [hi]; rw [if_pos hiq]; exact ⟨hy, H⟩
    · have hjk := ready_lt hW hc hik hr hj
      obtain ⟨hjun, oj, hoj, _⟩ := mem_ready.1 hj
      have hqj : q ≤ j := by
        rcases Nat.lt_or_ge j q with h | h
        · rw [hq j h] at hjun; cases hjun
        · exact h
      obtain ⟨h1, h2, h3⟩ := Oper.apart_spec (hfree j oj hoj hji hjun (not_waits hr hoj hj))
      have hsi := fun cs b => hsel i oi cs b hi
      have hsj := fun cs b => hsel j oj cs b hoj
      have H' : ∀ v, LooseIn P ops C oj j a ∧ ∀ u, wpAnyL P md ops C Q q k fuel ((listed.setIfInBounds i true).setIfInBounds j true) ((a.put oi.dst v).put oj.dst u) (upd (upd L i v) j u) := fun v => by
        rcases H v with ⟨h4, _⟩ | ⟨_, h4⟩
        · rw [allB_false hjk (by rw [getD_set_ne true (Ne.symm hji)]; exact hjun)] at h4
          cases h4
        · have h5 := h4 j (ready_mono hj hji)
          unfold lOp at h5
          simp only [hoj] at h5
          rw [if_pos hqj] at h5
          exact ⟨h5.1.of_same (execOp_put oj hsj a oi.dst v h1).symm (wanted_put oj a oi.dst v h1).symm, h5.2⟩
      unfold lOp
      simp only [hoj]
      rw [if_pos hqj]
      refine ⟨(H' undef).1, fun u => ih (listed.setIfInBounds j true) (a.put oj.dst u) (upd L j u) (hc.set hj) (fun x hx => ?_) (free_keep hjun hfree) (ready_mono hr (Ne.symm hji)) (hy.of_same (execOp_put oi hsi a oj.dst u h3) (wanted_put oi a oj.dst u h3)) fun v => ?_⟩
      · rw [getD_set_ne true (by omega)]; exact hq x hx
      · rw [Array.setIfInBounds_comm _ _ hji, ← Act.put_comm a v u h2, ← upd_comm L (Ne.symm hji) v u]
        exact (H' v).2 u

/-- The walk in the order of the text. -/
def wpLoose (P : Program) (ops : Array Oper) (C : Marks → World → Prop) (q : Nat) (E : Act → Marks → Prop) : List Oper → Nat → Act → Marks → Prop
  | [], _, a, L => E a L
  | o :: rest, i, a, L => if q ≤ i then LooseIn P ops C o i a ∧ ∀ v, wpLoose P ops C q E rest (i + 1) (a.put o.dst v) (upd L i v) else ∃ v, YieldsL P ops C o v a ∧ wpLoose P ops C q E rest (i + 1) (a.put o.dst v) L
def lexTo (md : Region.Mode) (ops : Array Oper) : Nat → Nat → Array Bool → Bool
  | 0, _, _ => true
  | n + 1, p, listed => (Region.ready md ops listed).contains p && Region.free md ops listed p && lexTo md ops n (p + 1) (listed.setIfInBounds p true)
def setFrom : Nat → Nat → Array Bool → Array Bool
  | 0, _, listed => listed
  | n + 1, p, listed => setFrom n (p + 1) (listed.setIfInBounds p true)

theorem wpAnyL_lex (hW : Waits md ops k) (hs : Region.noSelect ops = true) (r : Nat) : ∀ (l : List Oper) (p : Nat) (listed : Array Bool) (a : Act) (L : Marks), (∀ j, j < l.length → l[j]? = ops[p + j]?) → p + l.length = k → k ≤ listed.size → Closed md ops listed →
    (∀ j, j < p → listed.getD j true = true) → lexTo md ops l.length p listed = true → wpLoose P ops C q (fun a' L' => ∀ w, C L' w → wpAny P md ops Q r (setFrom l.length p listed) a' w) l p a L → wpAnyL P md ops C Q q k (l.length + r) listed a L
  | [], p, listed, a, L, _, hk, hsz, _, hp, _, h => by
    have hall : allB k listed = true := List.all_eq_true.2 fun i hi => hp i (by have := List.mem_range.1 hi; simp at hk; omega)
    simp only [List.length_nil, Nat.zero_add]
    cases r with
    | zero => exact ⟨hall, h⟩
    | succ r => exact .inl ⟨hall, h⟩
  | o :: l, p, listed, a, L, hl, hk, hsz, hc, hp, hB, h => by
    have h0 : ops[p]? = some o := by simpa using (hl 0 (by simp)).symm
    simp only [List.length_cons, lexTo, Bool.and_eq_true] at hB
    obtain ⟨⟨hr, hf⟩, hB'⟩ := hB
    simp only [List.length_cons] at hk
    have hl' : ∀ j, j < l.length → l[j]? = ops[p + 1 + j]? := fun j hj => by have := hl (j + 1) (by simp; omega); simpa [Nat.add_assoc, Nat.add_comm 1 j] using this
    have hp' : ∀ j, j < p + 1 → (listed.setIfInBounds p true).getD j true = true := fun j hj => by
      by_cases hjp : p = j
      · subst hjp; simp [show p < listed.size by omega]
      · rw [getD_set_ne true hjp]; exact hp j (by omega)
    have hlen : (o :: l).length + r = (l.length + r) + 1 := by simp only [List.length_cons]; omega
    rw [hlen]
    unfold wpLoose at h
    split at h
    · rename_i hq
      exact wpAnyL_loose hW h0 hq (by omega) (Region.noSelect_spec hs) _ listed a L hc (fun j hj => hp j (by omega)) (Region.free_spec h0 hf) (by simpa using hr) h.1
        (fun v => wpAnyL_lex hW hs r l (p + 1) _ _ _ hl' (by omega) (by simpa using hsz) (hc.set (by simpa using hr)) hp' hB' (h.2 v))
    · rename_i hq
      obtain ⟨v, hy, hK⟩ := h
      exact wpAnyL_quiet hW h0 (by omega) (by omega) (Region.noSelect_spec hs) _ listed a L hc (Region.free_spec h0 hf) (by simpa using hr) hy
        (wpAnyL_lex hW hs r l (p + 1) _ _ _ hl' (by omega) (by simpa using hsz) (hc.set (by simpa using hr)) hp' hB' hK)

def waitsB (md : Region.Mode) (ops : Array Oper) (k : Nat) : Bool :=
  (List.range ops.size).all fun j => decide (j < k) || (List.range k).all fun i => reachB md ops 4 j i || reachB md ops 9 j i
theorem waitsB_spec (h : waitsB md ops k = true) : Waits md ops k := fun j oj i hj hkj hik => by
  have h1 := List.all_eq_true.1 h j (List.mem_range.2 (Array.getElem?_eq_some_iff.1 hj).1)
  simp only [Bool.or_eq_true, decide_eq_true_iff] at h1
  rcases h1 with h1 | h1
  · omega
  · have h2 := List.all_eq_true.1 h1 i (List.mem_range.2 hik)
    rw [Bool.or_eq_true] at h2
    rcases h2 with h2 | h2
    · exact ⟨_, h2⟩
    · exact ⟨_, h2⟩

theorem none_listed (n j : Nat) : (Array.replicate n false).getD j false = false := by
  rcases Nat.lt_or_ge j n with h | h <;> simp [h]
/-- **One walk of the text's order**: the first q operations yield one value each, those up to k make what is new, the rest waits for them. -/
theorem region_loose {id : Nat} {a : Act} {w : World} {l : List Oper} (C : Marks → World → Prop) (q k r : Nat) (done : Array Bool) (hr : k + r = l.length) (hd : setFrom k 0 (Array.replicate l.length false) = done) (hm : P.follows .mixedOrders = true)
    (hB : (Region.noSelect l.toArray && (waitsB .any l.toArray k && (decide (k ≤ l.length) && lexTo .any l.toArray k 0 (Array.replicate l.length false)))) = true) (hC : C (fun _ => none) w.drew)
    (h : wpLoose P l.toArray C q (fun a' L' => ∀ w', C L' w' → wpAny P .any l.toArray Q r done a' w') (l.take k) 0 a (fun _ => none)) : (Code.region id l.toArray true).wp P Q a w := by
  subst hd
  obtain rfl : r = l.length - k := by omega
  simp only [Bool.and_eq_true, decide_eq_true_iff] at hB
  obtain ⟨h1, h2, h3, h4⟩ := hB
  have hlen : (l.take k).length = k := by simp; omega
  refine wp_region_any hm ?_
  have := wpAnyL_lex (Q := Q) (C := C) (q := q) (waitsB_spec h2) h1 (l.length - k) (l.take k) 0 (Array.replicate l.length false) a (fun _ => none) (fun j hj => by simp at hj; simp [show j < k by omega]) (by omega) (by simp; omega) (fun j oj _ hl => by rw [none_listed] at hl; cases hl) (fun j hj => by omega) (by rw [hlen]; exact h4) (by rw [hlen]; exact h)
  rw [hlen, show k + (l.length - k) = l.length by omega] at this
  have := wpAny_of_L _ _ _ _ _ hC this
  simpa using this
end

section
variable {P : Program} {ops : Array Oper} {C : Marks → World → Prop} {q i : Nat} {a : Act} {L : Marks} {o : Oper} {rest : List Oper} {E : Act → Marks → Prop}
theorem loose_val (hq : i < q) (hg : o.guard = none) (h : ∃ v, (∀ L w, C L w → (execOp a.eval o).run P w = .ok (.value v) w) ∧ wpLoose P ops C q E rest (i + 1) (a.put o.dst v) L) : wpLoose P ops C q E (o :: rest) i a L := by
  obtain ⟨v, h1, h2⟩ := h
  unfold wpLoose
  rw [if_neg (by omega)]
  exact ⟨v, .inl ⟨by simp [Region.wanted, hg], fun L w hw => by unfold Oper.quietAt; rw [h1 L w hw]; exact ⟨rfl, rfl⟩⟩, h2⟩
theorem loose_call (hq : i < q) (hg : o.guard = none) (h : ∃ f args, (∀ w, (execOp a.eval o).run P w = .ok (.enter f args) w) ∧ ∃ v, (∀ L w, C L w → Calls P f args w fun e w' => e = .returned v ∧ C L w') ∧ wpLoose P ops C q E rest (i + 1) (a.put o.dst v) L) : wpLoose P ops C q E (o :: rest) i a L := by
  obtain ⟨f, args, hr, v, h1, h2⟩ := h
  unfold wpLoose
  rw [if_neg (by omega)]
  exact ⟨v, .inl ⟨by simp [Region.wanted, hg], fun L w hw => by unfold Oper.quietAt; rw [hr w]; exact ⟨rfl, h1 L w hw⟩⟩, h2⟩
theorem loose_new (hq : q ≤ i) (hg : o.guard = none) (h1 : ∀ L w, C L w → ∃ v w', (execOp a.eval o).run P w = .ok (.value v) w' ∧ C (upd L i v) w') (h2 : ∀ v, wpLoose P ops C q E rest (i + 1) (a.put o.dst v) (upd L i v)) : wpLoose P ops C q E (o :: rest) i a L := by
  unfold wpLoose
  rw [if_pos hq]
  exact ⟨⟨by simp [Region.wanted, hg], fun L w hw => by obtain ⟨v, w', hr, hc⟩ := h1 L w hw; rw [hr]; exact hc⟩, h2⟩
end
end Go.Proofs.YtknhkmlihbgjpaaDoor.Dg
/- The words of the rounds, for a block of 64 bytes. -/
namespace Go.Proofs.YtknhkmlihbgjpaaDoor.Dg
open Go.ChangeShapes Go.WideShapes Go.RowKit

/-- The words of a block, the first k of them laid. -/
def s1 (bl : List Nat) : Nat → List Nat
  | 0 => List.replicate 64 0
  | k + 1 => (s1 bl k).set k (wd (bl[4 * k]?.getD 0) (bl[4 * k + 1]?.getD 0) (bl[4 * k + 2]?.getD 0) (bl[4 * k + 3]?.getD 0))
theorem s1_len (bl : List Nat) (k : Nat) : (s1 bl k).length = 64 := by induction k with
  | zero => simp [s1]
  | succ k ih => simp [s1, ih]
theorem s1_u {bl : List Nat} (hb : ∀ x ∈ bl, U8 x) (k : Nat) : ∀ x ∈ s1 bl k, U32 x := by induction k with
  | zero => intro x hx; simp [s1] at hx; subst hx; exact (show 0 < 4294967296 by omega)
  | succ k ih => exact u32_set ih (wd_u (u8_get hb _) (u8_get hb _) (u8_get hb _) (u8_get hb _)) k

/-- The next word of the rounds, of those before it. -/
def nx (v : List Nat) (k : Nat) : Nat := (((v[k]?.getD 0 + shN (v[k + 1]?.getD 0) 7 18 3) % 4294967296 + v[k + 9]?.getD 0) % 4294967296 + shN (v[k + 14]?.getD 0) 17 19 10) % 4294967296
/-- The words of the rounds, 16 and k of them laid. -/
def s2 (bl : List Nat) : Nat → List Nat
  | 0 => s1 bl 16
  | k + 1 => (s2 bl k).set (k + 16) (nx (s2 bl k) k)
theorem s2_len (bl : List Nat) (k : Nat) : (s2 bl k).length = 64 := by induction k with
  | zero => simp [s2, s1_len]
  | succ k ih => simp [s2, ih]
theorem s2_u {bl : List Nat} (hb : ∀ x ∈ bl, U8 x) (k : Nat) : ∀ x ∈ s2 bl k, U32 x := by induction k with
  | zero => exact s1_u hb 16
  | succ k ih => exact u32_set ih (U32.mod _) _

theorem shifted_7 (x : Nat) (hx : U32 x) (w : World) : Calls Tryd.prog 114 #[.int .u32 (x : Int), .int .i64 7, .int .i64 18, .int .i64 3] w fun e w' => e = .returned (.int .u32 (shN x 7 18 3 : Int)) ∧ Drew w w' :=
  shifted_any x 7 18 3 (by omega) (by omega) (by omega) (by omega) (by omega) hx w
theorem shifted_17 (x : Nat) (hx : U32 x) (w : World) : Calls Tryd.prog 114 #[.int .u32 (x : Int), .int .i64 17, .int .i64 19, .int .i64 10] w fun e w' => e = .returned (.int .u32 (shN x 17 19 10 : Int)) ∧ Drew w w' :=
  shifted_any x 17 19 10 (by omega) (by omega) (by omega) (by omega) (by omega) hx w
/-- Four words that are read, and nothing but draws since W. -/
def C4 (W : World) (g k k1 k9 k14 a b c d : Nat) (w : World) : Prop := Drew W w ∧ w.cell? ⟨g, k, none⟩ = some (.int .u32 (a : Int)) ∧ w.cell? ⟨g, k1, none⟩ = some (.int .u32 (b : Int)) ∧ w.cell? ⟨g, k9, none⟩ = some (.int .u32 (c : Int)) ∧ w.cell? ⟨g, k14, none⟩ = some (.int .u32 (d : Int))
theorem C4.drew {W w w' : World} {g k k1 k9 k14 a b c d : Nat} (h : C4 W g k k1 k9 k14 a b c d w) (hd : Drew w w') : C4 W g k k1 k9 k14 a b c d w' := by
  obtain ⟨h0, h1⟩ := h
  refine ⟨h0.trans hd, ?_⟩
  rw [hd.cell, hd.cell, hd.cell, hd.cell]
  exact h1

set_option maxHeartbeats 1600000 in
set_option maxRecDepth 100000 in
theorem schedule_any (bl : List Nat) (hl : bl.length = 64) (hb : ∀ x ∈ bl, U8 x) (w : World) :
    Calls Tryd.prog 107 #[.agg (bl.map v8).toArray] w fun e w' => e = .returned (.agg ((s2 bl 48).map v32).toArray) ∧ Below w.heap.size w w' := by
  go_enter Tryd.func107, Tryd.ntmps107
  go_wp2_with fail
  have r0 := ((Rw.new w 148 (bl.map v8)).past (.cells ((List.replicate 64 0).map v32).toArray 117)).past (.cells ((List.replicate 64 0).map v32).toArray 117)
  have r1 := (Rw.new (w.alloc (.cells (bl.map v8).toArray 148)) 117 ((List.replicate 64 0).map v32)).past (.cells ((List.replicate 64 0).map v32).toArray 117)
  have r2 := Rw.new ((w.alloc (.cells (bl.map v8).toArray 148)).alloc (.cells ((List.replicate 64 0).map v32).toArray 117)) 117 ((List.replicate 64 0).map v32)
  have hB := (((Below.refl _ w).alloc (Nat.le_refl _) (.cells (bl.map v8).toArray 148)).alloc (by simp) (.cells ((List.replicate 64 0).map v32).toArray 117)).alloc (by simp; omega) (.cells ((List.replicate 64 0).map v32).toArray 117)
  simp only [World.size_alloc] at r1 r2
  change Code.wp _ _ _ _ (((w.alloc (.cells (bl.map v8).toArray 148)).alloc (.cells ((List.replicate 64 0).map v32).toArray 117)).alloc (.cells ((List.replicate 64 0).map v32).toArray 117))
  generalize ((w.alloc (.cells (bl.map v8).toArray 148)).alloc (.cells ((List.replicate 64 0).map v32).toArray 117)).alloc (.cells ((List.replicate 64 0).map v32).toArray 117) = W at *
  generalize hZ : (List.replicate 64 0).map v32 = Z at r1
  have HZ := Lib.hid hZ
  clear hZ
  go_loopw [6] (fun i wr => ∃ k : Nat, k ≤ 16 ∧ i = .int .i64 (k : Int) ∧ Rw wr w.heap.size 148 (bl.map v8) ∧ Rw wr (w.heap.size + 1) 117 Z ∧ Rw wr (w.heap.size + 1 + 1) 117 ((s1 bl k).map v32) ∧ Below w.heap.size w wr) (fun i _ => 16 - (intOf i).toNat)
  case atStart => exact ⟨0, by omega, rfl, r0, r1, r2, hB⟩
  case round =>
    obtain ⟨k, hk, rfl, q0, q1, q2, qB⟩ := hrel
    by_cases hlt : k < 16
    · have hcut := cut_from (P := Tryd.prog) 148 5 64 w.heap.size (4 * k) (4 * (k : Int)) (by omega) (by omega) (by kernel_rfl) (by kernel_rfl)
      go_wp2_with fail
      clear hcut
      refine (word_any _ _ _ _ (by omega) _ _ _ _ (u8_get hb _) (u8_get hb _) (u8_get hb _) (u8_get hb _) _ (q0.four (4 * k) (by omega))).mono ?_
      rintro e w1 ⟨rfl, hd⟩
      replace q0 := q0.drew hd
      replace q1 := q1.drew hd
      replace q2 := q2.drew hd
      replace qB := qB.trans (hd.below.mono qB.size)
      obtain ⟨y, hy⟩ : ∃ y, (s1 bl k)[k]? = some y := ⟨_, List.getElem?_eq_getElem (by rw [s1_len]; omega)⟩
      have hc := (q2.cell k).trans (at32 hy)
      have hf := q2.frozen k
      clear hy
      go_wp2_with fail
      go_roundw
      case rel =>
        refine ⟨k + 1, by omega, by go_num, q0.other (by omega) _ _, q1.other (by omega) _ _, ?_, qB.setCell (p := ⟨w.heap.size + 1 + 1, k, none⟩) (by simp; omega) _⟩
        have := q2.setCell k (v32 (wd (bl[4 * k]?.getD 0) (bl[4 * k + 1]?.getD 0) (bl[4 * k + 2]?.getD 0) (bl[4 * k + 3]?.getD 0)))
        rw [← List.map_set] at this
        exact this
      case measure => simp [intOf]; omega
    · obtain rfl : k = 16 := by omega
      have hnot : ¬ (((16 : Nat) : Int) < 16) := by omega
      go_wp2_with fail
      clear r0 r1 r2 hB hk hlt hnot
      go_loopw [5] (fun i wr => ∃ k j : Nat, k ≤ 48 ∧ Hid (j = k + 16) ∧ i = .int .i64 (j : Int) ∧ Rw wr w.heap.size 148 (bl.map v8) ∧ Rw wr (w.heap.size + 1) 117 Z ∧ Rw wr (w.heap.size + 1 + 1) 117 ((s2 bl k).map v32) ∧ Below w.heap.size w wr) (fun i _ => 64 - (intOf i).toNat)
      case atStart => exact ⟨0, 16, by omega, rfl, rfl, q0, q1, q2, qB⟩
      case round =>
        clear q0 q1 q2 qB
        obtain ⟨k, i, hk, Hi, rfl, q0, q1, q2, qB⟩ := hrel
        have hi := Hi.out
        by_cases hlt : k < 48
        · have hil : (i : Int) < 64 := by omega
          obtain ⟨a, ha⟩ : ∃ a, (s2 bl k)[k]? = some a := ⟨_, List.getElem?_eq_getElem (by rw [s2_len]; omega)⟩
          obtain ⟨b, hb'⟩ : ∃ b, (s2 bl k)[k + 1]? = some b := ⟨_, List.getElem?_eq_getElem (by rw [s2_len]; omega)⟩
          obtain ⟨c, hc⟩ : ∃ c, (s2 bl k)[k + 9]? = some c := ⟨_, List.getElem?_eq_getElem (by rw [s2_len]; omega)⟩
          obtain ⟨d, hd⟩ : ∃ d, (s2 bl k)[k + 14]? = some d := ⟨_, List.getElem?_eq_getElem (by rw [s2_len]; omega)⟩
          obtain ⟨y, hy⟩ : ∃ y, (s2 bl k)[i]? = some y := ⟨_, List.getElem?_eq_getElem (by rw [s2_len]; omega)⟩
          have ub := s2_u hb k b (List.mem_of_getElem? hb')
          have ud := s2_u hb k d (List.mem_of_getElem? hd)
          have Hnx := Lib.hid (show nx (s2 bl k) k = (((a + shN b 7 18 3) % 4294967296 + c) % 4294967296 + shN d 17 19 10) % 4294967296 by unfold nx; rw [ha, hb', hc, hd]; rfl)
          have Hk1 := Lib.hid (shifted_7 b ub)
          have Hk2 := Lib.hid (shifted_17 d ud)
          obtain ⟨k1, hk1⟩ : ∃ k1, k1 = k + 1 := ⟨_, rfl⟩
          obtain ⟨k9, hk9⟩ : ∃ k9, k9 = k + 9 := ⟨_, rfl⟩
          obtain ⟨k14, hk14⟩ : ∃ k14, k14 = k + 14 := ⟨_, rfl⟩
          have x0 : IntKind.i64.wrap ((i : Int) - 16) = (k : Int) := by rw [show (i : Int) - 16 = (k : Int) by omega]; simp [IntKind.wrap, IntKind.bits, IntKind.signed]; omega
          have x1 : IntKind.i64.wrap ((i : Int) - 15) = (k1 : Int) := by rw [show (i : Int) - 15 = (k1 : Int) by omega]; simp [IntKind.wrap, IntKind.bits, IntKind.signed]; omega
          have x9 : IntKind.i64.wrap ((i : Int) - 7) = (k9 : Int) := by rw [show (i : Int) - 7 = (k9 : Int) by omega]; simp [IntKind.wrap, IntKind.bits, IntKind.signed]; omega
          have x14 : IntKind.i64.wrap ((i : Int) - 2) = (k14 : Int) := by rw [show (i : Int) - 2 = (k14 : Int) by omega]; simp [IntKind.wrap, IntKind.bits, IntKind.signed]; omega
          have y0 : (k : Int) < 64 := by omega
          have y1 : (k1 : Int) < 64 := by omega
          have y9 : (k9 : Int) < 64 := by omega
          have y14 : (k14 : Int) < 64 := by omega
          have hca := (q2.cell k).trans (at32 ha)
          have hcb := (q2.cell (k + 1)).trans (at32 hb')
          have hcc := (q2.cell (k + 9)).trans (at32 hc)
          have hcd := (q2.cell (k + 14)).trans (at32 hd)
          have hcy := (q2.cell i).trans (at32 hy)
          rw [← hk1] at hcb
          rw [← hk9] at hcc
          rw [← hk14] at hcd
          have hfy := q2.frozen i
          clear ha hb' hc hd hy ub ud hk1 hk9 hk14 hi
          go_wp2_with fail
          refine region_loose (fun _ w' => C4 wr (w.heap.size + 1 + 1) k k1 k9 k14 a b c d w') 22 22 2 #[true, true, true, true, true, true, true, true, true, true, true, true, true, true, true, true, true, true, true, true, true, true, false, false] rfl (by kernel_rfl) (by kernel_rfl) (by kernel_rfl) (⟨⟨_, rfl⟩, hca, hcb, hcc, hcd⟩) ?_
          simp only [List.take_succ_cons, List.take_zero]
          repeat
            first
            | (refine loose_val (by decide) rfl ?_
               apply Exists.intro
               refine ⟨fun L' w' hw' => ?_, ?_⟩
               · obtain ⟨_, e0, e1, e9, e14⟩ := hw'
                 go_simp
                 first | done | rfl | exact ⟨rfl, rfl⟩
               simp only [Act.put, List.setIfInBounds_toArray, List.set_cons_zero, List.set_cons_succ])
            | (refine loose_call (by decide) rfl ?_
               apply Exists.intro
               apply Exists.intro
               refine ⟨fun w' => ?_, ?_⟩
               · go_simp
                 first | done | rfl | exact ⟨rfl, rfl⟩
               apply Exists.intro
               refine ⟨fun L' w' hw' => ?_, ?_⟩
               · first
                 | (with_reducible refine (Hk1.out _).mono ?_); (rintro e w2 ⟨rfl, hdd⟩; exact ⟨rfl, C4.drew hw' hdd⟩)
                 | (with_reducible refine (Hk2.out _).mono ?_); (rintro e w2 ⟨rfl, hdd⟩; exact ⟨rfl, C4.drew hw' hdd⟩)
               simp only [Act.put, List.setIfInBounds_toArray, List.set_cons_zero, List.set_cons_succ])
            | (refine loose_new (by decide) rfl (fun L' w' hw' => ?_) (fun v => ?_)
               · fail
               simp only [Act.put, List.setIfInBounds_toArray, List.set_cons_zero, List.set_cons_succ])
          intro w5 hw5
          rw [show IntKind.u32.wrap (IntKind.u32.wrap (IntKind.u32.wrap ((a : Int) + (shN b 7 18 3 : Int)) + (c : Int)) + (shN d 17 19 10 : Int)) = (nx (s2 bl k) k : Int) by rw [Hnx.out, IntKind.wrap_u32', IntKind.wrap_u32', IntKind.wrap_u32']; omega]
          obtain ⟨hdr, _⟩ := hw5
          replace q0 := q0.drew hdr
          replace q1 := q1.drew hdr
          replace q2 := q2.drew hdr
          replace qB := qB.trans (hdr.below.mono qB.size)
          rw [← hdr.cell] at hcy
          rw [← hdr.frozen] at hfy
          clear hca hcb hcc hcd Hk1 Hk2 x0 x1 x9 x14 y0 y1 y9 y14 hdr Hnx
          have q2' := q2.setCell i (v32 (nx (s2 bl k) k))
          rw [← List.map_set] at q2'
          have Hq2 := Lib.hid (show Rw (w5.setCell ⟨w.heap.size + 1 + 1, i, none⟩ (.int .u32 (nx (s2 bl k) k : Int))) (w.heap.size + 1 + 1) 117 ((s2 bl (k + 1)).map v32) by rw [show s2 bl (k + 1) = (s2 bl k).set i (nx (s2 bl k) k) by rw [Hi.out]; rfl]; exact q2')
          clear q2'
          refine wpAny_ready (rs := [22]) (by kernel_rfl) (by simp) ?_
          refine AllReady.cons rfl (fun K hK => ?_) AllReady.nil
          go_simp
          refine hK _ _ ?_
          clear hK K
          refine wpAny_ready (rs := [23]) (by kernel_rfl) (by simp) ?_
          refine AllReady.cons rfl (fun K hK => ?_) AllReady.nil
          go_simp
          refine hK _ _ ?_
          clear hK K
          refine wpAny_done (by kernel_rfl) ?_ _
          clear hcy hfy
          go_wp2_with fail
          go_roundw
          case rel =>
            exact ⟨k + 1, i + 1, by omega, by have := Hi.out; exact (show i + 1 = k + 1 + 16 by omega), by go_num, q0.other (by omega) _ _, q1.other (by omega) _ _, Hq2.out, qB.setCell (p := ⟨w.heap.size + 1 + 1, i, none⟩) (by simp; omega) _⟩
          case measure => simp [intOf]; omega
        · obtain rfl : k = 48 := by omega
          obtain rfl : i = 64 := hi
          have hz : Z.length = 64 := by rw [← HZ.out]; rfl
          have hs : ((s2 bl 48).map v32).length = 64 := by rw [List.length_map, s2_len]
          have h1 := one32 (s2 bl 48)
          generalize hcs : (s2 bl 48).map v32 = cs at *
          have Hcs := Lib.hid hcs
          clear hcs
          clear Hi hk hlt
          go_wp2_with (first
            | (refine load_arr _ _ _ q2 64 hs 117 23 (by kernel_rfl) (by kernel_rfl) _ rfl rfl rfl ?_)
            | (refine store_arr _ _ _ q1 64 hz 117 (by kernel_rfl) cs hs h1 _ _ rfl rfl rfl rfl ?_))
          refine ret_arr (w.heap.size + 1) 117 cs (q1.row cs) 64 hs 23 (by kernel_rfl) (by kernel_rfl) (by rfl) rfl rfl ?_
          exact ⟨by rw [Hcs.out], below_setRow qB (by omega) _⟩
end Go.Proofs.YtknhkmlihbgjpaaDoor.Dg
/- What a block makes of the eight words. -/
namespace Go.Proofs.YtknhkmlihbgjpaaDoor.Dg
open Go.ChangeShapes Go.WideShapes Go.RowKit

def oneN (l : List Nat) (k p : Nat) : Nat := ((((l[7]?.getD 0 + tnN (l[4]?.getD 0) 6 11 25) % 4294967296 + chN (l[4]?.getD 0) (l[5]?.getD 0) (l[6]?.getD 0)) % 4294967296 + k) % 4294967296 + p) % 4294967296
def twoN (l : List Nat) : Nat := (tnN (l[0]?.getD 0) 2 13 22 + mjN (l[0]?.getD 0) (l[1]?.getD 0) (l[2]?.getD 0)) % 4294967296
/-- A round, with a key and a word of the block. -/
def rd (k p : Nat) (l : List Nat) : List Nat := [(oneN l k p + twoN l) % 4294967296, l[0]?.getD 0, l[1]?.getD 0, l[2]?.getD 0, (l[3]?.getD 0 + oneN l k p) % 4294967296, l[4]?.getD 0, l[5]?.getD 0, l[6]?.getD 0]
def rds (ws plan : List Nat) : Nat → List Nat
  | 0 => ws
  | i + 1 => rd (keyL[i]?.getD 0) (plan[i]?.getD 0) (rds ws plan i)
theorem rds_len {ws plan : List Nat} (h : ws.length = 8) (i : Nat) : (rds ws plan i).length = 8 := by
  cases i with
  | zero => exact h
  | succ i => rfl

theorem rw_below {w w' : World} {B g : Nat} {t : TypeId} {cs : List Value} (h : Rw w g t cs) (hg : g < B) (hb : Below B w w') : Rw w' g t cs := by unfold Rw at *; rw [hb.block g hg]; exact h
theorem list8 {l : List Nat} (h : l.length = 8) : ∃ a b c d e f g i, l = [a, b, c, d, e, f, g, i] := by
  match l, h with
  | [a, b, c, d, e, f, g, i], _ => exact ⟨a, b, c, d, e, f, g, i, rfl⟩
theorem rds_u {ws plan : List Nat} (h : ∀ x ∈ ws, U32 x) (i : Nat) : ∀ x ∈ rds ws plan i, U32 x := by
  induction i with
  | zero => exact h
  | succ i ih =>
    intro x hx
    simp only [rds, rd, List.mem_cons, List.not_mem_nil, or_false] at hx
    rcases hx with rfl | rfl | rfl | rfl | rfl | rfl | rfl | rfl
    · exact U32.mod _
    · exact u32_get ih _
    · exact u32_get ih _
    · exact u32_get ih _
    · exact U32.mod _
    · exact u32_get ih _
    · exact u32_get ih _
    · exact u32_get ih _
/-- Words to which others are added, the first k of them. -/
def ad8 (ws vs : List Nat) : Nat → List Nat
  | 0 => ws
  | k + 1 => (ad8 ws vs k).set k (((ad8 ws vs k)[k]?.getD 0 + vs[k]?.getD 0) % 4294967296)
theorem ad8_len {ws vs : List Nat} (h : ws.length = 8) (k : Nat) : (ad8 ws vs k).length = 8 := by
  induction k with
  | zero => exact h
  | succ k ih => simp [ad8, ih]
theorem ad8_u {ws vs : List Nat} (h : ∀ x ∈ ws, U32 x) (k : Nat) : ∀ x ∈ ad8 ws vs k, U32 x := by
  induction k with
  | zero => exact h
  | succ k ih => exact u32_set ih (U32.mod _) _
/-- What a block makes of eight words. -/
def mixN (ws bl : List Nat) : List Nat := ad8 ws (rds ws (s2 bl 48) 64) 8
theorem mixN_len {ws bl : List Nat} (h : ws.length = 8) : (mixN ws bl).length = 8 := ad8_len h 8
theorem mixN_u {ws bl : List Nat} (h : ∀ x ∈ ws, U32 x) : ∀ x ∈ mixN ws bl, U32 x := ad8_u h 8
/-- Two words that are read, and nothing but draws since W. -/
def C2 (W : World) (g v k a b : Nat) (w : World) : Prop := Drew W w ∧ w.cell? ⟨g, k, none⟩ = some (.int .u32 (a : Int)) ∧ w.cell? ⟨v, k, none⟩ = some (.int .u32 (b : Int))
/-- What a round reads, and nothing but draws since W. -/
def C8 (W : World) (v p k a b c e f g i q : Nat) (w : World) : Prop := Drew W w ∧ w.cell? ⟨v, 0, none⟩ = some (.int .u32 (a : Int)) ∧ w.cell? ⟨v, 1, none⟩ = some (.int .u32 (b : Int)) ∧ w.cell? ⟨v, 2, none⟩ = some (.int .u32 (c : Int)) ∧
  w.cell? ⟨v, 4, none⟩ = some (.int .u32 (e : Int)) ∧ w.cell? ⟨v, 5, none⟩ = some (.int .u32 (f : Int)) ∧ w.cell? ⟨v, 6, none⟩ = some (.int .u32 (g : Int)) ∧ w.cell? ⟨v, 7, none⟩ = some (.int .u32 (i : Int)) ∧ w.cell? ⟨p, k, none⟩ = some (.int .u32 (q : Int))
theorem C8.drew {W w w' : World} {v p k a b c e f g i q : Nat} (h : C8 W v p k a b c e f g i q w) (hd : Drew w w') : C8 W v p k a b c e f g i q w' := by
  obtain ⟨h0, h1⟩ := h
  refine ⟨h0.trans hd, ?_⟩
  rw [hd.cell, hd.cell, hd.cell, hd.cell, hd.cell, hd.cell, hd.cell, hd.cell]
  exact h1
theorem turned_6 (x : Nat) (hx : U32 x) (w : World) : Calls Tryd.prog 108 #[.int .u32 (x : Int), .int .i64 6, .int .i64 11, .int .i64 25] w fun e w' => e = .returned (.int .u32 (tnN x 6 11 25 : Int)) ∧ w' = w :=
  turned_any x 6 11 25 (by omega) (by omega) (by omega) (by omega) (by omega) (by omega) hx w
theorem turned_2 (x : Nat) (hx : U32 x) (w : World) : Calls Tryd.prog 108 #[.int .u32 (x : Int), .int .i64 2, .int .i64 13, .int .i64 22] w fun e w' => e = .returned (.int .u32 (tnN x 2 13 22 : Int)) ∧ w' = w :=
  turned_any x 2 13 22 (by omega) (by omega) (by omega) (by omega) (by omega) (by omega) hx w

set_option maxHeartbeats 1600000 in
set_option maxRecDepth 100000 in
theorem mix_any (ws bl : List Nat) (hw : ws.length = 8) (hl : bl.length = 64) (uw : ∀ x ∈ ws, U32 x) (hb : ∀ x ∈ bl, U8 x) (w : World) (ht : Tabs w) :
    Calls Tryd.prog 96 #[.agg (ws.map v32).toArray, .agg (bl.map v8).toArray] w fun e w' => e = .returned (.agg ((mixN ws bl).map v32).toArray) ∧ Below w.heap.size w w' := by
  go_enter Tryd.func96, Tryd.ntmps96
  go_upto_region 1 with fail
  have r0 := ((Rw.new w 115 (ws.map v32)).past (.cells (bl.map v8).toArray 148)).past (.cells ((List.replicate 8 0).map v32).toArray 115)
  have r1 := (Rw.new (w.alloc (.cells (ws.map v32).toArray 115)) 148 (bl.map v8)).past (.cells ((List.replicate 8 0).map v32).toArray 115)
  have r2 := Rw.new ((w.alloc (.cells (ws.map v32).toArray 115)).alloc (.cells (bl.map v8).toArray 148)) 115 ((List.replicate 8 0).map v32)
  have hB := (((Below.refl _ w).alloc (Nat.le_refl _) (.cells (ws.map v32).toArray 115)).alloc (by simp) (.cells (bl.map v8).toArray 148)).alloc (by simp; omega) (.cells ((List.replicate 8 0).map v32).toArray 115)
  simp only [World.size_alloc] at r1 r2
  change Code.wp _ _ _ _ (((w.alloc (.cells (ws.map v32).toArray 115)).alloc (.cells (bl.map v8).toArray 148)).alloc (.cells ((List.replicate 8 0).map v32).toArray 115))
  generalize ((w.alloc (.cells (ws.map v32).toArray 115)).alloc (.cells (bl.map v8).toArray 148)).alloc (.cells ((List.replicate 8 0).map v32).toArray 115) = W at *
  generalize hZ : (List.replicate 8 0).map v32 = Z at r2
  have HZ := Lib.hid hZ
  clear hZ
  have hl8 : (bl.map v8).length = 64 := by rw [List.length_map, hl]
  have hl32 : (ws.map v32).length = 8 := by rw [List.length_map, hw]
  replace ht := ht.keep hB
  go_wp2_with (refine load_arr _ _ _ r1 64 hl8 148 5 (by kernel_rfl) (by kernel_rfl) _ rfl rfl rfl ?_)
  refine (schedule_any bl hl hb _).mono ?_
  rintro e w1 ⟨rfl, hb1⟩
  have hzp := (r2.keep hb1).lt
  replace r0 := (r0.keep hb1).past (.cells ((s2 bl 48).map v32).toArray 117)
  replace r2 := (r2.keep hb1).past (.cells ((s2 bl 48).map v32).toArray 117)
  have r3 := Rw.new w1 117 ((s2 bl 48).map v32)
  replace ht := (ht.keep hb1).keep ((Below.refl _ _).alloc (Nat.le_refl _) (.cells ((s2 bl 48).map v32).toArray 117))
  replace hB := hB.trans (hb1.mono hB.size)
  replace hB := hB.alloc hB.size (.cells ((s2 bl 48).map v32).toArray 117)
  have hs : ((s2 bl 48).map v32).length = 64 := by rw [List.length_map, s2_len]
  have ho := one32 (s2 bl 48)
  have up := s2_u hb 48
  clear r1 hb1
  go_upto_region 2 with (refine store_arr w1.heap.size 117 ((List.replicate 64 0).map v32) (Rw.new w1 117 ((List.replicate 64 0).map v32)) 64 rfl 117 (by kernel_rfl) _ hs ho _ _ rfl rfl rfl rfl ?_)
  rw [World.setRow_alloc_new]
  generalize hp : w1.heap.size = p at *
  have hpW : p < (w1.alloc (.cells ((s2 bl 48).map v32).toArray 117)).heap.size := by simp [hp]
  clear hp
  generalize w1.alloc (.cells ((s2 bl 48).map v32).toArray 117) = W2 at *
  have oo := one32 ws
  go_upto_region 3 with (first
    | (refine load_arr _ _ _ r0 8 hl32 115 23 (by kernel_rfl) (by kernel_rfl) _ rfl rfl rfl ?_)
    | (refine store_arr W2.heap.size 115 ((List.replicate 8 0).map v32) (Rw.new W2 115 ((List.replicate 8 0).map v32)) 8 rfl 115 (by kernel_rfl) _ hl32 oo _ _ rfl rfl rfl rfl ?_))
  rw [World.setRow_alloc_new]
  replace r0 := r0.past (.cells (ws.map v32).toArray 115)
  replace r2 := r2.past (.cells (ws.map v32).toArray 115)
  replace r3 := r3.past (.cells (ws.map v32).toArray 115)
  have r4 := Rw.new W2 115 (ws.map v32)
  replace ht := ht.keep ((Below.refl _ _).alloc (Nat.le_refl _) (.cells (ws.map v32).toArray 115))
  replace hB := hB.alloc hB.size (.cells (ws.map v32).toArray 115)
  generalize hv : W2.heap.size = v at *
  clear hv
  generalize W2.alloc (.cells (ws.map v32).toArray 115) = W3 at *
  have hk64 : (keyL.map v32).length = 64 := rfl
  go_upto_region 4 with (refine load_at _ 0 _ ht.2 64 hk64 117 (.array 64 23) (by kernel_rfl) rfl (by kernel_rfl) _ rfl rfl rfl ?_)
  have hpl : (s2 bl 48).length = 64 := s2_len bl 48
  generalize hpn : s2 bl 48 = plan at *
  have Hpn := Lib.hid hpn
  clear hpn hl8 oo ho
  go_loopw [16] (fun i wr => ∃ k : Nat, k ≤ 64 ∧ i = .int .i64 (k : Int) ∧ Rw wr w.heap.size 115 (ws.map v32) ∧ Rw wr (w.heap.size + 1 + 1) 115 Z ∧ Rw wr p 117 (plan.map v32) ∧ Rw wr v 115 ((rds ws plan k).map v32) ∧ Below w.heap.size w wr) (fun i _ => 64 - (intOf i).toNat)
  case atStart => exact ⟨0, by omega, rfl, r0, r2, r3, r4, hB⟩
  case round =>
    clear r0 r2 r3 r4 hB ht
    obtain ⟨k, hk, rfl, q0, q2, q3, q4, qB⟩ := hrel
    by_cases hlt : k < 64
    · obtain ⟨q, hq⟩ : ∃ q, plan[k]? = some q := ⟨_, List.getElem?_eq_getElem (by omega)⟩
      obtain ⟨y, hy⟩ : ∃ y, keyL[k]? = some y := ⟨_, List.getElem?_eq_getElem (by simpa [keyL] using hlt)⟩
      have hur := rds_u (plan := plan) uw k
      obtain ⟨a, b, c, d, e, f, g, i, hr⟩ := list8 (rds_len (plan := plan) hw k)
      rw [hr] at q4 hur
      have Hrd := Lib.hid (show rds ws plan (k + 1) = rd y q [a, b, c, d, e, f, g, i] by rw [rds, hr, hq, hy]; rfl)
      clear hr
      simp only [List.mem_cons, List.not_mem_nil, or_false, forall_eq_or_imp, forall_eq] at hur
      obtain ⟨ua, ub, uc, ud, ue, uf, ug, ui⟩ := hur
      have hpk := (q3.cell k).trans (at32 hq)
      have z0 := q4.cell 0
      have z1 := q4.cell 1
      have z2 := q4.cell 2
      have z4 := q4.cell 4
      have z5 := q4.cell 5
      have z6 := q4.cell 6
      have z7 := q4.cell 7
      simp only [List.map_cons, List.map_nil, List.getElem?_cons_zero, List.getElem?_cons_succ, v32] at z0 z1 z2 z4 z5 z6 z7
      have hkl : (k : Int) < 64 := by omega
      have Kt6 := Lib.hid (turned_6 e ue)
      have Kch := Lib.hid (choice_any e f g ue uf ug)
      have Kt2 := Lib.hid (turned_2 a ua)
      have Kmj := Lib.hid (majority_any a b c ua ub uc)
      have hix := idx_arr (P := Tryd.prog) 117 23 64 .u32 (keyL.map v32) k (.int .u32 (y : Int)) (by kernel_rfl) (by kernel_rfl) (by kernel_rfl) hlt (at32 hy)
      clear ua ub uc ud ue uf ug ui hq hy
      go_upto_region 6 with fail
      clear hix
      try simp only [List.append_eq, List.cons_append, List.nil_append]
      refine region_class (fun w' => C8 wr v p k a b c e f g i q w') (by kernel_rfl) (by kernel_rfl) (⟨⟨_, rfl⟩, z0, z1, z2, z4, z5, z6, z7, hpk⟩) ?_
      repeat
        first
        | go_big_quiet_skip
        | (go_big_quiet_want
           refine quiet_val ?_
           apply Exists.intro
           refine ⟨fun w' hw' => ?_, ?_⟩
           · obtain ⟨_, e0, e1, e2, e4, e5, e6, e7, ep⟩ := hw'
             go_simp
             first | done | rfl | exact ⟨rfl, rfl⟩
           simp only [Act.put, List.setIfInBounds_toArray, List.set_cons_zero, List.set_cons_succ]
           go_big_quiet_on)
        | (go_big_quiet_want
           refine quiet_call ?_
           apply Exists.intro
           apply Exists.intro
           refine ⟨fun w' => ?_, ?_⟩
           · go_simp
             first | done | rfl | exact ⟨rfl, rfl⟩
           apply Exists.intro
           refine ⟨fun w' hw' => ?_, ?_⟩
           · first
             | (with_reducible refine (Kt6.out _).mono ?_); (rintro e w2 ⟨rfl, rfl⟩; exact ⟨rfl, hw'⟩)
             | (with_reducible refine (Kch.out _).mono ?_); (rintro e w2 ⟨rfl, rfl⟩; exact ⟨rfl, hw'⟩)
           simp only [Act.put, List.setIfInBounds_toArray, List.set_cons_zero, List.set_cons_succ]
           go_big_quiet_on)
      refine wpQuiet_nil ?_
      intro w5 hw5
      rw [show IntKind.u32.wrap (IntKind.u32.wrap (IntKind.u32.wrap (IntKind.u32.wrap ((i : Int) + (tnN e 6 11 25 : Int)) + (chN e f g : Int)) + (y : Int)) + (q : Int)) = (oneN [a, b, c, d, e, f, g, i] y q : Int) by rw [IntKind.wrap_u32', IntKind.wrap_u32', IntKind.wrap_u32', IntKind.wrap_u32']; simp only [oneN, List.getElem?_cons_zero, List.getElem?_cons_succ, Option.getD_some]; omega]
      clear z0 z1 z2 z4 z5 z6 z7 hpk Kt6 Kch
      obtain ⟨hdr, z0, z1, z2, z4, z5, z6, z7, hpk⟩ := hw5
      replace q0 := q0.drew hdr
      replace q2 := q2.drew hdr
      replace q3 := q3.drew hdr
      replace q4 := q4.drew hdr
      replace qB := qB.trans (hdr.below.mono qB.size)
      clear hdr
      go_upto_region 7 with fail
      try simp only [List.append_eq, List.cons_append, List.nil_append]
      refine region_class (fun w' => C8 w5 v p k a b c e f g i q w') (by kernel_rfl) (by kernel_rfl) (⟨⟨_, rfl⟩, z0, z1, z2, z4, z5, z6, z7, hpk⟩) ?_
      repeat
        first
        | go_big_quiet_skip
        | (go_big_quiet_want
           refine quiet_val ?_
           apply Exists.intro
           refine ⟨fun w' hw' => ?_, ?_⟩
           · obtain ⟨_, e0, e1, e2, e4, e5, e6, e7, ep⟩ := hw'
             go_simp
             first | done | rfl | exact ⟨rfl, rfl⟩
           simp only [Act.put, List.setIfInBounds_toArray, List.set_cons_zero, List.set_cons_succ]
           go_big_quiet_on)
        | (go_big_quiet_want
           refine quiet_call ?_
           apply Exists.intro
           apply Exists.intro
           refine ⟨fun w' => ?_, ?_⟩
           · go_simp
             first | done | rfl | exact ⟨rfl, rfl⟩
           apply Exists.intro
           refine ⟨fun w' hw' => ?_, ?_⟩
           · first
             | (with_reducible refine (Kt2.out _).mono ?_); (rintro e w2 ⟨rfl, rfl⟩; exact ⟨rfl, hw'⟩)
             | (with_reducible refine (Kmj.out _).mono ?_); (rintro e w2 ⟨rfl, rfl⟩; exact ⟨rfl, hw'⟩)
           simp only [Act.put, List.setIfInBounds_toArray, List.set_cons_zero, List.set_cons_succ]
           go_big_quiet_on)
      refine wpQuiet_nil ?_
      intro w5 hw5
      rw [show IntKind.u32.wrap ((tnN a 2 13 22 : Int) + (mjN a b c : Int)) = (twoN [a, b, c, d, e, f, g, i] : Int) by rw [IntKind.wrap_u32']; simp only [twoN, List.getElem?_cons_zero, List.getElem?_cons_succ, Option.getD_some]; omega]
      clear z0 z1 z2 z4 z5 z6 z7 hpk Kt2 Kmj
      obtain ⟨hdr, _⟩ := hw5
      replace q0 := q0.drew hdr
      replace q2 := q2.drew hdr
      replace q3 := q3.drew hdr
      replace q4 := q4.drew hdr
      replace qB := qB.trans (hdr.below.mono qB.size)
      clear hdr
      go_upto_region 8 with fail
      refine region_loose (fun _ w' => Drew w5 w') 2 2 1 #[true, true, false] rfl (by kernel_rfl) (by kernel_rfl) (by kernel_rfl) (⟨_, rfl⟩) ?_
      simp only [List.take_succ_cons, List.take_zero]
      repeat
        first
        | (refine loose_val (by decide) rfl ?_
           apply Exists.intro
           refine ⟨fun L' w' hw' => ?_, ?_⟩
           · obtain ⟨dr, rfl⟩ := hw'
             go_simp
             first | done | rfl | exact ⟨rfl, rfl⟩
           simp only [Act.put, List.setIfInBounds_toArray, List.set_cons_zero, List.set_cons_succ])
        | (refine loose_call (by decide) rfl ?_
           apply Exists.intro
           apply Exists.intro
           refine ⟨fun w' => ?_, ?_⟩
           · go_simp
             first | done | rfl | exact ⟨rfl, rfl⟩
           apply Exists.intro
           refine ⟨fun L' w' hw' => ?_, ?_⟩
           · first
             | fail
           simp only [Act.put, List.setIfInBounds_toArray, List.set_cons_zero, List.set_cons_succ])
        | (refine loose_new (by decide) rfl (fun L' w' hw' => ?_) (fun v => ?_)
           · fail
           simp only [Act.put, List.setIfInBounds_toArray, List.set_cons_zero, List.set_cons_succ])
      intro w5 hw5
      refine wpAny_ready (rs := [2]) (by kernel_rfl) (by simp) ?_
      refine AllReady.cons rfl (fun K hK => ?_) AllReady.nil
      replace q0 := q0.drew hw5
      replace q2 := q2.drew hw5
      replace q3 := q3.drew hw5
      replace q4 := q4.drew hw5
      replace qB := qB.trans (hw5.below.mono qB.size)
      clear hw5
      refine step_copy_splice rfl (.tmp 51) (.tmp 52) 169 169 rfl 23 (by kernel_rfl) (by kernel_rfl) (some ⟨v, 1, none⟩) (some ⟨v, 0, none⟩) 7 7 7 8 rfl rfl v 1 _ _ q4 ([a, b, c, d, e, f, g].map v32) rfl ?_ (by simp) (one32 _) v w5 (Below.refl _ _) (Nat.le_refl _) ?_
      · intro _
        refine ⟨rfl, _, rfl, fun j x hx => ?_⟩
        rw [add_off, q4.cell]
        rw [show [a, b, c, d, e, f, g, i].map v32 = [a, b, c, d, e, f, g].map v32 ++ [v32 i] from rfl, List.getElem?_append_left (List.getElem?_eq_some_iff.1 hx).1]
        exact hx
      intro w6 Hg6 hb6
      have q4' : Rw w6 v 115 ([a, a, b, c, d, e, f, g].map v32) := Hg6.out
      replace q0 := rw_below q0 (by omega) hb6
      replace q2 := rw_below q2 (by omega) hb6
      replace q3 := rw_below q3 (by omega) hb6
      replace qB := qB.trans (hb6.mono (by omega))
      clear hb6 Hg6 q4
      refine hK _ _ ?_
      clear hK K
      refine wpAny_done (by kernel_rfl) ?_ _
      have z4 := q4'.cell 4
      have y4 := q4'.frozen 4
      simp only [List.map_cons, List.map_nil, List.getElem?_cons_zero, List.getElem?_cons_succ, v32] at z4
      go_upto_region 10 with fail
      clear z4 y4
      generalize hX : Value.int .u32 (((d : Int) + (oneN [a, b, c, d, e, f, g, i] y q : Int)) % 4294967296) = X
      have HX := Lib.hid hX
      clear hX
      replace q0 := q0.other (k := v) (by omega) 4 X
      replace q2 := q2.other (k := v) (by omega) 4 X
      replace q3 := q3.other (k := v) (by omega) 4 X
      replace q4' := q4'.setCell 4 X
      replace qB := qB.setCell (p := ⟨v, 4, none⟩) (by simp; omega) X
      generalize w6.setCell ⟨v, 4, none⟩ X = w7 at *
      have z0 := q4'.cell 0
      have y0 := q4'.frozen 0
      simp only [List.map_cons, List.map_nil, List.set_cons_succ, List.set_cons_zero, List.getElem?_cons_zero, v32] at z0
      go_wp2_with fail
      go_roundw
      case rel =>
        refine ⟨k + 1, by omega, by go_num, q0.other (by omega) _ _, q2.other (by omega) _ _, q3.other (by omega) _ _, ?_, qB.setCell (p := ⟨v, 0, none⟩) (by simp; omega) _⟩
        have := q4'.setCell 0 (Value.int .u32 (((oneN [a, b, c, d, e, f, g, i] y q : Int) + (twoN [a, b, c, d, e, f, g, i] : Int)) % 4294967296))
        rw [Hrd.out]
        rw [← HX.out] at this
        exact this
      case measure => simp [intOf]; omega
    · obtain rfl : k = 64 := by omega
      have hvl : (rds ws plan 64).length = 8 := rds_len hw 64
      have Hmx := Lib.hid (show mixN ws bl = ad8 ws (rds ws plan 64) 8 by unfold mixN; rw [Hpn.out])
      generalize rds ws plan 64 = vs at *
      clear q3 hk hlt Hpn
      go_upto_region 13 with fail
      simp only [Int.cast_ofNat_Int]
      go_loopw [64] (fun i wr => ∃ k : Nat, k ≤ 8 ∧ i = .int .i64 (k : Int) ∧ Rw wr w.heap.size 115 ((ad8 ws vs k).map v32) ∧ Rw wr (w.heap.size + 1 + 1) 115 Z ∧ Rw wr v 115 (vs.map v32) ∧ Below w.heap.size w wr) (fun i _ => 8 - (intOf i).toNat)
      case atStart => exact ⟨0, by omega, rfl, q0, q2, q4, qB⟩
      case round =>
        clear q0 q2 q4 qB
        obtain ⟨k, hk, rfl, q0, q2, q4, qB⟩ := hrel
        by_cases hlt : k < 8
        · have hkl : (k : Int) < 8 := by omega
          obtain ⟨a, ha⟩ : ∃ a, (ad8 ws vs k)[k]? = some a := ⟨_, List.getElem?_eq_getElem (by rw [ad8_len hw]; omega)⟩
          obtain ⟨b, hb'⟩ : ∃ b, vs[k]? = some b := ⟨_, List.getElem?_eq_getElem (by omega)⟩
          have Hnx := Lib.hid (show ad8 ws vs (k + 1) = (ad8 ws vs k).set k ((a + b) % 4294967296) by rw [ad8, ha, hb']; rfl)
          have z0 := (q0.cell k).trans (at32 ha)
          have z1 := (q4.cell k).trans (at32 hb')
          have y0 := q0.frozen k
          clear ha hb'
          go_upto_region 15 with fail
          refine region_loose (fun _ w' => C2 wr w.heap.size v k a b w') 7 7 2 #[true, true, true, true, true, true, true, false, false] rfl (by kernel_rfl) (by kernel_rfl) (by kernel_rfl) (⟨⟨_, rfl⟩, z0, z1⟩) ?_
          simp only [List.take_succ_cons, List.take_zero]
          repeat
            first
            | (refine loose_val (by decide) rfl ?_
               apply Exists.intro
               refine ⟨fun L' w' hw' => ?_, ?_⟩
               · obtain ⟨_, e0, e1⟩ := hw'
                 go_simp
                 first | done | rfl | exact ⟨rfl, rfl⟩
               simp only [Act.put, List.setIfInBounds_toArray, List.set_cons_zero, List.set_cons_succ])
            | (refine loose_call (by decide) rfl ?_
               apply Exists.intro
               apply Exists.intro
               refine ⟨fun w' => ?_, ?_⟩
               · go_simp
                 first | done | rfl | exact ⟨rfl, rfl⟩
               apply Exists.intro
               refine ⟨fun L' w' hw' => ?_, ?_⟩
               · first
                 | fail
               simp only [Act.put, List.setIfInBounds_toArray, List.set_cons_zero, List.set_cons_succ])
            | (refine loose_new (by decide) rfl (fun L' w' hw' => ?_) (fun v => ?_)
               · fail
               simp only [Act.put, List.setIfInBounds_toArray, List.set_cons_zero, List.set_cons_succ])
          intro w5 hw5
          obtain ⟨hdr, _⟩ := hw5
          replace q0 := q0.drew hdr
          replace q2 := q2.drew hdr
          replace q4 := q4.drew hdr
          replace qB := qB.trans (hdr.below.mono qB.size)
          rw [← hdr.cell] at z0
          rw [← hdr.frozen] at y0
          clear z1 hdr
          refine wpAny_ready (rs := [7]) (by kernel_rfl) (by simp) ?_
          refine AllReady.cons rfl (fun K hK => ?_) AllReady.nil
          go_simp
          refine hK _ _ ?_
          clear hK K
          refine wpAny_ready (rs := [8]) (by kernel_rfl) (by simp) ?_
          refine AllReady.cons rfl (fun K hK => ?_) AllReady.nil
          go_simp
          refine hK _ _ ?_
          clear hK K
          refine wpAny_done (by kernel_rfl) ?_ _
          clear z0 y0
          go_wp2_with fail
          go_roundw
          case rel =>
            refine ⟨k + 1, by omega, by go_num, ?_, q2.other (by omega) _ _, q4.other (by omega) _ _, qB.setCell (p := ⟨w.heap.size, k, none⟩) (by simp) _⟩
            have := q0.setCell k (v32 ((a + b) % 4294967296))
            rw [← List.map_set, ← Hnx.out] at this
            exact this
          case measure => simp [intOf]; omega
        · obtain rfl : k = 8 := by omega
          have hz : Z.length = 8 := by rw [← HZ.out]; rfl
          have hs : ((ad8 ws vs 8).map v32).length = 8 := by rw [List.length_map, ad8_len hw]
          have h1 := one32 (ad8 ws vs 8)
          generalize hcs : (ad8 ws vs 8).map v32 = cs at *
          have Hcs := Lib.hid hcs
          clear hcs hk hlt
          go_wp2_with (first
            | (refine load_arr _ _ _ q0 8 hs 115 23 (by kernel_rfl) (by kernel_rfl) _ rfl rfl rfl ?_)
            | (refine store_arr _ _ _ q2 8 hz 115 (by kernel_rfl) cs hs h1 _ _ rfl rfl rfl rfl ?_))
          refine ret_arr (w.heap.size + 1 + 1) 115 cs (q2.row cs) 8 hs 23 (by kernel_rfl) (by kernel_rfl) (by rfl) rfl rfl ?_
          exact ⟨by rw [Hmx.out, Hcs.out], below_setRow qB (by omega) _⟩
end Go.Proofs.YtknhkmlihbgjpaaDoor.Dg
/- The digest of bytes, piece by piece: what is known of the eight words and of the block when some bytes were added. -/
namespace Go.Proofs.YtknhkmlihbgjpaaDoor.Dg
open Go

/-- The words behind the first n blocks of the bytes l. -/
def hsN (l : List Nat) : Nat → List Nat
  | 0 => startL
  | n + 1 => mixN (hsN l n) ((l.drop (64 * n)).take 64)
theorem hsN_len (l : List Nat) (n : Nat) : (hsN l n).length = 8 := by
  induction n with
  | zero => rfl
  | succ n ih => exact mixN_len ih
theorem hsN_u (l : List Nat) (n : Nat) : ∀ x ∈ hsN l n, U32 x := by
  induction n with
  | zero => exact start_u
  | succ n ih => exact mixN_u ih
theorem hsN_append (l m : List Nat) (n : Nat) (h : 64 * n ≤ l.length) : hsN (l ++ m) n = hsN l n := by
  induction n with
  | zero => rfl
  | succ n ih =>
    rw [hsN, hsN, ih (by omega), List.drop_append_of_le_length (by omega), List.take_append_of_le_length (by simp; omega)]

/-- The words ws and the block bf are those behind the bytes l. -/
structure St (ws bf l : List Nat) : Prop where
  words : ws = hsN l (l.length / 64)
  len : bf.length = 64
  part : bf.take (l.length % 64) = l.drop (64 * (l.length / 64))
theorem St.ulen {ws bf l : List Nat} (h : St ws bf l) : ws.length = 8 := by rw [h.words]; exact hsN_len _ _
theorem St.u {ws bf l : List Nat} (h : St ws bf l) : ∀ x ∈ ws, U32 x := by rw [h.words]; exact hsN_u _ _
theorem St.nil (bf : List Nat) (h : bf.length = 64) : St startL bf [] := ⟨rfl, h, by simp⟩
/-- A piece that fits into the block. -/
theorem St.piece {ws bf l c : List Nat} (h : St ws bf l) :
    (splice bf (l.length % 64) c).take (l.length % 64 + c.length) = (l ++ c).drop (64 * (l.length / 64)) := by
  rw [List.drop_append_of_le_length (by omega), ← h.part]
  unfold splice
  rw [← List.append_assoc, List.take_append_of_le_length (by simp [h.len]; omega), List.take_of_length_le (by simp [h.len]; omega)]
theorem St.less {ws bf l c : List Nat} (h : St ws bf l) (hc : l.length % 64 + c.length < 64) : St ws (splice bf (l.length % 64) c) (l ++ c) := by
  have e1 : (l ++ c).length / 64 = l.length / 64 := by rw [List.length_append]; omega
  have e2 : (l ++ c).length % 64 = l.length % 64 + c.length := by rw [List.length_append]; omega
  refine ⟨?_, by rw [length_splice]; exact h.len; rw [h.len]; omega, ?_⟩
  · rw [e1, hsN_append _ _ _ (by omega)]; exact h.words
  · rw [e1, e2]; exact h.piece
theorem St.full {ws bf l c : List Nat} (h : St ws bf l) (hc : l.length % 64 + c.length = 64) : St (mixN ws (splice bf (l.length % 64) c)) (splice bf (l.length % 64) c) (l ++ c) := by
  have e1 : (l ++ c).length / 64 = l.length / 64 + 1 := by rw [List.length_append]; omega
  have e2 : (l ++ c).length % 64 = 0 := by rw [List.length_append]; omega
  have hl : (splice bf (l.length % 64) c).length = 64 := by rw [length_splice]; exact h.len; rw [h.len]; omega
  have hp := h.piece (c := c)
  rw [hc, List.take_of_length_le (by omega)] at hp
  refine ⟨?_, hl, ?_⟩
  · rw [e1, hsN, hsN_append _ _ _ (by omega), ← h.words, hp, List.take_of_length_le (by rw [← hp, hl]; omega)]
  · rw [e2, e1, List.take_zero, List.drop_eq_nil_of_le (by rw [List.length_append]; omega)]
end Go.Proofs.YtknhkmlihbgjpaaDoor.Dg
/- Add: the bytes are appended, whole blocks are mixed in. -/
namespace Go.Proofs.YtknhkmlihbgjpaaDoor.Dg
open Go.ChangeShapes Go.WideShapes Go.RowKit

/-- A Sum in memory: the eight words, the block, and how many bytes were added. -/
def sumV (ws bf : List Nat) (n : Nat) : List Value := ws.map v32 ++ (bf.map v8 ++ [.int .i64 (n : Int)])
def SumAt (w : World) (s : Nat) (ws bf : List Nat) (n : Nat) : Prop := Rw w s 150 (sumV ws bf n)
theorem sumV_len {ws bf : List Nat} (h : ws.length = 8) (k : bf.length = 64) (n : Nat) : (sumV ws bf n).length = 73 := by simp [sumV, h, k]
theorem sumV_total {ws bf : List Nat} (h : ws.length = 8) (k : bf.length = 64) (n : Nat) : (sumV ws bf n)[72]? = some (.int .i64 (n : Int)) := by
  unfold sumV
  rw [List.getElem?_append_right (by simp [h]), List.getElem?_append_right (by simp [h, k])]
  simp [h, k]
theorem sumV_set {ws bf : List Nat} (h : ws.length = 8) (k : bf.length = 64) (n m : Nat) : (sumV ws bf n).set 72 (.int .i64 (m : Int)) = sumV ws bf m := by
  unfold sumV
  rw [List.set_append_right _ _ (by simp [h]), List.set_append_right _ _ (by simp [h, k])]
  simp [h, k]
theorem sumV_words {ws bf ws' : List Nat} (h : ws.length = 8) (h' : ws'.length = 8) (n : Nat) : splice (sumV ws bf n) 0 (ws'.map v32) = sumV ws' bf n := by
  unfold sumV splice
  rw [List.drop_append]
  simp [h, h']
theorem sumV_block {ws bf c : List Nat} (h : ws.length = 8) (k : bf.length = 64) (m : Nat) (hm : m + c.length ≤ 64) (n : Nat) : splice (sumV ws bf n) (8 + m) (c.map v8) = sumV ws (splice bf m c) n := by
  unfold sumV splice
  have e1 : List.take (8 + m) (ws.map v32 ++ (bf.map v8 ++ [Value.int .i64 (n : Int)])) = ws.map v32 ++ (bf.map v8).take m := by
    rw [List.take_append, List.take_of_length_le (by simp [h])]
    congr 1
    rw [show 8 + m - (ws.map v32).length = m by simp [h], List.take_append_of_le_length (by simp [k]; omega)]
  have e2 : List.drop (8 + m + (c.map v8).length) (ws.map v32 ++ (bf.map v8 ++ [Value.int .i64 (n : Int)])) = (bf.map v8).drop (m + c.length) ++ [Value.int .i64 (n : Int)] := by
    rw [List.drop_append, List.drop_eq_nil_of_le (by simp [h]; omega), List.nil_append]
    rw [show 8 + m + (c.map v8).length - (ws.map v32).length = m + c.length by simp [h]; omega, List.drop_append_of_le_length (by simp [k]; omega)]
  rw [e1, e2]
  simp
theorem SumAt.words {w : World} {s n : Nat} {ws bf : List Nat} (h : SumAt w s ws bf n) : Cls w s 0 (ws.map v32) := fun j v hv => by
  rw [Rw.cell h]
  have : j < (ws.map v32).length := (List.getElem?_eq_some_iff.1 hv).1
  unfold sumV
  rw [Nat.zero_add, List.getElem?_append_left this]; exact hv
theorem SumAt.block {w : World} {s n : Nat} {ws bf : List Nat} (h : SumAt w s ws bf n) (hl : ws.length = 8) : Cls w s 8 (bf.map v8) := fun j v hv => by
  rw [Rw.cell h]
  have : j < (bf.map v8).length := (List.getElem?_eq_some_iff.1 hv).1
  unfold sumV
  rw [List.getElem?_append_right (by simp [hl]), show 8 + j - (ws.map v32).length = j by simp [hl], List.getElem?_append_left this]; exact hv
/-- The part of an array that lies anywhere, from place k on. -/
theorem cut_mid {P : Program} (t e : TypeId) (n g b k : Nat) (hk : k < n) (ht : P.underlying t = some (.array n e)) (he : (P.info? e).map (·.size) = some 1) (w : World) :
    (Instr.sliceAt t (.pointer (some ⟨g, b, none⟩)) (some (.int .i64 (k : Int))) none none).run P w = .ok (.slice (some ⟨g, b + k, none⟩) (n - k) (n - k)) w := by
  have hz : ∀ w, (sizeOf e).run P w = .ok 1 w := fun w => by
    cases hq : P.info? e with
    | none => simp [hq] at he
    | some i => simp [hq] at he; simp [sizeOf, typeInfo, hq, he]
  have hne : ¬ n = k := by omega
  simp [Instr.sliceAt, Instr.sureAddr, run_underlying ht, Instr.sliceBounds, run_sliceBound, hz, hne, add_any, show (k : Int) ≤ (n : Int) by omega]

/-- Cells are copied into a row, as a step of a region that draws its order. -/
theorem step_copy {P : Program} {ops : Array Oper} {o : Oper} {a : Act} {w : World} {K : Act → World → Prop} {Q : Exit → Act → World → Prop} {E : Prop} (hgd : o.guard = none) (d s : Operand) (dT sT : TypeId)
    (ho : o.op = .call { callee := .builtin .copy, args := #[d, s], argTypes := #[dT, sT] }) (elem : TypeId) (hu : P.underlying dT = some (.slice elem)) (hsz : (P.info? elem).map (·.size) = some 1)
    (g off h p dLen dCap sLen sCap : Nat) (hd : a.eval d = .slice (some ⟨g, off, none⟩) dLen dCap) (hs : a.eval s = .slice (some ⟨h, p, none⟩) sLen sCap)
    (cur : List Value) (t : TypeId) (hg : Rw w g t cur) (cs : List Value) (n : Nat) (hcn : cs.length = n) (hn : n = Nat.min sLen dLen) (hsrc : Cls w h p cs)
    (hfit : off + n ≤ cur.length) (h1 : ∀ v ∈ cs, v.oneCell' = true)
    (hk : K (a.put o.dst (.int .i64 (n : Int))) (w.setRow g (splice cur off cs).toArray)) :
    if Region.wanted o (yielded ops a.tmps) = true then Oper.wp P o a w K Q else E := by
  subst hcn
  have hw : Region.wanted o (yielded ops a.tmps) = true := by simp [Region.wanted, hgd]
  rw [if_pos hw]
  have hrun := run_copy_row (P := P) w dT sT o.type elem g off dLen dCap ⟨h, p, none⟩ sLen sCap cur.toArray t cs hu hsz hg hn (fun j v hv => by rw [add_any]; exact hsrc j v hv) (by simpa using hfit) h1
  unfold Oper.wp
  simp only [execOp, ho, resolve, invoke, builtin, List.map_toArray, List.map_cons, List.map_nil, hd, hs]
  simp [hrun, Result.andThen]
  unfold splice at hk
  exact hk
/-- A whole array is written, as a step of a region that draws its order. -/
theorem step_store {P : Program} {ops : Array Oper} {o : Oper} {a : Act} {w : World} {K : Act → World → Prop} {Q : Exit → Act → World → Prop} {E : Prop} (g k : Nat) (t : TypeId) (cur : List Value) (hr : Rw w g t cur) (ty : TypeId) (n : Nat) (hi : (P.info? ty).map (·.size) = some n) (cs : List Value) (hn : cs.length = n) (hk : k + n ≤ cur.length) (h1 : ∀ v ∈ cs, v.oneCell' = true) (x y : Operand) (hgd : o.guard = none) (ho : o.op = .store ty x y)
    (hx : a.eval x = .pointer (some ⟨g, k, none⟩)) (hy : a.eval y = .agg cs.toArray) (h : K (a.put o.dst undef) (w.setRow g (splice cur k cs).toArray)) :
    if Region.wanted o (yielded ops a.tmps) = true then Oper.wp P o a w K Q else E := by
  have hw : Region.wanted o (yielded ops a.tmps) = true := by simp [Region.wanted, hgd]
  rw [if_pos hw]
  unfold Oper.wp execOp
  simp only [ho, hx, hy, Instr.storeAt, Instr.sureAddr, Sem.run_bind, Sem.run_pure, Result.andThen_ok, run_store_at w g k t ty cur cs hr (by rw [hi, hn]) (by rw [hn]; exact hk) h1]
  exact h
/-- A whole array is read, as a step of a region that draws its order. -/
theorem loose_load {P : Program} {ops : Array Oper} {C : Marks → World → Prop} {q i : Nat} {a : Act} {L : Marks} {o : Oper} {rest : List Oper} {E : Act → Marks → Prop} (g k : Nat) (cs : List Value) (n : Nat) (hn : cs.length = n) (ty e : TypeId) (hu : P.underlying ty = some (.array n e)) (hi : (P.info? ty).map (·.size) = some n)
    (hc : ∀ L w, C L w → Cls w g k cs) (x : Operand) (hq : i < q) (hg : o.guard = none) (ho : o.op = .load ty x) (hx : a.eval x = .pointer (some ⟨g, k, none⟩)) (h : wpLoose P ops C q E rest (i + 1) (a.put o.dst (.agg cs.toArray)) L) : wpLoose P ops C q E (o :: rest) i a L := by
  refine loose_val hq hg ⟨.agg cs.toArray, fun L w hw => ?_, h⟩
  unfold execOp
  simp only [ho, hx, Instr.loadAt, Instr.sureAddr, Sem.run_bind, Sem.run_pure, Result.andThen_ok, run_load_cells w g k ty cs (.array n e) (hc L w hw) hu rfl (by rw [hi, hn])]
/-- What is left of a slice. -/
theorem rest_of {P : Program} (t e : TypeId) (g o len cap n : Nat) (ht : P.underlying t = some (.slice e)) (he : (P.info? e).map (·.size) = some 1) (hn : n ≤ len) (hc : len ≤ cap) :
    ∃ a, (∀ w, (Instr.slice t (.slice (some ⟨g, o, none⟩) len cap) (some (.int .i64 (n : Int))) none none).run P w = .ok (.slice a (len - n) (cap - n)) w) ∧ (n < len → a = some ⟨g, o + n, none⟩) := by
  have hz : ∀ w, (sizeOf e).run P w = .ok 1 w := fun w => by
    cases hq : P.info? e with
    | none => simp [hq] at he
    | some i => simp [hq] at he; simp [sizeOf, typeInfo, hq, he]
  refine ⟨if cap = n then some ⟨g, o, none⟩ else some ⟨g, o + n, none⟩, fun w => ?_, fun h => by rw [if_neg (by omega)]⟩
  simp [Instr.slice, run_underlying ht, Instr.sliceBounds, run_sliceBound, hz, add_any, show (n : Int) ≤ (len : Int) by omega]
theorem Cls.take {w : World} {g o : Nat} {xs : List Value} (h : Cls w g o xs) (n : Nat) : Cls w g o (xs.take n) := fun j v hv => h j v (by rw [List.getElem?_take] at hv; split at hv; exact hv; cases hv)
theorem Cls.drop {w : World} {g o : Nat} {xs : List Value} (h : Cls w g o xs) (n : Nat) : Cls w g (o + n) (xs.drop n) := fun j v hv => by
  rw [List.getElem?_drop] at hv
  rw [Nat.add_assoc]; exact h _ v hv
theorem Cls.row {w : World} {g o s : Nat} {xs : List Value} (h : Cls w g o xs) (hs : g ≠ s) (cs : Array Value) : Cls (w.setRow s cs) g o xs := fun j v hv => by
  rw [cell_setRow_other w s cs _ hs]; exact h j v hv
/-- A row is written in both worlds. -/
theorem below_both {N s : Nat} {a b : World} (h : Below N a b) (X : Array Value) : Below N (a.setRow s X) (b.setRow s X) := by
  refine ⟨h.os, h.tape, h.output, by rw [setRow_size, setRow_size]; exact h.size, fun k hk => ?_⟩
  by_cases e : k = s
  · subst e
    simp only [World.setRow, Array.getElem?_modify, h.block k hk]
  · rw [setRow_other _ _ _ _ e, setRow_other _ _ _ _ e]; exact h.block k hk
theorem below_again {N s : Nat} {w b : World} {cs : Array Value} (h : Below N (w.setRow s cs) b) (X : Array Value) : Below N (w.setRow s X) (b.setRow s X) := by
  have := below_both (s := s) h X
  rw [setRow_setRow] at this
  exact this
/-- How many elements a slice has. -/
def slen : Value → Nat
  | .slice _ n _ => n
  | _ => 0
theorem u8_splice {bf c : List Nat} (h : ∀ x ∈ bf, U8 x) (k : ∀ x ∈ c, U8 x) (m : Nat) : ∀ x ∈ splice bf m c, U8 x := by
  intro x hx
  unfold splice at hx
  rcases List.mem_append.1 hx with h1 | h1
  · exact h x (List.mem_of_mem_take h1)
  · rcases List.mem_append.1 h1 with h2 | h2
    · exact k x h2
    · exact h x (List.mem_of_mem_drop h2)

/-- What holds in the loop: some bytes were added, others are left. -/
def AddRel (w : World) (s : Nat) (l b : List Nat) (vb : Value) (wr : World) : Prop :=
  ∃ dn rs ws bf a cap cs, b = dn ++ rs ∧ vb = .slice a rs.length cap ∧ rs.length ≤ cap ∧ (rs ≠ [] → ∃ g o, a = some ⟨g, o, none⟩ ∧ g ≠ s ∧ Cls wr g o (rs.map v8)) ∧
    SumAt wr s ws bf (l ++ dn).length ∧ St ws bf (l ++ dn) ∧ (∀ x ∈ bf, U8 x) ∧ Below w.heap.size (w.setRow s cs) wr

set_option maxHeartbeats 1600000 in
set_option maxRecDepth 100000 in
theorem add_bytes (s : Nat) (ws bf l b : List Nat) (a : Option Addr) (cap : Nat) (w : World) (ht : Tabs w) (hs0 : s ≠ 0) (hs1 : s ≠ 1)
    (hr : SumAt w s ws bf l.length) (hz : ws.length = 8) (hbf : bf.length = 64) (hst : l ≠ [] → St ws bf l) (hub : ∀ x ∈ bf, U8 x) (ub : ∀ x ∈ b, U8 x)
    (hcap : b.length ≤ cap) (hlen : l.length + b.length < 4611686018427387904) (hb : b ≠ [] → ∃ g o, a = some ⟨g, o, none⟩ ∧ g ≠ s ∧ Cls w g o (b.map v8)) :
    Calls Tryd.prog 81 #[.pointer (some ⟨s, 0, none⟩), .slice a b.length cap] w fun e w' => e = .returned (.int .i64 ((l ++ b).length : Int)) ∧
      ∃ ws' bf' cs, SumAt w' s ws' bf' (l ++ b).length ∧ St ws' bf' (l ++ b) ∧ (∀ x ∈ bf', U8 x) ∧ Below w.heap.size (w.setRow s cs) w' := by
  have c72 := (Rw.cell hr 72).trans (sumV_total hz hbf _)
  have f72 := Rw.frozen hr 72
  go_enter Tryd.func81, Tryd.ntmps81
  go_upto_if 12 with fail
  go_cut [4] (fun s4 wx => s4 = .int .i64 0 ∧ ∃ ws cs, SumAt wx s ws bf l.length ∧ St ws bf l ∧ Below w.heap.size (w.setRow s cs) wx)
  case first =>
    by_cases h0 : l = []
    · subst h0
      have hss : startL.length = 8 := rfl
      go_wp2_with (first
        | (refine load_at _ 0 _ ht.1 8 rfl 115 (.array 8 23) (by kernel_rfl) rfl (by kernel_rfl) _ rfl rfl rfl ?_)
        | (refine store_at s 0 _ _ hr 115 8 (by kernel_rfl) (startL.map v32) rfl (by rw [sumV_len hz hbf]; omega) (one32 _) _ _ rfl rfl rfl rfl ?_))
      go_meet
      refine ⟨rfl, startL, _, ?_, St.nil bf hbf, Below.refl _ _⟩
      have := Rw.row hr (splice (sumV ws bf 0) 0 (startL.map v32))
      rw [sumV_words hz hss] at this ⊢
      exact this
    · have hne : ((l.length : Int) == 0) = false := by
        have : l.length ≠ 0 := fun e => h0 (List.eq_nil_of_length_eq_zero e)
        rw [beq_eq_false_iff_ne]; omega
      go_wp2_with fail
      go_meet
      exact ⟨rfl, ws, _, hr, hst h0, by rw [setRow_self w s _ _ _ hr]; exact Below.refl _ _⟩
  case rest =>
    obtain ⟨rfl, ws0, cs, h1, h2, h3⟩ := hcut
    clear hr hz hst c72 f72
    go_upto_region 5 with fail
    go_loopw [1] (fun vb wr => AddRel w s l b vb wr) (fun vb _ => slen vb)
    case atStart =>
      refine ⟨[], b, ws0, bf, a, cap, cs, rfl, rfl, hcap, fun hne => ?_, by rw [List.append_nil]; exact h1, by rw [List.append_nil]; exact h2, hub, h3⟩
      obtain ⟨g, o, e, hgs, hc⟩ := hb hne
      refine ⟨g, o, e, hgs, fun j v hv => ?_⟩
      have h4 := hc j v hv
      have h5 := World.block_lt_of_cell? w _ h4
      rw [h3.cell h5, cell_setRow_other w s cs _ hgs]
      exact h4
    case round =>
      clear hb hcap h1 h2 h3
      obtain ⟨dn, rs, ws1, bf1, a1, cap1, cs1, rfl, rfl, hcap, hb, h1, h2, hub1, h3⟩ := hrel
      by_cases hrs : rs = []
      · subst hrs
        have c72 := (Rw.cell h1 72).trans (sumV_total h2.ulen h2.len _)
        have hlz : ([] : List Nat).length = 0 := rfl
        rw [hlz]
        have Hnil := Lib.hid (List.append_nil dn)
        clear hb
        go_wp2_with fail
        go_ret
        rw [Hnil.out]
        exact ⟨by rw [List.length_append]; rfl, ws1, bf1, cs1, h1, h2, hub1, h3⟩
      · obtain ⟨g, o, rfl, hgs, hc⟩ := hb hrs
        have hrl : 0 < rs.length := by rcases rs with _ | _; exact absurd rfl hrs; simp
        obtain ⟨T, hT⟩ : ∃ T, T = (l ++ dn).length := ⟨_, rfl⟩
        obtain ⟨m, hm⟩ : ∃ m, m = T % 64 := ⟨_, rfl⟩
        obtain ⟨n, hn⟩ : ∃ n, n = Nat.min rs.length (64 - m) := ⟨_, rfl⟩
        have hm64 : m < 64 := by omega
        have hcut := cut_mid (P := Tryd.prog) 148 5 64 s 8 m hm64 (by kernel_rfl) (by kernel_rfl)
        have c72 := (Rw.cell h1 72).trans (sumV_total h2.ulen h2.len _)
        rw [← hT] at c72
        have htm : (T : Int).tmod 64 = (m : Int) := by rw [hm]; rfl
        have hnr : n ≤ rs.length := by rw [hn]; exact Nat.min_le_left _ _
        have hn64 : n ≤ 64 - m := by rw [hn]; exact Nat.min_le_right _ _
        have hn0 : 0 < n := by rw [hn]; exact Nat.lt_min.2 ⟨hrl, by omega⟩
        have hTn : T + n < 4611686018427387904 := by rw [List.length_append] at hlen hT; omega
        have hcl : ((rs.take n).map v8).length = n := by simp; omega
        have hcl' : (rs.take n).length = n := by simp; omega
        have HT := Lib.hid hT
        have Hm := Lib.hid hm
        have Hn := Lib.hid hn
        clear hT hm hn
        go_upto_region 6 with fail
        refine region_loose (fun _ w' => Drew wr w' ∧ w'.cell? ⟨s, 72, none⟩ = some (.int .i64 (T : Int))) 10 10 2 #[true, true, true, true, true, true, true, true, true, true, false, false] rfl (by kernel_rfl) (by kernel_rfl) (by kernel_rfl) (⟨⟨_, rfl⟩, c72⟩) ?_
        simp only [List.take_succ_cons, List.take_zero]
        repeat
          first
          | (refine loose_val (by decide) rfl ?_
             apply Exists.intro
             refine ⟨fun L' w' hw' => ?_, ?_⟩
             · obtain ⟨_, e0⟩ := hw'
               go_simp
               first | done | rfl | exact ⟨rfl, rfl⟩
             simp only [Act.put, List.setIfInBounds_toArray, List.set_cons_zero, List.set_cons_succ])
          | (refine loose_call (by decide) rfl ?_
             apply Exists.intro
             apply Exists.intro
             refine ⟨fun w' => ?_, ?_⟩
             · go_simp
               first | done | rfl | exact ⟨rfl, rfl⟩
             apply Exists.intro
             refine ⟨fun L' w' hw' => ?_, ?_⟩
             · first
               | fail
             simp only [Act.put, List.setIfInBounds_toArray, List.set_cons_zero, List.set_cons_succ])
          | (refine loose_new (by decide) rfl (fun L' w' hw' => ?_) (fun v => ?_)
             · fail
             simp only [Act.put, List.setIfInBounds_toArray, List.set_cons_zero, List.set_cons_succ])
        intro w5 hw5
        obtain ⟨hdr, _⟩ := hw5
        replace h1 : SumAt w5 s ws1 bf1 (l ++ dn).length := Rw.drew h1 hdr
        replace h3 := h3.trans (hdr.below.mono (by have := h3.size; rw [setRow_size] at this; exact this))
        replace hc : Cls w5 g o (rs.map v8) := fun j v hv => by rw [hdr.cell]; exact hc j v hv
        clear hdr c72 hcut htm
        refine wpAny_ready (rs := [10]) (by kernel_rfl) (by simp) ?_
        refine AllReady.cons rfl (fun K hK => ?_) AllReady.nil
        refine step_copy rfl (.tmp 28) (.tmp 29) 88 88 rfl 5 (by kernel_rfl) (by kernel_rfl) s (8 + m) g o (64 - m) (64 - m) rs.length cap1 rfl rfl _ _ h1 ((rs.take n).map v8) n hcl Hn.out (by rw [List.map_take]; exact hc.take n) (by rw [sumV_len h2.ulen h2.len]; omega) (one8 _) ?_
        refine hK _ _ ?_
        clear hK K
        have h1' : SumAt (w5.setRow s (splice (sumV ws1 bf1 (l ++ dn).length) (8 + m) ((rs.take n).map v8)).toArray) s ws1 (splice bf1 m (rs.take n)) (l ++ dn).length := by
          have := Rw.row h1 (splice (sumV ws1 bf1 (l ++ dn).length) (8 + m) ((rs.take n).map v8))
          rw [sumV_block h2.ulen h2.len m (by omega)] at this ⊢
          exact this
        replace hc := hc.row hgs (splice (sumV ws1 bf1 (l ++ dn).length) (8 + m) ((rs.take n).map v8)).toArray
        replace h3 := below_again h3 (splice (sumV ws1 bf1 (l ++ dn).length) (8 + m) ((rs.take n).map v8)).toArray
        generalize (splice (sumV ws1 bf1 (l ++ dn).length) (8 + m) ((rs.take n).map v8)).toArray = X at *
        generalize w5.setRow s X = w6 at *
        clear h1
        refine wpAny_ready (rs := [11]) (by kernel_rfl) (by simp) ?_
        refine AllReady.cons rfl (fun K hK => ?_) AllReady.nil
        go_simp
        refine hK _ _ ?_
        clear hK K
        refine wpAny_done (by kernel_rfl) ?_ _
        obtain ⟨a2, hsl, ha2⟩ := rest_of (P := Tryd.prog) 88 5 g o rs.length cap1 n (by kernel_rfl) (by kernel_rfl) hnr hcap
        have hbl : (splice bf1 m (rs.take n)).length = 64 := by rw [length_splice _ _ _ (by rw [h2.len, hcl']; omega)]; exact h2.len
        have c72 := (Rw.cell h1' 72).trans (sumV_total h2.ulen hbl _)
        rw [← HT.out] at c72
        have f72 := Rw.frozen h1' 72
        obtain ⟨m2, hm2⟩ : ∃ m2, m2 = (T + n) % 64 := ⟨_, rfl⟩
        have htm : ((T : Int) + (n : Int)).tmod 64 = (m2 : Int) := by rw [hm2]; rfl
        have Hm2 := Lib.hid hm2
        clear hm2
        go_upto_if 47 with fail
        clear c72 f72 hsl htm
        have Hbs := Lib.hid (show dn ++ rs = (dn ++ rs.take n) ++ rs.drop n by rw [List.append_assoc, List.take_append_drop])
        have Hdl := Lib.hid (show (rs.drop n).length = rs.length - n by simp)
        have Hl2 := Lib.hid (show (l ++ (dn ++ rs.take n)).length = T + n by rw [← List.append_assoc, List.length_append, hcl', HT.out])
        have ub2 : ∀ x ∈ splice bf1 m (rs.take n), U8 x := u8_splice hub1 (fun x hx => ub x (List.mem_append_right _ (List.mem_of_mem_take hx))) m
        rw [show w6.setCell ⟨s, 72, none⟩ (.int .i64 ((T : Int) + (n : Int))) = w6.setRow s (sumV ws1 (splice bf1 m (rs.take n)) (T + n)).toArray by
          rw [setCell_eq_setRow w6 s 72 _ _ _ _ h1', ← sumV_set h2.ulen hbl (l ++ dn).length (T + n)]; simp]
        have h1 : SumAt (w6.setRow s (sumV ws1 (splice bf1 m (rs.take n)) (T + n)).toArray) s ws1 (splice bf1 m (rs.take n)) (T + n) := Rw.row h1' _
        replace hc := hc.row hgs (sumV ws1 (splice bf1 m (rs.take n)) (T + n)).toArray
        replace h3 := below_again h3 (sumV ws1 (splice bf1 m (rs.take n)) (T + n)).toArray
        have hc2 : rs.drop n ≠ [] → ∃ g' o', a2 = some ⟨g', o', none⟩ ∧ g' ≠ s ∧ Cls (w6.setRow s (sumV ws1 (splice bf1 m (rs.take n)) (T + n)).toArray) g' o' ((rs.drop n).map v8) := fun hne => by
          refine ⟨g, o + n, ha2 ?_, hgs, by rw [List.map_drop]; exact hc.drop n⟩
          rcases Nat.lt_or_ge n rs.length with h | h
          · exact h
          · exact absurd (List.drop_eq_nil_of_le h) hne
        clear h1' ha2 hc
        generalize (sumV ws1 (splice bf1 m (rs.take n)) (T + n)).toArray = X2 at *
        generalize w6.setRow s X2 = w7 at *
        have hm' : (l ++ dn).length % 64 = m := by rw [← HT.out]; exact Hm.out.symm
        by_cases hfull : m2 = 0
        · have hmn : m + n = 64 := by have h5 := Hm2.out; have h6 := Hm.out; omega
          have hst := h2.full (c := rs.take n) (by rw [hm', hcl']; exact hmn)
          rw [hm', List.append_assoc] at hst
          have hlw := h2.ulen
          have Kmix := Lib.hid (fun w ht => mix_any ws1 (splice bf1 m (rs.take n)) h2.ulen hbl h2.u ub2 w ht)
          generalize splice bf1 m (rs.take n) = bf2 at *
          have hTab : Tabs w7 := by
            have h7 := h3.size
            rw [setRow_size] at h7
            exact (show Tabs (w.setRow s X2) from ⟨ht.1.row (Ne.symm hs0) X2, ht.2.row (Ne.symm hs1) X2⟩).keep ⟨h3.os, h3.tape, h3.output, h3.size, fun k hk => h3.block k (by rw [setRow_size] at hk; exact hk)⟩
          have hl1 : (ws1.map v32).length = 8 := by rw [List.length_map, hlw]
          have hl2 : (bf2.map v8).length = 64 := by rw [List.length_map, hbl]
          subst hfull
          go_upto_region 10 with fail
          have hcw : ∀ (L : Marks) w', (fun (_ : Marks) w' => Below w7.heap.size w7 w') L w' → Cls w' s 0 (ws1.map v32) := fun _ w' h => (SumAt.words h1).keep h
          have hcb : ∀ (L : Marks) w', (fun (_ : Marks) w' => Below w7.heap.size w7 w') L w' → Cls w' s 8 (bf2.map v8) := fun _ w' h => (SumAt.block h1 hlw).keep h
          refine region_loose (fun _ w' => Below w7.heap.size w7 w') 12 12 1 #[true, true, true, true, true, true, true, true, true, true, true, true, false] rfl (by kernel_rfl) (by kernel_rfl) (by kernel_rfl) ((Below.refl _ _).drew) ?_
          simp only [List.take_succ_cons, List.take_zero]
          repeat
            first
            | (refine loose_load s 0 _ 8 hl1 115 23 (by kernel_rfl) (by kernel_rfl) hcw _ (by decide) rfl rfl rfl ?_
               simp only [Act.put, List.setIfInBounds_toArray, List.set_cons_zero, List.set_cons_succ])
            | (refine loose_load s 8 _ 64 hl2 148 5 (by kernel_rfl) (by kernel_rfl) hcb _ (by decide) rfl rfl rfl ?_
               simp only [Act.put, List.setIfInBounds_toArray, List.set_cons_zero, List.set_cons_succ])
            | (refine loose_val (by decide) rfl ?_
               apply Exists.intro
               refine ⟨fun L' w' hw' => ?_, ?_⟩
               · obtain hhh := hw'
                 go_simp
                 first | done | rfl | exact ⟨rfl, rfl⟩
               simp only [Act.put, List.setIfInBounds_toArray, List.set_cons_zero, List.set_cons_succ])
            | (refine loose_call (by decide) rfl ?_
               apply Exists.intro
               apply Exists.intro
               refine ⟨fun w' => ?_, ?_⟩
               · go_simp
                 first | done | rfl | exact ⟨rfl, rfl⟩
               apply Exists.intro
               refine ⟨fun L' w' hw' => ?_, ?_⟩
               · first
                 | (with_reducible refine (Kmix.out _ (hTab.keep hw')).mono ?_); (rintro e w2 ⟨rfl, hdd⟩; exact ⟨rfl, hw'.trans (hdd.mono hw'.size)⟩)
               simp only [Act.put, List.setIfInBounds_toArray, List.set_cons_zero, List.set_cons_succ])
            | (refine loose_new (by decide) rfl (fun L' w' hw' => ?_) (fun v => ?_)
               · fail
               simp only [Act.put, List.setIfInBounds_toArray, List.set_cons_zero, List.set_cons_succ])
          intro w5 hw5
          replace h1 : SumAt w5 s ws1 bf2 (T + n) := Rw.keep h1 hw5
          replace h3 := h3.trans (hw5.mono (by have := h3.size; rw [setRow_size] at this; exact this))
          have hlm : (mixN ws1 bf2).length = 8 := mixN_len hlw
          replace h3 := below_again h3 (splice (sumV ws1 bf2 (T + n)) 0 ((mixN ws1 bf2).map v32)).toArray
          replace hc2 : rs.drop n ≠ [] → ∃ g' o', a2 = some ⟨g', o', none⟩ ∧ g' ≠ s ∧ Cls (w5.setRow s (splice (sumV ws1 bf2 (T + n)) 0 ((mixN ws1 bf2).map v32)).toArray) g' o' ((rs.drop n).map v8) := fun hne => by
            obtain ⟨g', o', e1, e2, e3⟩ := hc2 hne
            exact ⟨g', o', e1, e2, (e3.keep hw5).row e2 _⟩
          have h1' := Rw.row h1 (splice (sumV ws1 bf2 (T + n)) 0 ((mixN ws1 bf2).map v32))
          refine wpAny_ready (rs := [12]) (by kernel_rfl) (by simp) ?_
          refine AllReady.cons rfl (fun K hK => ?_) AllReady.nil
          refine step_store s 0 _ _ h1 115 8 (by kernel_rfl) ((mixN ws1 bf2).map v32) (by rw [List.length_map, hlm]) (by rw [sumV_len hlw hbl]; omega) (one32 _) _ _ rfl rfl rfl rfl ?_
          refine hK _ _ ?_
          clear hK K
          refine wpAny_done (by kernel_rfl) ?_ _
          rw [sumV_words hlw hlm] at *
          generalize (sumV (mixN ws1 bf2) bf2 (T + n)).toArray = X3 at *
          generalize w5.setRow s X3 = w8 at *
          clear h1 hw5
          go_wp2_with fail
          go_roundw
          case rel => exact ⟨dn ++ rs.take n, rs.drop n, mixN ws1 bf2, bf2, a2, cap1 - n, X3, Hbs.out, by rw [Hdl.out], by rw [Hdl.out]; omega, hc2, by rw [Hl2.out]; exact h1', hst, ub2, h3⟩
          case measure => simp [slen]; omega
        · have hm20 : ((m2 : Int) == 0) = false := by rw [beq_eq_false_iff_ne]; omega
          have hmn : m + n < 64 := by have h5 := Hm2.out; have h6 := Hm.out; omega
          have hst := h2.less (c := rs.take n) (by rw [hm', hcl']; exact hmn)
          rw [hm', List.append_assoc] at hst
          generalize splice bf1 m (rs.take n) = bf2 at *
          go_wp2_with fail
          go_roundw
          case rel => exact ⟨dn ++ rs.take n, rs.drop n, ws1, bf2, a2, cap1 - n, X2, Hbs.out, by rw [Hdl.out], by rw [Hdl.out]; omega, hc2, by rw [Hl2.out]; exact h1, hst, ub2, h3⟩
          case measure => simp [slen]; omega
end Go.Proofs.YtknhkmlihbgjpaaDoor.Dg
/- What follows the bytes, so that the last block is whole; a new Sum. -/
namespace Go.Proofs.YtknhkmlihbgjpaaDoor.Dg
open Go.ChangeShapes Go.WideShapes Go.RowKit

/-- A Sum of nothing. -/
def zsum : List Value := sumV (List.replicate 8 0) (List.replicate 64 0) 0
theorem info_sum : (Tryd.prog.info? 150).map (fun i => (i.zero, i.size)) = some (some (.agg zsum.toArray), 73) := by kernel_rfl
theorem zero_sum (w : World) : (zeroValue 150).run Tryd.prog w = .ok (.agg zsum.toArray) w := (zero_of_info info_sum).1 w
theorem info_u8 : (Tryd.prog.info? 5).map (fun i => (i.zero, i.size, i.bytes)) = some (some (.int .u8 0), 1, 1) := by kernel_rfl
def zs (c : Nat) : List Nat := List.replicate c 0
theorem zs_len (c : Nat) : (zs c).length = c := by simp [zs]
theorem zs_u (c : Nat) : ∀ x ∈ zs c, U8 x := by intro x hx; rw [List.eq_of_mem_replicate hx]; exact (show 0 < 256 by omega)
set_option maxRecDepth 100000 in
theorem make_u8 (c : Nat) (hc : c ≤ 1000000) (l : Int) (hl : l = (c : Int)) (w : World) :
    (Instr.makeSlice 88 (.int .i64 l) (.int .i64 l)).run Tryd.prog w = .ok (.slice (some ⟨w.heap.size, 0, none⟩) c c) (w.alloc (.cells ((zs c).map v8).toArray 5)) := by
  subst hl
  have h := info_u8
  cases hq : Tryd.prog.info? 5 with
  | none => rw [hq] at h; cases h
  | some i =>
    rw [hq] at h
    simp only [Option.map_some, Option.some.injEq, Prod.mk.injEq] at h
    obtain ⟨hz, hs, hb⟩ := h
    have := run_make w 88 5 i (.int .u8 0) (by kernel_rfl) hq hz .i64 .i64 (c : Int) (c : Int) (by omega) (by omega) (by rw [hb]; omega) (by omega)
    rw [this, hs, Int.toNat_natCast, Nat.mul_one]
    congr 3
    apply Array.ext
    · simp [size_madeCells, zs_len]
    · intro j h1 h2
      simp [madeCells, Value.cells, v8, Nat.mod_one, zs]

set_option maxHeartbeats 800000 in
set_option maxRecDepth 100000 in
theorem new_any (w : World) :
    Calls Tryd.prog 80 #[] w fun e w' => e = .returned (.pointer (some ⟨w.heap.size, 0, none⟩)) ∧ w' = w.alloc (.cells zsum.toArray 150) := by
  have hz := zero_sum
  go_enter Tryd.func80, Tryd.ntmps80
  go_wp2
  go_ret
  exact ⟨rfl, rfl⟩

/-- The part of a slice from place n on. -/
theorem part_from {P : Program} (t e : TypeId) (g o len cap n q m : Nat) (l : Int) (ht : P.underlying t = some (.slice e)) (he : (P.info? e).map (·.size) = some 1) (hn : n < len) (hc : len ≤ cap) (hl : l = (n : Int)) (hq : o + n = q) (hm : len - n = m) (w : World) :
    (Instr.slice t (.slice (some ⟨g, o, none⟩) len cap) (some (.int .i64 l)) none none).run P w = .ok (.slice (some ⟨g, q, none⟩) m (cap - n)) w := by
  subst hl hq hm
  obtain ⟨a, h1, h2⟩ := rest_of (P := P) t e g o len cap n ht he (by omega) hc
  rw [h1, h2 hn]
/-- A word laid over four bytes. -/
def put4L (xs : List Nat) (o x : Nat) : List Nat := (((xs.set o (b0 x)).set (o + 1) (b1 x)).set (o + 2) (b2 x)).set (o + 3) (b3 x)
theorem put4L_len (xs : List Nat) (o x : Nat) : (put4L xs o x).length = xs.length := by simp [put4L]
theorem u8_set {xs : List Nat} (h : ∀ x ∈ xs, U8 x) {y : Nat} (hy : U8 y) (j : Nat) : ∀ x ∈ xs.set j y, U8 x := by
  intro x hx
  rcases List.mem_or_eq_of_mem_set hx with h1 | rfl
  · exact h x h1
  · exact hy
theorem put4L_u {xs : List Nat} (h : ∀ x ∈ xs, U8 x) (o : Nat) {x : Nat} (hx : U32 x) : ∀ y ∈ put4L xs o x, U8 y := by
  unfold U32 at hx
  exact u8_set (u8_set (u8_set (u8_set h (show b0 x < 256 by unfold b0; omega) _) (show b1 x < 256 by unfold b1; omega) _) (show b2 x < 256 by unfold b2; omega) _) (show b3 x < 256 by unfold b3; omega) _
theorem Rw.put4 {w : World} {g : Nat} {t : TypeId} {xs : List Nat} (h : Rw w g t (xs.map v8)) (o x : Nat) : Rw (put4 w g o x) g t ((put4L xs o x).map v8) := by
  unfold put4L
  rw [List.map_set, List.map_set, List.map_set, List.map_set]
  exact Rw.setCell (Rw.setCell (Rw.setCell (Rw.setCell h _ _) _ _) _ _) _ _
theorem below_put4 {N g : Nat} {a w : World} (h : Below N a w) (hg : N ≤ g) (o x : Nat) : Below N a (put4 w g o x) :=
  (((h.setCell (p := ⟨g, o, none⟩) hg _).setCell (p := ⟨g, o + 1, none⟩) hg _).setCell (p := ⟨g, o + 2, none⟩) hg _).setCell (p := ⟨g, o + 3, none⟩) hg _
theorem Rw.put4_other {w : World} {g k : Nat} {t : TypeId} {cs : List Value} (h : Rw w g t cs) (hk : g ≠ k) (o x : Nat) : Rw (Proofs.YtknhkmlihbgjpaaDoor.Dg.put4 w k o x) g t cs :=
  (((h.other hk _ _).other hk _ _).other hk _ _).other hk _ _
theorem putWord_row (g o len cap : Nat) (hl : 4 ≤ len) (x : Nat) (hx : U32 x) (xs : List Nat) (t : TypeId) (ho : o + 4 ≤ xs.length) (w : World) (h : Rw w g t (xs.map v8)) :
    Calls Tryd.prog 98 #[.slice (some ⟨g, o, none⟩) len cap, .int .u32 (x : Int)] w fun e w' => (∃ v, e = .returned v) ∧ w' = put4 w g o x :=
  putWord_any g o len cap hl x hx w _ _ _ _ (h.four o ho) (h.frozen _) (h.frozen _) (h.frozen _) (h.frozen _)

/-- How many bytes stand between the bytes and their number. -/
def tlN (T : Nat) : Nat := 64 - (T + 8) % 64
/-- What follows T bytes. -/
def padL (T : Nat) : List Nat := put4L (put4L ((zs (tlN T + 8)).set 0 128) (tlN T) (T * 8 / 4294967296)) (tlN T + 4) (T * 8 % 4294967296)
theorem padL_len (T : Nat) : (padL T).length = tlN T + 8 := by unfold padL; rw [put4L_len, put4L_len, List.length_set, zs_len]
theorem padL_u (T : Nat) (hT : T < 1152921504606846976) : ∀ x ∈ padL T, U8 x :=
  put4L_u (put4L_u (u8_set (zs_u _) (show 128 < 256 by omega) _) _ (show _ < _ by omega)) _ (U32.mod _)

set_option maxHeartbeats 800000 in
set_option maxRecDepth 100000 in
theorem padding_any (T : Nat) (hT : T < 1152921504606846976) (w : World) :
    Calls Tryd.prog 97 #[.int .i64 (T : Int)] w fun e w' => e = .returned (.slice (some ⟨w.heap.size, 0, none⟩) (padL T).length (padL T).length) ∧ Rw w' w.heap.size 5 ((padL T).map v8) ∧ Below w.heap.size w w' := by
  have Hlen := Lib.hid (padL_len T)
  have Hpad := Lib.hid (show padL T = put4L (put4L ((zs (tlN T + 8)).set 0 128) (tlN T) (T * 8 / 4294967296)) (tlN T + 4) (T * 8 % 4294967296) from rfl)
  obtain ⟨tl, htl⟩ : ∃ tl, tl = tlN T := ⟨_, rfl⟩
  rw [← htl] at Hlen Hpad
  unfold tlN at htl
  have htm : ((T : Int) + 8).tmod 64 = ((64 - tl : Nat) : Int) := by
    rw [show 64 - tl = (T + 8) % 64 by omega]; rfl
  have hx : (64 : Int) - ((64 - tl : Nat) : Int) = (tl : Int) := by omega
  have h1 : 0 < tl := by omega
  have h2 : tl ≤ 64 := by omega
  clear htl
  generalize 64 - tl = r at *
  go_enter Tryd.func97, Tryd.ntmps97
  have hmk := make_u8 (tl + 8) (by omega) ((tl : Int) + 8) (by omega)
  go_upto_region 3 with fail
  clear hmk
  have r0 := Rw.new w 5 ((zs (tl + 8)).map v8)
  have hB := (Below.refl _ w).alloc (Nat.le_refl _) (.cells ((zs (tl + 8)).map v8).toArray 5)
  generalize w.alloc (.cells ((zs (tl + 8)).map v8).toArray 5) = W at *
  have c0 := (r0.cell 0).trans (at8 (x := 0) (by simp [zs]))
  have f0 := r0.frozen 0
  go_upto_region 4 with fail
  clear c0 f0
  replace r0 := r0.setCell 0 (v8 128)
  rw [← List.map_set] at r0
  replace hB := hB.setCell (p := ⟨w.heap.size, 0, none⟩) (Nat.le_refl _) (v8 128)
  change Code.wp _ _ _ _ (W.setCell ⟨w.heap.size, 0, none⟩ (v8 128))
  generalize W.setCell ⟨w.heap.size, 0, none⟩ (v8 128) = W1 at *
  have hs1 := part_from (P := Tryd.prog) 88 5 w.heap.size 0 (tl + 8) (tl + 8) tl tl 8 (tl : Int) (by kernel_rfl) (by kernel_rfl) (by omega) (by omega) rfl (by omega) (by omega)
  have hs2 := part_from (P := Tryd.prog) 88 5 w.heap.size 0 (tl + 8) (tl + 8) (tl + 4) (tl + 4) 4 ((tl : Int) + 4) (by kernel_rfl) (by kernel_rfl) (by omega) (by omega) (by omega) (by omega) (by omega)
  have hlz : ((zs (tl + 8)).set 0 128).length = tl + 8 := by rw [List.length_set, zs_len]
  go_wp2_with fail
  rw [show (T : Int) * 8 / 4294967296 = ((T * 8 / 4294967296 : Nat) : Int) by omega]
  refine (putWord_row w.heap.size tl 8 8 (by omega) (T * 8 / 4294967296) (show _ < _ by omega) _ _ (by omega) _ r0).mono ?_
  rintro e w1 ⟨⟨v1, rfl⟩, rfl⟩
  replace r0 := Rw.put4 r0 tl (T * 8 / 4294967296)
  replace hB := below_put4 hB (Nat.le_refl _) tl (T * 8 / 4294967296)
  generalize put4 W1 w.heap.size tl (T * 8 / 4294967296) = W2 at *
  have hlz2 : (put4L ((zs (tl + 8)).set 0 128) tl (T * 8 / 4294967296)).length = tl + 8 := by rw [put4L_len, hlz]
  go_wp2_with fail
  rw [show (T : Int) * 8 % 4294967296 = ((T * 8 % 4294967296 : Nat) : Int) by omega]
  refine (putWord_row w.heap.size (tl + 4) 4 _ (by omega) (T * 8 % 4294967296) (U32.mod _) _ _ (by omega) _ r0).mono ?_
  rintro e w1 ⟨⟨v2, rfl⟩, rfl⟩
  replace r0 := Rw.put4 r0 (tl + 4) (T * 8 % 4294967296)
  replace hB := below_put4 hB (Nat.le_refl _) (tl + 4) (T * 8 % 4294967296)
  generalize put4 W2 w.heap.size (tl + 4) (T * 8 % 4294967296) = W3 at *
  go_wp2_with fail
  go_ret
  rw [Hlen.out, Hpad.out]
  exact ⟨rfl, r0, hB⟩
end Go.Proofs.YtknhkmlihbgjpaaDoor.Dg
/- Now: the digest of the bytes that were added; Of: the digest of bytes. -/
namespace Go.Proofs.YtknhkmlihbgjpaaDoor.Dg
open Go.ChangeShapes Go.WideShapes Go.RowKit

/-- The bytes of the first k words. -/
def dg (ws : List Nat) : Nat → List Nat
  | 0 => zs 32
  | k + 1 => put4L (dg ws k) (4 * k) (ws[k]?.getD 0)
theorem dg_len (ws : List Nat) (k : Nat) : (dg ws k).length = 32 := by
  induction k with
  | zero => rfl
  | succ k ih => rw [dg, put4L_len, ih]
/-- The digest of bytes. -/
def shaN (l : List Nat) : List Nat := dg (hsN (l ++ padL l.length) ((l ++ padL l.length).length / 64)) 8
theorem shaN_len (l : List Nat) : (shaN l).length = 32 := dg_len _ _
theorem Tabs.lt {w : World} (h : Tabs w) : 0 < w.heap.size ∧ 1 < w.heap.size :=
  ⟨World.block_lt_of_cell? w _ (h.1 0 _ rfl), World.block_lt_of_cell? w _ (h.2 0 _ rfl)⟩
/-- A pointer to a Sum to which the bytes l were added, or nil. -/
def PtrAt (w : World) (p : Option Addr) (l : List Nat) : Prop :=
  (p = none ∧ l = []) ∨ ∃ s ws bf, p = some ⟨s, 0, none⟩ ∧ SumAt w s ws bf l.length ∧ ws.length = 8 ∧ bf.length = 64 ∧ (l ≠ [] → St ws bf l) ∧ (∀ x ∈ bf, U8 x)
theorem zsum_is : zsum = sumV (List.replicate 8 0) (List.replicate 64 0) 0 := rfl
theorem rep_u8 (n : Nat) : ∀ x ∈ List.replicate n 0, U8 x := by intro x hx; rw [List.eq_of_mem_replicate hx]; exact (show 0 < 256 by omega)
theorem one_sum (ws bf : List Nat) (n : Nat) : ∀ v ∈ sumV ws bf n, v.oneCell' = true := by
  intro v hv
  unfold sumV at hv
  rcases List.mem_append.1 hv with h | h
  · exact one32 _ v h
  · rcases List.mem_append.1 h with h | h
    · exact one8 _ v h
    · rw [List.mem_singleton.1 h]; rfl
theorem splice_all {α : Type} (L cs : List α) (h : L.length = cs.length) : splice L 0 cs = cs := by
  unfold splice; rw [List.drop_eq_nil_of_le (by omega)]; simp

theorem PtrAt.keep {w w' : World} {p : Option Addr} {l : List Nat} (h : PtrAt w p l) (hb : Below w.heap.size w w') : PtrAt w' p l := by
  rcases h with h | ⟨s, ws, bf, h1, h2, h3⟩
  · exact .inl h
  · exact .inr ⟨s, ws, bf, h1, Rw.keep h2 hb, h3⟩
/-- A copy of the Sum lies in block s, the result's row in block g. -/
def EndAt (w : World) (g s : Nat) (l : List Nat) (Z : List Value) (wx : World) : Prop :=
  ∃ ws bf, SumAt wx s ws bf l.length ∧ ws.length = 8 ∧ bf.length = 64 ∧ (l ≠ [] → St ws bf l) ∧ (∀ x ∈ bf, U8 x) ∧ Rw wx g 90 Z ∧ Below w.heap.size w wx

set_option maxHeartbeats 1600000 in
set_option maxRecDepth 100000 in
theorem now_any (p : Option Addr) (l : List Nat) (w : World) (ht : Tabs w) (hp : PtrAt w p l) (hl : l.length < 576460752303423488) (ul : ∀ x ∈ l, U8 x) :
    Calls Tryd.prog 82 #[.pointer p] w fun e w' => e = .returned (.agg ((shaN l).map v8).toArray) ∧ Below w.heap.size w w' := by
  have hz := zero_sum
  go_enter Tryd.func82, Tryd.ntmps82
  go_upto_if 8 with fail
  have r0 := (Rw.new w 90 ((zs 32).map v8)).past (.cells zsum.toArray 150)
  have r1 := Rw.new (w.alloc (.cells ((zs 32).map v8).toArray 90)) 150 zsum
  have hB := ((Below.refl _ w).alloc (Nat.le_refl _) (.cells ((zs 32).map v8).toArray 90)).alloc (by simp) (.cells zsum.toArray 150)
  simp only [World.size_alloc] at r1
  change Code.wp _ _ _ _ ((w.alloc (.cells ((zs 32).map v8).toArray 90)).alloc (.cells zsum.toArray 150))
  generalize (w.alloc (.cells ((zs 32).map v8).toArray 90)).alloc (.cells zsum.toArray 150) = W at *
  generalize hZ : (zs 32).map v8 = Z at r0
  have HZ : Unit → (zs 32).map v8 = Z := fun _ => hZ
  clear hZ
  have htl := ht.lt
  have ht0 := ht
  replace ht := ht.keep hB
  replace hp := hp.keep hB
  go_cut [2] (fun s2 wx => s2 = .pointer (some ⟨w.heap.size, 0, none⟩) ∧ EndAt w w.heap.size (w.heap.size + 1) l Z wx)
  case first =>
    rcases hp with ⟨rfl, rfl⟩ | ⟨s, ws, bf, rfl, h1, h2, h3, h4, h5⟩
    · go_wp2_with fail
      go_meet
      exact ⟨rfl, List.replicate 8 0, List.replicate 64 0, r1, rfl, rfl, fun h => absurd rfl h, rep_u8 64, r0, hB⟩
    · have hc : Cls W s 0 (sumV ws bf l.length) := Rw.cls h1 0 _ (fun j v hv => by rw [Nat.zero_add]; exact hv)
      have hn : (sumV ws bf l.length).length = 73 := sumV_len h2 h3 _
      go_wp2_with (first
        | (refine load_at _ 0 _ hc 73 hn 150 _ Tryd.underlying150 rfl (by kernel_rfl) _ rfl rfl rfl ?_)
        | (refine store_at (w.heap.size + 1) 0 _ _ r1 150 73 (by kernel_rfl) (sumV ws bf l.length) hn (by rw [zsum_is, sumV_len rfl rfl]; omega) (one_sum _ _ _) _ _ rfl rfl rfl rfl ?_))
      go_meet
      refine ⟨rfl, ws, bf, ?_, h2, h3, h4, h5, r0.rowOther (by omega) _, below_setRow hB (by omega) _⟩
      rw [splice_all _ _ (by rw [hn, zsum_is, sumV_len rfl rfl])]
      exact Rw.row r1 _
  case rest =>
    obtain ⟨rfl, ws, bf, h1, h2, h3, h4, h5, h6, h7⟩ := hcut
    have c72 := (Rw.cell h1 72).trans (sumV_total h2 h3 _)
    have htc := ht0.keep h7
    clear hp r0 r1 hB ht ht0
    go_wp2_with fail
    clear c72
    refine (padding_any l.length (by omega) _).mono ?_
    rintro e w1 ⟨rfl, hr, hb1⟩
    have hpn : w.heap.size + 1 < wc.heap.size := h1.lt
    replace h1 : SumAt w1 (w.heap.size + 1) ws bf l.length := Rw.keep h1 hb1
    replace h6 := h6.keep hb1
    replace h7 := h7.trans (hb1.mono h7.size)
    replace htc := htc.keep hb1
    clear hb1
    have hpl : (padL l.length).length < 100 := by rw [padL_len]; unfold tlN; omega
    go_wp2_with fail
    refine (add_bytes (w.heap.size + 1) ws bf l (padL l.length) (some ⟨wc.heap.size, 0, none⟩) _ w1 htc (by omega) (by omega) h1 h2 h3 h4 h5 (padL_u _ (by omega)) (Nat.le_refl _) (by omega)
      (fun _ => ⟨_, 0, rfl, by omega, Rw.cls hr 0 _ (fun j v hv => by rw [Nat.zero_add]; exact hv)⟩)).mono ?_
    rintro e w2 ⟨rfl, ws', bf', cs, k1, k2, k3, k4⟩
    have hN1 : w.heap.size < w1.heap.size := h6.lt
    replace h6 := rw_below (h6.rowOther (by omega) cs) hN1 k4
    replace h7 := (below_setRow h7 (g := w.heap.size + 1) (by omega) cs).trans (k4.mono (by omega))
    have hw8 := k2.ulen
    have hwu := k2.u
    have Hsha : Unit → shaN l = dg ws' 8 := fun _ => by unfold shaN; rw [k2.words]
    have hc := (SumAt.words k1).keep ((Below.refl _ w2).alloc (Nat.le_refl _) (.cells ((zs 32).map v8).toArray 90))
    replace h6 := h6.past (.cells ((zs 32).map v8).toArray 90)
    replace h7 := h7.alloc h7.size (.cells ((zs 32).map v8).toArray 90)
    have h8 := Rw.new w2 90 ((zs 32).map v8)
    have hD : w.heap.size < w2.heap.size := by have := k4.size; rw [setRow_size] at this; omega
    clear k1 k2 k3 k4 h1 hr htc h4 h5
    go_upto_region 6 with fail
    change Code.wp _ _ _ _ (w2.alloc (.cells ((zs 32).map v8).toArray 90))
    generalize w2.alloc (.cells ((zs 32).map v8).toArray 90) = W2 at *
    generalize w2.heap.size = D at *
    have hl32 : (ws'.map v32).length = 8 := by rw [List.length_map, hw8]
    go_upto_region 7 with (refine load_at _ 0 _ hc 8 hl32 115 (.array 8 23) (by kernel_rfl) rfl (by kernel_rfl) _ rfl rfl rfl ?_)
    clear hc hz hpl hl ul hpn hN1 htl
    generalize (padL l.length).length = pn
    go_loopw [18] (fun i wr => ∃ k : Nat, k ≤ 8 ∧ i = .int .i64 (k : Int) ∧ Rw wr w.heap.size 90 Z ∧ Rw wr D 90 ((dg ws' k).map v8) ∧ Below w.heap.size w wr) (fun i _ => 8 - (intOf i).toNat)
    case atStart => exact ⟨0, by omega, rfl, h6, h8, h7⟩
    case round =>
      clear h6 h7 h8
      obtain ⟨k, hk, rfl, q0, q1, qB⟩ := hrel
      by_cases hlt : k < 8
      · obtain ⟨y, hy⟩ : ∃ y, ws'[k]? = some y := ⟨_, List.getElem?_eq_getElem (by omega)⟩
        have Uy := Lib.hid (hwu y (List.mem_of_getElem? hy))
        have Hnx : Unit → dg ws' (k + 1) = put4L (dg ws' k) (4 * k) y := fun _ => by rw [dg, hy]; rfl
        have hix := idx_arr (P := Tryd.prog) 115 23 8 .u32 (ws'.map v32) k (.int .u32 (y : Int)) (by kernel_rfl) (by kernel_rfl) (by kernel_rfl) hlt (at32 hy)
        have hcut := cut_from (P := Tryd.prog) 90 5 32 D (4 * k) (4 * (k : Int)) (by omega) (by omega) (by kernel_rfl) (by kernel_rfl)
        clear hy
        go_wp2_with fail
        clear hix hcut
        refine (putWord_row D (4 * k) _ _ (by omega) y Uy.out _ _ (by rw [dg_len]; omega) _ q1).mono ?_
        rintro e w3 ⟨⟨v, rfl⟩, rfl⟩
        replace q0 := Rw.put4_other q0 (k := D) (by omega) (4 * k) y
        replace q1 := Rw.put4 q1 (4 * k) y
        replace qB := below_put4 qB (g := D) (by omega) (4 * k) y
        rw [← Hnx ()] at q1
        generalize put4 wr D (4 * k) y = W3 at *
        go_wp2_with fail
        go_roundw
        case rel => exact ⟨k + 1, by omega, by go_num, q0, q1, qB⟩
        case measure => simp [intOf]; omega
      · obtain rfl : k = 8 := by omega
        have hzl : Z.length = 32 := by rw [← HZ ()]; rfl
        have hs : ((dg ws' 8).map v8).length = 32 := by rw [List.length_map, dg_len]
        have h1 := one8 (dg ws' 8)
        generalize hcs : (dg ws' 8).map v8 = cs2 at *
        have Hcs : Unit → (dg ws' 8).map v8 = cs2 := fun _ => hcs
        clear hcs hk hlt
        go_wp2_with (first
          | (refine load_arr _ _ _ q1 32 hs 90 5 (by kernel_rfl) (by kernel_rfl) _ rfl rfl rfl ?_)
          | (refine store_arr _ _ _ q0 32 hzl 90 (by kernel_rfl) cs2 hs h1 _ _ rfl rfl rfl rfl ?_))
        refine ret_arr w.heap.size 90 cs2 (q0.row cs2) 32 hs 5 (by kernel_rfl) (by kernel_rfl) (by rfl) rfl rfl ?_
        exact ⟨by rw [Hsha (), Hcs ()], below_setRow qB (Nat.le_refl _) _⟩
end Go.Proofs.YtknhkmlihbgjpaaDoor.Dg
/- The first of a digest. -/
namespace Go.Proofs.YtknhkmlihbgjpaaDoor.Dg
open Go.ChangeShapes Go.WideShapes Go.RowKit

/-- The slice v holds the bytes b. -/
def BytesAt (w : World) (v : Value) (b : List Nat) : Prop := ∃ a cap, v = .slice a b.length cap ∧ b.length ≤ cap ∧ (b ≠ [] → ∃ g o, a = some ⟨g, o, none⟩ ∧ Cls w g o (b.map v8))
theorem BytesAt.keep {w w' : World} {v : Value} {b : List Nat} (h : BytesAt w v b) (hb : Below w.heap.size w w') : BytesAt w' v b := by
  obtain ⟨a, cap, e, hc, hk⟩ := h
  refine ⟨a, cap, e, hc, fun hn => ?_⟩
  obtain ⟨g, o, e2, hcl⟩ := hk hn
  exact ⟨g, o, e2, hcl.keep hb⟩
theorem Cls.lt {w : World} {g o : Nat} {b : List Nat} (h : Cls w g o (b.map v8)) (hn : b ≠ []) : g < w.heap.size := by
  cases b with
  | nil => exact absurd rfl hn
  | cons x b => exact World.block_lt_of_cell? w _ (h 0 _ rfl)

set_option maxHeartbeats 800000 in
set_option maxRecDepth 100000 in
theorem of_any (v : Value) (b : List Nat) (w : World) (ht : Tabs w) (hv : BytesAt w v b) (ub : ∀ x ∈ b, U8 x) (hl : b.length < 576460752303423488) :
    Calls Tryd.prog 70 #[v] w fun e w' => e = .returned (.agg ((shaN b).map v8).toArray) ∧ Below w.heap.size w w' := by
  obtain ⟨a, cap, rfl, hc, hk⟩ := hv
  go_enter Tryd.func70, Tryd.ntmps70
  go_upto_region 1 with fail
  have r0 := Rw.new w 90 ((zs 32).map v8)
  have hB := (Below.refl _ w).alloc (Nat.le_refl _) (.cells ((zs 32).map v8).toArray 90)
  change Code.wp _ _ _ _ (w.alloc (.cells ((zs 32).map v8).toArray 90))
  generalize w.alloc (.cells ((zs 32).map v8).toArray 90) = W at *
  have hN := r0.lt
  go_wp2_with fail
  refine (new_any _).mono ?_
  rintro e w1 ⟨rfl, rfl⟩
  replace r0 := r0.past (.cells zsum.toArray 150)
  have r1 := Rw.new W 150 zsum
  replace hB := hB.alloc hB.size (.cells zsum.toArray 150)
  generalize W.alloc (.cells zsum.toArray 150) = W1 at *
  generalize W.heap.size = S at *
  have htl := ht.lt
  have ht1 := ht.keep hB
  go_wp2_with fail
  refine (add_bytes S (List.replicate 8 0) (List.replicate 64 0) [] b a cap W1 ht1 (by omega) (by omega) r1 rfl rfl (fun h => absurd rfl h) (rep_u8 64) ub hc (by simp; omega) (fun hn => ?_)).mono ?_
  · obtain ⟨g, o, e, hcl⟩ := hk hn
    exact ⟨g, o, e, by have := hcl.lt hn; omega, hcl.keep hB⟩
  rintro e w2 ⟨rfl, ws', bf', cs, k1, k2, k3, k4⟩
  have hN1 := r0.lt
  replace r0 := rw_below (r0.rowOther (by omega) cs) hN1 k4
  replace hB := (below_setRow hB (g := S) (by omega) cs).trans (k4.mono (by omega))
  have ht2 := ht.keep hB
  rw [List.nil_append] at k1 k2
  have hp : PtrAt w2 (some ⟨S, 0, none⟩) b := .inr ⟨S, ws', bf', rfl, k1, k2.ulen, k2.len, fun _ => k2, k3⟩
  clear k1 k2 k3 k4 r1 hk
  go_wp2_with fail
  refine (now_any _ b _ ht2 hp hl ub).mono ?_
  rintro e w3 ⟨rfl, hb3⟩
  replace r0 := r0.keep hb3
  replace hB := hB.trans (hb3.mono hB.size)
  have hs : ((shaN b).map v8).length = 32 := by rw [List.length_map, shaN_len]
  have hz : ((zs 32).map v8).length = 32 := by rw [List.length_map, zs_len]
  have h1 := one8 (shaN b)
  generalize hcs : (shaN b).map v8 = cs2 at *
  have Hcs : Unit → (shaN b).map v8 = cs2 := fun _ => hcs
  clear hcs ht2 hp hb3
  go_wp2_with (refine store_arr _ _ _ r0 32 hz 90 (by kernel_rfl) cs2 hs h1 _ _ rfl rfl rfl rfl ?_)
  refine ret_arr w.heap.size 90 cs2 (r0.row cs2) 32 hs 5 (by kernel_rfl) (by kernel_rfl) (by rfl) rfl rfl ?_
  exact ⟨by rw [Hcs ()], below_setRow hB (Nat.le_refl _) _⟩

theorem dg_u {ws : List Nat} (h : ∀ x ∈ ws, U32 x) (k : Nat) : ∀ x ∈ dg ws k, U8 x := by
  induction k with
  | zero => exact zs_u 32
  | succ k ih => exact put4L_u ih _ (u32_get h k)
theorem shaN_u (l : List Nat) : ∀ x ∈ shaN l, U8 x := dg_u (hsN_u _ _) 8
theorem Rw.bytes {w : World} {g : Nat} {t : TypeId} {xs : List Nat} (h : Rw w g t (xs.map v8)) (cap : Nat) (hc : xs.length ≤ cap) : BytesAt w (.slice (some ⟨g, 0, none⟩) xs.length cap) xs :=
  ⟨_, cap, rfl, hc, fun _ => ⟨g, 0, rfl, Rw.cls h 0 _ (fun j v hv => by rw [Nat.zero_add]; exact hv)⟩⟩

/-- The first eight bytes of a digest, as a number. -/
def n8 (s : List Nat) : Nat := wd (s[0]?.getD 0) (s[1]?.getD 0) (s[2]?.getD 0) (s[3]?.getD 0) * 4294967296 + wd (s[4]?.getD 0) (s[5]?.getD 0) (s[6]?.getD 0) (s[7]?.getD 0)
set_option maxHeartbeats 800000 in
set_option maxRecDepth 100000 in
theorem short_any (v : Value) (b : List Nat) (w : World) (ht : Tabs w) (hv : BytesAt w v b) (ub : ∀ x ∈ b, U8 x) (hl : b.length < 576460752303423488) :
    Calls Tryd.prog 47 #[v] w fun e w' => e = .returned (.int .u64 (n8 (shaN b) : Int)) ∧ Below w.heap.size w w' := by
  have hsl : (shaN b).length = 32 := shaN_len b
  have hsu := shaN_u b
  generalize hS : shaN b = S at *
  have HS : Unit → shaN b = S := fun _ => hS
  clear hS
  go_enter Tryd.func47, Tryd.ntmps47
  go_wp2_with fail
  refine (of_any _ b _ ht hv ub hl).mono ?_
  rintro e w1 ⟨rfl, hb1⟩
  rw [HS ()]
  have r0 := Rw.new w1 90 (S.map v8)
  have hB := hb1.alloc hb1.size (.cells (S.map v8).toArray 90)
  have hs : (S.map v8).length = 32 := by rw [List.length_map, hsl]
  have h1 := one8 S
  clear hb1 ht hv
  go_upto_region 2 with (refine store_arr w1.heap.size 90 ((zs 32).map v8) (Rw.new w1 90 ((zs 32).map v8)) 32 rfl 90 (by kernel_rfl) _ hs h1 _ _ rfl rfl rfl rfl ?_)
  rw [World.setRow_alloc_new]
  generalize w1.alloc (.cells (S.map v8).toArray 90) = W1 at *
  generalize w1.heap.size = D at *
  have hca := cut_all (P := Tryd.prog) 90 5 32 D (by kernel_rfl) (by kernel_rfl)
  have hcf := cut_from (P := Tryd.prog) 90 5 32 D 4 4 (by omega) (by omega) (by kernel_rfl) (by kernel_rfl)
  have F0 := r0.four 0 (by omega)
  have F4 := r0.four 4 (by omega)
  have K0 := Lib.hid (fun w' (h : Drew W1 w') => word_any D 0 32 32 (by omega) _ _ _ _ (u8_get hsu _) (u8_get hsu _) (u8_get hsu _) (u8_get hsu _) w' (F0.drew h))
  have K4 := Lib.hid (fun w' (h : Drew W1 w') => word_any D 4 28 28 (by omega) _ _ _ _ (u8_get hsu _) (u8_get hsu _) (u8_get hsu _) (u8_get hsu _) w' (F4.drew h))
  have hA := wd_u (u8_get hsu 0) (u8_get hsu (0 + 1)) (u8_get hsu (0 + 2)) (u8_get hsu (0 + 3))
  have hBu := wd_u (u8_get hsu 4) (u8_get hsu (4 + 1)) (u8_get hsu (4 + 2)) (u8_get hsu (4 + 3))
  have Hn : Unit → n8 S = wd (S[0]?.getD 0) (S[0 + 1]?.getD 0) (S[0 + 2]?.getD 0) (S[0 + 3]?.getD 0) * 4294967296 + wd (S[4]?.getD 0) (S[4 + 1]?.getD 0) (S[4 + 2]?.getD 0) (S[4 + 3]?.getD 0) := fun _ => rfl
  generalize wd (S[0]?.getD 0) (S[0 + 1]?.getD 0) (S[0 + 2]?.getD 0) (S[0 + 3]?.getD 0) = A at *
  generalize wd (S[4]?.getD 0) (S[4 + 1]?.getD 0) (S[4 + 2]?.getD 0) (S[4 + 3]?.getD 0) = B at *
  have a1 : IntKind.u64.wrap (A : Int) = (A : Int) := by unfold U32 at hA; simp [IntKind.wrap, IntKind.bits, IntKind.signed]; omega
  have b1 : IntKind.u64.wrap (B : Int) = (B : Int) := by unfold U32 at hBu; simp [IntKind.wrap, IntKind.bits, IntKind.signed]; omega
  have o1 : bits .or .u64 (IntKind.u64.wrap ((A : Int) * 4294967296)) (B : Int) = ((A * 4294967296 + B : Nat) : Int) := by
    unfold U32 at hA hBu
    rw [show IntKind.u64.wrap ((A : Int) * 4294967296) = ((A * 4294967296 : Nat) : Int) by simp [IntKind.wrap, IntKind.bits, IntKind.signed]; omega]
    rw [u64_or_nat _ _ (by omega) (by omega), nat_join 32 _ _ (by omega) (by omega)]
  clear F0 F4 hs h1 hA hBu
  simp only [Act.put]
  try simp only [List.append_eq, List.cons_append, List.nil_append]
  refine region_class (fun w' => Drew W1 w') (by kernel_rfl) (by kernel_rfl) (⟨_, rfl⟩) ?_
  repeat
    first
    | go_big_quiet_skip
    | (go_big_quiet_want
       refine quiet_val ?_
       apply Exists.intro
       refine ⟨fun w' hw' => ?_, ?_⟩
       · obtain hhh := hw'
         go_simp
         first | done | rfl | exact ⟨rfl, rfl⟩
       simp only [Act.put, List.setIfInBounds_toArray, List.set_cons_zero, List.set_cons_succ]
       go_big_quiet_on)
    | (go_big_quiet_want
       refine quiet_call ?_
       apply Exists.intro
       apply Exists.intro
       refine ⟨fun w' => ?_, ?_⟩
       · go_simp
         first | done | rfl | exact ⟨rfl, rfl⟩
       apply Exists.intro
       refine ⟨fun w' hw' => ?_, ?_⟩
       · first
         | (with_reducible refine (K0.out _ hw').mono ?_); (rintro e w2 ⟨rfl, hdd⟩; exact ⟨rfl, Drew.trans hw' hdd⟩)
         | (with_reducible refine (K4.out _ hw').mono ?_); (rintro e w2 ⟨rfl, hdd⟩; exact ⟨rfl, Drew.trans hw' hdd⟩)
       simp only [Act.put, List.setIfInBounds_toArray, List.set_cons_zero, List.set_cons_succ]
       go_big_quiet_on)
  refine wpQuiet_nil ?_
  intro w5 hw5
  go_wp2
  go_ret
  exact ⟨by rw [Hn ()]; rfl, hB.trans (hw5.below.mono hB.size)⟩
end Go.Proofs.YtknhkmlihbgjpaaDoor.Dg
