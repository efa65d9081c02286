/- A word of four bytes: how it is read and written. -/
import Derived.Test.YtknhkmlihbgjpaaDoorDBits
namespace Go.Proofs.YtknhkmlihbgjpaaDoor.Dg
open Go.ChangeShapes Go.WideShapes Go.RowKit

/-- A byte. -/
def U8 (x : Nat) : Prop := x < 256
def wd (a b c d : Nat) : Nat := a * 16777216 + b * 65536 + c * 256 + d
theorem wd_u {a b c d : Nat} (ha : U8 a) (hb : U8 b) (hc : U8 c) (hd : U8 d) : U32 (wd a b c d) := by unfold U8 at *; unfold U32 wd; omega
theorem or_join {i x y : Nat} {p : Int} (hp : p = ((x + y : Nat) : Int)) (hx : x % 2 ^ i = 0) (hy : y < 2 ^ i) (ux : U32 x) (uy : U32 y) : bits .or .u32 (x : Int) (y : Int) = p := by
  rw [b_or ux uy, nat_join i x y hx hy, hp]

/-- Four bytes lie from place o of block g on. -/
def Four (w : World) (g o a b c d : Nat) : Prop := w.cell? ⟨g, o, none⟩ = some (.int .u8 (a : Int)) ∧ w.cell? ⟨g, o + 1, none⟩ = some (.int .u8 (b : Int)) ∧ w.cell? ⟨g, o + 2, none⟩ = some (.int .u8 (c : Int)) ∧ w.cell? ⟨g, o + 3, none⟩ = some (.int .u8 (d : Int))
theorem Drew.cell {w w' : World} (h : Drew w w') (a : Addr) : w'.cell? a = w.cell? a := by obtain ⟨d, rfl⟩ := h; rfl
theorem Drew.frozen {w w' : World} (h : Drew w w') (a : Addr) : w'.frozen? a = w.frozen? a := by obtain ⟨d, rfl⟩ := h; rfl
theorem Four.drew {w w' : World} {g o a b c d : Nat} (h : Four w g o a b c d) (k : Drew w w') : Four w' g o a b c d := by
  unfold Four at *; rw [k.cell, k.cell, k.cell, k.cell]; exact h
theorem wd_bits {a b c d : Nat} (ha : U8 a) (hb : U8 b) (hc : U8 c) (hd : U8 d) : bits .or .u32 (bits .or .u32 (bits .or .u32 (IntKind.u32.wrap ((a : Int) * 16777216)) (IntKind.u32.wrap ((b : Int) * 65536))) (IntKind.u32.wrap ((c : Int) * 256))) (d : Int) = (wd a b c d : Int) := by
  unfold U8 at *
  rw [IntKind.wrap_u32', IntKind.wrap_u32', IntKind.wrap_u32']
  rw [show (a : Int) * 16777216 % 4294967296 = ((a * 16777216 : Nat) : Int) by omega, show (b : Int) * 65536 % 4294967296 = ((b * 65536 : Nat) : Int) by omega, show (c : Int) * 256 % 4294967296 = ((c * 256 : Nat) : Int) by omega]
  rw [or_join (i := 24) rfl (by omega) (by omega) (show _ < _ by omega) (show _ < _ by omega)]
  rw [or_join (i := 16) rfl (by omega) (by omega) (show _ < _ by omega) (show _ < _ by omega)]
  rw [or_join (i := 8) rfl (by omega) (by omega) (show _ < _ by omega) (show _ < _ by omega)]
  rfl
set_option maxHeartbeats 800000 in
theorem word_any (g o len cap : Nat) (hl : 4 ≤ len) (a b c d : Nat) (ha : U8 a) (hb : U8 b) (hc : U8 c) (hd : U8 d) (w : World) (h4 : Four w g o a b c d) :
    Calls Tryd.prog 71 #[.slice (some ⟨g, o, none⟩) len cap] w fun e w' => e = .returned (.int .u32 (wd a b c d : Int)) ∧ Drew w w' := by
  have l0 : 0 < len := by omega
  have l1 : (1 : Int) < (len : Int) := by omega
  have l2 : (2 : Int) < (len : Int) := by omega
  have l3 : (3 : Int) < (len : Int) := by omega
  have a1 : IntKind.u32.wrap (a : Int) = (a : Int) := by rw [IntKind.wrap_u32']; unfold U8 at ha; omega
  have b1 : IntKind.u32.wrap (b : Int) = (b : Int) := by rw [IntKind.wrap_u32']; unfold U8 at hb; omega
  have c1 : IntKind.u32.wrap (c : Int) = (c : Int) := by rw [IntKind.wrap_u32']; unfold U8 at hc; omega
  have d1 : IntKind.u32.wrap (d : Int) = (d : Int) := by rw [IntKind.wrap_u32']; unfold U8 at hd; omega
  go_enter Tryd.func71, Tryd.ntmps71
  go_wp2_with fail
  try simp only [List.append_eq, List.cons_append, List.nil_append]
  refine region_class (fun w' => Drew w w' ∧ Four w' g o a b c d) (by kernel_rfl) (by kernel_rfl) (⟨⟨_, rfl⟩, h4⟩) ?_
  repeat
    first
    | go_big_quiet_skip
    | (go_big_quiet_want
       refine quiet_val ?_
       apply Exists.intro
       refine ⟨fun w' hw' => ?_, ?_⟩
       · obtain ⟨_, k0, k1, k2, k3⟩ := hw'
         go_simp
         first | done | rfl | exact ⟨rfl, rfl⟩
       simp only [Act.put, List.setIfInBounds_toArray, List.set_cons_zero, List.set_cons_succ]
       go_big_quiet_on)
    | (go_big_quiet_want
       refine quiet_call ?_
       apply Exists.intro
       apply Exists.intro
       refine ⟨fun w' => ?_, ?_⟩
       · go_simp
         first | done | rfl | exact ⟨rfl, rfl⟩
       apply Exists.intro
       refine ⟨fun w' hw' => ?_, ?_⟩
       · first
         | fail
       simp only [Act.put, List.setIfInBounds_toArray, List.set_cons_zero, List.set_cons_succ]
       go_big_quiet_on)
  refine wpQuiet_nil ?_
  intro w5 hw5
  go_wp2
  go_ret
  exact ⟨ret_u32 (wd_bits ha hb hc hd), hw5.1⟩

/-- The four bytes of a word. -/
def b0 (x : Nat) : Nat := x / 16777216
def b1 (x : Nat) : Nat := x / 65536 % 256
def b2 (x : Nat) : Nat := x / 256 % 256
def b3 (x : Nat) : Nat := x % 256
def put4 (w : World) (g o x : Nat) : World :=
  (((w.setCell ⟨g, o, none⟩ (.int .u8 (b0 x : Int))).setCell ⟨g, o + 1, none⟩ (.int .u8 (b1 x : Int))).setCell ⟨g, o + 2, none⟩ (.int .u8 (b2 x : Int))).setCell ⟨g, o + 3, none⟩ (.int .u8 (b3 x : Int))
set_option maxHeartbeats 800000 in
theorem putWord_any (g o len cap : Nat) (hl : 4 ≤ len) (x : Nat) (hx : U32 x) (w : World) (a b c d : Nat) (h4 : Four w g o a b c d)
    (f0 : w.frozen? ⟨g, o, none⟩ = false) (f1 : w.frozen? ⟨g, o + 1, none⟩ = false) (f2 : w.frozen? ⟨g, o + 2, none⟩ = false) (f3 : w.frozen? ⟨g, o + 3, none⟩ = false) :
    Calls Tryd.prog 98 #[.slice (some ⟨g, o, none⟩) len cap, .int .u32 (x : Int)] w fun e w' => (∃ v, e = .returned v) ∧ w' = put4 w g o x := by
  have l0 : 0 < len := by omega
  have l1 : (1 : Int) < (len : Int) := by omega
  have l2 : (2 : Int) < (len : Int) := by omega
  have l3 : (3 : Int) < (len : Int) := by omega
  obtain ⟨k0, k1, k2, k3⟩ := h4
  go_enter Tryd.func98, Tryd.ntmps98
  go_wp2
  go_end0
  refine ⟨⟨_, rfl⟩, ?_⟩
  have e0 : (x : Int) / 16777216 % 256 = (b0 x : Int) := by unfold U32 at hx; unfold b0; omega
  have e1 : (x : Int) / 65536 % 256 = (b1 x : Int) := by unfold b1; omega
  have e2 : (x : Int) / 256 % 256 = (b2 x : Int) := by unfold b2; omega
  have e3 : (x : Int) % 256 = (b3 x : Int) := by unfold b3; omega
  rw [e0, e1, e2, e3]
  rfl
end Go.Proofs.YtknhkmlihbgjpaaDoor.Dg
