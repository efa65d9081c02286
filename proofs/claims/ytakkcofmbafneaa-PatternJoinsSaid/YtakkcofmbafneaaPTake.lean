/- The reader in memory; a byte is taken. -/
import Derived.Test.YtakkcofmbafneaaPBase
namespace Go.Proofs.Ytakkcofmbafneaa
open Go.ChangeShapes Go.WideShapes Go.RowKit
/-- The reader: what remains, and the slice of the steps. -/
def Rq (w : World) (R : Nat) (l : Bs) (V : Value) : Prop := Rw w R 55 [sv l, V]
theorem Rq.rest {w : World} {R : Nat} {l : Bs} {V : Value} (h : Rq w R l V) : w.cell? ⟨R, 0, none⟩ = some (.string ⟨l.toArray⟩) := Rw.cell h 0
theorem Rq.steps {w : World} {R : Nat} {l : Bs} {V : Value} (h : Rq w R l V) : w.cell? ⟨R, 1, none⟩ = some V := Rw.cell h 1
theorem Rq.set {w : World} {R : Nat} {l : Bs} {V : Value} (h : Rq w R l V) (l' : Bs) : Rq (w.setCell ⟨R, 0, none⟩ (.string ⟨l'.toArray⟩)) R l' V := Rw.setCell h 0 _
theorem Rq.put {w : World} {R : Nat} {l : Bs} {V : Value} (h : Rq w R l V) (V' : Value) : Rq (w.setCell ⟨R, 1, none⟩ V') R l V' := Rw.setCell h 1 _
theorem Rq.stay {w w' : World} {R : Nat} {l : Bs} {V : Value} (h : Rq w R l V) (k : Below w.heap.size w w') : Rq w' R l V := Rw.stay h k
set_option maxHeartbeats 400000 in
theorem take_hit (R : Nat) (c : UInt8) (l : Bs) (V : Value) (w : World) (h : Rq w R (c :: l) V) :
    Calls Try.prog 33 #[.pointer (some ⟨R, 0, none⟩), .int .u8 (c.toNat : Int)] w fun e w' => e = .returned (.bool true) ∧ Rq w' R l V ∧ Asd (· = R) w w' := by
  have c0 := h.rest
  have f0 := Rw.frozen h 0
  have hi := at_text (c :: l) 0 c rfl 0 rfl
  have hc := cut_text (c :: l) 1 (by simp) 1 rfl
  have he := full_text c l
  rw [List.drop_one, List.tail_cons] at hc
  generalize hX : (⟨(c :: l).toArray⟩ : ByteArray) = X at *
  clear hX
  go_enter Try.func33, Try.ntmps33
  go_wp2_with fail
  go_ret
  exact ⟨rfl, h.set l, Asd.one _ _ _ _⟩
set_option maxHeartbeats 400000 in
theorem take_miss (R : Nat) (c : UInt8) (l : Bs) (V : Value) (w : World) (h : Rq w R l V) (hm : l.head? ≠ some c) (x : Int) (hx : x = (c.toNat : Int)) :
    Calls Try.prog 33 #[.pointer (some ⟨R, 0, none⟩), .int .u8 x] w fun e w' => e = .returned (.bool false) ∧ w' = w := by
  subst hx
  have c0 := h.rest
  cases l with
  | nil =>
    have he := null_text
    generalize hX : (⟨([] : Bs).toArray⟩ : ByteArray) = X at *
    clear hX
    go_enter Try.func33, Try.ntmps33
    go_wp2_with fail
    go_ret
    exact ⟨rfl, rfl⟩
  | cons d l =>
    have hi := at_text (d :: l) 0 d rfl 0 rfl
    have he := full_text d l
    have hne : ((d.toNat : Int) == (c.toNat : Int)) = false := by
      rw [beq_eq_false_iff_ne]
      intro e
      apply hm
      rw [List.head?_cons]
      congr 1
      exact UInt8.toNat_inj.1 (by omega)
    clear hm
    generalize hX : (⟨(d :: l).toArray⟩ : ByteArray) = X at *
    clear hX
    go_enter Try.func33, Try.ntmps33
    go_wp2_with fail
    go_ret
    exact ⟨rfl, rfl⟩
end Go.Proofs.Ytakkcofmbafneaa
