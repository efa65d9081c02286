/- A byte is taken, blanks are passed over. -/
import Derived.Test.YtbkkcojfgdjbhaaDoorJBase
namespace Go.Proofs.YtbkkcojfgdjbhaaDoor
open Go.ChangeShapes Go.WideShapes Go.RowKit

set_option maxHeartbeats 400000 in
theorem take_hit (R : Nat) (c : UInt8) (l : Bs) (n : Nat) (M : Value) (w : World) (h : Rq w R (c :: l) n M) :
    Calls Tryd.prog 66 #[.pointer (some ⟨R, 0, none⟩), .int .u8 (c.toNat : Int)] w fun e w' => e = .returned (.bool true) ∧ Rq w' R l n M ∧ Asd (· = R) w w' := by
  have c0 := h.rest
  have f0 := Rw.frozen h 0
  have hi := at_text (c :: l) 0 c rfl 0 rfl
  have hc := cut_text (c :: l) 1 (by simp) 1 rfl
  have he := full_text c l
  rw [List.drop_one, List.tail_cons] at hc
  generalize hX : (⟨(c :: l).toArray⟩ : ByteArray) = X at *
  clear hX
  go_enter Tryd.func66, Tryd.ntmps66
  go_wp2_with fail
  go_ret
  exact ⟨rfl, h.set l, Asd.one _ _ _ _⟩
set_option maxHeartbeats 400000 in
theorem take_miss (R : Nat) (c : UInt8) (l : Bs) (n : Nat) (M : Value) (w : World) (h : Rq w R l n M) (hm : l.head? ≠ some c) (x : Int) (hx : x = (c.toNat : Int)) :
    Calls Tryd.prog 66 #[.pointer (some ⟨R, 0, none⟩), .int .u8 x] w fun e w' => e = .returned (.bool false) ∧ w' = w := by
  subst hx
  have c0 := h.rest
  cases l with
  | nil =>
    have he := null_text
    generalize hX : (⟨([] : Bs).toArray⟩ : ByteArray) = X at *
    clear hX
    go_enter Tryd.func66, Tryd.ntmps66
    go_wp2_with fail
    go_ret
    exact ⟨rfl, rfl⟩
  | cons d l =>
    have hi := at_text (d :: l) 0 d rfl 0 rfl
    have he := full_text d l
    have hne : ((d.toNat : Int) == (c.toNat : Int)) = false := by
      rw [beq_eq_false_iff_ne]
      intro e
      apply hm
      rw [List.head?_cons]
      congr 1
      exact UInt8.toNat_inj.1 (by omega)
    clear hm
    generalize hX : (⟨(d :: l).toArray⟩ : ByteArray) = X at *
    clear hX
    go_enter Tryd.func66, Tryd.ntmps66
    go_wp2_with fail
    go_ret
    exact ⟨rfl, rfl⟩
end Go.Proofs.YtbkkcojfgdjbhaaDoor
