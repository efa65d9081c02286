/- The reader: an element of a class. -/
import Derived.Test.YtakkcofmbafneaaPSign
import Derived.OwnWalk
namespace Go.Proofs.Ytakkcofmbafneaa
open Go.ChangeShapes Go.WideShapes Go.RowKit

theorem elem_short {l r : Bs} {f : UInt8} (h : signN l = some (f, r)) (hr : rangeB r = false) : elemN l = some ((f, f), r) := by
  unfold elemN
  rw [h]
  simp only
  match r, hr with
  | [], _ => rfl
  | [x], _ => rfl
  | x :: y :: r', hr =>
    have : ¬ (x = 45 ∧ y ≠ 93) := fun ⟨e1, e2⟩ => by
      subst e1
      simp [rangeB, e2] at hr
    simp only [if_neg this]
theorem elem_long {l r : Bs} {f : UInt8} (h : signN l = some (f, r)) (hr : rangeB r = true) :
    elemN l = match signN (dropIf 45 r) with | none => none | some (b, r2) => if f ≤ b then some ((f, b), r2) else none := by
  unfold elemN
  rw [h]
  simp only
  match r, hr with
  | x :: y :: r', hr =>
    simp [rangeB] at hr
    obtain ⟨rfl, hy⟩ := hr
    simp only [hy, ne_eq, not_false_eq_true, and_self, if_true, dropIf]
    cases signN (y :: r') <;> rfl
/-- What element leaves behind. -/
def ElemP (R : Nat) (V : Value) (o : Option ((UInt8 × UInt8) × Bx)) (e : Ending) (w' : World) : Prop :=
  match o with
  | some ((a, b), r) => e = .returned (.tuple #[.int .u8 (a.toNat : Int), .int .u8 (b.toNat : Int), .bool true]) ∧ Rq w' R r V
  | none => (∃ x y, e = .returned (.tuple #[x, y, .bool false])) ∧ ∃ l', Rq w' R l' V
set_option maxHeartbeats 1600000 in
theorem element_any (R : Nat) (l : Bs) (V : Value) (w : World) (h : Rq w R l V) :
    Calls Try.prog 51 #[.pointer (some ⟨R, 0, none⟩)] w fun e w' => ElemP R V (elemN l) e w' ∧ Asd (· = R) w w' := by
  have K1 := Lib.hid (sign_any R l V w h)
  cases hs : signN l with
  | none =>
    have he : elemN l = none := by unfold elemN; rw [hs]
    rw [he]
    rw [hs] at K1
    clear hs he
    go_enter Try.func51, Try.ntmps51
    go_wp2_with fail
    refine K1.out.mono ?_
    rintro e w1 ⟨rfl, h1, hA⟩
    clear K1
    simp only [signV]
    go_wp2_with fail
    go_ret3
    exact ⟨⟨⟨_, _, rfl⟩, _, h1⟩, hA⟩
  | some z =>
    obtain ⟨f, r⟩ := z
    rw [hs] at K1
    cases hr : rangeB r with
    | false =>
      rw [elem_short hs hr]
      clear hs
      go_enter Try.func51, Try.ntmps51
      go_wp2_with fail
      refine K1.out.mono ?_
      rintro e w1 ⟨rfl, h1, hA⟩
      clear K1
      have K2 := range_any R r V w1 h1
      rw [hr] at K2
      replace K2 := Lib.hid K2
      simp only [signV]
      go_wp2_with fail
      refine K2.out.mono ?_
      rintro e w2 ⟨rfl, rfl⟩
      clear K2
      go_wp2_with fail
      go_ret3
      exact ⟨⟨rfl, h1⟩, hA⟩
    | true =>
      rw [elem_long hs hr]
      clear hs
      generalize hd : dropIf 45 r = m
      have Hd := Lib.hid hd
      clear hd
      cases hs2 : signN m with
      | none =>
        go_enter Try.func51, Try.ntmps51
        go_wp2_with fail
        refine K1.out.mono ?_
        rintro e w1 ⟨rfl, h1, hA⟩
        clear K1
        have K2 := range_any R r V w1 h1
        rw [hr] at K2
        replace K2 := Lib.hid K2
        simp only [signV]
        go_wp2_with fail
        refine K2.out.mono ?_
        rintro e w2 ⟨rfl, rfl⟩
        clear K2
        have K3 := Lib.hid (take_any R 45 r V w2 h1 45 rfl)
        go_wp2_with fail
        refine K3.out.mono ?_
        rintro e w3 ⟨rfl, h3, hA3⟩
        clear K3
        rw [Hd.out] at h3
        have K4 := sign_any R m V w3 h3
        rw [hs2] at K4
        replace K4 := Lib.hid K4
        clear hs2
        go_wp2_with fail
        refine K4.out.mono ?_
        rintro e w4 ⟨rfl, h4, hA4⟩
        clear K4
        simp only [signV]
        go_wp2_with fail
        go_ret3
        exact ⟨⟨⟨_, _, rfl⟩, _, h4⟩, (hA.andThen hA3).andThen hA4⟩
      | some z =>
        obtain ⟨b, r2⟩ := z
        simp only
        have hle : ((f.toNat : Int) ≤ (b.toNat : Int)) ↔ f ≤ b := by rw [UInt8.le_iff_toNat_le]; omega
        by_cases hfb : f ≤ b
        all_goals
          first | rw [if_pos hfb] | rw [if_neg hfb]
          have hlt := hfb
          rw [← hle] at hlt
          clear hle hfb
          go_enter Try.func51, Try.ntmps51
          go_wp2_with fail
          refine K1.out.mono ?_
          rintro e w1 ⟨rfl, h1, hA⟩
          clear K1
          have K2 := range_any R r V w1 h1
          rw [hr] at K2
          replace K2 := Lib.hid K2
          simp only [signV]
          go_wp2_with fail
          refine K2.out.mono ?_
          rintro e w2 ⟨rfl, rfl⟩
          clear K2
          have K3 := Lib.hid (take_any R 45 r V w2 h1 45 rfl)
          go_wp2_with fail
          refine K3.out.mono ?_
          rintro e w3 ⟨rfl, h3, hA3⟩
          clear K3
          rw [Hd.out] at h3
          have K4 := sign_any R m V w3 h3
          rw [hs2] at K4
          replace K4 := Lib.hid K4
          go_wp2_with fail
          refine K4.out.mono ?_
          rintro e w4 ⟨rfl, h4, hA4⟩
          clear K4
          simp only [signV]
          go_wp2_with fail
          go_ret3
          first
          | exact ⟨⟨rfl, h4⟩, (hA.andThen hA3).andThen hA4⟩
          | (have hdd : decide (f.toNat ≤ b.toNat) = false := decide_eq_false (by omega)
             rw [hdd]
             exact ⟨⟨⟨_, _, rfl⟩, _, h4⟩, (hA.andThen hA3).andThen hA4⟩)
end Go.Proofs.Ytakkcofmbafneaa
