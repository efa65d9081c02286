/- The reader: a byte that is taken or not; a byte that stands for itself; whether a range is next. -/
import Derived.Test.YtakkcofmbafneaaPTake
import Derived.Test.YtakkcofmbafneaaPRead
namespace Go.Proofs.Ytakkcofmbafneaa
open Go.ChangeShapes Go.WideShapes Go.RowKit

/-- Behind c, if it is next. -/
def dropIf (c : UInt8) : Bs → Bs
  | [] => []
  | d :: l => if d = c then l else d :: l
def nextIs (c : UInt8) (l : Bs) : Bool := l.head? == some c
theorem sign_drop (l : Bs) : signN l = match dropIf 92 l with | [] => none | c :: r => some (c, r) := by
  cases l with
  | nil => rfl
  | cons c l =>
    unfold signN dropIf
    simp only
    split
    · cases l <;> rfl
    · rfl
theorem take_any (R : Nat) (c : UInt8) (l : Bs) (V : Value) (w : World) (h : Rq w R l V) (x : Int) (hx : x = (c.toNat : Int)) :
    Calls Try.prog 33 #[.pointer (some ⟨R, 0, none⟩), .int .u8 x] w fun e w' => e = .returned (.bool (nextIs c l)) ∧ Rq w' R (dropIf c l) V ∧ Asd (· = R) w w' := by
  by_cases hm : l.head? = some c
  · subst hx
    cases l with
    | nil => cases hm
    | cons d l =>
      obtain rfl : d = c := by simpa using hm
      have e1 : nextIs d (d :: l) = true := by simp [nextIs]
      have e2 : dropIf d (d :: l) = l := by simp [dropIf]
      rw [e1, e2]
      exact take_hit R d l V w h
  · have e1 : nextIs c l = false := by simp [nextIs, hm]
    have e2 : dropIf c l = l := by
      cases l with
      | nil => rfl
      | cons d l => simp [dropIf]; intro e; exact absurd (by rw [e]; rfl) hm
    rw [e1, e2]
    refine (take_miss R c l V w h hm x hx).mono ?_
    rintro e w' ⟨rfl, rfl⟩
    exact ⟨rfl, h, Asd.refl _ _⟩
/-- What sign returns. -/
def signV : Option (UInt8 × Bx) → Value
  | none => .tuple #[.int .u8 0, .bool false]
  | some (c, _) => .tuple #[.int .u8 (c.toNat : Int), .bool true]
def signL : Option (UInt8 × Bx) → Bs
  | none => []
  | some (_, r) => r
set_option maxHeartbeats 800000 in
theorem sign_any (R : Nat) (l : Bs) (V : Value) (w : World) (h : Rq w R l V) :
    Calls Try.prog 49 #[.pointer (some ⟨R, 0, none⟩)] w fun e w' => e = .returned (signV (signN l)) ∧ Rq w' R (signL (signN l)) V ∧ Asd (· = R) w w' := by
  rw [sign_drop]
  have ht := take_any R 92 l V w h 92 rfl
  generalize dropIf 92 l = m at *
  cases m with
  | nil =>
    have he := null_text
    go_enter Try.func49, Try.ntmps49
    go_wp2_with fail
    refine ht.mono ?_
    rintro e w1 ⟨rfl, h1, hA⟩
    have c0 := h1.rest
    generalize hX : (⟨([] : Bs).toArray⟩ : ByteArray) = X at *
    have HX := Lib.hid hX
    clear hX ht
    go_wp2_with fail
    refine bodyPost_ret (results_tmp2 rfl _ _ _) rfl ?_
    exact ⟨rfl, h1, hA⟩
  | cons c r =>
    go_enter Try.func49, Try.ntmps49
    go_wp2_with fail
    refine ht.mono ?_
    rintro e w1 ⟨rfl, h1, hA⟩
    have c0 := h1.rest
    have f0 := Rw.frozen h1 0
    have hi := at_text (c :: r) 0 c rfl 0 rfl
    have hc := cut_text (c :: r) 1 (by simp) 1 rfl
    have he := full_text c r
    rw [List.drop_one, List.tail_cons] at hc
    generalize hX : (⟨(c :: r).toArray⟩ : ByteArray) = X at *
    clear hX ht
    go_wp2_with fail
    refine bodyPost_ret (results_tmp2 rfl _ _ _) rfl ?_
    exact ⟨rfl, h1.set r, hA.set1 _ _⟩
/-- Whether a range is next. -/
def rangeB : Bs → Bool
  | x :: y :: _ => x == 45 && y != 93
  | _ => false
theorem u8_eq (a b : UInt8) : ((a.toNat : Int) == (b.toNat : Int)) = (a == b) := by
  by_cases h : a = b
  · subst h; simp
  · have : ¬ ((a.toNat : Int) = (b.toNat : Int)) := fun e => h (UInt8.toNat_inj.1 (by omega))
    rw [show (a == b) = false by simpa using h]
    simpa using this
set_option maxHeartbeats 800000 in
theorem range_any (R : Nat) (l : Bs) (V : Value) (w : World) (h : Rq w R l V) :
    Calls Try.prog 52 #[.pointer (some ⟨R, 0, none⟩)] w fun e w' => e = .returned (.bool (rangeB l)) ∧ w' = w := by
  have c0 := h.rest
  have hsz : (⟨l.toArray⟩ : ByteArray).size = l.length := by simp [ByteArray.size]
  match l with
  | [] =>
    generalize hX : (⟨([] : Bs).toArray⟩ : ByteArray) = X at *
    clear hX
    have hn : ¬ (2 ≤ (X.size : Int)) := by rw [hsz]; decide
    go_enter Try.func52, Try.ntmps52
    go_wp2_with fail
    go_ret
    exact ⟨rfl, rfl⟩
  | [x] =>
    generalize hX : (⟨([x] : Bs).toArray⟩ : ByteArray) = X at *
    clear hX
    have hn : ¬ (2 ≤ (X.size : Int)) := by rw [hsz]; simp
    go_enter Try.func52, Try.ntmps52
    go_wp2_with fail
    go_ret
    exact ⟨rfl, rfl⟩
  | x :: y :: r =>
    have h0 := at_text (x :: y :: r) 0 x rfl 0 rfl
    have h1 := at_text (x :: y :: r) 1 y rfl 1 rfl
    generalize hX : (⟨(x :: y :: r).toArray⟩ : ByteArray) = X at *
    clear hX
    have hn : 2 ≤ (X.size : Int) := by rw [hsz]; simp; omega
    have e1 : ((x.toNat : Int) == 45) = (x == 45) := u8_eq x 45
    have e2 : ((y.toNat : Int) == 93) = (y == 93) := u8_eq y 93
    have e3 : rangeB (x :: y :: r) = (x == 45 && y != 93) := rfl
    cases hx : x == 45
    all_goals
      rw [hx] at e1 e3
      cases hy : y == 93
      all_goals
        rw [hy] at e2
        have e4 : ((y.toNat : Int) != 93) = !(y == 93) := by rw [bne, e2, hy]
        rw [hy] at e4
        rw [bne, hy] at e3
        rw [e3]
        go_enter Try.func52, Try.ntmps52
        go_wp2_with fail
        go_ret
        exact ⟨rfl, rfl⟩
end Go.Proofs.Ytakkcofmbafneaa
