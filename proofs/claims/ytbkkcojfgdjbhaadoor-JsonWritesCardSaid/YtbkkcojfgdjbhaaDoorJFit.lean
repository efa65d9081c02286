/- Which values may be: texts, keys, fields. -/
import Derived.Test.YtbkkcojfgdjbhaaDoorJRead
import Derived.Test.YtbkkcojfgdjbhaaDoorShelfB
import Derived.Shelf.Unicode.ValidAny
namespace Go.Proofs.YtbkkcojfgdjbhaaDoor
open Go.ChangeShapes Go.WideShapes Go.RowKit

def textOk (s : Bs) : Bool := decide (s.length ≤ 200) && Lib.validD s
set_option maxHeartbeats 800000 in
theorem fitsText_any (s : Bs) (w : World) (hE : Env w) (hl : s.length ≤ 9223372036854775807) :
    Calls Tryd.prog 42 #[.string ⟨s.toArray⟩] w fun e w' => e = .returned (.bool (textOk s)) ∧ Below w.heap.size w w' := by
  have hs : (⟨s.toArray⟩ : ByteArray).size = s.length := by simp [ByteArray.size]
  have K : Hid (Calls Tryd.prog 60 #[.string ⟨s.toArray⟩] w fun e w' => e = .returned (.bool (Lib.validD s)) ∧ Below w.heap.size w w') := Any.utf8_ValidString Tryd.lays196 ⟨s.toArray⟩ w (by omega) hE.utf
  have Ht : Unit → textOk s = (decide (s.length ≤ 200) && Lib.validD s) := fun _ => rfl
  generalize Lib.validD s = vd at *
  generalize (⟨s.toArray⟩ : ByteArray) = X at *
  by_cases h2 : s.length ≤ 200
  · have h2i : (s.length : Int) ≤ 200 := by omega
    go_enter Tryd.func42, Tryd.ntmps42
    go_wp2_with fail
    refine K.out.mono ?_
    rintro e w1 ⟨rfl, hb⟩
    clear K
    go_wp2_with fail
    go_ret
    exact ⟨by rw [Ht (), decide_eq_true h2]; rfl, hb⟩
  · have h2i : ¬ (s.length : Int) ≤ 200 := by omega
    go_enter Tryd.func42, Tryd.ntmps42
    go_wp2_with fail
    go_ret
    exact ⟨by rw [Ht (), decide_eq_false h2]; rfl, Below.refl _ _⟩
/-- Are the fields those that the kind names? -/
def formB (k n : Int) (s : Bs) (a b : Nat) : Bool :=
  decide (0 ≤ k ∧ k ≤ 6) && decide (k = 3 ∨ n = 0) && decide (k = 4 ∨ s = []) && (if k = 5 then decide (a = 0) else if k = 6 then decide (a = b) else decide (a = 0 ∧ b = 0))
set_option maxHeartbeats 1600000 in
set_option maxRecDepth 100000 in
theorem formed_any (k n : Int) (s : Bs) (ka da : Option Addr) (na kc nb dc : Nat) (w : World) :
    Calls Tryd.prog 41 #[.agg (cells5 k n s (.slice ka na kc) (.slice da nb dc)).toArray] w fun e w' => e = .returned (.bool (formB k n s na nb)) ∧ Below w.heap.size w w' := by
  have rV := Rw.new w 29 (cells5 k n s (.slice ka na kc) (.slice da nb dc))
  have hb : Below w.heap.size w (w.alloc (.cells (cells5 k n s (.slice ka na kc) (.slice da nb dc)).toArray 29)) := (Below.refl _ _).alloc (Nat.le_refl _) _
  go_enter Tryd.func41, Tryd.ntmps41
  go_upto_region 1 with fail
  have c0 := Rw.cell rV 0
  have c1 := Rw.cell rV 1
  have c2 := Rw.cell rV 2
  have c3 := Rw.cell rV 3
  have c4 := Rw.cell rV 4
  change _ = some (Value.int .i64 k) at c0
  change _ = some (Value.int .i64 n) at c1
  change _ = some (Value.string ⟨s.toArray⟩) at c2
  change _ = some (Value.slice ka na kc) at c3
  change _ = some (Value.slice da nb dc) at c4
  clear rV
  generalize w.alloc (.cells (cells5 k n s (.slice ka na kc) (.slice da nb dc)).toArray 29) = W1 at *
  generalize (cells5 k n s (.slice ka na kc) (.slice da nb dc)).toArray = ZA
  have hse : (⟨s.toArray⟩ : ByteArray).toList.isEmpty = decide (s = []) := by rw [text_list]; cases s <;> rfl
  generalize (⟨s.toArray⟩ : ByteArray) = X at *
  by_cases h0 : s = []
  · rw [decide_eq_true h0] at hse
    go_wp2_with fail
    all_goals
      go_ret
      refine ⟨congrArg (fun b => Ending.returned (Value.bool b)) (?_ : _ = formB k n _ na nb), hb⟩
      unfold formB
      rw [Bool.eq_iff_iff]
      simp [h0] at *
      try first
        | omega
        | (split <;> (try split) <;> omega)
        | (intros; split <;> (try split) <;> omega)
  · rw [decide_eq_false h0] at hse
    go_wp2_with fail
    all_goals
      go_ret
      refine ⟨congrArg (fun b => Ending.returned (Value.bool b)) (?_ : _ = formB k n _ na nb), hb⟩
      unfold formB
      rw [Bool.eq_iff_iff]
      simp [h0] at *
      try first
        | omega
        | (split <;> (try split) <;> omega)
        | (intros; split <;> (try split) <;> omega)
end Go.Proofs.YtbkkcojfgdjbhaaDoor
