/- Which of two texts comes first; the one of two ways that does. -/
import Derived.Test.YtakkcofmbafneaaPBase
import Derived.Test.YtakkcofmbafneaaPLst
namespace Go.Proofs.Ytakkcofmbafneaa
open Go.ChangeShapes Go.WideShapes Go.RowKit

theorem text_size (l : Bs) : (⟨l.toArray⟩ : ByteArray).size = l.length := by simp [ByteArray.size]
set_option maxHeartbeats 800000 in
theorem comes_any (a b : Bs) (w : World) : Calls Try.prog 41 #[.string ⟨a.toArray⟩, .string ⟨b.toArray⟩] w fun e w' => e = .returned (.bool (cf a b)) ∧ w' = w := by
  have h1 := text_size a
  have h2 := text_size b
  have h3 : Op.bytesLess (⟨a.toArray⟩ : ByteArray).toList (⟨b.toArray⟩ : ByteArray).toList = Op.bytesLess a b := by rw [text_list, text_list]
  unfold cf
  generalize (⟨a.toArray⟩ : ByteArray) = A at *
  generalize (⟨b.toArray⟩ : ByteArray) = B at *
  by_cases hl : a.length < b.length
  · have e1 : (A.size : Int) < (B.size : Int) := by omega
    rw [decide_eq_true hl, Bool.true_or]
    clear h3
    go_enter Try.func41, Try.ntmps41
    go_wp2_with fail
    go_ret
    exact ⟨rfl, rfl⟩
  · have e1 : ¬ ((A.size : Int) < (B.size : Int)) := by omega
    rw [decide_eq_false hl, Bool.false_or]
    by_cases he : a.length = b.length
    · have e2 : ((A.size : Int) == (B.size : Int)) = true := by simp; omega
      rw [decide_eq_true he, Bool.true_and]
      generalize Op.bytesLess a b = t at *
      go_enter Try.func41, Try.ntmps41
      go_wp2_with fail
      go_ret
      exact ⟨rfl, rfl⟩
    · have e2 : ((A.size : Int) == (B.size : Int)) = false := by simp; omega
      rw [decide_eq_false he, Bool.false_and]
      clear h3
      go_enter Try.func41, Try.ntmps41
      go_wp2_with fail
      go_ret
      exact ⟨rfl, rfl⟩
theorem three (w : World) (a b c : Obj) : Below w.heap.size w (((w.alloc a).alloc b).alloc c) := (((Below.refl _ w).alloc (Nat.le_refl _) _).alloc (by simp) _).alloc (by simp; omega) _
set_option maxHeartbeats 800000 in
theorem lesser_none (t : Bs) (o : Bool) (w : World) : Calls Try.prog 35 #[.agg #[.string ⟨#[]⟩, .bool false], .agg #[.string ⟨t.toArray⟩, .bool o]] w fun e w' => e = .returned (.agg #[.string ⟨t.toArray⟩, .bool o]) ∧ Below w.heap.size w w' := by
  generalize (⟨t.toArray⟩ : ByteArray) = T at *
  go_enter Try.func35, Try.ntmps35
  go_wp2_with fail
  exact bodyPost_ret (v := .agg #[.string T, .bool o]) (by simp [results, Try.results35, go_sem]) rfl ⟨rfl, three _ _ _ _⟩
set_option maxHeartbeats 800000 in
theorem lesser_left (x y : Bs) (w : World) : Calls Try.prog 35 #[.agg #[.string ⟨x.toArray⟩, .bool true], .agg #[.string ⟨y.toArray⟩, .bool false]] w fun e w' => e = .returned (.agg #[.string ⟨x.toArray⟩, .bool true]) ∧ Below w.heap.size w w' := by
  generalize (⟨x.toArray⟩ : ByteArray) = X at *
  generalize (⟨y.toArray⟩ : ByteArray) = Y at *
  go_enter Try.func35, Try.ntmps35
  go_wp2_with fail
  exact bodyPost_ret (v := .agg #[.string X, .bool true]) (by simp [results, Try.results35, go_sem]) rfl ⟨rfl, three _ _ _ _⟩
set_option maxHeartbeats 800000 in
theorem lesser_both (x y : Bs) (w : World) : Calls Try.prog 35 #[.agg #[.string ⟨x.toArray⟩, .bool true], .agg #[.string ⟨y.toArray⟩, .bool true]] w fun e w' => e = .returned (.agg #[.string ⟨(if cf y x then y else x).toArray⟩, .bool true]) ∧ Below w.heap.size w w' := by
  have K := Lib.hid (fun w => comes_any y x w)
  cases hc : cf y x
  all_goals
    simp only [hc] at K
    simp only [if_true, if_false, Bool.false_eq_true]
    clear hc
    generalize (⟨x.toArray⟩ : ByteArray) = X at *
    generalize (⟨y.toArray⟩ : ByteArray) = Y at *
    go_enter Try.func35, Try.ntmps35
    go_wp2_with fail
    refine (K.out _).mono ?_
    rintro e w1 ⟨rfl, rfl⟩
    clear K
    go_wp2_with fail
    first
    | exact bodyPost_ret (v := .agg #[.string X, .bool true]) (by simp [results, Try.results35, go_sem]) rfl ⟨rfl, three _ _ _ _⟩
    | exact bodyPost_ret (v := .agg #[.string Y, .bool true]) (by simp [results, Try.results35, go_sem]) rfl ⟨rfl, three _ _ _ _⟩
/-- A way: its text, or none. -/
def wayV : Option Bx → Value
  | none => .agg #[.string ⟨([] : Bs).toArray⟩, .bool false]
  | some t => .agg #[.string ⟨t.toArray⟩, .bool true]
theorem lesser_any (a b : Option Bx) (w : World) : Calls Try.prog 35 #[wayV a, wayV b] w fun e w' => e = .returned (wayV (lesr a b)) ∧ Below w.heap.size w w' := by
  cases a with
  | none => cases b with
    | none => exact lesser_none [] false w
    | some y => exact lesser_none y true w
  | some x => cases b with
    | none => exact lesser_left x [] w
    | some y =>
      refine (lesser_both x y w).mono ?_
      rintro e w' ⟨rfl, hb⟩
      refine ⟨?_, hb⟩
      rw [lesr]
      cases cf y x <;> rfl
end Go.Proofs.Ytakkcofmbafneaa
