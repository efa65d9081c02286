/- Which of two long numbers is above: the document's own way. -/
import Derived.Test.YtlhgpnkhfahlbaaDoorWPlain
import Derived.Test.YtlhgpnkhfahlbaaDoorPad
namespace Go.Proofs.YtlhgpnkhfahlbaaDoor
open Go.ChangeShapes Go.WideShapes Go.RowKit

def v64 (x : Nat) : Value := .int .u64 (x : Int)
theorem at64 {xs : List Nat} {j x : Nat} (h : xs[j]? = some x) : (xs.map v64)[j]? = some (.int .u64 (x : Int)) := by simp [h, v64]
theorem one64 (xs : List Nat) : ∀ v ∈ xs.map v64, v.oneCell' = true := by intro v hv; obtain ⟨x, _, rfl⟩ := List.mem_map.1 hv; rfl

set_option maxHeartbeats 1600000 in
theorem above_any (g k ca cb : Nat) (xs ys : List Nat) (hx : xs.length ≤ 1000) (hy : ys.length ≤ 1000) (w : World) (h1 : Cls w g 0 (xs.map v64)) (h2 : Cls w k 0 (ys.map v64)) :
    Calls Tryd.prog 32 #[.slice (some ⟨g, 0, none⟩) xs.length ca, .slice (some ⟨k, 0, none⟩) ys.length cb] w fun e w' => e = .returned (.bool (aboveN xs ys)) ∧ w' = w := by
  have HF : Unit → abF xs ys (max xs.length ys.length) = aboveN xs ys := fun _ => rfl
  obtain ⟨m, hm⟩ : ∃ m, m = max xs.length ys.length := ⟨_, rfl⟩
  have hmi : max (xs.length : Int) (ys.length : Int) = (m : Int) := by omega
  rw [← hm] at HF
  go_enter Tryd.func32, Tryd.ntmps32
  go_upto_region 2 with fail
  all_goals
    go_loopw [5] (fun i wr => ∃ t : Nat, t ≤ m ∧ i = .int .i64 ((t : Int) - 1) ∧ abF xs ys t = aboveN xs ys ∧ wr = w) (fun i _ => (intOf i + 1).toNat)
    case atStart => exact ⟨m, Nat.le_refl _, by congr 1; omega, HF (), rfl⟩
    case round =>
      obtain ⟨t, ht, rfl, hF, rfl⟩ := hrel
      have HF' : Unit → abF xs ys t = aboveN xs ys := fun _ => hF
      clear hF HF
      cases t with
      | zero =>
        have hn : ¬ (0 : Int) ≤ ((0 : Nat) : Int) - 1 := by omega
        go_wp2_with fail
        go_ret
        refine ⟨?_, rfl⟩
        rw [← HF' (), abF]
        rfl
      | succ j =>
        have hj : ((j + 1 : Nat) : Int) - 1 = (j : Int) := by omega
        rw [hj]
        rw [abF] at HF'
        by_cases ha : j < xs.length
        · have hai : (j : Int) < (xs.length : Int) := by omega
          obtain ⟨x, hxj⟩ : ∃ x, xs[j]? = some x := ⟨_, List.getElem?_eq_getElem ha⟩
          have cx := h1 j _ (at64 hxj)
          rw [Nat.zero_add] at cx
          rw [hxj, Option.getD_some] at HF'
          by_cases hb : j < ys.length
          · have hbi : (j : Int) < (ys.length : Int) := by omega
            obtain ⟨y, hyj⟩ : ∃ y, ys[j]? = some y := ⟨_, List.getElem?_eq_getElem hb⟩
            have cy := h2 j _ (at64 hyj)
            rw [Nat.zero_add] at cy
            rw [hyj, Option.getD_some] at HF'
            clear hxj hyj ha hb hmi hm
            by_cases e : x = y
            · subst e
              rw [if_pos rfl] at HF'
              go_wp2_with fail
              go_roundw
              case rel => exact ⟨j, by omega, rfl, HF' (), trivial⟩
              case measure => simp [intOf]
            · rw [if_neg e] at HF'
              have en : ((x : Int) == (y : Int)) = false := by rw [beq_eq_false_iff_ne]; omega
              go_wp2_with fail
              all_goals
                go_ret
                refine ⟨?_, rfl⟩
                rw [← HF' ()]
                simp
                try omega
          · have hbi : ¬ (j : Int) < (ys.length : Int) := by omega
            rw [List.getElem?_eq_none (by omega), Option.getD_none] at HF'
            clear hxj ha hb hmi hm
            by_cases e : x = 0
            · subst e
              rw [if_pos rfl] at HF'
              go_wp2_with fail
              go_roundw
              case rel => exact ⟨j, by omega, rfl, HF' (), trivial⟩
              case measure => simp [intOf]
            · rw [if_neg e] at HF'
              have en : ((x : Int) == 0) = false := by rw [beq_eq_false_iff_ne]; omega
              go_wp2_with fail
              all_goals
                go_ret
                refine ⟨?_, rfl⟩
                rw [← HF' ()]
                simp
                try omega
        · have hai : ¬ (j : Int) < (xs.length : Int) := by omega
          have hb : j < ys.length := by omega
          rw [List.getElem?_eq_none (show xs.length ≤ j by omega), Option.getD_none] at HF'
          have hbi : (j : Int) < (ys.length : Int) := by omega
          obtain ⟨y, hyj⟩ : ∃ y, ys[j]? = some y := ⟨_, List.getElem?_eq_getElem hb⟩
          have cy := h2 j _ (at64 hyj)
          rw [Nat.zero_add] at cy
          rw [hyj, Option.getD_some] at HF'
          clear hyj ha hb hmi hm
          by_cases e : 0 = y
          · subst e
            rw [if_pos rfl] at HF'
            go_wp2_with fail
            go_roundw
            case rel => exact ⟨j, by omega, rfl, HF' (), trivial⟩
            case measure => simp [intOf]
          · rw [if_neg e] at HF'
            have en : ((0 : Int) == (y : Int)) = false := by rw [beq_eq_false_iff_ne]; omega
            go_wp2_with fail
            all_goals
              go_ret
              refine ⟨?_, rfl⟩
              rw [← HF' ()]
              simp
end Go.Proofs.YtlhgpnkhfahlbaaDoor
