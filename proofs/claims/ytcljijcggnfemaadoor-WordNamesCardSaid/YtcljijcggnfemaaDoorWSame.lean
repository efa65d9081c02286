/- The document's Same: the walk. -/
import Derived.Test.YtcljijcggnfemaaDoorWJoin
import Derived.Test.YtcljijcggnfemaaDoorClass
namespace Go.Proofs.YtcljijcggnfemaaDoor
open Go.ChangeShapes Go.WideShapes Go.RowKit

theorem StrsAt.shape {P : Nat → Prop} {w : World} {v : Value} {ss : List Bs} (h : StrsAt P w v ss) : ∃ a c, v = .slice a ss.length c := by
  rcases h with ⟨rfl, a, c, rfl⟩ | ⟨g, o, c, rfl, _⟩
  · exact ⟨a, c, rfl⟩
  · exact ⟨_, _, rfl⟩
theorem StrsAt.text {P : Nat → Prop} {w : World} {a : Option Addr} {n c : Nat} {ss : List Bs} (h : StrsAt P w (.slice a n c) ss) {q : Nat} {s : Bs} (hq : ss[q]? = some s) : ∃ g o, a = some ⟨g, o, none⟩ ∧ g < w.heap.size ∧ w.cell? ⟨g, o + q, none⟩ = some (.string ⟨s.toArray⟩) := by
  rcases h with ⟨rfl, _⟩ | ⟨g, o, c, e, _, _, hg, hc⟩
  · cases hq
  · injection e with e1 _ _
    exact ⟨g, o, e1, hg, hc q s hq⟩
theorem eq_of_take {a b : List Bs} (hl : a.length = b.length) (h : ∀ j, j < a.length → a[j]? = b[j]?) : a = b := by
  apply List.ext_getElem?
  intro j
  by_cases hj : j < a.length
  · exact h j hj
  · rw [List.getElem?_eq_none (by omega), List.getElem?_eq_none (by omega)]
set_option maxHeartbeats 3200000 in
theorem same_any (P P' : Nat → Prop) (v v' : Value) (ss ss' : List Bs) (w : World) (h : StrsAt P w v ss) (h' : StrsAt P' w v' ss') (hl0 : ss.length ≤ 1000000) :
    Calls Tryd.prog 15 #[v, v'] w fun e w' => e = .returned (.bool (decide (ss = ss'))) ∧ Below w.heap.size w w' := by
  have hl := hl0
  clear hl0
  obtain ⟨a, c, rfl⟩ := h.shape
  obtain ⟨a', c', rfl⟩ := h'.shape
  by_cases hn : ss.length = ss'.length
  · obtain ⟨n, hN⟩ : ∃ n, ss.length = n := ⟨_, rfl⟩
    have hN' : ss'.length = n := by omega
    rw [hN] at h hl ⊢
    rw [hN'] at h' ⊢
    obtain ⟨D, hD⟩ : ∃ D, decide (ss = ss') = D := ⟨_, rfl⟩
    rw [hD]
    clear hn
    have hnn : ((n : Int) != (n : Int)) = false := by simp
    go_enter Tryd.func15, Tryd.ntmps15
    go_upto_region 3 with fail
    go_upto_region 4 with fail
    go_loopw [5] (fun u5 wr => ∃ k : Nat, k ≤ n ∧ u5 = .int .i64 (k : Int) ∧ (∀ j, j < k → ss[j]? = ss'[j]?) ∧ Below w.heap.size w wr) (fun u5 _ => n - (intOf u5).toNat)
    case atStart => exact ⟨0, by omega, rfl, fun j hj => by omega, Below.refl _ _⟩
    case round =>
      obtain ⟨k, hk, rfl, hall, hB⟩ := hrel
      have HA : Unit → ∀ j, j < k → ss[j]? = ss'[j]? := fun _ => hall
      clear hall
      by_cases hlt : k < n
      · obtain ⟨x, hx⟩ : ∃ x, ss[k]? = some x := ⟨_, List.getElem?_eq_getElem (by omega)⟩
        obtain ⟨y, hy⟩ : ∃ y, ss'[k]? = some y := ⟨_, List.getElem?_eq_getElem (by omega)⟩
        obtain ⟨g, o, rfl, hg, hc⟩ := (h.stay hB).text hx
        obtain ⟨g', o', rfl, hg', hc'⟩ := (h'.stay hB).text hy
        have hki : (k : Int) < (n : Int) := by omega
        go_upto_region 6 with fail
        try simp only [List.append_eq, List.cons_append, List.nil_append]
        refine region_class (fun w' => Below wr.heap.size wr w' ∧ w'.cell? ⟨g, o + k, none⟩ = some (.string ⟨x.toArray⟩) ∧ w'.cell? ⟨g', o' + k, none⟩ = some (.string ⟨y.toArray⟩)) (by kernel_rfl) (by kernel_rfl) (⟨(Below.refl _ _).drew, hc, hc'⟩) ?_
        repeat
          first
          | go_big_quiet_skip
          | (go_big_quiet_want
             refine quiet_val ?_
             apply Exists.intro
             refine ⟨fun w' hw' => ?_, ?_⟩
             · obtain ⟨_, e0, e1⟩ := hw'
               go_simp
               first | done | rfl | exact ⟨rfl, rfl⟩
             simp only [Act.put, List.setIfInBounds_toArray, List.set_cons_zero, List.set_cons_succ]
             go_big_quiet_on)
          | (go_big_quiet_want
             refine quiet_call ?_
             apply Exists.intro
             apply Exists.intro
             refine ⟨fun w' => ?_, ?_⟩
             · go_simp
               first | done | rfl | exact ⟨rfl, rfl⟩
             apply Exists.intro
             refine ⟨fun w' hw' => ?_, ?_⟩
             · first
               | fail
             simp only [Act.put, List.setIfInBounds_toArray, List.set_cons_zero, List.set_cons_succ]
             go_big_quiet_on)
        refine wpQuiet_nil ?_
        intro w5 hw5
        obtain ⟨hb5, _, _⟩ := hw5
        replace hB := hB.trans (hb5.mono hB.size)
        clear hb5 hc hc'
        by_cases hxy : x = y
        · have hxb : (x == y) = true := by rw [hxy]; simp
          rw [hxb]
          go_wp2_with fail
          go_roundw
          case rel => exact ⟨k + 1, by omega, by simp, fun j hj => by
            by_cases e : j = k
            · rw [e, hx, hy, hxy]
            · exact HA () j (by omega), hB⟩
          case measure => simp [intOf]; omega
        · have hxb : (x == y) = false := by rw [beq_eq_false_iff_ne]; exact hxy
          rw [hxb]
          have e : D = false := by
            rw [← hD]
            refine decide_eq_false fun e => hxy ?_
            rw [e, hy] at hx
            injection hx with hx
            exact hx.symm
          subst e
          go_wp2_with fail
          go_ret
          exact ⟨rfl, hB⟩
      · have e : D = true := by
          rw [← hD]
          refine decide_eq_true (eq_of_take (by omega) fun j hj => HA () j (by omega))
        subst e
        go_wp2_with fail
        go_ret
        exact ⟨rfl, hB⟩
  · have hne : ((ss.length : Int) != (ss'.length : Int)) = true := by rw [bne_iff_ne]; omega
    have e : decide (ss = ss') = false := decide_eq_false fun e => hn (by rw [e])
    rw [e]
    go_enter Tryd.func15, Tryd.ntmps15
    go_wp2_with fail
    go_ret
    exact ⟨rfl, Below.refl _ _⟩
end Go.Proofs.YtcljijcggnfemaaDoor
