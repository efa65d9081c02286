/- The document's Same of fields: the walk. -/
import Derived.Test.YtknhkmlihbgjpaaDoorASame
namespace Go.Proofs.YtknhkmlihbgjpaaDoor
open Go.ChangeShapes Go.WideShapes Go.RowKit

set_option maxHeartbeats 6400000 in
set_option maxRecDepth 100000 in
theorem same_any (P P' : Nat → Prop) (v v' : Value) (fs gs : List (Bs × Bs)) (w : World) (h : FldsAt P w v fs) (h' : FldsAt P' w v' gs) (hl' : gs.length ≤ 1000000) :
    Calls Tryd.prog 36 #[v, v'] w fun e w' => e = .returned (.bool (fs == gs)) ∧ Below w.heap.size w w' := by
  obtain ⟨a, c, rfl⟩ := h.shape
  obtain ⟨a', c', rfl⟩ := h'.shape
  obtain ⟨O, hO⟩ : ∃ O, (fs == gs) = O := ⟨_, rfl⟩
  rw [hO]
  have HO : Unit → (fs == gs) = O := fun _ => hO
  clear hO
  by_cases hq : fs.length = gs.length
  · rw [← hq] at h' hl' ⊢
    obtain ⟨n, hn⟩ : ∃ n, fs.length = n := ⟨_, rfl⟩
    rw [hn] at h h' hl' ⊢
    have HN : Unit → fs.length = n ∧ gs.length = n := fun _ => ⟨hn, by omega⟩
    clear hn hq
    have hnn : ((n : Int) != (n : Int)) = false := by simp
    go_enter Tryd.func36, Tryd.ntmps36
    go_upto_region 3 with fail
    go_upto_region 4 with fail
    go_loopw [5] (fun u5 wr => ∃ k : Nat, k ≤ n ∧ u5 = .int .i64 (k : Int) ∧ fs.take k = gs.take k ∧ Below w.heap.size w wr) (fun u5 _ => n - (intOf u5).toNat)
    case atStart => exact ⟨0, by omega, rfl, rfl, Below.refl _ _⟩
    case round =>
      clear hnn
      obtain ⟨k, hk, rfl, hV, hB⟩ := hrel
      have HV : Unit → fs.take k = gs.take k := fun _ => hV
      clear hV
      by_cases hlt : k < n
      · obtain ⟨x, hx⟩ : ∃ x, fs[k]? = some x := ⟨_, List.getElem?_eq_getElem (by have := HN (); omega)⟩
        obtain ⟨y, hy⟩ : ∃ y, gs[k]? = some y := ⟨_, List.getElem?_eq_getElem (by have := HN (); omega)⟩
        obtain ⟨g, o, rfl, _, hg, c0, c1⟩ := (h.stay hB).part hx
        obtain ⟨g', o', rfl, _, hg', d0, d1⟩ := (h'.stay hB).part hy
        have hki : (k : Int) < (n : Int) := by omega
        have hne := fun w => neq_fd x y w
        have HT : Unit → (x.1 == y.1 && x.2 == y.2) = true → fs.take (k + 1) = gs.take (k + 1) := fun _ e => take_same hx hy (HV ()) (by obtain ⟨x1, x2⟩ := x; obtain ⟨y1, y2⟩ := y; simpa using e)
        have HF : Unit → (x.1 == y.1 && x.2 == y.2) = false → O = false := fun _ e => by
          rw [← HO (), beq_eq_false_iff_ne]
          intro e2
          rw [e2, hy] at hx
          injection hx with hx
          rw [hx] at e
          simp at e
        clear hx hy
        obtain ⟨q, hq⟩ : ∃ q, (x.1 == y.1 && x.2 == y.2) = q := ⟨_, rfl⟩
        simp only [hq] at hne HT HF
        clear hq
        cases q with
        | true =>
          simp only [Bool.not_true] at hne
          go_upto_region 6 with fail
          try simp only [List.append_eq, List.cons_append, List.nil_append]
          refine region_class (fun w' => Below wr.heap.size wr w' ∧ (w'.cell? ⟨g, o + k * 2, none⟩ = some (.string ⟨x.1.toArray⟩) ∧ w'.cell? ⟨g, o + k * 2 + 1, none⟩ = some (.string ⟨x.2.toArray⟩)) ∧ w'.cell? ⟨g', o' + k * 2, none⟩ = some (.string ⟨y.1.toArray⟩) ∧ w'.cell? ⟨g', o' + k * 2 + 1, none⟩ = some (.string ⟨y.2.toArray⟩)) (by kernel_rfl) (by kernel_rfl) (⟨(Below.refl _ _).drew, ⟨c0, c1⟩, d0, d1⟩) ?_
          repeat
            first
            | go_big_quiet_skip
            | (go_big_quiet_want
               refine quiet_val ?_
               apply Exists.intro
               refine ⟨fun w' hw' => ?_, ?_⟩
               · obtain ⟨_, ⟨e0, e1⟩, e3, e4⟩ := hw'
                 go_simp
                 first | done | rfl | exact ⟨rfl, rfl⟩
               simp only [Act.put, List.setIfInBounds_toArray, List.set_cons_zero, List.set_cons_succ]
               go_big_quiet_on)
            | (go_big_quiet_want
               refine quiet_call ?_
               apply Exists.intro
               apply Exists.intro
               refine ⟨fun w' => ?_, ?_⟩
               · go_simp
                 first | done | rfl | exact ⟨rfl, rfl⟩
               apply Exists.intro
               refine ⟨fun w' hw' => ?_, ?_⟩
               · first
                 | fail
               simp only [Act.put, List.setIfInBounds_toArray, List.set_cons_zero, List.set_cons_succ]
               go_big_quiet_on)
          refine wpQuiet_nil ?_
          intro w5 hw5
          have hb5 := hw5.1
          replace hB := hB.trans (hb5.mono hB.size)
          clear hb5 hw5 c0 c1 d0 d1
          go_wp2_with fail
          go_roundw
          case rel => exact ⟨k + 1, by omega, by simp, HT () rfl, hB⟩
          case measure => simp [intOf]; omega
        | false =>
          simp only [Bool.not_false] at hne
          go_upto_region 6 with fail
          try simp only [List.append_eq, List.cons_append, List.nil_append]
          refine region_class (fun w' => Below wr.heap.size wr w' ∧ (w'.cell? ⟨g, o + k * 2, none⟩ = some (.string ⟨x.1.toArray⟩) ∧ w'.cell? ⟨g, o + k * 2 + 1, none⟩ = some (.string ⟨x.2.toArray⟩)) ∧ w'.cell? ⟨g', o' + k * 2, none⟩ = some (.string ⟨y.1.toArray⟩) ∧ w'.cell? ⟨g', o' + k * 2 + 1, none⟩ = some (.string ⟨y.2.toArray⟩)) (by kernel_rfl) (by kernel_rfl) (⟨(Below.refl _ _).drew, ⟨c0, c1⟩, d0, d1⟩) ?_
          repeat
            first
            | go_big_quiet_skip
            | (go_big_quiet_want
               refine quiet_val ?_
               apply Exists.intro
               refine ⟨fun w' hw' => ?_, ?_⟩
               · obtain ⟨_, ⟨e0, e1⟩, e3, e4⟩ := hw'
                 go_simp
                 first | done | rfl | exact ⟨rfl, rfl⟩
               simp only [Act.put, List.setIfInBounds_toArray, List.set_cons_zero, List.set_cons_succ]
               go_big_quiet_on)
            | (go_big_quiet_want
               refine quiet_call ?_
               apply Exists.intro
               apply Exists.intro
               refine ⟨fun w' => ?_, ?_⟩
               · go_simp
                 first | done | rfl | exact ⟨rfl, rfl⟩
               apply Exists.intro
               refine ⟨fun w' hw' => ?_, ?_⟩
               · first
                 | fail
               simp only [Act.put, List.setIfInBounds_toArray, List.set_cons_zero, List.set_cons_succ]
               go_big_quiet_on)
          refine wpQuiet_nil ?_
          intro w5 hw5
          have hb5 := hw5.1
          replace hB := hB.trans (hb5.mono hB.size)
          clear hb5 hw5 c0 c1 d0 d1
          have hOF := HF () rfl
          subst hOF
          go_wp2_with fail
          go_ret
          exact ⟨rfl, hB⟩
      · have hOT : O = true := by
          rw [← HO (), beq_iff_eq]
          have h1 := HV ()
          rw [List.take_of_length_le (by have := HN (); omega), List.take_of_length_le (by have := HN (); omega)] at h1
          exact h1
        subst hOT
        have hki : ¬ (k : Int) < (n : Int) := by omega
        go_wp2_with fail
        go_ret
        exact ⟨rfl, hB⟩
  · have hOF : O = false := by
      rw [← HO (), beq_eq_false_iff_ne]
      exact fun e => hq (by rw [e])
    subst hOF
    have hnn : ((fs.length : Int) != (gs.length : Int)) = true := by rw [bne_iff_ne]; omega
    have hn2 : ((fs.length : Int) == (gs.length : Int)) = false := by rw [beq_eq_false_iff_ne]; omega
    clear hq
    generalize fs.length = n1 at *
    generalize gs.length = n2 at *
    go_enter Tryd.func36, Tryd.ntmps36
    go_wp2_with fail
    go_ret
    exact ⟨rfl, Below.refl _ _⟩
end Go.Proofs.YtknhkmlihbgjpaaDoor
