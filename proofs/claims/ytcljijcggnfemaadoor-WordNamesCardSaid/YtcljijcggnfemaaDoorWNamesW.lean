/- WordNames returns true: the walk. -/
import Derived.Test.YtcljijcggnfemaaDoorWRefN
import Derived.Test.YtcljijcggnfemaaDoorWRefD
import Derived.Test.YtcljijcggnfemaaDoorWFew
namespace Go.Proofs.YtcljijcggnfemaaDoor
open Go.ChangeShapes Go.WideShapes Go.RowKit

theorem numT_is (o : Option Nat) : ∃ z e : Int, numT o = .tuple #[.int .i64 z, .int .i64 e] := by
  cases o with
  | none => exact ⟨0, 2, rfl⟩
  | some n => exact ⟨(n : Int), 0, rfl⟩
theorem joinT_is (o : Option Bs) : ∃ (t : ByteArray) (e : Int), joinT o = .tuple #[.string t, .int .i64 e] := by
  cases o with
  | none => exact ⟨⟨#[]⟩, 1, rfl⟩
  | some s => exact ⟨⟨s.toArray⟩, 0, rfl⟩
set_option maxHeartbeats 6400000 in
set_option maxRecDepth 100000 in
theorem namesW_any (P : Nat → Prop) (s : Bs) (v : Value) (ss : List Bs) (m : Int) (w : World) (hs0 : s.length ≤ 9223372036854775807) (hv : StrsAt P w v ss) (hes : ∀ s ∈ ss, s.length ≤ 9223372036854775807) (hln : ss.length ≤ 9223372036854775807) (hm : w.cell? ⟨0, 0, none⟩ = some (.int .i64 m)) :
    Calls Tryd.prog 3 #[.string ⟨s.toArray⟩, v] w fun e w' => e = .returned (.bool true) ∧ Below w.heap.size w w' := by
  have hg0 := World.block_lt_of_cell? w _ hm
  simp only at hg0
  have K := Lib.hid (lives_any w)
  have hla : (s.take 500).length ≤ 500 := by rw [List.length_take]; omega
  have EA : Hid (∀ w, Calls Tryd.prog 7 #[.string ⟨s.toArray⟩] w fun e w' => e = .returned (.string ⟨(s.take 500).toArray⟩) ∧ w' = w) := Lib.hid fun w => early_any s w hs0
  have KF : Hid (∀ w', Below w.heap.size w w' → Calls Tryd.prog 8 #[v] w' fun e w'' => ∃ v', e = .returned v' ∧ StrsAt (fun _ => True) w'' v' (fewN ss) ∧ Below w'.heap.size w' w'') := Lib.hid fun w' h => few_any P v ss w' (hv.stay h) hes hln
  have K1 : Hid (∀ w', Below w.heap.size w w' → Calls Tryd.prog 9 #[.string ⟨(s.take 500).toArray⟩] w' (NamesP w' (namesN (s.take 500)))) := Lib.hid fun w' h => names_any _ m w' (by omega) ((h.cell (p := ⟨0, 0, none⟩) hg0).trans hm)
  have K2 : Hid (∀ w', Calls Tryd.prog 10 #[.string ⟨(s.take 500).toArray⟩] w' (NamesP w' (namesN (s.take 500)))) := Lib.hid fun w' => rnames_any _ w' (by omega)
  have K3 : Hid (∀ w', Calls Tryd.prog 11 #[.string ⟨(s.take 500).toArray⟩] w' fun e w'' => e = .returned (numT (numW (s.take 500))) ∧ w'' = w') := Lib.hid fun w' => number_any _ w' (by omega)
  have K4 : Hid (∀ w', Calls Tryd.prog 12 #[.string ⟨(s.take 500).toArray⟩] w' fun e w'' => e = .returned (numT (numW (s.take 500))) ∧ w'' = w') := Lib.hid fun w' => rnumber_any _ w' (by omega)
  have hNl : (wSp (namesN (s.take 500))).length ≤ 501 := by
    cases h : namesN (s.take 500) with
    | none => exact Nat.zero_le _
    | some ns => have := (names_size h).1; show ns.length ≤ 501; omega
  obtain ⟨f1, f2⟩ := few_sum ss
  have hjl := join_len [32] (fewN ss)
  simp only [List.length_cons, List.length_nil] at hjl
  clear hla hs0 hm hv hes hln
  generalize fewN ss = F at *
  obtain ⟨z, ez, hz⟩ := numT_is (numW (s.take 500))
  rw [hz] at K3 K4
  obtain ⟨tj, ej, hj⟩ := joinT_is (joinN F)
  clear hz
  generalize namesN (s.take 500) = oN at *
  generalize (⟨(s.take 500).toArray⟩ : ByteArray) = ta at *
  go_enter Tryd.func3, Tryd.ntmps3
  go_wp2_with fail
  refine K.out.mono ?_
  rintro e w1 ⟨rfl, hB1⟩
  clear K
  go_wp2_with fail
  refine (EA.out w1).mono ?_
  rintro e w2 ⟨rfl, rfl⟩
  clear EA
  go_wp2_with fail
  refine (KF.out w2 hB1).mono ?_
  rintro e w3 ⟨vF, rfl, hF, hB2⟩
  clear KF
  obtain ⟨aF, cF, rfl⟩ := hF.shape
  replace hB1 := hB1.trans (hB2.mono hB1.size)
  clear hB2
  go_wp2_with fail
  refine (K1.out w3 hB1).mono ?_
  intro e w4 he
  obtain ⟨a4, c4, rfl, h4, hB2⟩ := he.at
  clear K1 he
  replace hB1 := hB1.trans (hB2.mono hB1.size)
  replace hF := hF.stay hB2
  clear hB2
  go_wp2_with fail
  refine (K2.out w4).mono ?_
  intro e w5 he
  obtain ⟨a5, c5, rfl, h5, hB2⟩ := he.at
  clear K2 he
  replace hB1 := hB1.trans (hB2.mono hB1.size)
  replace hF := hF.stay hB2
  replace h4 := h4.stay hB2
  clear hB2
  go_wp2_with fail
  refine (K3.out w5).mono ?_
  rintro e w6 ⟨rfl, rfl⟩
  clear K3
  go_wp2_with fail
  refine (K4.out w6).mono ?_
  rintro e w7 ⟨rfl, rfl⟩
  clear K4
  have KJ := Lib.hid (join_any _ _ F w7 hF (by omega) (by omega))
  rw [hj] at KJ
  go_wp2_with fail
  refine KJ.out.mono ?_
  rintro e w8 ⟨rfl, hB2⟩
  clear KJ
  replace hB1 := hB1.trans (hB2.mono hB1.size)
  replace hF := hF.stay hB2
  replace h4 := h4.stay hB2
  replace h5 := h5.stay hB2
  clear hB2
  have KJ := Lib.hid (rjoin_any _ _ F w8 hF (by omega) (by omega))
  rw [hj] at KJ
  go_wp2_with fail
  refine KJ.out.mono ?_
  rintro e w9 ⟨rfl, hB2⟩
  clear KJ hj hjl
  replace hB1 := hB1.trans (hB2.mono hB1.size)
  replace hF := hF.stay hB2
  replace h4 := h4.stay hB2
  replace h5 := h5.stay hB2
  clear hB2
  have KS := Lib.hid (same_any _ _ _ _ _ _ w9 h4 h5 (by omega))
  rw [decide_eq_true rfl] at KS
  clear h4 h5
  generalize wSp oN = sN at *
  generalize sN.length = nN at *
  generalize eSp oN = eN at *
  have q1 : (eN == eN) = true := by simp
  have q2 : (z == z) = true := by simp
  have q3 : (ez == ez) = true := by simp
  have q4 : (tj.toList == tj.toList) = true := by simp
  have q5 : (ej == ej) = true := by simp
  go_wp2_with fail
  refine KS.out.mono ?_
  rintro e wa ⟨rfl, hB2⟩
  clear KS
  replace hB1 := hB1.trans (hB2.mono hB1.size)
  replace hF := hF.stay hB2
  clear hB2
  have KT := Lib.hid (ntext_any _ _ F wa hF (by omega) (by omega))
  go_wp2_with fail
  refine KT.out.mono ?_
  rintro e wb ⟨rfl, hB2⟩
  clear KT
  replace hB1 := hB1.trans (hB2.mono hB1.size)
  replace hF := hF.stay hB2
  clear hB2
  have KT := Lib.hid (rntext_any _ _ F wb hF (by omega) (by omega))
  generalize (⟨(ntextN F).toArray⟩ : ByteArray) = tN at *
  have q6 : (tN.toList == tN.toList) = true := by simp
  go_wp2_with fail
  refine KT.out.mono ?_
  rintro e wc ⟨rfl, rfl⟩
  go_wp2_with fail
  go_ret
  exact ⟨rfl, hB1⟩
end Go.Proofs.YtcljijcggnfemaaDoor
