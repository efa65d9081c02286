/- WordBack returns true: the walk. -/
import Derived.Test.YtcljijcggnfemaaDoorWNames
import Derived.Test.YtcljijcggnfemaaDoorWEarly
namespace Go.Proofs.YtcljijcggnfemaaDoor
open Go.ChangeShapes Go.WideShapes Go.RowKit

set_option maxHeartbeats 6400000 in
set_option maxRecDepth 100000 in
theorem back_any (a b : Bs) (m : Int) (w : World) (ha : a.length ≤ 9223372036854775807) (hb : b.length ≤ 9223372036854775807) (hm : w.cell? ⟨0, 0, none⟩ = some (.int .i64 m)) :
    Calls Tryd.prog 4 #[.string ⟨a.toArray⟩, .string ⟨b.toArray⟩] w fun e w' => e = .returned (.bool true) ∧ Below w.heap.size w w' := by
  have hg0 := World.block_lt_of_cell? w _ hm
  simp only at hg0
  have K := Lib.hid (lives_any w)
  have KM : ∀ w', Below w.heap.size w w' → w'.cell? ⟨0, 0, none⟩ = some (.int .i64 m) := fun w' h => (h.cell (p := ⟨0, 0, none⟩) hg0).trans hm
  have hla : (a.take 500).length ≤ 500 := by rw [List.length_take]; omega
  have hlb : (b.take 500).length ≤ 500 := by rw [List.length_take]; omega
  have EA : Hid (∀ w, Calls Tryd.prog 7 #[.string ⟨a.toArray⟩] w fun e w' => e = .returned (.string ⟨(a.take 500).toArray⟩) ∧ w' = w) := Lib.hid fun w => early_any a w ha
  have EB : Hid (∀ w, Calls Tryd.prog 7 #[.string ⟨b.toArray⟩] w fun e w' => e = .returned (.string ⟨(b.take 500).toArray⟩) ∧ w' = w) := Lib.hid fun w => early_any b w hb
  have KA : Hid (∀ w', Calls Tryd.prog 18 #[.string ⟨(a.take 500).toArray⟩] w' (SplitP w' (splitN (a.take 500)))) := Lib.hid fun w' => split_any _ w' (by omega)
  have KB : Hid (∀ w', Below w.heap.size w w' → Calls Tryd.prog 9 #[.string ⟨(b.take 500).toArray⟩] w' (NamesP w' (namesN (b.take 500)))) := Lib.hid fun w' h => names_any _ m w' (by omega) (KM w' h)
  have KN : Hid (∀ w', Below w.heap.size w w' → Calls Tryd.prog 9 #[.string ⟨#[45]⟩] w' (NamesP w' (some []))) := Lib.hid fun w' h => names_any [45] m w' (by simp) (KM w' h)
  have hsA : ∀ ss, splitN (a.take 500) = some ss → (∀ x ∈ ss, goodW x) ∧ (ss.map List.length).sum + ss.length ≤ 501 := fun ss h => ⟨split_good h, by have := split_sum h; omega⟩
  have hsB : ∀ ns, namesN (b.take 500) = some ns → ns.length ≤ 501 ∧ (ns.map List.length).sum ≤ 500 ∧ ntextN ns = b.take 500 := fun ns h => ⟨by have := (names_size h).1; omega, by have := (names_size h).2; omega, names_text h⟩
  have hkb : Unit → (⟨(b.take 500).toArray⟩ : ByteArray) = ⟨(b.take 500).toArray⟩ := fun _ => rfl
  clear hla hlb ha hb KM hm
  generalize splitN (a.take 500) = oA at *
  generalize namesN (b.take 500) = oB at *
  generalize b.take 500 = lB at *
  generalize (⟨(a.take 500).toArray⟩ : ByteArray) = ta at *
  obtain ⟨tb, htb⟩ : ∃ tb : ByteArray, tb = ⟨lB.toArray⟩ := ⟨_, rfl⟩
  rw [← htb] at EB KB
  have HTB : Unit → tb = ⟨lB.toArray⟩ := fun _ => htb
  clear htb hkb
  go_enter Tryd.func4, Tryd.ntmps4
  go_wp2_with fail
  refine K.out.mono ?_
  rintro e w1 ⟨rfl, hB1⟩
  clear K
  go_wp2_with fail
  refine (EA.out w1).mono ?_
  rintro e w2 ⟨rfl, rfl⟩
  clear EA
  go_wp2_with fail
  refine (KA.out w2).mono ?_
  rintro e w3 ⟨he, hB2⟩
  clear KA
  replace hB1 := hB1.trans (hB2.mono hB1.size)
  cases oA with
  | none =>
    subst he
    go_wp2_with fail
    go_ret
    exact ⟨rfl, hB1⟩
  | some ss =>
    obtain ⟨v, rfl, ho⟩ := he
    have h3 := own_strs ho
    obtain ⟨a3, c3, rfl⟩ := h3.shape
    obtain ⟨hgd, hsum⟩ := hsA ss rfl
    have hjl := join_len [32] ss
    simp only [List.length_cons, List.length_nil] at hjl
    have hjn := good_joinN hgd
    have hjs := good_join hgd
    have KJ := Lib.hid (join_any _ _ ss w3 h3 (by omega) (by omega))
    rw [hjn] at KJ
    have KS : Hid (∀ w', Calls Tryd.prog 18 #[.string ⟨(joinL [32] ss).toArray⟩] w' (SplitP w' (some ss))) := Lib.hid fun w' => by
      have := split_any (joinL [32] ss) w' (by omega)
      rwa [hjs] at this
    have hssl : ss.length ≤ 501 := by omega
    unfold joinT at KJ
    simp only at KJ
    clear hsA hB2 ho hgd hsum hjn hjs hjl
    generalize (⟨(joinL [32] ss).toArray⟩ : ByteArray) = J at *
    go_wp2_with fail
    refine KJ.out.mono ?_
    rintro e w4 ⟨rfl, hB4⟩
    clear KJ
    replace h3 := h3.stay hB4
    replace hB1 := hB1.trans (hB4.mono hB1.size)
    clear hB4
    go_wp2_with fail
    refine (KS.out w4).mono ?_
    rintro e w5 ⟨⟨v5, rfl, ho5⟩, hB5⟩
    clear KS
    have h5 := own_strs ho5
    obtain ⟨a5, c5, rfl⟩ := h5.shape
    replace h3 := h3.stay hB5
    replace hB1 := hB1.trans (hB5.mono hB1.size)
    clear hB5 ho5
    go_wp2_with fail
    refine (EB.out w5).mono ?_
    rintro e w6 ⟨rfl, rfl⟩
    clear EB
    go_wp2_with fail
    refine (KB.out w6 hB1).mono ?_
    rintro e w7 ⟨he, hB7⟩
    replace h3 := h3.stay hB7
    replace h5 := h5.stay hB7
    replace hB1 := hB1.trans (hB7.mono hB1.size)
    clear hB7
    cases oB with
    | none =>
      subst he
      have KT := Lib.hid (ntext_any (fun _ => True) (.slice none 0 0) [] w7 (.inl ⟨rfl, none, 0, rfl⟩) (by simp) (by simp))
      rw [show ntextN [] = [45] from rfl] at KT
      clear KB hsB
      go_wp2_with fail
      refine KT.out.mono ?_
      rintro e w8 ⟨rfl, hB8⟩
      clear KT
      replace h3 := h3.stay hB8
      replace h5 := h5.stay hB8
      replace hB1 := hB1.trans (hB8.mono hB1.size)
      clear hB8
      go_wp2_with fail
      refine (KN.out w8 hB1).mono ?_
      rintro e w9 ⟨⟨v9, rfl, h9⟩, hB9⟩
      obtain ⟨a9, c9, rfl⟩ := h9.shape
      clear KN h9
      replace h3 := h3.stay hB9
      replace h5 := h5.stay hB9
      replace hB1 := hB1.trans (hB9.mono hB1.size)
      clear hB9
      have KQ := Lib.hid (same_any _ _ _ _ ss ss w9 h3 h5 (by omega))
      rw [decide_eq_true rfl] at KQ
      clear h3 h5
      generalize ss.length = n at *
      go_wp2_with fail
      refine KQ.out.mono ?_
      rintro e w10 ⟨rfl, hB10⟩
      clear KQ
      go_wp2_with fail
      go_ret
      exact ⟨rfl, hB1.trans (hB10.mono hB1.size)⟩
    | some ns =>
      obtain ⟨v7, rfl, h7⟩ := he
      obtain ⟨a7, c7, rfl⟩ := h7.shape
      obtain ⟨n1, n2, n3⟩ := hsB ns rfl
      have KT := Lib.hid (ntext_any _ _ ns w7 h7 (by omega) (by omega))
      rw [n3, ← HTB ()] at KT
      clear hsB n3 n2 KN HTB
      go_wp2_with fail
      refine KT.out.mono ?_
      rintro e w8 ⟨rfl, hB8⟩
      clear KT
      replace h3 := h3.stay hB8
      replace h5 := h5.stay hB8
      replace h7 := h7.stay hB8
      replace hB1 := hB1.trans (hB8.mono hB1.size)
      clear hB8
      go_wp2_with fail
      refine (KB.out w8 hB1).mono ?_
      rintro e w9 ⟨⟨v9, rfl, h9⟩, hB9⟩
      obtain ⟨a9, c9, rfl⟩ := h9.shape
      clear KB
      replace h3 := h3.stay hB9
      replace h5 := h5.stay hB9
      replace h7 := h7.stay hB9
      replace hB1 := hB1.trans (hB9.mono hB1.size)
      clear hB9
      have KQ := Lib.hid (same_any _ _ _ _ ss ss w9 h3 h5 (by omega))
      rw [decide_eq_true rfl] at KQ
      clear h3 h5
      generalize ss.length = n at *
      go_wp2_with fail
      refine KQ.out.mono ?_
      rintro e w10 ⟨rfl, hB10⟩
      clear KQ
      have KQ := Lib.hid (same_any _ _ _ _ ns ns w10 (h7.stay hB10) (h9.stay hB10) (by omega))
      rw [decide_eq_true rfl] at KQ
      clear h7 h9
      generalize ns.length = n at *
      replace hB1 := hB1.trans (hB10.mono hB1.size)
      clear hB10
      go_wp2_with fail
      refine KQ.out.mono ?_
      rintro e w11 ⟨rfl, hB11⟩
      go_wp2_with fail
      go_ret
      exact ⟨rfl, hB1.trans (hB11.mono hB1.size)⟩
end Go.Proofs.YtcljijcggnfemaaDoor
