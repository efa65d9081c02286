/- WordApart returns true: the walk. -/
import Derived.Test.YtcljijcggnfemaaWEarly
namespace Go.Proofs.Ytcljijcggnfemaa
open Go.ChangeShapes Go.WideShapes Go.RowKit

theorem about_text (J : Bs) : (⟨#[32, 32]⟩ : ByteArray) ++ ⟨J.toArray⟩ ++ ⟨#[32, 9, 32, 35, 32, 105, 116, 39, 115, 32, 34, 113, 117, 111, 116, 101, 100, 34]⟩ = ⟨([32, 32] ++ J ++ [32, 9, 32, 35, 32, 105, 116, 39, 115, 32, 34, 113, 117, 111, 116, 101, 100, 34]).toArray⟩ := by
  have e1 : (⟨#[32, 32]⟩ : ByteArray) ++ ⟨J.toArray⟩ = ⟨([32, 32] ++ J).toArray⟩ := cat_text [32, 32] J
  rw [e1]
  exact cat_text ([32, 32] ++ J) [32, 9, 32, 35, 32, 105, 116, 39, 115, 32, 34, 113, 117, 111, 116, 101, 100, 34]
theorem len_take (l : Bs) : (l.take 500).length ≤ 500 := by rw [List.length_take]; omega
set_option maxHeartbeats 6400000 in
set_option maxRecDepth 100000 in
theorem apart_any (a b : Bs) (w : World) (ha : a.length ≤ 9223372036854775807) (hb : b.length ≤ 9223372036854775807) : Calls Try.prog 6 #[.string ⟨a.toArray⟩, .string ⟨b.toArray⟩] w fun e w' => e = .returned (.bool true) ∧ Below w.heap.size w w' := by
  have K := Lib.hid (lives_any w)
  have KA : Hid (∀ w, Calls Try.prog 9 #[.string ⟨(a.take 500).toArray⟩] w (SplitP w (splitN (a.take 500)))) := Lib.hid fun w => split_any _ w (by have := len_take a; omega)
  have KB : Hid (∀ w, Calls Try.prog 9 #[.string ⟨(b.take 500).toArray⟩] w (SplitP w (splitN (b.take 500)))) := Lib.hid fun w => split_any _ w (by have := len_take b; omega)
  have EA : Hid (∀ w, Calls Try.prog 8 #[.string ⟨a.toArray⟩] w fun e w' => e = .returned (.string ⟨(a.take 500).toArray⟩) ∧ w' = w) := Lib.hid fun w => early_any a w ha
  have EB : Hid (∀ w, Calls Try.prog 8 #[.string ⟨b.toArray⟩] w fun e w' => e = .returned (.string ⟨(b.take 500).toArray⟩) ∧ w' = w) := Lib.hid fun w => early_any b w hb
  have hsA : ∀ ss, splitN (a.take 500) = some ss → (∀ x ∈ ss, goodW x) ∧ (ss.map List.length).sum + ss.length ≤ 501 := fun ss h => ⟨split_good h, by have := split_sum h; have := len_take a; omega⟩
  have hsB : ∀ ss, splitN (b.take 500) = some ss → (∀ x ∈ ss, goodW x) ∧ (ss.map List.length).sum + ss.length ≤ 501 := fun ss h => ⟨split_good h, by have := split_sum h; have := len_take b; omega⟩
  clear ha hb
  generalize splitN (a.take 500) = oA at *
  generalize splitN (b.take 500) = oB at *
  generalize (⟨(a.take 500).toArray⟩ : ByteArray) = ta at *
  generalize (⟨(b.take 500).toArray⟩ : ByteArray) = tb at *
  go_enter Try.func6, Try.ntmps6
  go_wp2_with fail
  refine K.out.mono ?_
  rintro e w1 ⟨rfl, hB1⟩
  clear K
  go_wp2_with fail
  refine (EA.out w1).mono ?_
  rintro e w2 ⟨rfl, rfl⟩
  clear EA
  go_wp2_with fail
  refine (KA.out w2).mono ?_
  rintro e w3 ⟨he, hB2⟩
  clear KA
  replace hB1 := hB1.trans (hB2.mono hB1.size)
  cases oA with
  | none =>
    subst he
    clear hsA hB2
    go_wp2_with fail
    refine (EB.out w3).mono ?_
    rintro e w4 ⟨rfl, rfl⟩
    clear EB
    go_wp2_with fail
    refine (KB.out w4).mono ?_
    rintro e w5 ⟨he, hB3⟩
    clear KB
    replace hB1 := hB1.trans (hB3.mono hB1.size)
    cases oB with
    | none =>
      subst he
      go_wp2_with fail
      go_ret
      exact ⟨rfl, hB1⟩
    | some m =>
      obtain ⟨v, rfl, _⟩ := he
      go_wp2_with fail
      go_ret
      exact ⟨rfl, hB1⟩
  | some l =>
    obtain ⟨vl, rfl, hol⟩ := he
    obtain ⟨gl, sl⟩ := hsA l rfl
    have hrl := own_strs hol
    clear hsA hB2 hol
    go_wp2_with fail
    refine (EB.out w3).mono ?_
    rintro e w4 ⟨rfl, rfl⟩
    clear EB
    go_wp2_with fail
    refine (KB.out w4).mono ?_
    rintro e w5 ⟨he, hB3⟩
    clear KB
    replace hB1 := hB1.trans (hB3.mono hB1.size)
    replace hrl := hrl.stay hB3
    obtain ⟨al, cl, rfl⟩ := hrl.shape
    cases oB with
    | none =>
      subst he
      go_wp2_with fail
      go_ret
      exact ⟨rfl, hB1⟩
    | some m =>
      obtain ⟨vm, rfl, hom⟩ := he
      obtain ⟨gm, sm⟩ := hsB m rfl
      have hrm := own_strs hom
      clear hsB hB3 hom
      obtain ⟨am, cm, rfl⟩ := hrm.shape
      go_upto_region 7 with fail
      go_wp2_with (at_builtin; refine app_strs w5.heap.size (.slice none 0 0) _ [] l (World.ownsRow_nil _ _ _ _) hrl (by simp; omega) (Nat.le_refl _) _ _ rfl rfl rfl rfl ?_)
      intro v1 w6 ho1 hg1
      have hB6 : Below w5.heap.size w5 w6 := (Below.refl _ _).grown hg1 (Nat.le_refl _) (fun k e => by cases e)
      replace hrm := hrm.stay hB6
      have hsz6 := hB6.size
      obtain ⟨a1, c1, rfl, _⟩ := own_slice ho1
      clear hrl hg1
      go_wp2_with (at_builtin; refine app_strs w5.heap.size _ _ l m ho1 hrm (by omega) hsz6 _ _ rfl rfl rfl rfl ?_)
      intro v2 w7 ho2 hg2
      rw [← List.map_append, ← List.length_append] at ho2
      have hB7 : Below w5.heap.size w5 w7 := hB6.grown hg2 hsz6 (fun k e => (ho1.lt k e).1)
      have hr2 := own_strs ho2
      have hgd : ∀ x ∈ l ++ m, goodW x := fun x hx => by
        rcases List.mem_append.1 hx with h | h
        · exact gl x h
        · exact gm x h
      have hjn := good_joinN hgd
      have hab := good_about hgd
      have hsum : ((l ++ m).map List.length).sum + (l ++ m).length ≤ 1002 := by simp at *; omega
      have hjl := join_len [32] (l ++ m)
      simp only [List.length_cons, List.length_nil] at hjl
      clear hrm hg2 ho1 hB6 gl gm sl sm hgd hsz6
      replace hB1 := hB1.trans (hB7.mono hB1.size)
      clear hB7
      generalize l ++ m = ss at *
      obtain ⟨a2, c2, rfl, _⟩ := own_slice ho2
      clear ho2
      have KJ := Lib.hid (join_any _ _ ss w7 hr2 (by omega) (by omega))
      rw [hjn] at KJ
      have KS : Hid (∀ w, Calls Try.prog 9 #[.string (⟨#[32, 32]⟩ ++ ⟨(joinL [32] ss).toArray⟩ ++ ⟨#[32, 9, 32, 35, 32, 105, 116, 39, 115, 32, 34, 113, 117, 111, 116, 101, 100, 34]⟩)] w (SplitP w (some ss))) := Lib.hid fun w => by
        rw [about_text, ← hab]
        exact split_any _ w (by simp; omega)
      have hJz : (⟨(joinL [32] ss).toArray⟩ : ByteArray).size = (joinL [32] ss).length := by simp [ByteArray.size]
      have hJl : ((joinL [32] ss).length : Int) ≤ 5000 := by omega
      unfold joinT at KJ
      simp only at KJ
      generalize (joinL [32] ss).length = L at *
      generalize (⟨(joinL [32] ss).toArray⟩ : ByteArray) = J at *
      clear hab hjn hjl
      go_upto_region 8 with fail
      go_wp2_with fail
      refine KJ.out.mono ?_
      rintro e w8 ⟨rfl, hB8⟩
      clear KJ
      replace hr2 := hr2.stay hB8
      replace hB1 := hB1.trans (hB8.mono hB1.size)
      clear hB8
      go_wp2_with fail
      refine (KS.out w8).mono ?_
      rintro e w9 ⟨⟨v3, rfl, ho3⟩, hB9⟩
      clear KS
      replace hr2 := hr2.stay hB9
      replace hB1 := hB1.trans (hB9.mono hB1.size)
      clear hB9
      have K := Lib.hid (same_any _ _ v3 _ ss ss w9 (own_strs ho3) hr2 (by omega))
      rw [decide_eq_true rfl] at K
      obtain ⟨a3, c3, rfl, _⟩ := own_slice ho3
      clear ho3 hr2
      go_wp2_with fail
      refine K.out.mono ?_
      rintro e w10 ⟨rfl, hB10⟩
      clear K
      go_wp2_with fail
      go_ret
      exact ⟨rfl, hB1.trans (hB10.mono hB1.size)⟩
end Go.Proofs.Ytcljijcggnfemaa
