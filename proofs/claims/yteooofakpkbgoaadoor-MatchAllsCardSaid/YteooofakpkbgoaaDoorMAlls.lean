/- MatchAlls returns true. -/
import Derived.Test.YteooofakpkbgoaaDoorMCat
namespace Go.Proofs.YteooofakpkbgoaaDoor
open Go.ChangeShapes Go.WideShapes Go.RowKit

theorem allM_app (fs : List (Bs × Bs)) (a b : List Mt) : allM fs (a ++ b) = (allM fs a && allM fs b) := by unfold allM; rw [List.all_append]
theorem allM_nil (fs : List (Bs × Bs)) : allM fs [] = true := rfl
theorem fits_not {fs : List (Bs × Bs)} {m : Mt} (h : fineB m = false) : fitsB fs m = false := by unfold fitsB; rw [h]; rfl
set_option maxHeartbeats 12800000 in
set_option maxRecDepth 100000 in
theorem alls_law (P P1 P2 : Nat → Prop) (v v1 v2 : Value) (fs : List (Bs × Bs)) (a b : List Mt) (w : World) (h : FldsAt P w v fs) (h1 : MtsAt P1 w v1 a) (h2 : MtsAt P2 w v2 b) (hl : fs.length ≤ 9223372036854775807) (hfl : ∀ f ∈ fs, f.1.length ≤ 9223372036854775807 ∧ f.2.length ≤ 9223372036854775807)
    (hal : a.length ≤ 9223372036854775807) (ham : ∀ m ∈ a, m.n.length ≤ 9223372036854775807 ∧ m.v.length ≤ 9223372036854775807) (hbl : b.length ≤ 9223372036854775807) (hbm : ∀ m ∈ b, m.n.length ≤ 9223372036854775807 ∧ m.v.length ≤ 9223372036854775807) (hg : SgAt w) :
    Calls Tryd.prog 9 #[v, v1, v2] w fun e w' => e = .returned (.bool true) ∧ Below w.heap.size w w' := by
  have KL := Lib.hid (lives_any w hg)
  have KG := Lib.hid fun w' (hb : Below w.heap.size w w') => good_any P v fs w' (h.stay hb) hl hfl
  have KA := Lib.hid fun w' (hb : Below w.heap.size w w') => few_any P1 v1 a w' (h1.stay hb) hal (fun m hm => (ham m hm).2)
  have KB := Lib.hid fun w' (hb : Below w.heap.size w w') => few_any P2 v2 b w' (h2.stay hb) hbl (fun m hm => (hbm m hm).2)
  have hgd := good_gd fs
  have hfa := few_len a
  have hfb := few_len b
  have hfea := few_each (fun m hm => (ham m hm).1)
  have hfeb := few_each (fun m hm => (hbm m hm).1)
  obtain ⟨aS, cS, rfl⟩ := h.shape
  obtain ⟨aA, cA, rfl⟩ := h1.shape
  obtain ⟨aB, cB, rfl⟩ := h2.shape
  generalize goodN fs = F at *
  generalize fewM a = A at *
  generalize fewM b = B at *
  clear h h1 h2 hl hfl hal ham hbl hbm
  generalize fs.length = nS at *
  generalize a.length = nA at *
  generalize b.length = nB at *
  have hFz : ∀ f ∈ F, f.2.length ≤ 100000 := fun f hf => by have := hgd.2 f hf; omega
  have hFl := hgd.len
  have hAz : ∀ m ∈ A, m.n.length ≤ 9223372036854775807 ∧ m.v.length ≤ 9223372036854775807 := fun m hm => ⟨(hfea m hm).1, by have := (hfea m hm).2; omega⟩
  have hBz : ∀ m ∈ B, m.n.length ≤ 9223372036854775807 ∧ m.v.length ≤ 9223372036854775807 := fun m hm => ⟨(hfeb m hm).1, by have := (hfeb m hm).2; omega⟩
  have hABz : ∀ m ∈ A ++ B, m.n.length ≤ 9223372036854775807 ∧ m.v.length ≤ 9223372036854775807 := fun m hm => by
    rcases List.mem_append.1 hm with hm | hm
    · exact hAz m hm
    · exact hBz m hm
  clear hgd hfea hfeb hg
  go_enter Tryd.func9, Tryd.ntmps9
  go_wp2_with fail
  refine KL.out.mono ?_
  rintro e w1 ⟨rfl, hB1⟩
  clear KL
  go_wp2_with fail
  refine (KG.out _ hB1).mono ?_
  rintro e w2 ⟨vF, rfl, hF, hb⟩
  clear KG
  have hB2 := hB1.trans (hb.mono hB1.size)
  clear hb
  obtain ⟨aF, cF, rfl⟩ := hF.shape
  go_wp2_with fail
  refine (KA.out _ hB2).mono ?_
  rintro e w3 ⟨vA, rfl, hA0, hb⟩
  clear KA
  have hB3 := hB2.trans (hb.mono hB2.size)
  replace hF := hF.stay hb
  have hA := own_mts hA0
  clear hA0 hb
  obtain ⟨aA2, cA2, rfl⟩ := hA.shape
  go_wp2_with fail
  refine (KB.out _ hB3).mono ?_
  rintro e w4 ⟨vB, rfl, hB0, hb⟩
  clear KB
  have hB4 := hB3.trans (hb.mono hB3.size)
  replace hF := hF.stay hb
  replace hA := hA.stay hb
  have hB := own_mts hB0
  clear hB0 hb hB1 hB2 hB3
  obtain ⟨aB2, cB2, rfl⟩ := hB.shape
  go_upto_region 4 with fail
  go_wp2_with (refine wpList_cat_mt _ _ rfl rfl w4.heap.size _ _ [] A _ rfl rfl (World.ownsRow_nil _ _ _ _) hA (by simp; omega) (Nat.le_refl _) ?_)
  intro v5 w5 hO5 hg5
  have hb5 : Below w4.heap.size w4 w5 := (Below.refl _ _).grown hg5 (Nat.le_refl _) (fun j e => by cases e)
  have hO5b : w5.ownsRow w4.heap.size 31 3 v5 A.length (A.map encM).flatten := hO5
  obtain ⟨a5, c5, rfl, _⟩ := own_slice hO5b
  go_wp2_with (refine wpList_cat_mt _ _ rfl rfl w4.heap.size _ _ A B _ rfl rfl hO5b (hB.stay hb5) (by omega) hb5.size ?_)
  intro v6 w6 hO6 hg6
  have hb6 : Below w4.heap.size w4 w6 := hb5.trans ((Below.refl _ _).grown hg6 hb5.size (fun j e => (hO5b.lt j e).1))
  replace hF := hF.stay hb6
  replace hA := hA.stay hb6
  replace hB := hB.stay hb6
  have hB6 := hB4.trans (hb6.mono hB4.size)
  obtain ⟨a6, c6, rfl, _⟩ := own_slice hO6
  have hAB : MtsAt (fun b => (Value.slice a6 (A.length + B.length) c6).ownBlock = some b) w6 (.slice a6 (A.length + B.length) c6) (A ++ B) := own_mts (e := 31) (base := w4.heap.size) (by rw [List.length_append, List.map_append, List.flatten_append]; exact hO6)
  clear hO5 hg5 hb5 hO5b hg6 hb6 hO6 hB4
  go_wp2_with fail
  have KAB := all_at _ _ _ _ F (A ++ B) w6 hF hAB (by omega) hFz (by rw [List.length_append]; omega) hABz
  rw [allM_app] at KAB
  cases hqA : allM F A with
  | true =>
    rw [hqA] at KAB
    have HAll : Unit → ∀ (i : Nat) m, A[i]? = some m → fineB m = false → False := fun _ i m hm hf => by
      have := allM_bad (fs := F) hm (fits_not hf)
      rw [hqA] at this
      cases this
    generalize hqB : allM F B = q at *
    replace KAB := Lib.hid KAB
    refine KAB.out.mono ?_
    rintro e w7 ⟨rfl, hb7⟩
    clear KAB
    have hB7 := hB6.trans (hb7.mono hB6.size)
    replace hF := hF.stay hb7
    replace hA := hA.stay hb7
    replace hB := hB.stay hb7
    have KAA := all_at _ _ _ _ F A w7 hF hA (by omega) hFz (by omega) hAz
    rw [hqA] at KAA
    replace KAA := Lib.hid KAA
    clear hAB hb7 hB6
    go_wp2_with fail
    refine KAA.out.mono ?_
    rintro e w8 ⟨rfl, hb8⟩
    clear KAA
    have hB8 := hB7.trans (hb8.mono hB7.size)
    replace hF := hF.stay hb8
    replace hA := hA.stay hb8
    replace hB := hB.stay hb8
    have KBB := all_at _ _ _ _ F B w8 hF hB (by omega) hFz (by omega) hBz
    rw [hqB] at KBB
    replace KBB := Lib.hid KBB
    clear hb8 hB7
    cases q with
    | true =>
      go_wp2_with fail
      refine KBB.out.mono ?_
      rintro e wb ⟨rfl, hbb⟩
      clear KBB
      have hBb := hB8.trans (hbb.mono hB8.size)
      replace hF := hF.stay hbb
      replace hA := hA.stay hbb
      have KN := all_at _ (fun _ => True) _ (.slice none 0 0) F [] wb hF (RowsAt.nil 3 _ wb none 0) (by omega) hFz (by simp) (by simp)
      rw [allM_nil] at KN
      replace KN := Lib.hid KN
      clear hbb hB8 hB
      go_wp2_with fail
      refine KN.out.mono ?_
      rintro e w9 ⟨rfl, hb9⟩
      clear KN
      have hB9 := hBb.trans (hb9.mono hBb.size)
      replace hF := hF.stay hb9
      replace hA := hA.stay hb9
      clear hb9 hBb
      go_wp2_with fail
      go_upto_region 8 with fail
      go_loopw [8] (fun u8 wr => ∃ i : Nat, i ≤ A.length ∧ u8 = .int .i64 (i : Int) ∧ Below w9.heap.size w9 wr ∧ Below w.heap.size w wr) (fun u8 _ => A.length - (intOf u8).toNat)
      case atStart => exact ⟨0, Nat.zero_le _, rfl, Below.refl _ _, hB9⟩
      case round =>
        obtain ⟨i, hi, rfl, hbr, hBr⟩ := hrel
        by_cases hlt : i < A.length
        · have hki : (i : Int) < (A.length : Int) := by omega
          obtain ⟨m, hm⟩ : ∃ m, A[i]? = some m := ⟨_, List.getElem?_eq_getElem hlt⟩
          have hmz := hAz m (List.mem_of_getElem? hm)
          have KM := Lib.hid fun w => fine_any m w hmz.1 hmz.2
          obtain ⟨g, o, eA, _, _, c0, c1, c2⟩ := (hA.stay hbr).part hm
          subst eA
          cases hf : fineB m with
          | true =>
            rw [hf] at KM
            clear hf
            go_wp2_with fail
            refine (KM.out _).mono ?_
            rintro e w10 ⟨rfl, hb10⟩
            have hB10 := hBr.trans (hb10.mono hBr.size)
            go_wp2_with fail
            go_roundw
            case rel => exact ⟨i + 1, by omega, by go_num, hbr.trans (hb10.mono hbr.size), hB10⟩
            case measure => simp [intOf]; omega
          | false =>
            exact False.elim (HAll () i m hm hf)
        · have hki : ¬ (i : Int) < (A.length : Int) := by omega
          go_wp2_with fail
          go_ret
          exact ⟨rfl, hBr⟩
    | false =>
      go_wp2_with fail
      refine KBB.out.mono ?_
      rintro e wb ⟨rfl, hbb⟩
      clear KBB
      have hBb := hB8.trans (hbb.mono hB8.size)
      replace hF := hF.stay hbb
      replace hA := hA.stay hbb
      have KN := all_at _ (fun _ => True) _ (.slice none 0 0) F [] wb hF (RowsAt.nil 3 _ wb none 0) (by omega) hFz (by simp) (by simp)
      rw [allM_nil] at KN
      replace KN := Lib.hid KN
      clear hbb hB8 hB
      go_wp2_with fail
      refine KN.out.mono ?_
      rintro e w9 ⟨rfl, hb9⟩
      clear KN
      have hB9 := hBb.trans (hb9.mono hBb.size)
      replace hF := hF.stay hb9
      replace hA := hA.stay hb9
      clear hb9 hBb
      go_wp2_with fail
      go_upto_region 8 with fail
      go_loopw [8] (fun u8 wr => ∃ i : Nat, i ≤ A.length ∧ u8 = .int .i64 (i : Int) ∧ Below w9.heap.size w9 wr ∧ Below w.heap.size w wr) (fun u8 _ => A.length - (intOf u8).toNat)
      case atStart => exact ⟨0, Nat.zero_le _, rfl, Below.refl _ _, hB9⟩
      case round =>
        obtain ⟨i, hi, rfl, hbr, hBr⟩ := hrel
        by_cases hlt : i < A.length
        · have hki : (i : Int) < (A.length : Int) := by omega
          obtain ⟨m, hm⟩ : ∃ m, A[i]? = some m := ⟨_, List.getElem?_eq_getElem hlt⟩
          have hmz := hAz m (List.mem_of_getElem? hm)
          have KM := Lib.hid fun w => fine_any m w hmz.1 hmz.2
          obtain ⟨g, o, eA, _, _, c0, c1, c2⟩ := (hA.stay hbr).part hm
          subst eA
          cases hf : fineB m with
          | true =>
            rw [hf] at KM
            clear hf
            go_wp2_with fail
            refine (KM.out _).mono ?_
            rintro e w10 ⟨rfl, hb10⟩
            have hB10 := hBr.trans (hb10.mono hBr.size)
            go_wp2_with fail
            go_roundw
            case rel => exact ⟨i + 1, by omega, by go_num, hbr.trans (hb10.mono hbr.size), hB10⟩
            case measure => simp [intOf]; omega
          | false =>
            exact False.elim (HAll () i m hm hf)
        · have hki : ¬ (i : Int) < (A.length : Int) := by omega
          go_wp2_with fail
          go_ret
          exact ⟨rfl, hBr⟩
  | false =>
    rw [hqA] at KAB
    simp only [Bool.false_and] at KAB
    replace KAB := Lib.hid KAB
    refine KAB.out.mono ?_
    rintro e w7 ⟨rfl, hb7⟩
    clear KAB
    have hB7 := hB6.trans (hb7.mono hB6.size)
    replace hF := hF.stay hb7
    replace hA := hA.stay hb7
    have KAA := all_at _ _ _ _ F A w7 hF hA (by omega) hFz (by omega) hAz
    rw [hqA] at KAA
    replace KAA := Lib.hid KAA
    clear hAB hb7 hB6 hB
    go_wp2_with fail
    refine KAA.out.mono ?_
    rintro e w8 ⟨rfl, hb8⟩
    clear KAA
    have hB8 := hB7.trans (hb8.mono hB7.size)
    replace hF := hF.stay hb8
    replace hA := hA.stay hb8
    have KN := all_at _ (fun _ => True) _ (.slice none 0 0) F [] w8 hF (RowsAt.nil 3 _ w8 none 0) (by omega) hFz (by simp) (by simp)
    rw [allM_nil] at KN
    replace KN := Lib.hid KN
    clear hb8 hB7
    go_wp2_with fail
    refine KN.out.mono ?_
    rintro e w9 ⟨rfl, hb9⟩
    clear KN
    have hB9 := hB8.trans (hb9.mono hB8.size)
    replace hF := hF.stay hb9
    replace hA := hA.stay hb9
    clear hb9 hB8
    go_wp2_with fail
    go_upto_region 8 with fail
    go_loopw [8] (fun u8 wr => ∃ i : Nat, i ≤ A.length ∧ u8 = .int .i64 (i : Int) ∧ Below w9.heap.size w9 wr ∧ Below w.heap.size w wr) (fun u8 _ => A.length - (intOf u8).toNat)
    case atStart => exact ⟨0, Nat.zero_le _, rfl, Below.refl _ _, hB9⟩
    case round =>
      obtain ⟨i, hi, rfl, hbr, hBr⟩ := hrel
      by_cases hlt : i < A.length
      · have hki : (i : Int) < (A.length : Int) := by omega
        obtain ⟨m, hm⟩ : ∃ m, A[i]? = some m := ⟨_, List.getElem?_eq_getElem hlt⟩
        have hmz := hAz m (List.mem_of_getElem? hm)
        have KM := Lib.hid fun w => fine_any m w hmz.1 hmz.2
        obtain ⟨g, o, eA, _, _, c0, c1, c2⟩ := (hA.stay hbr).part hm
        subst eA
        cases hf : fineB m with
        | true =>
          rw [hf] at KM
          clear hf
          go_wp2_with fail
          refine (KM.out _).mono ?_
          rintro e w10 ⟨rfl, hb10⟩
          have hB10 := hBr.trans (hb10.mono hBr.size)
          go_wp2_with fail
          go_roundw
          case rel => exact ⟨i + 1, by omega, by go_num, hbr.trans (hb10.mono hbr.size), hB10⟩
          case measure => simp [intOf]; omega
        | false =>
          rw [hf] at KM
          clear hf
          go_wp2_with fail
          refine (KM.out _).mono ?_
          rintro e w10 ⟨rfl, hb10⟩
          have hB10 := hBr.trans (hb10.mono hBr.size)
          have K10 := all_at _ _ _ _ F A w10 ((hF.stay hbr).stay hb10) ((hA.stay hbr).stay hb10) (by omega) hFz (by omega) hAz
          rw [hqA] at K10
          replace K10 := Lib.hid K10
          go_wp2_with fail
          refine K10.out.mono ?_
          rintro e w11 ⟨rfl, hb11⟩
          have hB11 := hB10.trans (hb11.mono hB10.size)
          go_wp2_with fail
          go_roundw
          case rel => exact ⟨i + 1, by omega, by go_num, (hbr.trans (hb10.mono hbr.size)).trans (hb11.mono (by have := hbr.size; have := hb10.size; omega)), hB11⟩
          case measure => simp [intOf]; omega
      · have hki : ¬ (i : Int) < (A.length : Int) := by omega
        go_wp2_with fail
        go_ret
        exact ⟨rfl, hBr⟩
end Go.Proofs.YteooofakpkbgoaaDoor
