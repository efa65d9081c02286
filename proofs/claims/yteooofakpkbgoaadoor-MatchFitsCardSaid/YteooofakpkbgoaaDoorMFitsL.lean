/- MatchFits returns true. -/
import Derived.Test.YteooofakpkbgoaaDoorMDG
import Derived.Test.YteooofakpkbgoaaDoorMGoods
import Derived.Test.YteooofakpkbgoaaDoorMFew
namespace Go.Proofs.YteooofakpkbgoaaDoor
open Go.ChangeShapes Go.WideShapes Go.RowKit

set_option maxHeartbeats 12800000 in
set_option maxRecDepth 100000 in
theorem fits_law (P P1 : Nat → Prop) (v v1 : Value) (fs : List (Bs × Bs)) (a : List Mt) (w : World) (h : FldsAt P w v fs) (h1 : MtsAt P1 w v1 a) (hl : fs.length ≤ 9223372036854775807) (hfl : ∀ f ∈ fs, f.1.length ≤ 9223372036854775807 ∧ f.2.length ≤ 9223372036854775807)
    (hal : a.length ≤ 9223372036854775807) (ham : ∀ m ∈ a, m.n.length ≤ 9223372036854775807 ∧ m.v.length ≤ 9223372036854775807) (hg : SgAt w) :
    Calls Tryd.prog 4 #[v, v1] w fun e w' => e = .returned (.bool true) ∧ Below w.heap.size w w' := by
  have KL := Lib.hid (lives_any w hg)
  have KG := Lib.hid fun w' (hb : Below w.heap.size w w') => good_any P v fs w' (h.stay hb) hl hfl
  have KA := Lib.hid fun w' (hb : Below w.heap.size w w') => few_any P1 v1 a w' (h1.stay hb) hal (fun m hm => (ham m hm).2)
  have hgd := good_gd fs
  have hfa := few_len a
  have hfea := few_each (fun m hm => (ham m hm).1)
  obtain ⟨aS, cS, rfl⟩ := h.shape
  obtain ⟨aA, cA, rfl⟩ := h1.shape
  generalize goodN fs = F at *
  generalize fewM a = A at *
  clear h h1 hl hfl hal ham
  generalize fs.length = nS at *
  generalize a.length = nA at *
  have hFz : ∀ f ∈ F, f.2.length ≤ 1000 := fun f hf => by have := hgd.2 f hf; omega
  have hFz2 : ∀ f ∈ F, f.2.length ≤ 100000 := fun f hf => by have := hgd.2 f hf; omega
  have hFl := hgd.len
  have hAz : ∀ m ∈ A, m.n.length ≤ 9223372036854775807 ∧ m.v.length ≤ 9223372036854775807 := fun m hm => ⟨(hfea m hm).1, by have := (hfea m hm).2; omega⟩
  clear hgd hfea hg
  have HAZ : Unit → ∀ m ∈ A, m.n.length ≤ 9223372036854775807 ∧ m.v.length ≤ 9223372036854775807 := fun _ => hAz
  have HFZ : Unit → (∀ f ∈ F, f.2.length ≤ 1000) ∧ ∀ f ∈ F, f.2.length ≤ 100000 := fun _ => ⟨hFz, hFz2⟩
  clear hAz hFz hFz2
  go_enter Tryd.func4, Tryd.ntmps4
  go_wp2_with fail
  refine KL.out.mono ?_
  rintro e w1 ⟨rfl, hB1⟩
  clear KL
  go_wp2_with fail
  refine (KG.out _ hB1).mono ?_
  rintro e w2 ⟨vF, rfl, hF, hb⟩
  clear KG
  have hB2 := hB1.trans (hb.mono hB1.size)
  clear hb
  obtain ⟨aF, cF, rfl⟩ := hF.shape
  go_wp2_with fail
  refine (KA.out _ hB2).mono ?_
  rintro e w3 ⟨vA, rfl, hA0, hb⟩
  clear KA
  have hB3 := hB2.trans (hb.mono hB2.size)
  replace hF := hF.stay hb
  have hA := own_mts hA0
  clear hA0 hb hB1 hB2
  obtain ⟨aA2, cA2, rfl⟩ := hA.shape
  go_wp2_with fail
  go_loopw [5] (fun iv wr => ∃ i : Nat, i ≤ A.length ∧ iv = .int .i64 (i : Int) ∧ Below w.heap.size w wr ∧ Below w3.heap.size w3 wr) (fun iv _ => A.length - (intOf iv).toNat)
  case atStart => exact ⟨0, by omega, rfl, hB3, Below.refl _ _⟩
  case round =>
    clear hB3
    obtain ⟨i, hi, rfl, hBr, hBr3⟩ := hrel
    have hFr := hF.stay hBr3
    have hAr := hA.stay hBr3
    by_cases hlt : i < A.length
    · have hii : (i : Int) < (A.length : Int) := by omega
      obtain ⟨m, hm⟩ : ∃ m, A[i]? = some m := ⟨_, List.getElem?_eq_getElem hlt⟩
      have hmz := HAZ () m (List.mem_of_getElem? hm)
      obtain ⟨g, o, rfl, _, hgl, c0, c1, c2⟩ := hAr.part hm
      have KF := Lib.hid fun w' (hb : Below wr.heap.size wr w') => fits_at _ _ F m w' (hFr.stay hb) (by omega) (valueF_len (HFZ ()).2 m.n) hmz.1 hmz.2
      have KR := Lib.hid fun w' (hb : Below wr.heap.size wr w') => rfits_at _ _ F m w' (hFr.stay hb) (by omega) (valueF_len (HFZ ()).1 m.n) hmz.1 hmz.2
      have KV := Lib.hid fun w' (hb : Below wr.heap.size wr w') => value_any _ _ F m.n w' (hFr.stay hb) (by omega)
      have KW := Lib.hid fun w' (hb : Below wr.heap.size wr w') => rvalue_any _ _ F m.n w' (hFr.stay hb) (by omega)
      clear hm
      generalize fitsB F m = d at *
      obtain ⟨mn, mo, mv⟩ := m
      simp only at *
      replace c2 : wr.cell? ⟨g, o + i * 3 + 1 + 1, none⟩ = some (.string ⟨mv.toArray⟩) := c2
      generalize valueF F mn = V at *
      generalize (⟨mn.toArray⟩ : ByteArray) = TN at *
      generalize (⟨mv.toArray⟩ : ByteArray) = TX at *
      generalize (⟨V.toArray⟩ : ByteArray) = TV at *
      go_upto_region 7 with fail
      refine wp_region_held (S := fun w' => Below wr.heap.size wr w') (by kernel_rfl) ?_
      have hS : Below wr.heap.size wr { wr with drawn := wr.drawn + 1 } := (Below.refl _ _).drew
      generalize { wr with drawn := wr.drawn + 1 } = D1 at *
      refine held_val 0 rfl (by kernel_rfl) (by kernel_rfl) (by kernel_rfl) (fun _ _ _ _ h => h) (by rfl) hS ?_
      apply Exists.intro
      refine ⟨fun w' hw' => ?_, ?_⟩
      · skip
        go_simp
        first | done | rfl | exact ⟨rfl, rfl⟩
      simp only [Act.put, List.setIfInBounds_toArray, List.set_cons_zero, List.set_cons_succ]
      refine held_val 1 rfl (by kernel_rfl) (by kernel_rfl) (by kernel_rfl) (fun _ _ _ _ h => h) (by rfl) hS ?_
      apply Exists.intro
      refine ⟨fun w' hw' => ?_, ?_⟩
      · skip
        go_simp
        first | done | rfl | exact ⟨rfl, rfl⟩
      simp only [Act.put, List.setIfInBounds_toArray, List.set_cons_zero, List.set_cons_succ]
      refine held_val 2 rfl (by kernel_rfl) (by kernel_rfl) (by kernel_rfl) (fun _ _ _ _ h => h) (by rfl) hS ?_
      apply Exists.intro
      refine ⟨fun w' hw' => ?_, ?_⟩
      · skip
        go_simp
        first | done | rfl | exact ⟨rfl, rfl⟩
      simp only [Act.put, List.setIfInBounds_toArray, List.set_cons_zero, List.set_cons_succ]
      refine held_val 3 rfl (by kernel_rfl) (by kernel_rfl) (by kernel_rfl) (fun _ _ _ _ h => h) (by rfl) hS ?_
      apply Exists.intro
      refine ⟨fun w' hw' => ?_, ?_⟩
      · skip
        go_simp
        first | done | rfl | exact ⟨rfl, rfl⟩
      simp only [Act.put, List.setIfInBounds_toArray, List.set_cons_zero, List.set_cons_succ]
      refine held_val 4 rfl (by kernel_rfl) (by kernel_rfl) (by kernel_rfl) (fun _ _ _ _ h => h) (by rfl) hS ?_
      apply Exists.intro
      refine ⟨fun w' hw' => ?_, ?_⟩
      · have e0 : w'.cell? ⟨g, o + i * 3, none⟩ = some (.string TN) := (hw'.cell (p := ⟨g, o + i * 3, none⟩) hgl).trans c0; have e1 : w'.cell? ⟨g, o + i * 3 + 1, none⟩ = some (.int .i64 mo) := (hw'.cell (p := ⟨g, o + i * 3 + 1, none⟩) hgl).trans c1; have e2 : w'.cell? ⟨g, o + i * 3 + 1 + 1, none⟩ = some (.string TX) := (hw'.cell (p := ⟨g, o + i * 3 + 1 + 1, none⟩) hgl).trans c2
        go_simp
        first | done | rfl | exact ⟨rfl, rfl⟩
      simp only [Act.put, List.setIfInBounds_toArray, List.set_cons_zero, List.set_cons_succ]
      refine held_val 6 rfl (by kernel_rfl) (by kernel_rfl) (by kernel_rfl) (fun _ _ _ _ h => h) (by rfl) hS ?_
      apply Exists.intro
      refine ⟨fun w' hw' => ?_, ?_⟩
      · skip
        go_simp
        first | done | rfl | exact ⟨rfl, rfl⟩
      simp only [Act.put, List.setIfInBounds_toArray, List.set_cons_zero, List.set_cons_succ]
      refine held_val 7 rfl (by kernel_rfl) (by kernel_rfl) (by kernel_rfl) (fun _ _ _ _ h => h) (by rfl) hS ?_
      apply Exists.intro
      refine ⟨fun w' hw' => ?_, ?_⟩
      · skip
        go_simp
        first | done | rfl | exact ⟨rfl, rfl⟩
      simp only [Act.put, List.setIfInBounds_toArray, List.set_cons_zero, List.set_cons_succ]
      refine held_val 8 rfl (by kernel_rfl) (by kernel_rfl) (by kernel_rfl) (fun _ _ _ _ h => h) (by rfl) hS ?_
      apply Exists.intro
      refine ⟨fun w' hw' => ?_, ?_⟩
      · skip
        go_simp
        first | done | rfl | exact ⟨rfl, rfl⟩
      simp only [Act.put, List.setIfInBounds_toArray, List.set_cons_zero, List.set_cons_succ]
      refine held_val 9 rfl (by kernel_rfl) (by kernel_rfl) (by kernel_rfl) (fun _ _ _ _ h => h) (by rfl) hS ?_
      apply Exists.intro
      refine ⟨fun w' hw' => ?_, ?_⟩
      · skip
        go_simp
        first | done | rfl | exact ⟨rfl, rfl⟩
      simp only [Act.put, List.setIfInBounds_toArray, List.set_cons_zero, List.set_cons_succ]
      refine held_val 10 rfl (by kernel_rfl) (by kernel_rfl) (by kernel_rfl) (fun _ _ _ _ h => h) (by rfl) hS ?_
      apply Exists.intro
      refine ⟨fun w' hw' => ?_, ?_⟩
      · have e0 : w'.cell? ⟨g, o + i * 3, none⟩ = some (.string TN) := (hw'.cell (p := ⟨g, o + i * 3, none⟩) hgl).trans c0; have e1 : w'.cell? ⟨g, o + i * 3 + 1, none⟩ = some (.int .i64 mo) := (hw'.cell (p := ⟨g, o + i * 3 + 1, none⟩) hgl).trans c1; have e2 : w'.cell? ⟨g, o + i * 3 + 1 + 1, none⟩ = some (.string TX) := (hw'.cell (p := ⟨g, o + i * 3 + 1 + 1, none⟩) hgl).trans c2
        go_simp
        first | done | rfl | exact ⟨rfl, rfl⟩
      simp only [Act.put, List.setIfInBounds_toArray, List.set_cons_zero, List.set_cons_succ]
      refine held_call 5 (by kernel_rfl) rfl (by rfl) ?_
      apply Exists.intro
      apply Exists.intro
      refine ⟨?_, ?_⟩
      · go_simp
        first | done | rfl | exact ⟨rfl, rfl⟩
      refine (KF.out _ hS).mono ?_
      rintro e w5 ⟨rfl, hb5⟩
      have hS5 := hS.trans (hb5.mono hS.size)
      refine ⟨_, rfl, hS5, ?_⟩
      simp only [Act.put, List.setIfInBounds_toArray, List.set_cons_zero, List.set_cons_succ]
      replace hS := hS5
      clear hb5 hS5
      refine held_call 11 (by kernel_rfl) rfl (by rfl) ?_
      apply Exists.intro
      apply Exists.intro
      refine ⟨?_, ?_⟩
      · go_simp
        first | done | rfl | exact ⟨rfl, rfl⟩
      refine (KR.out _ hS).mono ?_
      rintro e w6 ⟨rfl, hb6⟩
      have hS6 := hS.trans (hb6.mono hS.size)
      refine ⟨_, rfl, hS6, ?_⟩
      simp only [Act.put, List.setIfInBounds_toArray, List.set_cons_zero, List.set_cons_succ]
      replace hS := hS6
      clear hb6 hS6
      refine held_val 12 rfl (by kernel_rfl) (by kernel_rfl) (by kernel_rfl) (fun _ _ _ _ h => h) (by rfl) hS ?_
      apply Exists.intro
      refine ⟨fun w' hw' => ?_, ?_⟩
      · skip
        go_simp
        first | done | rfl | exact ⟨rfl, rfl⟩
      simp only [Act.put, List.setIfInBounds_toArray, List.set_cons_zero, List.set_cons_succ]
      refine held_val 13 rfl (by kernel_rfl) (by kernel_rfl) (by kernel_rfl) (fun _ _ _ _ h => h) (by rfl) hS ?_
      apply Exists.intro
      refine ⟨fun w' hw' => ?_, ?_⟩
      · skip
        go_simp
        first | done | rfl | exact ⟨rfl, rfl⟩
      simp only [Act.put, List.setIfInBounds_toArray, List.set_cons_zero, List.set_cons_succ]
      refine held_val 14 rfl (by kernel_rfl) (by kernel_rfl) (by kernel_rfl) (fun _ _ _ _ h => h) (by rfl) hS ?_
      apply Exists.intro
      refine ⟨fun w' hw' => ?_, ?_⟩
      · skip
        go_simp
        first | done | rfl | exact ⟨rfl, rfl⟩
      simp only [Act.put, List.setIfInBounds_toArray, List.set_cons_zero, List.set_cons_succ]
      refine held_val 15 rfl (by kernel_rfl) (by kernel_rfl) (by kernel_rfl) (fun _ _ _ _ h => h) (by rfl) hS ?_
      apply Exists.intro
      refine ⟨fun w' hw' => ?_, ?_⟩
      · skip
        go_simp
        first | done | rfl | exact ⟨rfl, rfl⟩
      simp only [Act.put, List.setIfInBounds_toArray, List.set_cons_zero, List.set_cons_succ]
      refine held_val 16 rfl (by kernel_rfl) (by kernel_rfl) (by kernel_rfl) (fun _ _ _ _ h => h) (by rfl) hS ?_
      apply Exists.intro
      refine ⟨fun w' hw' => ?_, ?_⟩
      · skip
        go_simp
        first | done | rfl | exact ⟨rfl, rfl⟩
      simp only [Act.put, List.setIfInBounds_toArray, List.set_cons_zero, List.set_cons_succ]
      refine held_val 17 rfl (by kernel_rfl) (by kernel_rfl) (by kernel_rfl) (fun _ _ _ _ h => h) (by rfl) hS ?_
      apply Exists.intro
      refine ⟨fun w' hw' => ?_, ?_⟩
      · skip
        go_simp
        first | done | rfl | exact ⟨rfl, rfl⟩
      simp only [Act.put, List.setIfInBounds_toArray, List.set_cons_zero, List.set_cons_succ]
      refine held_val 18 rfl (by kernel_rfl) (by kernel_rfl) (by kernel_rfl) (fun _ _ _ _ h => h) (by rfl) hS ?_
      apply Exists.intro
      refine ⟨fun w' hw' => ?_, ?_⟩
      · skip
        go_simp
        first | done | rfl | exact ⟨rfl, rfl⟩
      simp only [Act.put, List.setIfInBounds_toArray, List.set_cons_zero, List.set_cons_succ]
      refine held_val 19 rfl (by kernel_rfl) (by kernel_rfl) (by kernel_rfl) (fun _ _ _ _ h => h) (by rfl) hS ?_
      apply Exists.intro
      refine ⟨fun w' hw' => ?_, ?_⟩
      · have e0 : w'.cell? ⟨g, o + i * 3, none⟩ = some (.string TN) := (hw'.cell (p := ⟨g, o + i * 3, none⟩) hgl).trans c0
        go_simp
        first | done | rfl | exact ⟨rfl, rfl⟩
      simp only [Act.put, List.setIfInBounds_toArray, List.set_cons_zero, List.set_cons_succ]
      refine held_val 21 rfl (by kernel_rfl) (by kernel_rfl) (by kernel_rfl) (fun _ _ _ _ h => h) (by rfl) hS ?_
      apply Exists.intro
      refine ⟨fun w' hw' => ?_, ?_⟩
      · skip
        go_simp
        first | done | rfl | exact ⟨rfl, rfl⟩
      simp only [Act.put, List.setIfInBounds_toArray, List.set_cons_zero, List.set_cons_succ]
      refine held_val 22 rfl (by kernel_rfl) (by kernel_rfl) (by kernel_rfl) (fun _ _ _ _ h => h) (by rfl) hS ?_
      apply Exists.intro
      refine ⟨fun w' hw' => ?_, ?_⟩
      · skip
        go_simp
        first | done | rfl | exact ⟨rfl, rfl⟩
      simp only [Act.put, List.setIfInBounds_toArray, List.set_cons_zero, List.set_cons_succ]
      refine held_val 23 rfl (by kernel_rfl) (by kernel_rfl) (by kernel_rfl) (fun _ _ _ _ h => h) (by rfl) hS ?_
      apply Exists.intro
      refine ⟨fun w' hw' => ?_, ?_⟩
      · skip
        go_simp
        first | done | rfl | exact ⟨rfl, rfl⟩
      simp only [Act.put, List.setIfInBounds_toArray, List.set_cons_zero, List.set_cons_succ]
      refine held_val 24 rfl (by kernel_rfl) (by kernel_rfl) (by kernel_rfl) (fun _ _ _ _ h => h) (by rfl) hS ?_
      apply Exists.intro
      refine ⟨fun w' hw' => ?_, ?_⟩
      · skip
        go_simp
        first | done | rfl | exact ⟨rfl, rfl⟩
      simp only [Act.put, List.setIfInBounds_toArray, List.set_cons_zero, List.set_cons_succ]
      refine held_val 25 rfl (by kernel_rfl) (by kernel_rfl) (by kernel_rfl) (fun _ _ _ _ h => h) (by rfl) hS ?_
      apply Exists.intro
      refine ⟨fun w' hw' => ?_, ?_⟩
      · skip
        go_simp
        first | done | rfl | exact ⟨rfl, rfl⟩
      simp only [Act.put, List.setIfInBounds_toArray, List.set_cons_zero, List.set_cons_succ]
      refine held_val 26 rfl (by kernel_rfl) (by kernel_rfl) (by kernel_rfl) (fun _ _ _ _ h => h) (by rfl) hS ?_
      apply Exists.intro
      refine ⟨fun w' hw' => ?_, ?_⟩
      · have e0 : w'.cell? ⟨g, o + i * 3, none⟩ = some (.string TN) := (hw'.cell (p := ⟨g, o + i * 3, none⟩) hgl).trans c0
        go_simp
        first | done | rfl | exact ⟨rfl, rfl⟩
      simp only [Act.put, List.setIfInBounds_toArray, List.set_cons_zero, List.set_cons_succ]
      refine held_call 20 (by kernel_rfl) rfl (by rfl) ?_
      apply Exists.intro
      apply Exists.intro
      refine ⟨?_, ?_⟩
      · go_simp
        first | done | rfl | exact ⟨rfl, rfl⟩
      refine (KV.out _ hS).mono ?_
      rintro e w7 ⟨rfl, hb7⟩
      have hS7 := hS.trans (hb7.mono hS.size)
      refine ⟨_, rfl, hS7, ?_⟩
      simp only [Act.put, List.setIfInBounds_toArray, List.set_cons_zero, List.set_cons_succ]
      replace hS := hS7
      clear hb7 hS7
      refine held_call 27 (by kernel_rfl) rfl (by rfl) ?_
      apply Exists.intro
      apply Exists.intro
      refine ⟨?_, ?_⟩
      · go_simp
        first | done | rfl | exact ⟨rfl, rfl⟩
      refine (KW.out _ hS).mono ?_
      rintro e w8 ⟨rfl, hb8⟩
      have hS8 := hS.trans (hb8.mono hS.size)
      refine ⟨_, rfl, hS8, ?_⟩
      simp only [Act.put, List.setIfInBounds_toArray, List.set_cons_zero, List.set_cons_succ]
      replace hS := hS8
      clear hb8 hS8
      refine held_val 28 rfl (by kernel_rfl) (by kernel_rfl) (by kernel_rfl) (fun _ _ _ _ h => h) (by rfl) hS ?_
      apply Exists.intro
      refine ⟨fun w' hw' => ?_, ?_⟩
      · skip
        go_simp
        first | done | rfl | exact ⟨rfl, rfl⟩
      simp only [Act.put, List.setIfInBounds_toArray, List.set_cons_zero, List.set_cons_succ]
      refine held_val 29 rfl (by kernel_rfl) (by kernel_rfl) (by kernel_rfl) (fun _ _ _ _ h => h) (by rfl) hS ?_
      apply Exists.intro
      refine ⟨fun w' hw' => ?_, ?_⟩
      · skip
        go_simp
        first | done | rfl | exact ⟨rfl, rfl⟩
      simp only [Act.put, List.setIfInBounds_toArray, List.set_cons_zero, List.set_cons_succ]
      refine wpAnyH_done (by kernel_rfl) ?_ _
      have hB8 := hBr.trans (hS.mono hBr.size)
      have hB83 := hBr3.trans (hS.mono hBr3.size)
      go_wp2_with fail
      go_roundw
      case rel => exact ⟨i + 1, by omega, by go_num, hB8, hB83⟩
      case measure => simp [intOf]; omega
    · have hii : ¬ (i : Int) < (A.length : Int) := by omega
      have KP := Lib.hid fun w' (hb : Below wr.heap.size wr w') => all_at _ _ _ _ F A w' (hFr.stay hb) (hAr.stay hb) (by omega) (HFZ ()).2 (by omega) (HAZ ())
      have KQ := Lib.hid fun w' (hb : Below wr.heap.size wr w') => rall_at _ _ _ _ F A w' (hFr.stay hb) (hAr.stay hb) (by omega) (HFZ ()).1 (by omega) (HAZ ())
      generalize allM F A = q at *
      go_wp2_with fail
      refine (KP.out _ (Below.refl _ _)).mono ?_
      rintro e w5 ⟨rfl, hb5⟩
      go_wp2_with fail
      refine (KQ.out _ hb5).mono ?_
      rintro e w6 ⟨rfl, hb6⟩
      have hB6 := hBr.trans ((hb5.trans (hb6.mono hb5.size)).mono hBr.size)
      go_wp2_with fail
      go_ret
      exact ⟨by first | rfl | simp, hB6⟩
end Go.Proofs.YteooofakpkbgoaaDoor
