/- PatternLeast returns true, whatever the pattern and the texts. -/
import Derived.Test.YtakkcofmbafneaaPNil
import Derived.Test.YtakkcofmbafneaaPStrs
namespace Go.Proofs.Ytakkcofmbafneaa
open Go.ChangeShapes Go.WideShapes Go.RowKit

theorem le_len {u t : Bx} (h : le u t) : ¬ t.length < u.length ∧ (t.length = u.length → Op.bytesLess t u = false) := by
  unfold le cf at h
  simp only [Bool.or_eq_false_iff, decide_eq_false_iff_not, Bool.and_eq_false_iff] at h
  exact ⟨h.1, fun e => h.2.elim (fun h => absurd e h) id⟩
set_option maxHeartbeats 6400000 in
theorem leastlaw_any (P : Nat → Prop) (v : Value) (p : Bs) (ss : List Bs) (w : World) (hp : p.length ≤ 9223372036854775807) (hv : StrsAt P w v ss) (hss : ∀ s ∈ ss, s.length ≤ 9223372036854775807) :
    Calls Try.prog 4 #[.string ⟨p.toArray⟩, v] w fun e w' => e = .returned (.bool true) ∧ Below w.heap.size w w' := by
  have hsz : (⟨p.toArray⟩ : ByteArray).size = p.length := by simp [ByteArray.size]
  have ht := cut_min p 60 60 rfl
  have KL := Lib.hid fun w => lives_any w
  have hQl : (p.take 60).length ≤ 60 := by rw [List.length_take]; omega
  have hle : (p.length : Int) ≤ 9223372036854775807 := by omega
  obtain ⟨Q, hQ⟩ : ∃ Q, p.take 60 = Q := ⟨_, rfl⟩
  simp only [hQ] at ht hQl
  have KR := fun w => read_any Q w (by omega)
  obtain ⟨aL, cL, rfl⟩ := hv.shape
  have HV : Unit → ∀ w', Below w.heap.size w w' → StrsAt P w' (.slice aL ss.length cL) ss := fun _ w' h => hv.stay h
  have KE := fun (s : Bs) (h : s ∈ ss) w => early_any s w (hss s h)
  have HE : Unit → ∀ s, s ∈ ss → ∀ w, Calls Try.prog 14 #[.string ⟨s.toArray⟩] w fun e w' => e = .returned (.string ⟨(s.take 60).toArray⟩) ∧ w' = w := fun _ => KE
  generalize (⟨p.toArray⟩ : ByteArray) = T at *
  generalize (⟨Q.toArray⟩ : ByteArray) = TQ at *
  clear hQ hQl hp KE hv hss
  go_enter Try.func4, Try.ntmps4
  go_wp2_with fail
  refine (KL.out _).mono ?_
  rintro e w1 ⟨rfl, hB1⟩
  clear KL
  cases hm : patM Q with
  | none =>
    obtain ⟨h1, h2⟩ := errM_none hm
    have KR' := KR w1
    unfold ReadQ at KR'
    rw [hm] at KR'
    replace KR' := Lib.hid KR'
    clear KR hm HV HE
    go_wp2_with fail
    refine KR'.out.mono ?_
    rintro e w6 ⟨hB6, rfl⟩
    have hB7 := hB1.trans (hB6.mono hB1.size)
    clear KR' hB1 hB6
    go_wp2_with fail
    go_ret
    exact ⟨rfl, hB7⟩
  | some a =>
    have hok := (patM_ok hm).1
    have hln := (patM_ok hm).2.1
    have KR' := KR w1
    unfold ReadQ at KR'
    rw [hm] at KR'
    replace KR' := Lib.hid KR'
    clear KR hm
    go_wp2_with fail
    refine KR'.out.mono ?_
    rintro e w2 ⟨hb, G, V, F, rfl, _, hP⟩
    have hB2 := hB1.trans (hb.mono hB1.size)
    clear KR' hB1 hb
    have K2 := Lib.hid (least_meth hok hln w2 hP)
    go_wp2_with fail
    refine K2.out.mono ?_
    rintro e w3 ⟨⟨o, rfl, ho, hbd⟩, hb⟩
    have hP3 := hP.stay hb
    have hB3 := hB2.trans (hb.mono hB2.size)
    clear K2 hB2 hb hP
    have KF : ∀ (s : Bs) (h : s.length ≤ 200) w', Below w3.heap.size w3 w' → _ := fun s h w' hb => fits_meth hok hln s w' (hP3.stay hb) (by omega)
    have HKF : Unit → _ := fun _ => KF
    clear hP3
    cases o with
    | none =>
      have HO : Unit → ∀ s, ¬ langA a s := fun _ => ho
      have K4 := Lib.hid (KF [] (by simp) w3 (Below.refl _ _))
      simp only [wayT]
      clear ho KF hbd
      go_wp2_with fail
      refine K4.out.mono ?_
      rintro e w4 ⟨⟨b, rfl, hbb⟩, hb⟩
      have hB4 := hB3.trans (hb.mono hB3.size)
      obtain rfl : b = false := by cases b with | false => rfl | true => exact absurd (hbb.1 rfl) (HO () [])
      clear K4 hbb hB3
      go_upto_region 10 with fail
      go_loopw [9] (fun iv wr => ∃ i : Nat, i ≤ 20 ∧ iv = .int .i64 (i : Int) ∧ Below w.heap.size w wr ∧ Below w3.heap.size w3 wr) (fun iv _ => 20 - (intOf iv).toNat)
      case atStart => exact ⟨0, by omega, rfl, hB4, hb⟩
      case round =>
        obtain ⟨i, hi, rfl, hBr, hBr3⟩ := hrel
        clear hB4 hb
        by_cases hil : i < ss.length
        · have hii : (i : Int) < (ss.length : Int) := by omega
          by_cases hi20 : i < 20
          · have hi2 : (i : Int) < 20 := by omega
            obtain ⟨x, hx⟩ : ∃ x, ss[i]? = some x := ⟨_, List.getElem?_eq_getElem hil⟩
            obtain ⟨g, o, rfl, _, hc⟩ := (HV () wr hBr).text hx
            have K5 := Lib.hid (HE () x (List.mem_of_getElem? hx) wr)
            have hxl : (x.take 60).length ≤ 200 := by rw [List.length_take]; omega
            have K6 := Lib.hid (HKF () (x.take 60) hxl wr hBr3)
            go_wp2_with fail
            refine K5.out.mono ?_
            rintro e w5 ⟨rfl, hw5⟩
            obtain rfl : wr = w5 := hw5.symm
            clear K5 hc
            go_wp2_with fail
            refine K6.out.mono ?_
            rintro e w6 ⟨⟨b, rfl, hbb⟩, hb6⟩
            have hB6 := hBr.trans (hb6.mono hBr.size)
            have hB63 := hBr3.trans (hb6.mono hBr3.size)
            obtain rfl : b = false := by cases b with | false => rfl | true => exact absurd (hbb.1 rfl) (HO () _)
            clear K6 hbb hb6 hBr hBr3
            go_wp2_with fail
            go_roundw
            case rel => exact ⟨i + 1, by omega, by go_num, hB6, hB63⟩
            case measure => simp [intOf]; omega
          · have hi2 : ¬ ((i : Int) < 20) := by omega
            go_wp2_with fail
            go_ret
            exact ⟨rfl, hBr⟩
        · have hii : ¬ ((i : Int) < (ss.length : Int)) := by omega
          go_wp2_with fail
          go_ret
          exact ⟨rfl, hBr⟩
    | some u =>
      have HO : Unit → langA a u ∧ ∀ s, langA a s → le u s := fun _ => ho
      have hul := hbd u rfl
      have K4 := Lib.hid (KF u (by omega) w3 (Below.refl _ _))
      have hz2 : ((⟨u.toArray⟩ : ByteArray).size : Int) = (u.length : Int) := by simp [ByteArray.size]
      have HL : Unit → (⟨u.toArray⟩ : ByteArray).toList = u := fun _ => text_list u
      simp only [wayT]
      clear ho KF hbd
      obtain ⟨TU, hTU⟩ : ∃ TU, (⟨u.toArray⟩ : ByteArray) = TU := ⟨_, rfl⟩
      rw [hTU] at K4 hz2 HL ⊢
      clear hTU
      go_wp2_with fail
      refine K4.out.mono ?_
      rintro e w4 ⟨⟨b, rfl, hbb⟩, hb⟩
      have hB4 := hB3.trans (hb.mono hB3.size)
      obtain rfl : b = true := hbb.2 (HO ()).1
      clear K4 hbb hB3
      go_upto_region 10 with fail
      go_loopw [9] (fun iv wr => ∃ i : Nat, i ≤ 20 ∧ iv = .int .i64 (i : Int) ∧ Below w.heap.size w wr ∧ Below w3.heap.size w3 wr) (fun iv _ => 20 - (intOf iv).toNat)
      case atStart => exact ⟨0, by omega, rfl, hB4, hb⟩
      case round =>
        obtain ⟨i, hi, rfl, hBr, hBr3⟩ := hrel
        clear hB4 hb
        by_cases hil : i < ss.length
        · have hii : (i : Int) < (ss.length : Int) := by omega
          by_cases hi20 : i < 20
          · have hi2 : (i : Int) < 20 := by omega
            obtain ⟨x, hx⟩ : ∃ x, ss[i]? = some x := ⟨_, List.getElem?_eq_getElem hil⟩
            obtain ⟨g, o, rfl, _, hc⟩ := (HV () wr hBr).text hx
            have K5 := Lib.hid (HE () x (List.mem_of_getElem? hx) wr)
            have hxl : (x.take 60).length ≤ 200 := by rw [List.length_take]; omega
            have K6 := Lib.hid (HKF () (x.take 60) hxl wr hBr3)
            obtain ⟨y, hy⟩ : ∃ y, x.take 60 = y := ⟨_, rfl⟩
            simp only [hy] at K5 K6 hxl
            have hz1 : ((⟨y.toArray⟩ : ByteArray).size : Int) = (y.length : Int) := by simp [ByteArray.size]
            have HB : Unit → Op.bytesLess (⟨y.toArray⟩ : ByteArray).toList TU.toList = Op.bytesLess y u := fun _ => by rw [text_list, HL ()]
            go_wp2_with fail
            refine K5.out.mono ?_
            rintro e w5 ⟨rfl, hw5⟩
            obtain rfl : wr = w5 := hw5.symm
            clear K5 hc
            generalize (⟨y.toArray⟩ : ByteArray) = TY at *
            go_wp2_with fail
            refine K6.out.mono ?_
            rintro e w6 ⟨⟨b, rfl, hbb⟩, hb6⟩
            have hB6 := hBr.trans (hb6.mono hBr.size)
            have hB63 := hBr3.trans (hb6.mono hBr3.size)
            clear K6 hb6 hBr hBr3
            cases b with
            | false =>
              clear hbb
              go_wp2_with fail
              go_roundw
              case rel => exact ⟨i + 1, by omega, by go_num, hB6, hB63⟩
              case measure => simp [intOf]; omega
            | true =>
              obtain ⟨h1, h2⟩ := le_len ((HO ()).2 y (hbb.1 rfl))
              have h1i : ¬ ((y.length : Int) < (u.length : Int)) := by omega
              clear hbb h1
              by_cases hyu : y.length = u.length
              · have hyui : ((y.length : Int) == (u.length : Int)) = true := by rw [beq_iff_eq]; omega
                have hbl : Op.bytesLess TY.toList TU.toList = false := by rw [HB (), h2 hyu]
                clear h2 HB HL
                go_wp2_with fail
                go_roundw
                case rel => exact ⟨i + 1, by omega, by go_num, hB6, hB63⟩
                case measure => simp [intOf]; omega
              · have hyui : ((y.length : Int) == (u.length : Int)) = false := by rw [beq_eq_false_iff_ne]; omega
                clear h2 HB HL
                go_wp2_with fail
                go_roundw
                case rel => exact ⟨i + 1, by omega, by go_num, hB6, hB63⟩
                case measure => simp [intOf]; omega
          · have hi2 : ¬ ((i : Int) < 20) := by omega
            go_wp2_with fail
            go_ret
            exact ⟨rfl, hBr⟩
        · have hii : ¬ ((i : Int) < (ss.length : Int)) := by omega
          go_wp2_with fail
          go_ret
          exact ⟨rfl, hBr⟩
end Go.Proofs.Ytakkcofmbafneaa
