/- PatternFits returns true, whatever the pattern and the texts. -/
import Derived.Test.YtakkcofmbafneaaQFits
import Derived.Test.YtakkcofmbafneaaPNil
import Derived.Test.YtakkcofmbafneaaPB
namespace Go.Proofs.Ytakkcofmbafneaa
open Go.ChangeShapes Go.WideShapes Go.RowKit

theorem text_meth {G base : Nat} {p : Bs} {S : List Stp} {V : Value} {F : List Value} (w : World) (hP : PatAt w G base p S V F) : Calls Try.prog 17 #[.pointer (some ⟨G, 0, none⟩)] w fun e w' => e = .returned (.string ⟨p.toArray⟩) ∧ w' = w := by
  have c0 : w.cell? ⟨G, 0, none⟩ = some (.string ⟨p.toArray⟩) := Rw.cell hP.row 0
  go_enter Try.func17, Try.ntmps17
  go_wp2_with fail
  go_ret
  exact ⟨rfl, rfl⟩
theorem exec_load_node {o : Oper} {a : Act} {w : World} {g : Nat} {cs : List Value} (x : Operand) (ho : o.op = .load 27 x) (hx : a.eval x = .pointer (some ⟨g, 0, none⟩)) (hr : Rw w g 27 cs) (hn : cs.length = 258) : (execOp a.eval o).run Try.prog w = .ok (.value (.agg cs.toArray)) w := by
  unfold execOp
  simp only [ho, hx, Instr.loadAt, Instr.sureAddr, Sem.run_bind, Sem.run_pure, Result.andThen_ok, run_loadVar_row w g 27 27 cs.toArray (0, 0) _ hr Try.underlying27 rfl (by rw [Dn.size_node]; simp [hn])]
set_option maxHeartbeats 6400000 in
set_option maxRecDepth 100000 in
theorem fitslaw_any (P : Nat → Prop) (v : Value) (p : Bs) (ss : List Bs) (w : World) (hp : p.length ≤ 9223372036854775807) (hv : StrsAt P w v ss) (hss : ∀ s ∈ ss, s.length ≤ 9223372036854775807) :
    Calls Try.prog 3 #[.string ⟨p.toArray⟩, v] w fun e w' => e = .returned (.bool true) ∧ Below w.heap.size w w' := by
  have hsz : (⟨p.toArray⟩ : ByteArray).size = p.length := by simp [ByteArray.size]
  have ht := cut_min p 120 120 rfl
  have KL := Lib.hid fun w => lives_any w
  have hQl : (p.take 120).length ≤ 120 := by rw [List.length_take]; omega
  have hle : (p.length : Int) ≤ 9223372036854775807 := by omega
  obtain ⟨Q, hQ⟩ : ∃ Q, p.take 120 = Q := ⟨_, rfl⟩
  simp only [hQ] at ht hQl
  have KR := fun w => read_any Q w (by omega)
  have KD := Lib.hid fun w => Dn.dread_any Q (by omega) w
  have KT := Lib.hid fun w => right_any Q w (by omega)
  have KF := Lib.hid fun (s : Bs) (h : s.length ≤ 100) w => fits_any Q s w (by omega) (by omega)
  obtain ⟨hRM, hRE⟩ := Dn.read_one Q
  obtain ⟨aL, cL, rfl⟩ := hv.shape
  have HV : Unit → ∀ w', Below w.heap.size w w' → StrsAt P w' (.slice aL ss.length cL) ss := fun _ w' h => hv.stay h
  have KE := fun (s : Bs) (h : s ∈ ss) w => early_any s w (hss s h)
  have HE : Unit → ∀ s, s ∈ ss → ∀ w, Calls Try.prog 14 #[.string ⟨s.toArray⟩] w fun e w' => e = .returned (.string ⟨(s.take 60).toArray⟩) ∧ w' = w := fun _ => KE
  have hzc := Dn.zero_node
  obtain ⟨Z, eZ⟩ : ∃ Z, Dn.nodeC 0 noSet Dn.nilS = Z := ⟨_, rfl⟩
  have hlZ := Dn.nodeC_len 0 noSet Dn.nilS
  rw [eZ] at hzc hlZ
  clear eZ
  have HTM : Unit → ∀ {G base : Nat} {S : List Stp} {V : Value} {F : List Value} (w : World) (hP : PatAt w G base Q S V F), Calls Try.prog 17 #[.pointer (some ⟨G, 0, none⟩)] w fun e w' => e = .returned (.string ⟨Q.toArray⟩) ∧ w' = w := fun _ => text_meth
  generalize (⟨p.toArray⟩ : ByteArray) = T at *
  generalize (⟨Q.toArray⟩ : ByteArray) = TQ at *
  clear hQ hp KE hv hss
  go_enter Try.func3, Try.ntmps3
  go_wp2_with fail
  refine (KL.out _).mono ?_
  rintro e w1 ⟨rfl, hB1⟩
  clear KL
  go_wp2_with fail
  refine (KD.out _).mono ?_
  rintro e w2 ⟨⟨cs, rfl, hcl, hc1, hT⟩, hb⟩
  have hB2 := hB1.trans (hb.mono hB1.size)
  rw [hRM] at hT
  rw [hRE]
  have rn0 := Rw.new w2 27 Z
  have rn := Rw.new w2 27 cs
  have hb2 := (Below.refl w2.heap.size w2).alloc (Nat.le_refl _) (.cells cs.toArray 27)
  clear KD hB1 hb hRM hRE
  go_upto_region 5 with (refine Dn.store_node _ _ rn0 hlZ cs hcl hc1 _ _ rfl rfl rfl rfl ?_)
  rw [World.setRow_alloc_new]
  have hB3 := hB2.trans (hb2.mono hB2.size)
  have hTn := fun a h => (hT a h).stay hb2
  generalize w2.alloc (.cells cs.toArray 27) = w3 at *
  obtain ⟨bn, ebn⟩ : ∃ bn, w2.heap.size = bn := ⟨_, rfl⟩
  rw [ebn] at rn
  simp only [ebn]
  clear rn0 hB2 hb2 hT
  cases hm : patM Q with
  | none =>
    obtain ⟨h1, h2⟩ := errM_none hm
    have KR' := KR w3
    unfold ReadQ at KR'
    rw [hm] at KR'
    replace KR' := Lib.hid KR'
    obtain ⟨E, hE⟩ : ∃ E, errM Q = E := ⟨_, rfl⟩
    have HF : Unit → ∀ s, ¬ FitP Q s := fun _ s ⟨a, h, _⟩ => by rw [hm] at h; cases h
    rw [hE] at h1 h2 KR' KT
    have HN := Lib.hid fun (T : ByteArray) w => fits_none T w
    simp only [hE]
    clear KR hm hTn HTM hE rn
    go_wp2_with fail
    refine KR'.out.mono ?_
    rintro e w6 ⟨hB6, rfl⟩
    have hB7 := hB3.trans (hB6.mono hB3.size)
    clear KR' hB3 hB6
    go_wp2_with fail
    refine (KT.out _).mono ?_
    rintro e w7 ⟨rfl, hb7⟩
    have hB8 := hB7.trans (hb7.mono hB7.size)
    clear KT hB7 hb7
    go_wp2_with fail
    go_loopw [9] (fun iv wr => ∃ i : Nat, i ≤ 8 ∧ iv = .int .i64 (i : Int) ∧ Below w.heap.size w wr) (fun iv _ => 8 - (intOf iv).toNat)
    case atStart => exact ⟨0, by omega, rfl, hB8⟩
    case round =>
      clear hB8
      obtain ⟨i, hi, rfl, hBr⟩ := hrel
      by_cases hil : i < ss.length
      · have hii : (i : Int) < (ss.length : Int) := by omega
        by_cases hi8 : i < 8
        · have hi2 : (i : Int) < 8 := by omega
          obtain ⟨x, hx⟩ : ∃ x, ss[i]? = some x := ⟨_, List.getElem?_eq_getElem hil⟩
          have hxm := List.mem_of_getElem? hx
          have hxl : (x.take 60).length ≤ 100 := by rw [List.length_take]; omega
          have K5 := Lib.hid (HE () x hxm)
          have K6 := Lib.hid (fun w => KF.out (x.take 60) hxl w)
          have hno := HF () (x.take 60)
          go_upto_region 11 with fail
          try simp only [List.append_eq, List.cons_append, List.nil_append]
          refine region_class (fun w' => Below wr.heap.size wr w' ∧ True) (by kernel_rfl) (by kernel_rfl) (⟨(Below.refl _ _).drew, trivial⟩) ?_
          repeat
            first
            | go_big_quiet_skip
            | (go_big_quiet_want
               refine quiet_val ?_
               apply Exists.intro
               refine ⟨fun w' hw' => ?_, ?_⟩
               · obtain ⟨_, _⟩ := hw'
                 go_simp
                 first | done | rfl | exact ⟨rfl, rfl⟩
               simp only [Act.put, List.setIfInBounds_toArray, List.set_cons_zero, List.set_cons_succ]
               go_big_quiet_on)
            | (go_big_quiet_want
               refine quiet_call ?_
               apply Exists.intro
               apply Exists.intro
               refine ⟨fun w' => ?_, ?_⟩
               · go_simp
                 first | done | rfl | exact ⟨rfl, rfl⟩
               apply Exists.intro
               refine ⟨fun w' hw' => ?_, ?_⟩
               · first
                 | fail
               simp only [Act.put, List.setIfInBounds_toArray, List.set_cons_zero, List.set_cons_succ]
               go_big_quiet_on)
          refine wpQuiet_nil ?_
          intro w5 hw5
          have hb5 := hw5.1
          have hBr5 := hBr.trans (hb5.mono hBr.size)
          obtain ⟨g, o, rfl, _, hc⟩ := (HV () w5 hBr5).text hx
          clear hw5 hb5 hBr
          go_wp2_with fail
          refine (K5.out _).mono ?_
          rintro e w6 ⟨rfl, hw6⟩
          obtain rfl : w5 = w6 := hw6.symm
          go_wp2_with fail
          refine (K6.out _).mono ?_
          rintro e w6 ⟨⟨b, rfl, hbb⟩, hb6⟩
          obtain rfl : b = false := by cases b with | false => rfl | true => exact absurd (hbb.1 rfl) hno
          have hB6 := hBr5.trans (hb6.mono hBr5.size)
          obtain ⟨g2, o2, e2, _, hc2⟩ := (HV () w6 hB6).text hx
          injection e2 with e2
          injection e2 with e3 e4
          subst e3 e4
          clear hbb hb6 hc K6
          go_wp2_with fail
          refine (K5.out _).mono ?_
          rintro e w7 ⟨rfl, hw7⟩
          obtain rfl : w6 = w7 := hw7.symm
          go_wp2_with fail
          refine (HN.out _ _).mono ?_
          rintro e w7 ⟨rfl, hw7⟩
          obtain rfl : w6 = w7 := hw7.symm
          go_wp2_with fail
          go_roundw
          case rel => exact ⟨i + 1, by omega, by go_num, hB6⟩
          case measure => simp [intOf]; omega
        · have hi2 : ¬ ((i : Int) < 8) := by omega
          go_wp2_with fail
          go_ret
          exact ⟨rfl, hBr⟩
      · have hii : ¬ ((i : Int) < (ss.length : Int)) := by omega
        go_wp2_with fail
        go_ret
        exact ⟨rfl, hBr⟩
  | some a =>
    have hok := (patM_ok hm).1
    have hln := (patM_ok hm).2.1
    have h0 := errM_some hm
    have KR' := KR w3
    unfold ReadQ at KR'
    rw [hm] at KR'
    replace KR' := Lib.hid KR'
    rw [h0] at KT ⊢
    have hT := hTn a hm
    have HF : Unit → ∀ s, FitP Q s ↔ langA a s := fun _ s => ⟨fun ⟨b, h, hb⟩ => by rw [hm] at h; injection h with h; rw [h]; exact hb, fun h => ⟨a, hm, h⟩⟩
    clear KR hm hTn h0
    go_wp2_with fail
    refine KR'.out.mono ?_
    rintro e w6 ⟨hB6, G, V, F, rfl, _, hP⟩
    have hB7 := hB3.trans (hB6.mono hB3.size)
    replace rn := rn.stay hB6
    replace hT := hT.stay hB6
    clear KR' hB3 hB6
    go_wp2_with fail
    refine (KT.out _).mono ?_
    rintro e w7 ⟨rfl, hb7⟩
    have hB8 := hB7.trans (hb7.mono hB7.size)
    replace rn := rn.stay hb7
    replace hT := hT.stay hb7
    replace hP := hP.stay hb7
    clear KT hB7 hb7
    go_wp2_with fail
    go_loopw [9] (fun iv wr => ∃ i : Nat, i ≤ 8 ∧ iv = .int .i64 (i : Int) ∧ Below w.heap.size w wr ∧ Below w7.heap.size w7 wr) (fun iv _ => 8 - (intOf iv).toNat)
    case atStart => exact ⟨0, by omega, rfl, hB8, Below.refl _ _⟩
    case round =>
      clear hB8
      obtain ⟨i, hi, rfl, hBr, hBr7⟩ := hrel
      have rnr := rn.stay hBr7
      have hTr := hT.stay hBr7
      have hPr := hP.stay hBr7
      by_cases hil : i < ss.length
      · have hii : (i : Int) < (ss.length : Int) := by omega
        by_cases hi8 : i < 8
        · have hi2 : (i : Int) < 8 := by omega
          obtain ⟨x, hx⟩ : ∃ x, ss[i]? = some x := ⟨_, List.getElem?_eq_getElem hil⟩
          have hxm := List.mem_of_getElem? hx
          have hxl : (x.take 60).length ≤ 100 := by rw [List.length_take]; omega
          have K5 := Lib.hid (HE () x hxm)
          have K6 := Lib.hid (fun w => KF.out (x.take 60) hxl w)
          have KD := Lib.hid (fun w' (hb : Below wr.heap.size wr w') => Dn.dfits_any _ _ a cs (x.take 60) w' (hTr.stay hb) (by omega) (by omega))
          have KM := Lib.hid (fun w' (hb : Below wr.heap.size wr w') => fits_meth hok hln (x.take 60) w' (hPr.stay hb) (by omega))
          have hFx := HF () (x.take 60)
          obtain ⟨g, o, rfl, hgl, hc⟩ := (HV () wr hBr).text hx
          obtain ⟨y, hy⟩ : ∃ y, x.take 60 = y := ⟨_, rfl⟩
          simp only [hy] at K5 K6 KD KM hFx
          generalize (⟨y.toArray⟩ : ByteArray) = TY at *
          generalize (⟨x.toArray⟩ : ByteArray) = TX at *
          go_upto_region 11 with fail
          refine wp_region_held (S := fun w' => Below wr.heap.size wr w') (by kernel_rfl) ?_
          have hS : Below wr.heap.size wr { wr with drawn := wr.drawn + 1 } := (Below.refl _ _).drew
          generalize { wr with drawn := wr.drawn + 1 } = D1 at *
          refine held_val 0 rfl (by kernel_rfl) (by kernel_rfl) (by kernel_rfl) (fun _ _ _ _ h => h) (by rfl) hS ?_
          apply Exists.intro
          refine ⟨fun w' hw' => ?_, ?_⟩
          · skip
            go_simp
            first | done | rfl | exact ⟨rfl, rfl⟩
          simp only [Act.put, List.setIfInBounds_toArray, List.set_cons_zero, List.set_cons_succ]
          refine held_val 1 rfl (by kernel_rfl) (by kernel_rfl) (by kernel_rfl) (fun _ _ _ _ h => h) (by rfl) hS ?_
          apply Exists.intro
          refine ⟨fun w' hw' => ?_, ?_⟩
          · skip
            go_simp
            first | done | rfl | exact ⟨rfl, rfl⟩
          simp only [Act.put, List.setIfInBounds_toArray, List.set_cons_zero, List.set_cons_succ]
          refine held_val 2 rfl (by kernel_rfl) (by kernel_rfl) (by kernel_rfl) (fun _ _ _ _ h => h) (by rfl) hS ?_
          apply Exists.intro
          refine ⟨fun w' hw' => ?_, ?_⟩
          · skip
            go_simp
            first | done | rfl | exact ⟨rfl, rfl⟩
          simp only [Act.put, List.setIfInBounds_toArray, List.set_cons_zero, List.set_cons_succ]
          refine held_val 3 rfl (by kernel_rfl) (by kernel_rfl) (by kernel_rfl) (fun _ _ _ _ h => h) (by rfl) hS ⟨_, fun w' hw' => exec_load_node _ rfl rfl (rnr.stay hw') hcl, ?_⟩
          simp only [Act.put, List.setIfInBounds_toArray, List.set_cons_zero, List.set_cons_succ]
          refine held_val 4 rfl (by kernel_rfl) (by kernel_rfl) (by kernel_rfl) (fun _ _ _ _ h => h) (by rfl) hS ?_
          apply Exists.intro
          refine ⟨fun w' hw' => ?_, ?_⟩
          · skip
            go_simp
            first | done | rfl | exact ⟨rfl, rfl⟩
          simp only [Act.put, List.setIfInBounds_toArray, List.set_cons_zero, List.set_cons_succ]
          refine held_val 5 rfl (by kernel_rfl) (by kernel_rfl) (by kernel_rfl) (fun _ _ _ _ h => h) (by rfl) hS ?_
          apply Exists.intro
          refine ⟨fun w' hw' => ?_, ?_⟩
          · skip
            go_simp
            first | done | rfl | exact ⟨rfl, rfl⟩
          simp only [Act.put, List.setIfInBounds_toArray, List.set_cons_zero, List.set_cons_succ]
          refine held_val 6 rfl (by kernel_rfl) (by kernel_rfl) (by kernel_rfl) (fun _ _ _ _ h => h) (by rfl) hS ?_
          apply Exists.intro
          refine ⟨fun w' hw' => ?_, ?_⟩
          · skip
            go_simp
            first | done | rfl | exact ⟨rfl, rfl⟩
          simp only [Act.put, List.setIfInBounds_toArray, List.set_cons_zero, List.set_cons_succ]
          refine held_val 7 rfl (by kernel_rfl) (by kernel_rfl) (by kernel_rfl) (fun _ _ _ _ h => h) (by rfl) hS ?_
          apply Exists.intro
          refine ⟨fun w' hw' => ?_, ?_⟩
          · have e1 : w'.cell? ⟨g, o + i, none⟩ = some (.string TX) := (hw'.cell hgl).trans hc
            go_simp
            first | done | rfl | exact ⟨rfl, rfl⟩
          simp only [Act.put, List.setIfInBounds_toArray, List.set_cons_zero, List.set_cons_succ]
          refine held_call 8 (by kernel_rfl) rfl (by rfl) ?_
          apply Exists.intro
          apply Exists.intro
          refine ⟨?_, ?_⟩
          · go_simp
            first | done | rfl | exact ⟨rfl, rfl⟩
          refine (K5.out _).mono ?_
          rintro e w5 ⟨rfl, hw5⟩
          obtain rfl : D1 = w5 := hw5.symm
          refine ⟨_, rfl, hS, ?_⟩
          simp only [Act.put, List.setIfInBounds_toArray, List.set_cons_zero, List.set_cons_succ]
          refine held_call 9 (by kernel_rfl) rfl (by rfl) ?_
          apply Exists.intro
          apply Exists.intro
          refine ⟨?_, ?_⟩
          · go_simp
            first | done | rfl | exact ⟨rfl, rfl⟩
          refine (KD.out _ hS).mono ?_
          rintro e w5 ⟨⟨b, rfl, hbb⟩, hb5⟩
          have hS5 := hS.trans (hb5.mono hS.size)
          refine ⟨_, rfl, hS5, ?_⟩
          simp only [Act.put, List.setIfInBounds_toArray, List.set_cons_zero, List.set_cons_succ]
          replace hS := hS5
          clear hb5 hS5
          refine held_val 10 rfl (by kernel_rfl) (by kernel_rfl) (by kernel_rfl) (fun _ _ _ _ h => h) (by rfl) hS ?_
          apply Exists.intro
          refine ⟨fun w' hw' => ?_, ?_⟩
          · skip
            go_simp
            first | done | rfl | exact ⟨rfl, rfl⟩
          simp only [Act.put, List.setIfInBounds_toArray, List.set_cons_zero, List.set_cons_succ]
          refine held_val 11 rfl (by kernel_rfl) (by kernel_rfl) (by kernel_rfl) (fun _ _ _ _ h => h) (by rfl) hS ?_
          apply Exists.intro
          refine ⟨fun w' hw' => ?_, ?_⟩
          · skip
            go_simp
            first | done | rfl | exact ⟨rfl, rfl⟩
          simp only [Act.put, List.setIfInBounds_toArray, List.set_cons_zero, List.set_cons_succ]
          refine wpAnyH_done (by kernel_rfl) ?_ _
          have hBr5 := hBr.trans (hS.mono hBr.size)
          replace hc := (hS.cell (p := ⟨g, o + i, none⟩) hgl).trans hc
          go_wp2_with fail
          refine (K5.out _).mono ?_
          rintro e w6 ⟨rfl, hw6⟩
          obtain rfl : w5 = w6 := hw6.symm
          go_wp2_with fail
          refine (K6.out _).mono ?_
          rintro e w6 ⟨⟨b2, rfl, hb2⟩, hb6⟩
          obtain rfl : b2 = b := by
            have := hb2.trans (hFx.trans hbb.symm)
            cases b <;> cases b2 <;> simp at this <;> rfl
          have hS6 := hS.trans (hb6.mono hS.size)
          have hB6 := hBr5.trans (hb6.mono hBr5.size)
          replace hc := (hb6.cell (p := ⟨g, o + i, none⟩) (by have := hS.size; show g < _; omega)).trans hc
          clear hb2 hb6 K6
          go_wp2_with fail
          refine (K5.out _).mono ?_
          rintro e w7 ⟨rfl, hw7⟩
          obtain rfl : w6 = w7 := hw7.symm
          go_wp2_with fail
          refine (KM.out _ hS6).mono ?_
          rintro e w8 ⟨⟨b3, rfl, hb3⟩, hb8⟩
          obtain rfl : b3 = b2 := by
            have := hb3.trans hbb.symm
            cases b2 <;> cases b3 <;> simp at this <;> rfl
          have hB8 := hB6.trans (hb8.mono hB6.size)
          have hS8 := hBr7.trans ((hS6.trans (hb8.mono hS6.size)).mono hBr7.size)
          clear hb3 hb8 hbb KM
          go_wp2_with fail
          go_roundw
          case rel => exact ⟨i + 1, by omega, by go_num, hB8, hS8⟩
          case measure => simp [intOf]; omega
        · have hi2 : ¬ ((i : Int) < 8) := by omega
          have KX := Lib.hid (HTM () wr hPr)
          go_wp2_with fail
          refine KX.out.mono ?_
          rintro e w8 ⟨rfl, hw8⟩
          obtain rfl : wr = w8 := hw8.symm
          go_wp2_with fail
          go_ret
          exact ⟨rfl, hBr⟩
      · have hii : ¬ ((i : Int) < (ss.length : Int)) := by omega
        have KX := Lib.hid (HTM () wr hPr)
        go_wp2_with fail
        refine KX.out.mono ?_
        rintro e w8 ⟨rfl, hw8⟩
        obtain rfl : wr = w8 := hw8.symm
        go_wp2_with fail
        go_ret
        exact ⟨rfl, hBr⟩
end Go.Proofs.Ytakkcofmbafneaa
