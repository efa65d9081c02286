/- PatternNil returns true, whatever the pattern and the text. -/
import Derived.Test.YtakkcofmbafneaaPTop
namespace Go.Proofs.Ytakkcofmbafneaa
open Go.ChangeShapes Go.WideShapes Go.RowKit

theorem errM_none {p : Bs} (h : patM p = none) : (errM p != 0) = true ∧ (errM p == 0) = false := by
  unfold patM at h
  unfold errM
  split at h
  · rename_i hl
    rw [if_pos hl]
    decide
  · rename_i hl
    rw [if_neg hl]
    cases hr : readN p with
    | ok a r => rw [hr] at h; cases h
    | er e => cases e <;> decide
theorem errM_some {p : Bs} {a : Al} (h : patM p = some a) : errM p = 0 := by
  obtain ⟨_, _, h1, h2⟩ := patM_ok h
  unfold errM
  rw [if_neg (by omega), h2]
  rfl
theorem cut_min (l : Bs) (m : Nat) (z : Int) (hz : z = (m : Int)) (w : World) : (Instr.slice 9 (.string ⟨l.toArray⟩) none (some (.int .i64 (min (l.length : Int) z))) none).run Try.prog w = .ok (.string ⟨(l.take m).toArray⟩) w := by
  have h := cut_upto l (min l.length m) (by omega) (min (l.length : Int) z) (by omega) w
  rw [h, Nat.min_comm, ← List.take_take, List.take_length]
set_option maxHeartbeats 3200000 in
set_option maxRecDepth 100000 in
theorem nil_any (p s : Bs) (w : World) (hp : p.length ≤ 9223372036854775807) (hs : s.length ≤ 9223372036854775807) :
    Calls Try.prog 8 #[.string ⟨p.toArray⟩, .string ⟨s.toArray⟩] w fun e w' => e = .returned (.bool true) ∧ Below w.heap.size w w' := by
  have hsz : (⟨p.toArray⟩ : ByteArray).size = p.length := by simp [ByteArray.size]
  have ht := cut_min p 120 120 rfl
  have KE := fun w => early_any s w hs
  have KL := Lib.hid fun w => lives_any w
  have hQl : (p.take 120).length ≤ 120 := by rw [List.length_take]; omega
  have hUl : (s.take 60).length ≤ 60 := by rw [List.length_take]; omega
  have hle : (p.length : Int) ≤ 9223372036854775807 := by omega
  have KN := Lib.hid fun w => least_none w
  have KX := Lib.hid fun w => text_none w
  obtain ⟨Q, hQ⟩ : ∃ Q, p.take 120 = Q := ⟨_, rfl⟩
  obtain ⟨U, hU⟩ : ∃ U, s.take 60 = U := ⟨_, rfl⟩
  simp only [hQ] at ht hQl
  simp only [hU] at KE hUl
  have KR := fun w => read_any Q w (by omega)
  have KF := Lib.hid fun w => fits_any Q U w (by omega) (by omega)
  have KG := fun w => right_any Q w (by omega)
  have K0 := Lib.hid fun w => fits_none ⟨U.toArray⟩ w
  generalize (⟨p.toArray⟩ : ByteArray) = T at *
  generalize (⟨s.toArray⟩ : ByteArray) = T2 at *
  generalize (⟨Q.toArray⟩ : ByteArray) = TQ at *
  generalize (⟨U.toArray⟩ : ByteArray) = TU at *
  clear hQ hU hQl hUl hp hs
  go_enter Try.func8, Try.ntmps8
  go_wp2_with fail
  refine (KL.out _).mono ?_
  rintro e w1 ⟨rfl, hB1⟩
  clear KL
  go_wp2_with fail
  refine (KN.out _).mono ?_
  rintro e w2 ⟨rfl, hw2⟩
  obtain rfl : w1 = w2 := hw2.symm
  clear KN
  simp only [wayT]
  go_upto_region 5 with fail
  try simp only [List.append_eq, List.cons_append, List.nil_append]
  refine region_class (fun w' => w' = w1.drew) (by kernel_rfl) (by kernel_rfl) (rfl) ?_
  repeat
    first
    | go_big_quiet_skip
    | (go_big_quiet_want
       refine quiet_val ?_
       apply Exists.intro
       refine ⟨fun w' hw' => ?_, ?_⟩
       · obtain _ := hw'
         go_simp
         first | done | rfl | exact ⟨rfl, rfl⟩
       simp only [Act.put, List.setIfInBounds_toArray, List.set_cons_zero, List.set_cons_succ]
       go_big_quiet_on)
    | (go_big_quiet_want
       refine quiet_call ?_
       apply Exists.intro
       apply Exists.intro
       refine ⟨fun w' => ?_, ?_⟩
       · go_simp
         first | done | rfl | exact ⟨rfl, rfl⟩
       apply Exists.intro
       refine ⟨fun w' hw' => ?_, ?_⟩
       · first
         | exact (KE w').mono (fun e w'' ⟨he, hw⟩ => ⟨he, hw.trans hw'⟩)
       simp only [Act.put, List.setIfInBounds_toArray, List.set_cons_zero, List.set_cons_succ]
       go_big_quiet_on)
  refine wpQuiet_nil ?_
  intro w5 hw5
  have hB5 : Below w.heap.size w w5 := by rw [hw5]; exact hB1.trans ((Below.refl _ _).drew)
  clear hw5 hB1 KE ht hsz hle
  cases hm : patM Q with
  | none =>
    obtain ⟨h1, h2⟩ := errM_none hm
    have HF : ¬ FitP Q U := fun ⟨a, h, _⟩ => by rw [hm] at h; cases h
    have KR' := KR w5
    unfold ReadQ at KR'
    rw [hm] at KR'
    replace KR' := Lib.hid KR'
    have KG' := Lib.hid KG
    clear KR KG hm
    go_wp2_with fail
    refine KR'.out.mono ?_
    rintro e w6 ⟨hB6, rfl⟩
    have hB7 := hB5.trans (hB6.mono hB5.size)
    clear KR' hB5 hB6
    go_wp2_with fail
    refine (KF.out _).mono ?_
    rintro e w7 ⟨⟨b, rfl, hb⟩, hB8⟩
    obtain rfl : b = false := by cases b with | false => rfl | true => exact absurd (hb.1 rfl) HF
    have hB9 := hB7.trans (hB8.mono hB7.size)
    clear KF hB7 hB8 hb HF
    go_wp2_with fail
    refine (K0.out _).mono ?_
    rintro e w8 ⟨rfl, hw8⟩
    obtain rfl : w7 = w8 := hw8.symm
    clear K0
    go_wp2_with fail
    refine (KX.out _).mono ?_
    rintro e w8 ⟨rfl, hw8⟩
    obtain rfl : w7 = w8 := hw8.symm
    clear KX
    go_wp2_with fail
    refine (KG'.out _).mono ?_
    rintro e w9 ⟨rfl, hB10⟩
    have hB11 := hB9.trans (hB10.mono hB9.size)
    clear KG' hB9 hB10
    go_wp2_with fail
    go_ret
    exact ⟨rfl, hB11⟩
  | some a =>
    have h0 := errM_some hm
    have KR' := KR w5
    unfold ReadQ at KR'
    rw [hm] at KR'
    replace KR' := Lib.hid KR'
    rw [h0] at KG
    have KG' := Lib.hid KG
    clear KR KG hm KF h0
    go_wp2_with fail
    refine KR'.out.mono ?_
    rintro e w6 ⟨hB6, G, V, F, rfl, _, _⟩
    have hB9 := hB5.trans (hB6.mono hB5.size)
    clear KR' hB5 hB6
    go_wp2_with fail
    refine (K0.out _).mono ?_
    rintro e w8 ⟨rfl, hw8⟩
    obtain rfl : w6 = w8 := hw8.symm
    clear K0
    go_wp2_with fail
    refine (KX.out _).mono ?_
    rintro e w8 ⟨rfl, hw8⟩
    obtain rfl : w6 = w8 := hw8.symm
    clear KX
    go_wp2_with fail
    refine (KG'.out _).mono ?_
    rintro e w9 ⟨rfl, hB10⟩
    have hB11 := hB9.trans (hB10.mono hB9.size)
    clear KG' hB9 hB10
    go_wp2_with fail
    go_ret
    exact ⟨rfl, hB11⟩
end Go.Proofs.Ytakkcofmbafneaa
