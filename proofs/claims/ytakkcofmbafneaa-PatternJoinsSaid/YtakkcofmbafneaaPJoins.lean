/- PatternJoins returns true, whatever the texts. -/
import Derived.Test.YtakkcofmbafneaaPJoinP
namespace Go.Proofs.Ytakkcofmbafneaa
open Go.ChangeShapes Go.WideShapes Go.RowKit

theorem truth_of {b c : Bool} (h : b = true ↔ c = true) : b = c := by cases b <;> cases c <;> simp_all
/-- Whether a text fits, as a truth. -/
noncomputable def fb (r u : Bs) : Bool := @decide (FitP r u) (Classical.propDecidable _)
theorem fb_iff (r u : Bs) : fb r u = true ↔ FitP r u := by unfold fb; exact @decide_eq_true_iff _ (Classical.propDecidable _)
theorem fits_fb (r u : Bs) (hr : r.length ≤ 100) (hu : u.length ≤ 120) (w : World) : Calls Try.prog 15 #[.string ⟨r.toArray⟩, .string ⟨u.toArray⟩] w fun e w' => e = .returned (.bool (fb r u)) ∧ Below w.heap.size w w' :=
  (fits_any r u w (by omega) (by omega)).mono fun e w' ⟨⟨b, he, hb⟩, hB⟩ => ⟨by rw [he, truth_of (hb.trans (fb_iff r u).symm)], hB⟩
theorem fb_eq {r u : Bs} {b : Bool} (h : FitP r u ↔ b = true) : fb r u = b := truth_of ((fb_iff r u).trans h)
theorem errM_cases (p : Bs) : (errM p = 0 ∧ ∃ a, patM p = some a) ∨ ((errM p != 0) = true ∧ (errM p == 0) = false) := by
  cases h : patM p with
  | some a => exact .inl ⟨errM_some h, a, rfl⟩
  | none => exact .inr (errM_none h)
/-- Some cut ahead of k fits, as a truth. -/
noncomputable def cutB (p q s : Bs) : Nat → Bool
  | 0 => false
  | k + 1 => cutB p q s k || (fb p (s.take k) && fb q (s.drop k))
theorem cutB_iff (p q s : Bs) (k : Nat) : cutB p q s k = true ↔ CutP p q s k := by
  induction k with
  | zero => exact ⟨fun h => (by rw [cutB] at h; cases h), fun h => absurd h (CutP.zero p q s)⟩
  | succ k ih => rw [cutB, Bool.or_eq_true, Bool.and_eq_true, ih, fb_iff, fb_iff, CutP.next]
/-- What the law needs of the joined patterns, as truths. -/
theorem joins_fb {p q : Bs} {a b : Al} (hp : patM p = some a) (hq : patM q = some b) (hl : p.length + q.length ≤ 94) :
    errM (40 :: (p ++ 41 :: 124 :: 40 :: (q ++ [41]))) = 3 ∨
    (errM (40 :: (p ++ 41 :: 124 :: 40 :: (q ++ [41]))) = 0 ∧ errM (40 :: (p ++ 41 :: 40 :: (q ++ [41]))) = 0 ∧ (∀ s, fb (40 :: (p ++ 41 :: 124 :: 40 :: (q ++ [41]))) s = (fb p s || fb q s)) ∧ (∀ s t, fb p s = true → fb q t = true → fb (40 :: (p ++ 41 :: 40 :: (q ++ [41]))) (s ++ t) = true) ∧ (∀ s, fb (40 :: (p ++ 41 :: 40 :: (q ++ [41]))) s = cutB p q s (s.length + 1)) ∧
      (∀ s, fb p s = true → fb (40 :: (p ++ [41, 42])) (s ++ s) = true) ∧ fb (40 :: (p ++ [41, 42])) [] = true ∧ fb (40 :: (p ++ [41, 63])) [] = true ∧ (∀ s, fb (40 :: (p ++ [41, 63])) s = (fb p s || (s == [])))) := by
  rcases joins hp hq hl with h | ⟨h1, h2, h3, h4, h5, h6⟩
  · exact .inl h
  · refine .inr ⟨h1, h2, fun s => ?_, fun s t hs ht => ?_, fun s => ?_, fun s hs => ?_, ?_, ?_, fun s => ?_⟩
    · exact fb_eq (by rw [h3, Bool.or_eq_true, fb_iff, fb_iff])
    · exact (fb_iff _ _).2 ((h4 _).2 ⟨s, t, rfl, (fb_iff _ _).1 hs, (fb_iff _ _).1 ht⟩)
    · exact fb_eq (by rw [h4, cutB_iff, CutP.whole])
    · have := (fb_iff _ _).1 hs
      exact (fb_iff _ _).2 ((h5 _).2 (.cons this (by rw [show s = s ++ [] by simp]; exact .cons this .nil)))
    · exact (fb_iff _ _).2 ((h5 _).2 .nil)
    · exact (fb_iff _ _).2 ((h6 _).2 (.inl rfl))
    · exact fb_eq (by rw [h6, Bool.or_eq_true, fb_iff]; simp [or_comm])
set_option maxRecDepth 100000 in
set_option maxHeartbeats 6400000 in
theorem joins_any (p q s t : Bs) (w : World) (hp : p.length ≤ 9223372036854775807) (hq : q.length ≤ 9223372036854775807) (hs : s.length ≤ 9223372036854775807) (ht : t.length ≤ 9223372036854775807) :
    Calls Try.prog 6 #[.string ⟨p.toArray⟩, .string ⟨q.toArray⟩, .agg #[.string ⟨s.toArray⟩, .string ⟨t.toArray⟩]] w fun e w' => e = .returned (.bool true) ∧ Below w.heap.size w w' := by
  have hsp : (⟨p.toArray⟩ : ByteArray).size = p.length := by simp [ByteArray.size]
  have hsq : (⟨q.toArray⟩ : ByteArray).size = q.length := by simp [ByteArray.size]
  have htp := cut_min p 25 25 rfl
  have htq := cut_min q 25 25 rfl
  have KE := fun w => early_any s w hs
  have KE2 := fun w => early_any t w ht
  have KL := Lib.hid fun w => lives_any w
  have hPl : (p.take 25).length ≤ 25 := by rw [List.length_take]; omega
  have hQl : (q.take 25).length ≤ 25 := by rw [List.length_take]; omega
  have hSl : (s.take 60).length ≤ 60 := by rw [List.length_take]; omega
  have hUl : (t.take 60).length ≤ 60 := by rw [List.length_take]; omega
  obtain ⟨P, hP⟩ : ∃ P, p.take 25 = P := ⟨_, rfl⟩
  obtain ⟨Q, hQ⟩ : ∃ Q, q.take 25 = Q := ⟨_, rfl⟩
  obtain ⟨S, hS⟩ : ∃ S, s.take 60 = S := ⟨_, rfl⟩
  obtain ⟨U, hU⟩ : ∃ U, t.take 60 = U := ⟨_, rfl⟩
  simp only [hP] at htp hPl
  simp only [hQ] at htq hQl
  simp only [hS] at KE hSl
  simp only [hU] at KE2 hUl
  have KG := Lib.hid fun (r : Bs) (hr : r.length ≤ 100) w => right_any r w (by omega)
  have KF := Lib.hid fits_fb
  generalize (⟨p.toArray⟩ : ByteArray) = T1 at *
  generalize (⟨q.toArray⟩ : ByteArray) = T2 at *
  generalize (⟨s.toArray⟩ : ByteArray) = T3 at *
  generalize (⟨t.toArray⟩ : ByteArray) = T4 at *
  clear hP hQ hS hU
  go_enter Try.func6, Try.ntmps6
  go_wp2_with fail
  have hB0 := (Below.refl w.heap.size w).alloc (Nat.le_refl _) (.cells #[.string T3, .string T4] 43)
  have hR0 : Rw (w.alloc (.cells #[.string T3, .string T4] 43)) w.heap.size 43 [.string T3, .string T4] := Rw.new w _ _
  obtain ⟨w0, hw0⟩ : ∃ w0, w.alloc (.cells #[.string T3, .string T4] 43) = w0 := ⟨_, rfl⟩
  rw [hw0] at hB0 hR0 ⊢
  clear hw0
  refine (KL.out _).mono ?_
  rintro e w1 ⟨rfl, hB1⟩
  clear KL
  have hR1 := hR0.stay hB1
  replace hB1 := hB0.trans (hB1.mono hB0.size)
  clear hB0 hR0
  go_upto_region 3 with fail
  try simp only [List.append_eq, List.cons_append, List.nil_append]
  refine region_class (fun w' => w' = w1.drew) (by kernel_rfl) (by kernel_rfl) (rfl) ?_
  repeat
    first
    | go_big_quiet_skip
    | (go_big_quiet_want
       refine quiet_val ?_
       apply Exists.intro
       refine ⟨fun w' hw' => ?_, ?_⟩
       · obtain _ := hw'
         go_simp
         first | done | rfl | exact ⟨rfl, rfl⟩
       simp only [Act.put, List.setIfInBounds_toArray, List.set_cons_zero, List.set_cons_succ]
       go_big_quiet_on)
    | (go_big_quiet_want
       refine quiet_call ?_
       apply Exists.intro
       apply Exists.intro
       refine ⟨fun w' => ?_, ?_⟩
       · go_simp
         first | done | rfl | exact ⟨rfl, rfl⟩
       apply Exists.intro
       refine ⟨fun w' hw' => ?_, ?_⟩
       · first
         | fail
       simp only [Act.put, List.setIfInBounds_toArray, List.set_cons_zero, List.set_cons_succ]
       go_big_quiet_on)
  refine wpQuiet_nil ?_
  intro w5 hw5
  have hB5 : Below w.heap.size w w5 := by rw [hw5]; exact hB1.trans ((Below.refl _ _).drew)
  have hR5 : Rw w5 w.heap.size 43 [.string T3, .string T4] := by rw [hw5]; exact hR1.stay ((Below.refl _ _).drew)
  clear hw5 hB1 hR1 htp htq hsp hsq hp hq hs ht
  have KGP := Lib.hid (KG.out P (by omega))
  have KGQ := Lib.hid (KG.out Q (by omega))
  rcases errM_cases P with ⟨hP0, a, hPa⟩ | ⟨hP1, hP2⟩
  case inr =>
    generalize errM P = eP at *
    clear KF KG KGQ KE KE2
    go_wp2_with fail
    refine (KGP.out _).mono ?_
    rintro e w6 ⟨rfl, hb⟩
    have hB6 := hB5.trans (hb.mono hB5.size)
    clear KGP hB5 hb hR5
    go_wp2_with fail
    go_ret
    exact ⟨rfl, hB6⟩
  rw [hP0] at KGP
  go_wp2_with fail
  refine (KGP.out _).mono ?_
  rintro e w6 ⟨rfl, hb⟩
  have hB6 := hB5.trans (hb.mono hB5.size)
  have hR6 := hR5.stay hb
  clear KGP hB5 hb hR5 hP0
  rcases errM_cases Q with ⟨hQ0, b, hQa⟩ | ⟨hQ1, hQ2⟩
  case inr =>
    generalize errM Q = eQ at *
    clear KF KG KE KE2
    go_wp2_with fail
    refine (KGQ.out _).mono ?_
    rintro e w7 ⟨rfl, hb⟩
    have hB7 := hB6.trans (hb.mono hB6.size)
    clear KGQ hB6 hb hR6
    go_wp2_with fail
    go_ret
    exact ⟨rfl, hB7⟩
  rw [hQ0] at KGQ
  go_wp2_with fail
  refine (KGQ.out _).mono ?_
  rintro e w7 ⟨rfl, hb⟩
  have hB7 := hB6.trans (hb.mono hB6.size)
  have hR7 := hR6.stay hb
  clear KGQ hB6 hb hR6 hQ0
  have HJ := joins_fb hPa hQa (by omega)
  clear hPa hQa a b
  obtain ⟨A4, hA4⟩ : ∃ A, 40 :: (P ++ 41 :: 124 :: 40 :: (Q ++ [41])) = A := ⟨_, rfl⟩
  obtain ⟨B4, hB4⟩ : ∃ A, 40 :: (P ++ 41 :: 40 :: (Q ++ [41])) = A := ⟨_, rfl⟩
  obtain ⟨C2, hC2⟩ : ∃ A, 40 :: (P ++ [41, 42]) = A := ⟨_, rfl⟩
  obtain ⟨D2, hD2⟩ : ∃ A, 40 :: (P ++ [41, 63]) = A := ⟨_, rfl⟩
  have e1 : ({ data := #[40] } ++ { data := P.toArray } ++ { data := #[41, 124, 40] } ++ { data := Q.toArray } ++ { data := #[41] } : ByteArray) = ⟨A4.toArray⟩ := by rw [← hA4]; apply ByteArray.ext; simp
  have e2 : ({ data := #[40] } ++ { data := P.toArray } ++ { data := #[41, 40] } ++ { data := Q.toArray } ++ { data := #[41] } : ByteArray) = ⟨B4.toArray⟩ := by rw [← hB4]; apply ByteArray.ext; simp
  have e3 : ({ data := #[40] } ++ { data := P.toArray } ++ { data := #[41, 42] } : ByteArray) = ⟨C2.toArray⟩ := by rw [← hC2]; apply ByteArray.ext; simp
  have e4 : ({ data := #[40] } ++ { data := P.toArray } ++ { data := #[41, 63] } : ByteArray) = ⟨D2.toArray⟩ := by rw [← hD2]; apply ByteArray.ext; simp
  have lA4 : A4.length ≤ 55 := by rw [← hA4]; simp; omega
  have lB4 : B4.length ≤ 54 := by rw [← hB4]; simp; omega
  have lC2 : C2.length ≤ 28 := by rw [← hC2]; simp; omega
  have lD2 : D2.length ≤ 28 := by rw [← hD2]; simp; omega
  rw [hA4, hB4, hC2, hD2] at HJ
  clear hA4 hB4
  have KGA := Lib.hid (KG.out A4 (by omega))
  have KGB := Lib.hid (KG.out B4 (by omega))
  clear KG
  go_wp2_with fail
  clear e1 e2 e3
  rcases HJ with hA3 | ⟨hA0, hB0, HO, HT, HC, HR, HRn, HDn, HD⟩
  · rw [hA3] at KGA
    clear KGB KF KE KE2 hA3
    refine (KGA.out _).mono ?_
    rintro e w8 ⟨rfl, hb⟩
    have hB8 := hB7.trans (hb.mono hB7.size)
    clear KGA hB7 hb hR7
    go_wp2_with fail
    go_ret
    exact ⟨rfl, hB8⟩
  rw [hA0] at KGA
  rw [hB0] at KGB
  refine (KGA.out _).mono ?_
  rintro e w8 ⟨rfl, hb⟩
  have hB8 := hB7.trans (hb.mono hB7.size)
  have hR8 := hR7.stay hb
  clear KGA hB7 hb hR7 hA0 hB0
  go_wp2_with fail
  refine (KGB.out _).mono ?_
  rintro e w9 ⟨rfl, hb⟩
  have hB9 := hB8.trans (hb.mono hB8.size)
  have hR9 := hR8.stay hb
  clear KGB hB8 hb hR8
  have z0 : w9.cell? ⟨w.heap.size, 0, none⟩ = some (.string T3) := hR9.cell 0
  have z1 : w9.cell? ⟨w.heap.size, 1, none⟩ = some (.string T4) := hR9.cell 1
  go_upto_region 9 with fail
  try simp only [List.append_eq, List.cons_append, List.nil_append]
  refine region_class (fun w' => Below w9.heap.size w9 w' ∧ w'.cell? ⟨w.heap.size, 0, none⟩ = some (.string T3) ∧ w'.cell? ⟨w.heap.size, 1, none⟩ = some (.string T4)) (by kernel_rfl) (by kernel_rfl) (⟨(Below.refl _ _).drew, z0, z1⟩) ?_
  repeat
    first
    | go_big_quiet_skip
    | (go_big_quiet_want
       refine quiet_val ?_
       apply Exists.intro
       refine ⟨fun w' hw' => ?_, ?_⟩
       · obtain ⟨_, e0, e1⟩ := hw'
         go_simp
         first | done | rfl | exact ⟨rfl, rfl⟩
       simp only [Act.put, List.setIfInBounds_toArray, List.set_cons_zero, List.set_cons_succ]
       go_big_quiet_on)
    | (go_big_quiet_want
       refine quiet_call ?_
       apply Exists.intro
       apply Exists.intro
       refine ⟨fun w' => ?_, ?_⟩
       · go_simp
         first | done | rfl | exact ⟨rfl, rfl⟩
       apply Exists.intro
       refine ⟨fun w' hw' => ?_, ?_⟩
       · first
         | (with_reducible refine (KE _).mono ?_); (rintro e w2 ⟨rfl, rfl⟩; exact ⟨rfl, hw'⟩)
         | (with_reducible refine (KE2 _).mono ?_); (rintro e w2 ⟨rfl, rfl⟩; exact ⟨rfl, hw'⟩)
       simp only [Act.put, List.setIfInBounds_toArray, List.set_cons_zero, List.set_cons_succ]
       go_big_quiet_on)
  refine wpQuiet_nil ?_
  intro w5 hw5
  have hB10 := hB9.trans (hw5.1.mono hB9.size)
  clear hw5 z0 z1 hR9 hB9 KE KE2 hC2 hD2
  have KPS := Lib.hid (KF.out P S (by omega) (by omega))
  have KQU := Lib.hid (KF.out Q U (by omega) (by omega))
  have KQS := Lib.hid (KF.out Q S (by omega) (by omega))
  have KAS := Lib.hid (KF.out A4 S (by omega) (by omega))
  have KBS := Lib.hid (KF.out B4 S (by omega) (by omega))
  have KDS := Lib.hid (KF.out D2 S (by omega) (by omega))
  have KBU := Lib.hid (KF.out B4 (S ++ U) (by omega) (by rw [List.length_append]; omega))
  have KCS := Lib.hid (KF.out C2 (S ++ S) (by omega) (by rw [List.length_append]; omega))
  have KCn := Lib.hid (KF.out C2 [] (by omega) (by simp))
  have KDn := Lib.hid (KF.out D2 [] (by omega) (by simp))
  have e5 : ({ data := S.toArray } ++ { data := U.toArray } : ByteArray) = ⟨(S ++ U).toArray⟩ := by apply ByteArray.ext; simp
  have e6 : ({ data := S.toArray } ++ { data := S.toArray } : ByteArray) = ⟨(S ++ S).toArray⟩ := by apply ByteArray.ext; simp
  rw [HRn] at KCn
  rw [HDn] at KDn
  rw [HC] at KBS
  rw [HD] at KDS
  rw [HO] at KAS
  have HTU := HT S U
  have HRS := HR S
  have hz : ((⟨S.toArray⟩ : ByteArray).size : Int) = (S.length : Int) := by simp [ByteArray.size]
  clear HC HD HO HT HR HRn HDn
  cases ha : fb P S with
  | true =>
    rw [ha] at KPS KAS KDS
    have hRS := HRS ha
    rw [hRS] at KCS
    simp only [Bool.true_or] at KAS KDS
    clear KQS hRS HRS
    go_wp2_with fail
    refine (KPS.out _).mono ?_
    rintro e w11 ⟨rfl, hb⟩
    have hB11 := hB10.trans (hb.mono hB10.size)
    clear KPS hB10 hb
    cases hu : fb Q U with
    | true =>
      rw [hu] at KQU
      rw [HTU ha hu] at KBU
      clear HTU ha hu
      go_wp2_with fail
      refine (KQU.out _).mono ?_
      rintro e w12 ⟨rfl, hb⟩
      have hB12 := hB11.trans (hb.mono hB11.size)
      clear KQU hB11 hb
      go_wp2_with fail
      refine (KAS.out _).mono ?_
      rintro e w13 ⟨rfl, hb⟩
      have hB13 := hB12.trans (hb.mono hB12.size)
      clear KAS hB12 hb
      go_wp2_with fail
      refine (KBU.out _).mono ?_
      rintro e w14 ⟨rfl, hb⟩
      have hB14 := hB13.trans (hb.mono hB13.size)
      clear KBU hB13 hb
      go_wp2_with fail
      refine (KCS.out _).mono ?_
      rintro e w15 ⟨rfl, hb⟩
      have hB15 := hB14.trans (hb.mono hB14.size)
      clear KCS hB14 hb
      go_wp2_with fail
      refine (KCn.out _).mono ?_
      rintro e w16 ⟨rfl, hb⟩
      have hB16 := hB15.trans (hb.mono hB15.size)
      clear KCn hB15 hb
      go_wp2_with fail
      refine (KDn.out _).mono ?_
      rintro e w17 ⟨rfl, hb⟩
      have hB17 := hB16.trans (hb.mono hB16.size)
      clear KDn hB16 hb
      go_upto_region 15 with fail
      go_loopw [14, 15] (fun sv iv wr => ∃ k : Nat, k ≤ S.length + 1 ∧ iv = .int .i64 (k : Int) ∧ sv = .bool (cutB P Q S k) ∧ Below w.heap.size w wr) (fun _ iv _ => S.length + 1 - (intOf iv).toNat)
      case atStart => exact ⟨0, Nat.zero_le _, rfl, rfl, hB17⟩
      case round =>
        obtain ⟨k, hk, rfl, rfl, hBr⟩ := hrel
        clear hB17
        have hsk : k ≤ S.length → ∀ w, (Instr.slice 9 (.string ⟨S.toArray⟩) none (some (.int .i64 (k : Int))) none).run Try.prog w = .ok (.string ⟨(S.take k).toArray⟩) w := fun h w => cut_upto S k h k rfl w
        have hsd : k ≤ S.length → ∀ w, (Instr.slice 9 (.string ⟨S.toArray⟩) (some (.int .i64 (k : Int))) none none).run Try.prog w = .ok (.string ⟨(S.drop k).toArray⟩) w := fun h w => cut_text S k h k rfl w
        have hnx : cutB P Q S (k + 1) = (cutB P Q S k || (fb P (S.take k) && fb Q (S.drop k))) := rfl
        by_cases hkl : k ≤ S.length
        · have hki : (k : Int) ≤ (S.length : Int) := by omega
          have hki2 : (k : Int) + 1 ≤ 9223372036854775807 := by omega
          have hs1 := hsk hkl
          have hs2 := hsd hkl
          have KX := Lib.hid (KF.out P (S.take k) (by omega) (by rw [List.length_take]; omega))
          have KY := Lib.hid (KF.out Q (S.drop k) (by omega) (by rw [List.length_drop]; omega))
          clear hsk hsd
          cases hc : cutB P Q S k with
          | true =>
            rw [hc] at hnx
            clear KX KY
            go_wp2_with fail
            go_roundw
            case rel => exact ⟨k + 1, by omega, by go_num, by rw [hnx]; rfl, hBr⟩
            case measure => simp [intOf]; omega
          | false =>
            rw [hc] at hnx
            cases hx : fb P (S.take k) with
            | false =>
              rw [hx] at KX hnx
              clear KY
              go_wp2_with fail
              refine (KX.out _).mono ?_
              rintro e wx ⟨rfl, hb⟩
              have hBx := hBr.trans (hb.mono hBr.size)
              clear KX hb hBr
              go_wp2_with fail
              go_roundw
              case rel => exact ⟨k + 1, by omega, by go_num, by rw [hnx]; rfl, hBx⟩
              case measure => simp [intOf]; omega
            | true =>
              rw [hx] at KX hnx
              go_wp2_with fail
              refine (KX.out _).mono ?_
              rintro e wx ⟨rfl, hb⟩
              have hBx := hBr.trans (hb.mono hBr.size)
              clear KX hb hBr
              go_wp2_with fail
              refine (KY.out _).mono ?_
              rintro e wy ⟨rfl, hb⟩
              have hBy := hBx.trans (hb.mono hBx.size)
              clear KY hb hBx
              go_wp2_with fail
              go_roundw
              case rel => exact ⟨k + 1, by omega, by go_num, by rw [hnx]; simp, hBy⟩
              case measure => simp [intOf]; omega
        · have hke : k = S.length + 1 := by omega
          have hki : ¬ ((k : Int) ≤ (S.length : Int)) := by omega
          clear hsk hsd hnx
          rw [← hke] at KBS
          generalize cutB P Q S k = cc at *
          have hcc : (cc == cc) = true := by cases cc <;> rfl
          go_wp2_with fail
          refine (KBS.out _).mono ?_
          rintro e wx ⟨rfl, hb⟩
          have hBx := hBr.trans (hb.mono hBr.size)
          clear KBS hb hBr
          go_wp2_with fail
          refine (KDS.out _).mono ?_
          rintro e wy ⟨rfl, hb⟩
          have hBy := hBx.trans (hb.mono hBx.size)
          clear KDS hb hBx
          go_wp2_with fail
          go_ret
          exact ⟨rfl, hBy⟩
    | false =>
      rw [hu] at KQU
      clear HTU ha hu KBU
      go_wp2_with fail
      refine (KQU.out _).mono ?_
      rintro e w12 ⟨rfl, hb⟩
      have hB12 := hB11.trans (hb.mono hB11.size)
      clear KQU hB11 hb
      go_wp2_with fail
      refine (KAS.out _).mono ?_
      rintro e w13 ⟨rfl, hb⟩
      have hB13 := hB12.trans (hb.mono hB12.size)
      clear KAS hB12 hb
      go_wp2_with fail
      refine (KCS.out _).mono ?_
      rintro e w14 ⟨rfl, hb⟩
      have hB14 := hB13.trans (hb.mono hB13.size)
      clear KCS hB13 hb
      go_wp2_with fail
      refine (KCn.out _).mono ?_
      rintro e w15 ⟨rfl, hb⟩
      have hB15 := hB14.trans (hb.mono hB14.size)
      clear KCn hB14 hb
      go_wp2_with fail
      refine (KDn.out _).mono ?_
      rintro e w16 ⟨rfl, hb⟩
      have hB16 := hB15.trans (hb.mono hB15.size)
      clear KDn hB15 hb
      go_upto_region 15 with fail
      go_loopw [14, 15] (fun sv iv wr => ∃ k : Nat, k ≤ S.length + 1 ∧ iv = .int .i64 (k : Int) ∧ sv = .bool (cutB P Q S k) ∧ Below w.heap.size w wr) (fun _ iv _ => S.length + 1 - (intOf iv).toNat)
      case atStart => exact ⟨0, Nat.zero_le _, rfl, rfl, hB16⟩
      case round =>
        obtain ⟨k, hk, rfl, rfl, hBr⟩ := hrel
        clear hB16
        have hsk : k ≤ S.length → ∀ w, (Instr.slice 9 (.string ⟨S.toArray⟩) none (some (.int .i64 (k : Int))) none).run Try.prog w = .ok (.string ⟨(S.take k).toArray⟩) w := fun h w => cut_upto S k h k rfl w
        have hsd : k ≤ S.length → ∀ w, (Instr.slice 9 (.string ⟨S.toArray⟩) (some (.int .i64 (k : Int))) none none).run Try.prog w = .ok (.string ⟨(S.drop k).toArray⟩) w := fun h w => cut_text S k h k rfl w
        have hnx : cutB P Q S (k + 1) = (cutB P Q S k || (fb P (S.take k) && fb Q (S.drop k))) := rfl
        by_cases hkl : k ≤ S.length
        · have hki : (k : Int) ≤ (S.length : Int) := by omega
          have hki2 : (k : Int) + 1 ≤ 9223372036854775807 := by omega
          have hs1 := hsk hkl
          have hs2 := hsd hkl
          have KX := Lib.hid (KF.out P (S.take k) (by omega) (by rw [List.length_take]; omega))
          have KY := Lib.hid (KF.out Q (S.drop k) (by omega) (by rw [List.length_drop]; omega))
          clear hsk hsd
          cases hc : cutB P Q S k with
          | true =>
            rw [hc] at hnx
            clear KX KY
            go_wp2_with fail
            go_roundw
            case rel => exact ⟨k + 1, by omega, by go_num, by rw [hnx]; rfl, hBr⟩
            case measure => simp [intOf]; omega
          | false =>
            rw [hc] at hnx
            cases hx : fb P (S.take k) with
            | false =>
              rw [hx] at KX hnx
              clear KY
              go_wp2_with fail
              refine (KX.out _).mono ?_
              rintro e wx ⟨rfl, hb⟩
              have hBx := hBr.trans (hb.mono hBr.size)
              clear KX hb hBr
              go_wp2_with fail
              go_roundw
              case rel => exact ⟨k + 1, by omega, by go_num, by rw [hnx]; rfl, hBx⟩
              case measure => simp [intOf]; omega
            | true =>
              rw [hx] at KX hnx
              go_wp2_with fail
              refine (KX.out _).mono ?_
              rintro e wx ⟨rfl, hb⟩
              have hBx := hBr.trans (hb.mono hBr.size)
              clear KX hb hBr
              go_wp2_with fail
              refine (KY.out _).mono ?_
              rintro e wy ⟨rfl, hb⟩
              have hBy := hBx.trans (hb.mono hBx.size)
              clear KY hb hBx
              go_wp2_with fail
              go_roundw
              case rel => exact ⟨k + 1, by omega, by go_num, by rw [hnx]; simp, hBy⟩
              case measure => simp [intOf]; omega
        · have hke : k = S.length + 1 := by omega
          have hki : ¬ ((k : Int) ≤ (S.length : Int)) := by omega
          clear hsk hsd hnx
          rw [← hke] at KBS
          generalize cutB P Q S k = cc at *
          have hcc : (cc == cc) = true := by cases cc <;> rfl
          go_wp2_with fail
          refine (KBS.out _).mono ?_
          rintro e wx ⟨rfl, hb⟩
          have hBx := hBr.trans (hb.mono hBr.size)
          clear KBS hb hBr
          go_wp2_with fail
          refine (KDS.out _).mono ?_
          rintro e wy ⟨rfl, hb⟩
          have hBy := hBx.trans (hb.mono hBx.size)
          clear KDS hb hBx
          go_wp2_with fail
          go_ret
          exact ⟨rfl, hBy⟩
  | false =>
    rw [ha] at KPS KAS KDS
    simp only [Bool.false_or] at KAS KDS
    clear HTU HRS ha KBU KCS
    generalize fb Q U = bu at *
    generalize fb Q S = bq at *
    have hqq : (bq != bq) = false := by cases bq <;> rfl
    go_wp2_with fail
    refine (KPS.out _).mono ?_
    rintro e w11 ⟨rfl, hb⟩
    have hB11 := hB10.trans (hb.mono hB10.size)
    clear KPS hB10 hb
    go_wp2_with fail
    refine (KQU.out _).mono ?_
    rintro e w12 ⟨rfl, hb⟩
    have hB12 := hB11.trans (hb.mono hB11.size)
    clear KQU hB11 hb
    go_wp2_with fail
    refine (KAS.out _).mono ?_
    rintro e w13 ⟨rfl, hb⟩
    have hB13 := hB12.trans (hb.mono hB12.size)
    clear KAS hB12 hb
    go_wp2_with fail
    refine (KQS.out _).mono ?_
    rintro e w14 ⟨rfl, hb⟩
    have hB14 := hB13.trans (hb.mono hB13.size)
    clear KQS hB13 hb
    go_wp2_with fail
    refine (KCn.out _).mono ?_
    rintro e w15 ⟨rfl, hb⟩
    have hB15 := hB14.trans (hb.mono hB14.size)
    clear KCn hB14 hb
    go_wp2_with fail
    refine (KDn.out _).mono ?_
    rintro e w16 ⟨rfl, hb⟩
    have hB16 := hB15.trans (hb.mono hB15.size)
    clear KDn hB15 hb
    go_upto_region 15 with fail
    go_loopw [14, 15] (fun sv iv wr => ∃ k : Nat, k ≤ S.length + 1 ∧ iv = .int .i64 (k : Int) ∧ sv = .bool (cutB P Q S k) ∧ Below w.heap.size w wr) (fun _ iv _ => S.length + 1 - (intOf iv).toNat)
    case atStart => exact ⟨0, Nat.zero_le _, rfl, rfl, hB16⟩
    case round =>
      obtain ⟨k, hk, rfl, rfl, hBr⟩ := hrel
      clear hB16
      have hsk : k ≤ S.length → ∀ w, (Instr.slice 9 (.string ⟨S.toArray⟩) none (some (.int .i64 (k : Int))) none).run Try.prog w = .ok (.string ⟨(S.take k).toArray⟩) w := fun h w => cut_upto S k h k rfl w
      have hsd : k ≤ S.length → ∀ w, (Instr.slice 9 (.string ⟨S.toArray⟩) (some (.int .i64 (k : Int))) none none).run Try.prog w = .ok (.string ⟨(S.drop k).toArray⟩) w := fun h w => cut_text S k h k rfl w
      have hnx : cutB P Q S (k + 1) = (cutB P Q S k || (fb P (S.take k) && fb Q (S.drop k))) := rfl
      by_cases hkl : k ≤ S.length
      · have hki : (k : Int) ≤ (S.length : Int) := by omega
        have hki2 : (k : Int) + 1 ≤ 9223372036854775807 := by omega
        have hs1 := hsk hkl
        have hs2 := hsd hkl
        have KX := Lib.hid (KF.out P (S.take k) (by omega) (by rw [List.length_take]; omega))
        have KY := Lib.hid (KF.out Q (S.drop k) (by omega) (by rw [List.length_drop]; omega))
        clear hsk hsd
        cases hc : cutB P Q S k with
        | true =>
          rw [hc] at hnx
          clear KX KY
          go_wp2_with fail
          go_roundw
          case rel => exact ⟨k + 1, by omega, by go_num, by rw [hnx]; rfl, hBr⟩
          case measure => simp [intOf]; omega
        | false =>
          rw [hc] at hnx
          cases hx : fb P (S.take k) with
          | false =>
            rw [hx] at KX hnx
            clear KY
            go_wp2_with fail
            refine (KX.out _).mono ?_
            rintro e wx ⟨rfl, hb⟩
            have hBx := hBr.trans (hb.mono hBr.size)
            clear KX hb hBr
            go_wp2_with fail
            go_roundw
            case rel => exact ⟨k + 1, by omega, by go_num, by rw [hnx]; rfl, hBx⟩
            case measure => simp [intOf]; omega
          | true =>
            rw [hx] at KX hnx
            go_wp2_with fail
            refine (KX.out _).mono ?_
            rintro e wx ⟨rfl, hb⟩
            have hBx := hBr.trans (hb.mono hBr.size)
            clear KX hb hBr
            go_wp2_with fail
            refine (KY.out _).mono ?_
            rintro e wy ⟨rfl, hb⟩
            have hBy := hBx.trans (hb.mono hBx.size)
            clear KY hb hBx
            go_wp2_with fail
            go_roundw
            case rel => exact ⟨k + 1, by omega, by go_num, by rw [hnx]; simp, hBy⟩
            case measure => simp [intOf]; omega
      · have hke : k = S.length + 1 := by omega
        have hki : ¬ ((k : Int) ≤ (S.length : Int)) := by omega
        clear hsk hsd hnx
        rw [← hke] at KBS
        generalize cutB P Q S k = cc at *
        have hcc : (cc == cc) = true := by cases cc <;> rfl
        go_wp2_with fail
        refine (KBS.out _).mono ?_
        rintro e wx ⟨rfl, hb⟩
        have hBx := hBr.trans (hb.mono hBr.size)
        clear KBS hb hBr
        go_wp2_with fail
        refine (KDS.out _).mono ?_
        rintro e wy ⟨rfl, hb⟩
        have hBy := hBx.trans (hb.mono hBx.size)
        clear KDS hb hBx
        have hse : (S == []) = S.isEmpty := by cases S <;> rfl
        have hn1 : (⟨S.toArray⟩ : ByteArray).toList.isEmpty = S.isEmpty := by rw [text_list]
        rw [hse]
        clear hse
        cases hsn : S.isEmpty <;> rw [hsn] at hn1 <;> (go_wp2_with fail; go_ret; exact ⟨rfl, hBy⟩)
end Go.Proofs.Ytakkcofmbafneaa
