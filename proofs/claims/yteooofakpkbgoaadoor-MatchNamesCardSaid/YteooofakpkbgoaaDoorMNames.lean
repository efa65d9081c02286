/- MatchNames returns true, whatever the text and the sign. -/
import Derived.Test.YteooofakpkbgoaaDoorMB
namespace Go.Proofs.YteooofakpkbgoaaDoor
open Go.ChangeShapes Go.WideShapes Go.RowKit

theorem take20 (l : Bs) (m : Nat) (z : Int) (hz : z = (m : Int)) (w : World) : (Instr.slice 9 (.string ⟨l.toArray⟩) none (some (.int .i64 (min (l.length : Int) z))) none).run Tryd.prog w = .ok (.string ⟨(l.take m).toArray⟩) w := by
  subst hz
  have h := cut_upto l (min l.length m) (Nat.min_le_left _ _) (min (l.length : Int) (m : Int)) (by omega) w
  rw [h, Nat.min_comm, ← List.take_take, List.take_length]
theorem name_iff (l : Bs) : nameB l = true ↔ (1 ≤ l.length ∧ l.length ≤ 12) ∧ digN (l.headD 0).toNat = false ∧ ∀ c ∈ l, okN c.toNat = true := by
  unfold nameB
  simp [and_assoc]
theorem name_dash (s : Bs) : nameB (s ++ [45]) = false := by
  cases hn : nameB (s ++ [45]) with
  | false => rfl
  | true =>
    have := ((name_iff _).1 hn).2.2 45 (by simp)
    exact absurd this (by decide)
theorem name_blank (s : Bs) : nameB (s ++ [32]) = false := by
  cases hn : nameB (s ++ [32]) with
  | false => rfl
  | true =>
    have := ((name_iff _).1 hn).2.2 32 (by simp)
    exact absurd this (by decide)
theorem name_nought (s : Bs) : nameB (48 :: s) = false := name_digit (c := 48) rfl (by decide)
theorem name_snoc {s : Bs} (h : nameB s = true) (c : UInt8) : nameB (s ++ [c]) = (okN c.toNat && decide (s.length < 12)) := by
  obtain ⟨h1, h2, h3⟩ := (name_iff s).1 h
  cases s with
  | nil => simp at h1
  | cons d s =>
    cases hk : okN c.toNat && decide ((d :: s).length < 12) with
    | true =>
      simp at hk
      refine (name_iff _).2 ⟨by simp; omega, h2, fun x hx => ?_⟩
      simp at hx
      rcases hx with rfl | hx | rfl
      · exact h3 _ (by simp)
      · exact h3 _ (by simp [hx])
      · exact hk.1
    | false =>
      cases hn : nameB (d :: s ++ [c]) with
      | false => rfl
      | true =>
        obtain ⟨g1, g2, g3⟩ := (name_iff _).1 hn
        have g4 := g3 c (by simp)
        rw [g4] at hk
        simp at hk g1
        omega
theorem name_first {s : Bs} (h : nameB s = true) : nameB (s.take 1) = true ∧ 0 < s.length := by
  obtain ⟨h1, h2, h3⟩ := (name_iff s).1 h
  cases s with
  | nil => simp at h1
  | cons d s => exact ⟨(name_iff _).2 ⟨by simp, h2, fun x hx => by simp at hx; rw [hx]; exact h3 _ (by simp)⟩, by simp⟩
theorem app_text (a b : Bs) : (⟨a.toArray⟩ : ByteArray) ++ ⟨b.toArray⟩ = ⟨(a ++ b).toArray⟩ := by apply ByteArray.ext; apply Array.ext'; simp
theorem bstr (w : World) (c : UInt8) : (convert 54 9 (.slice (some ⟨w.heap.size, 0, none⟩) 1 1)).run Tryd.prog (w.alloc (.cells #[.int .u8 (c.toNat : Int)] 5)) = .ok (.string ⟨[c].toArray⟩) (w.alloc (.cells #[.int .u8 (c.toNat : Int)] 5)) :=
  own_string (base := 0) (l := [c]) (World.ownsRow_lit w #[.int .u8 (c.toNat : Int)] 1 (Nat.zero_le _) (by unfold maxLen; omega) rfl)
theorem sign_kinds (n : Nat) : (97 ≤ n ∧ n ≤ 122 ∧ okN n = true) ∨ (¬ 97 ≤ n ∧ 48 ≤ n ∧ n ≤ 57 ∧ okN n = true) ∨ (n = 95 ∧ okN n = true) ∨ (¬ 97 ≤ n ∧ ¬ 48 ≤ n ∧ n ≠ 95 ∧ okN n = false) ∨ (¬ 97 ≤ n ∧ 48 ≤ n ∧ ¬ n ≤ 57 ∧ n ≠ 95 ∧ okN n = false) ∨ (97 ≤ n ∧ ¬ n ≤ 122 ∧ okN n = false) := by
  by_cases h1 : 97 ≤ n
  · by_cases h2 : n ≤ 122
    · exact .inl ⟨h1, h2, (ok_letter ⟨h1, h2⟩).2.2⟩
    · exact .inr (.inr (.inr (.inr (.inr ⟨h1, h2, (ok_none (by omega) (by omega) (by omega)).2.2⟩))))
  · by_cases h3 : 48 ≤ n
    · by_cases h4 : n ≤ 57
      · exact .inr (.inl ⟨h1, h3, h4, (ok_digit ⟨h3, h4⟩).2.2⟩)
      · by_cases h5 : n = 95
        · exact .inr (.inr (.inl ⟨h5, (ok_line h5).2.2⟩))
        · exact .inr (.inr (.inr (.inr (.inl ⟨h1, h3, h4, h5, (ok_none (by omega) (by omega) h5).2.2⟩))))
    · exact .inr (.inr (.inr (.inl ⟨h1, h3, by omega, (ok_none (by omega) (by omega) (by omega)).2.2⟩)))
set_option maxHeartbeats 6400000 in
set_option maxRecDepth 100000 in
theorem names_law (s0 : Bs) (c : UInt8) (b : Int) (hbc : b = (c.toNat : Int)) (w : World) (hs : s0.length ≤ 9223372036854775807) (hg : SgAt w) : Calls Tryd.prog 10 #[.string ⟨s0.toArray⟩, .int .u8 b] w fun e w' => e = .returned (.bool true) ∧ Below w.heap.size w w' := by
  have KL := Lib.hid (lives_any w hg)
  have hsz : ((⟨s0.toArray⟩ : ByteArray).size : Int) = (s0.length : Int) := by simp [ByteArray.size]
  have hcut := take20 s0 20 20 rfl
  have hln : (s0.take 20).length ≤ 20 := by rw [List.length_take]; omega
  have hlei : (s0.length : Int) ≤ 9223372036854775807 := by omega
  generalize s0.take 20 = s at *
  generalize (⟨s0.toArray⟩ : ByteArray) = T0 at *
  generalize s0.length = l0 at *
  have KN := Lib.hid fun w => name_any s w (by omega)
  have hTs : (⟨s.toArray⟩ : ByteArray).size = s.length := by simp [ByteArray.size]
  cases hn : nameB s with
  | false =>
    have KD := fun w => name_any (s ++ [45]) w (by rw [List.length_append]; simp; omega)
    rw [name_dash s, ← app_text] at KD
    replace KD := Lib.hid KD
    rw [hn] at KN
    clear hn hg
    generalize (⟨s.toArray⟩ : ByteArray) = T at *
    have hT1 : ¬ (9223372036854775807 < T.size + 1) := by omega
    go_enter Tryd.func10, Tryd.ntmps10
    go_wp2_with fail
    refine KL.out.mono ?_
    rintro e w1 ⟨rfl, hB1⟩
    go_wp2_with fail
    refine (KN.out _).mono ?_
    rintro e w2 ⟨rfl, hw2⟩
    obtain rfl : w1 = w2 := hw2.symm
    go_wp2_with fail
    refine (KD.out _).mono ?_
    rintro e w3 ⟨rfl, hw3⟩
    obtain rfl : w1 = w3 := hw3.symm
    go_wp2_with fail
    go_ret
    exact ⟨rfl, hB1⟩
  | true =>
    have K0 := fun w => name_any ([48] ++ s) w (by rw [List.length_append]; simp; omega)
    rw [show [48] ++ s = 48 :: s from rfl, name_nought, show 48 :: s = [48] ++ s from rfl, ← app_text] at K0
    replace K0 := Lib.hid K0
    have KB := fun w => name_any (s ++ [32]) w (by rw [List.length_append]; simp; omega)
    rw [name_blank, ← app_text] at KB
    replace KB := Lib.hid KB
    have KC := fun w => name_any (s ++ [c]) w (by rw [List.length_append]; simp; omega)
    rw [name_snoc hn, ← app_text] at KC
    have K1 := fun w => name_any (s.take 1) w (by rw [List.length_take]; omega)
    obtain ⟨hn1, hpos⟩ := name_first hn
    rw [hn1] at K1
    replace K1 := Lib.hid K1
    have hc1 := fun w => cut_upto s 1 hpos 1 rfl w
    have hls := ((name_iff s).1 hn).1.2
    have hbs := fun w => bstr w c
    rw [hn] at KN
    have hkind := sign_kinds c.toNat
    rw [← hbc] at hbs
    have hposi : (0 : Int) < (s.length : Int) := by omega
    have hTC : (⟨[c].toArray⟩ : ByteArray).size = 1 := rfl
    have hTi : ((⟨s.toArray⟩ : ByteArray).size : Int) = (s.length : Int) := by omega
    generalize (⟨(s.take 1).toArray⟩ : ByteArray) = TX at *
    generalize (⟨s.toArray⟩ : ByteArray) = T at *
    generalize (⟨[c].toArray⟩ : ByteArray) = TC at *
    clear hn hg hn1
    generalize s.length = l at *
    have hT1 : ¬ (9223372036854775807 < T.size + 1) := by omega
    have hT2 : ¬ (9223372036854775807 < 1 + T.size) := by omega
    have hT3 : ¬ (9223372036854775807 < T.size + TC.size) := by omega
    rcases hkind with ⟨h1, h2, hk⟩ | ⟨h1, h2, h3, hk⟩ | ⟨h1, hk⟩ | ⟨h1, h2, h3, hk⟩ | ⟨h1, h2, h3, h4, hk⟩ | ⟨h1, h2, hk⟩
    · rw [hk] at KC
      have i1 : (97 : Int) ≤ b := by omega
      have i2 : b ≤ 122 := by omega
      clear hbc
      by_cases hl : l < 12
      · have hli : (l : Int) < 12 := by omega
        rw [decide_eq_true hl] at KC
        replace KC := Lib.hid KC
        clear hl
        go_enter Tryd.func10, Tryd.ntmps10
        go_wp2_with fail
        refine KL.out.mono ?_
        rintro e w1 ⟨rfl, hB1⟩
        go_wp2_with fail
        refine (KN.out _).mono ?_
        rintro e w2 ⟨rfl, hw2⟩
        obtain rfl : w1 = w2 := hw2.symm
        have hbs1 := hbs w1
        have hB2 := hB1.alloc hB1.size (.cells #[.int .u8 b] 5)
        clear hbs
        go_wp2_with fail
        refine (KC.out _).mono ?_
        rintro e w3 ⟨rfl, hw3⟩
        rw [hw3]
        clear hw3
        go_wp2_with fail
        refine (K0.out _).mono ?_
        rintro e w4 ⟨rfl, hw4⟩
        rw [hw4]
        clear hw4
        go_wp2_with fail
        refine (KB.out _).mono ?_
        rintro e w5 ⟨rfl, hw5⟩
        rw [hw5]
        clear hw5
        go_wp2_with fail
        refine (K1.out _).mono ?_
        rintro e w6 ⟨rfl, hw6⟩
        rw [hw6]
        clear hw6
        go_wp2_with fail
        go_ret
        exact ⟨rfl, hB2⟩
      · have hli : decide ((l : Int) < 12) = false := decide_eq_false (by omega)
        rw [decide_eq_false hl] at KC
        replace KC := Lib.hid KC
        clear hl
        go_enter Tryd.func10, Tryd.ntmps10
        go_wp2_with fail
        refine KL.out.mono ?_
        rintro e w1 ⟨rfl, hB1⟩
        go_wp2_with fail
        refine (KN.out _).mono ?_
        rintro e w2 ⟨rfl, hw2⟩
        obtain rfl : w1 = w2 := hw2.symm
        have hbs1 := hbs w1
        have hB2 := hB1.alloc hB1.size (.cells #[.int .u8 b] 5)
        clear hbs
        go_wp2_with fail
        refine (KC.out _).mono ?_
        rintro e w3 ⟨rfl, hw3⟩
        rw [hw3]
        clear hw3
        go_wp2_with fail
        refine (K0.out _).mono ?_
        rintro e w4 ⟨rfl, hw4⟩
        rw [hw4]
        clear hw4
        go_wp2_with fail
        refine (KB.out _).mono ?_
        rintro e w5 ⟨rfl, hw5⟩
        rw [hw5]
        clear hw5
        go_wp2_with fail
        refine (K1.out _).mono ?_
        rintro e w6 ⟨rfl, hw6⟩
        rw [hw6]
        clear hw6
        go_wp2_with fail
        go_ret
        exact ⟨rfl, hB2⟩
    · rw [hk] at KC
      have i1 : ¬ (97 : Int) ≤ b := by omega
      have i2 : (48 : Int) ≤ b := by omega
      have i3 : b ≤ 57 := by omega
      clear hbc
      by_cases hl : l < 12
      · have hli : (l : Int) < 12 := by omega
        rw [decide_eq_true hl] at KC
        replace KC := Lib.hid KC
        clear hl
        go_enter Tryd.func10, Tryd.ntmps10
        go_wp2_with fail
        refine KL.out.mono ?_
        rintro e w1 ⟨rfl, hB1⟩
        go_wp2_with fail
        refine (KN.out _).mono ?_
        rintro e w2 ⟨rfl, hw2⟩
        obtain rfl : w1 = w2 := hw2.symm
        have hbs1 := hbs w1
        have hB2 := hB1.alloc hB1.size (.cells #[.int .u8 b] 5)
        clear hbs
        go_wp2_with fail
        refine (KC.out _).mono ?_
        rintro e w3 ⟨rfl, hw3⟩
        rw [hw3]
        clear hw3
        go_wp2_with fail
        refine (K0.out _).mono ?_
        rintro e w4 ⟨rfl, hw4⟩
        rw [hw4]
        clear hw4
        go_wp2_with fail
        refine (KB.out _).mono ?_
        rintro e w5 ⟨rfl, hw5⟩
        rw [hw5]
        clear hw5
        go_wp2_with fail
        refine (K1.out _).mono ?_
        rintro e w6 ⟨rfl, hw6⟩
        rw [hw6]
        clear hw6
        go_wp2_with fail
        go_ret
        exact ⟨rfl, hB2⟩
      · have hli : decide ((l : Int) < 12) = false := decide_eq_false (by omega)
        rw [decide_eq_false hl] at KC
        replace KC := Lib.hid KC
        clear hl
        go_enter Tryd.func10, Tryd.ntmps10
        go_wp2_with fail
        refine KL.out.mono ?_
        rintro e w1 ⟨rfl, hB1⟩
        go_wp2_with fail
        refine (KN.out _).mono ?_
        rintro e w2 ⟨rfl, hw2⟩
        obtain rfl : w1 = w2 := hw2.symm
        have hbs1 := hbs w1
        have hB2 := hB1.alloc hB1.size (.cells #[.int .u8 b] 5)
        clear hbs
        go_wp2_with fail
        refine (KC.out _).mono ?_
        rintro e w3 ⟨rfl, hw3⟩
        rw [hw3]
        clear hw3
        go_wp2_with fail
        refine (K0.out _).mono ?_
        rintro e w4 ⟨rfl, hw4⟩
        rw [hw4]
        clear hw4
        go_wp2_with fail
        refine (KB.out _).mono ?_
        rintro e w5 ⟨rfl, hw5⟩
        rw [hw5]
        clear hw5
        go_wp2_with fail
        refine (K1.out _).mono ?_
        rintro e w6 ⟨rfl, hw6⟩
        rw [hw6]
        clear hw6
        go_wp2_with fail
        go_ret
        exact ⟨rfl, hB2⟩
    · rw [hk] at KC
      obtain rfl : b = 95 := by omega
      clear hbc
      by_cases hl : l < 12
      · have hli : (l : Int) < 12 := by omega
        rw [decide_eq_true hl] at KC
        replace KC := Lib.hid KC
        clear hl
        go_enter Tryd.func10, Tryd.ntmps10
        go_wp2_with fail
        refine KL.out.mono ?_
        rintro e w1 ⟨rfl, hB1⟩
        go_wp2_with fail
        refine (KN.out _).mono ?_
        rintro e w2 ⟨rfl, hw2⟩
        obtain rfl : w1 = w2 := hw2.symm
        have hbs1 := hbs w1
        have hB2 := hB1.alloc hB1.size (.cells #[.int .u8 95] 5)
        clear hbs
        go_wp2_with fail
        refine (KC.out _).mono ?_
        rintro e w3 ⟨rfl, hw3⟩
        rw [hw3]
        clear hw3
        go_wp2_with fail
        refine (K0.out _).mono ?_
        rintro e w4 ⟨rfl, hw4⟩
        rw [hw4]
        clear hw4
        go_wp2_with fail
        refine (KB.out _).mono ?_
        rintro e w5 ⟨rfl, hw5⟩
        rw [hw5]
        clear hw5
        go_wp2_with fail
        refine (K1.out _).mono ?_
        rintro e w6 ⟨rfl, hw6⟩
        rw [hw6]
        clear hw6
        go_wp2_with fail
        go_ret
        exact ⟨rfl, hB2⟩
      · have hli : decide ((l : Int) < 12) = false := decide_eq_false (by omega)
        rw [decide_eq_false hl] at KC
        replace KC := Lib.hid KC
        clear hl
        go_enter Tryd.func10, Tryd.ntmps10
        go_wp2_with fail
        refine KL.out.mono ?_
        rintro e w1 ⟨rfl, hB1⟩
        go_wp2_with fail
        refine (KN.out _).mono ?_
        rintro e w2 ⟨rfl, hw2⟩
        obtain rfl : w1 = w2 := hw2.symm
        have hbs1 := hbs w1
        have hB2 := hB1.alloc hB1.size (.cells #[.int .u8 95] 5)
        clear hbs
        go_wp2_with fail
        refine (KC.out _).mono ?_
        rintro e w3 ⟨rfl, hw3⟩
        rw [hw3]
        clear hw3
        go_wp2_with fail
        refine (K0.out _).mono ?_
        rintro e w4 ⟨rfl, hw4⟩
        rw [hw4]
        clear hw4
        go_wp2_with fail
        refine (KB.out _).mono ?_
        rintro e w5 ⟨rfl, hw5⟩
        rw [hw5]
        clear hw5
        go_wp2_with fail
        refine (K1.out _).mono ?_
        rintro e w6 ⟨rfl, hw6⟩
        rw [hw6]
        clear hw6
        go_wp2_with fail
        go_ret
        exact ⟨rfl, hB2⟩
    · rw [hk] at KC
      have i1 : ¬ (97 : Int) ≤ b := by omega
      have i2 : ¬ (48 : Int) ≤ b := by omega
      have i4 : (b == 95) = false := by rw [beq_eq_false_iff_ne]; omega
      clear hbc
      by_cases hl : l < 12
      · have hli : (l : Int) < 12 := by omega
        replace KC := Lib.hid KC
        clear hl
        go_enter Tryd.func10, Tryd.ntmps10
        go_wp2_with fail
        refine KL.out.mono ?_
        rintro e w1 ⟨rfl, hB1⟩
        go_wp2_with fail
        refine (KN.out _).mono ?_
        rintro e w2 ⟨rfl, hw2⟩
        obtain rfl : w1 = w2 := hw2.symm
        have hbs1 := hbs w1
        have hB2 := hB1.alloc hB1.size (.cells #[.int .u8 b] 5)
        clear hbs
        go_wp2_with fail
        refine (KC.out _).mono ?_
        rintro e w3 ⟨rfl, hw3⟩
        rw [hw3]
        clear hw3
        go_wp2_with fail
        refine (K0.out _).mono ?_
        rintro e w4 ⟨rfl, hw4⟩
        rw [hw4]
        clear hw4
        go_wp2_with fail
        refine (KB.out _).mono ?_
        rintro e w5 ⟨rfl, hw5⟩
        rw [hw5]
        clear hw5
        go_wp2_with fail
        refine (K1.out _).mono ?_
        rintro e w6 ⟨rfl, hw6⟩
        rw [hw6]
        clear hw6
        go_wp2_with fail
        go_ret
        exact ⟨rfl, hB2⟩
      · have hli : decide ((l : Int) < 12) = false := decide_eq_false (by omega)
        replace KC := Lib.hid KC
        clear hl
        go_enter Tryd.func10, Tryd.ntmps10
        go_wp2_with fail
        refine KL.out.mono ?_
        rintro e w1 ⟨rfl, hB1⟩
        go_wp2_with fail
        refine (KN.out _).mono ?_
        rintro e w2 ⟨rfl, hw2⟩
        obtain rfl : w1 = w2 := hw2.symm
        have hbs1 := hbs w1
        have hB2 := hB1.alloc hB1.size (.cells #[.int .u8 b] 5)
        clear hbs
        go_wp2_with fail
        refine (KC.out _).mono ?_
        rintro e w3 ⟨rfl, hw3⟩
        rw [hw3]
        clear hw3
        go_wp2_with fail
        refine (K0.out _).mono ?_
        rintro e w4 ⟨rfl, hw4⟩
        rw [hw4]
        clear hw4
        go_wp2_with fail
        refine (KB.out _).mono ?_
        rintro e w5 ⟨rfl, hw5⟩
        rw [hw5]
        clear hw5
        go_wp2_with fail
        refine (K1.out _).mono ?_
        rintro e w6 ⟨rfl, hw6⟩
        rw [hw6]
        clear hw6
        go_wp2_with fail
        go_ret
        exact ⟨rfl, hB2⟩
    · rw [hk] at KC
      have i1 : ¬ (97 : Int) ≤ b := by omega
      have i2 : (48 : Int) ≤ b := by omega
      have i3 : decide (b ≤ 57) = false := decide_eq_false (by omega)
      have i4 : (b == 95) = false := by rw [beq_eq_false_iff_ne]; omega
      clear hbc
      by_cases hl : l < 12
      · have hli : (l : Int) < 12 := by omega
        replace KC := Lib.hid KC
        clear hl
        go_enter Tryd.func10, Tryd.ntmps10
        go_wp2_with fail
        refine KL.out.mono ?_
        rintro e w1 ⟨rfl, hB1⟩
        go_wp2_with fail
        refine (KN.out _).mono ?_
        rintro e w2 ⟨rfl, hw2⟩
        obtain rfl : w1 = w2 := hw2.symm
        have hbs1 := hbs w1
        have hB2 := hB1.alloc hB1.size (.cells #[.int .u8 b] 5)
        clear hbs
        go_wp2_with fail
        refine (KC.out _).mono ?_
        rintro e w3 ⟨rfl, hw3⟩
        rw [hw3]
        clear hw3
        go_wp2_with fail
        refine (K0.out _).mono ?_
        rintro e w4 ⟨rfl, hw4⟩
        rw [hw4]
        clear hw4
        go_wp2_with fail
        refine (KB.out _).mono ?_
        rintro e w5 ⟨rfl, hw5⟩
        rw [hw5]
        clear hw5
        go_wp2_with fail
        refine (K1.out _).mono ?_
        rintro e w6 ⟨rfl, hw6⟩
        rw [hw6]
        clear hw6
        go_wp2_with fail
        go_ret
        exact ⟨rfl, hB2⟩
      · have hli : decide ((l : Int) < 12) = false := decide_eq_false (by omega)
        replace KC := Lib.hid KC
        clear hl
        go_enter Tryd.func10, Tryd.ntmps10
        go_wp2_with fail
        refine KL.out.mono ?_
        rintro e w1 ⟨rfl, hB1⟩
        go_wp2_with fail
        refine (KN.out _).mono ?_
        rintro e w2 ⟨rfl, hw2⟩
        obtain rfl : w1 = w2 := hw2.symm
        have hbs1 := hbs w1
        have hB2 := hB1.alloc hB1.size (.cells #[.int .u8 b] 5)
        clear hbs
        go_wp2_with fail
        refine (KC.out _).mono ?_
        rintro e w3 ⟨rfl, hw3⟩
        rw [hw3]
        clear hw3
        go_wp2_with fail
        refine (K0.out _).mono ?_
        rintro e w4 ⟨rfl, hw4⟩
        rw [hw4]
        clear hw4
        go_wp2_with fail
        refine (KB.out _).mono ?_
        rintro e w5 ⟨rfl, hw5⟩
        rw [hw5]
        clear hw5
        go_wp2_with fail
        refine (K1.out _).mono ?_
        rintro e w6 ⟨rfl, hw6⟩
        rw [hw6]
        clear hw6
        go_wp2_with fail
        go_ret
        exact ⟨rfl, hB2⟩
    · rw [hk] at KC
      have i1 : (97 : Int) ≤ b := by omega
      have i5 : decide (b ≤ 122) = false := decide_eq_false (by omega)
      have i2 : (48 : Int) ≤ b := by omega
      have i3 : decide (b ≤ 57) = false := decide_eq_false (by omega)
      have i4 : (b == 95) = false := by rw [beq_eq_false_iff_ne]; omega
      clear hbc
      by_cases hl : l < 12
      · have hli : (l : Int) < 12 := by omega
        replace KC := Lib.hid KC
        clear hl
        go_enter Tryd.func10, Tryd.ntmps10
        go_wp2_with fail
        refine KL.out.mono ?_
        rintro e w1 ⟨rfl, hB1⟩
        go_wp2_with fail
        refine (KN.out _).mono ?_
        rintro e w2 ⟨rfl, hw2⟩
        obtain rfl : w1 = w2 := hw2.symm
        have hbs1 := hbs w1
        have hB2 := hB1.alloc hB1.size (.cells #[.int .u8 b] 5)
        clear hbs
        go_wp2_with fail
        refine (KC.out _).mono ?_
        rintro e w3 ⟨rfl, hw3⟩
        rw [hw3]
        clear hw3
        go_wp2_with fail
        refine (K0.out _).mono ?_
        rintro e w4 ⟨rfl, hw4⟩
        rw [hw4]
        clear hw4
        go_wp2_with fail
        refine (KB.out _).mono ?_
        rintro e w5 ⟨rfl, hw5⟩
        rw [hw5]
        clear hw5
        go_wp2_with fail
        refine (K1.out _).mono ?_
        rintro e w6 ⟨rfl, hw6⟩
        rw [hw6]
        clear hw6
        go_wp2_with fail
        go_ret
        exact ⟨rfl, hB2⟩
      · have hli : decide ((l : Int) < 12) = false := decide_eq_false (by omega)
        replace KC := Lib.hid KC
        clear hl
        go_enter Tryd.func10, Tryd.ntmps10
        go_wp2_with fail
        refine KL.out.mono ?_
        rintro e w1 ⟨rfl, hB1⟩
        go_wp2_with fail
        refine (KN.out _).mono ?_
        rintro e w2 ⟨rfl, hw2⟩
        obtain rfl : w1 = w2 := hw2.symm
        have hbs1 := hbs w1
        have hB2 := hB1.alloc hB1.size (.cells #[.int .u8 b] 5)
        clear hbs
        go_wp2_with fail
        refine (KC.out _).mono ?_
        rintro e w3 ⟨rfl, hw3⟩
        rw [hw3]
        clear hw3
        go_wp2_with fail
        refine (K0.out _).mono ?_
        rintro e w4 ⟨rfl, hw4⟩
        rw [hw4]
        clear hw4
        go_wp2_with fail
        refine (KB.out _).mono ?_
        rintro e w5 ⟨rfl, hw5⟩
        rw [hw5]
        clear hw5
        go_wp2_with fail
        refine (K1.out _).mono ?_
        rintro e w6 ⟨rfl, hw6⟩
        rw [hw6]
        clear hw6
        go_wp2_with fail
        go_ret
        exact ⟨rfl, hB2⟩
end Go.Proofs.YteooofakpkbgoaaDoor
