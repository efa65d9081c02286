/- The texts of labels, and the labels of texts, are what the document says: the statement's own function returns true, of whatever label and text. -/
import Derived.Test.YtkmbllnnaljepaaDoorLives
import Derived.Test.YtkmbllnnaljepaaDoorRRead
namespace Go.Proofs.YtkmbllnnaljepaaDoor
open Go.ChangeShapes Go.WideShapes Go.RowKit

theorem labRet_is (R : Option (Nat × Nat)) : ∃ x y z : Int, labRet R = .tuple #[.agg #[.int .i64 x, .int .u32 y], .int .i64 z] := by
  cases R with
  | none => exact ⟨_, _, _, rfl⟩
  | some p => exact ⟨_, _, _, rfl⟩

set_option maxHeartbeats 1000000 in
set_option maxRecDepth 100000 in
theorem texts_wrong (l c : Int) (hl : rB l = false) (s0 p : ByteArray) (hp : s0.extract 0 (min (s0.size : Int) 200).toNat = p) (hs : s0.size ≤ maxLen) (hp2 : p.size ≤ 200) (w : World) (he : Errs w) :
    Calls Tryd.prog 4 #[.agg #[.int .i64 l, .int .u32 c], .string s0] w fun e w' => e = .returned (.bool true) ∧ Below w.heap.size w w' := by
  unfold maxLen at hs
  obtain ⟨x, y, z, hxyz⟩ := labRet_is (rdAll p.data.toList)
  have H1 := Lib.hid (hxyz ▸ read_any p (by omega))
  have H2 := Lib.hid (hxyz ▸ rread_any p (by omega))
  clear hxyz
  have hA := LabAt.one w l c
  have hB := (Below.refl _ w).alloc (Nat.le_refl _) (.cells #[.int .i64 l, .int .u32 c] 24)
  replace he := he.keep hB
  go_enter Tryd.func4, Tryd.ntmps4
  go_wp2_with fail
  refine (lives_any _ he).mono ?_
  rintro e w1 ⟨rfl, hb⟩
  replace hA := hA.keep hb
  replace he := he.keep hb
  replace hB := hB.trans (hb.mono hB.size)
  clear hb
  obtain ⟨a0, a1⟩ := hA
  go_wp2_with fail
  refine (text_wrong l c hl _).mono ?_
  rintro e w2 ⟨rfl, hb⟩
  replace he := he.keep hb
  replace hB := hB.trans (hb.mono hB.size)
  obtain ⟨a0, a1⟩ := LabAt.keep (w := w1) ⟨a0, a1⟩ hb
  clear hb hp
  go_wp2_with fail
  refine (rtext_wrong l c hl _).mono ?_
  rintro e w3 ⟨rfl, hb⟩
  replace he := he.keep hb
  replace hB := hB.trans (hb.mono hB.size)
  obtain ⟨a0, a1⟩ := LabAt.keep (w := w2) ⟨a0, a1⟩ hb
  clear hb
  go_wp2_with fail
  refine (H1.out _ he).mono ?_
  rintro e w4 ⟨rfl, hb⟩
  replace he := he.keep hb
  replace hB := (hB.trans (hb.mono hB.size))
  have hBx := LabAt.one w4 x y
  have hb2 := (Below.refl _ w4).alloc (Nat.le_refl _) (.cells #[.int .i64 x, .int .u32 y] 24)
  replace hB := hB.trans (hb2.mono hB.size)
  clear hb hb2
  go_wp2_with fail
  refine (H2.out _).mono ?_
  rintro e w5 ⟨rfl, hb⟩
  replace hB := (hB.trans (hb.mono hB.size))
  replace hBx := (hBx.keep hb).later (.cells #[.int .i64 x, .int .u32 y] 24)
  obtain ⟨b0, b1⟩ := hBx
  have hB6 := hB.alloc hB.size (.cells #[.int .i64 x, .int .u32 y] 24)
  clear hb hB H1 H2
  go_wp2
  go_ret
  exact ⟨rfl, hB6⟩
set_option maxHeartbeats 1000000 in
set_option maxRecDepth 100000 in
theorem texts_right (l c : Int) (hl : rB l = true) (hc0 : 0 ≤ c) (hc1 : c < 4294967296) (s0 p : ByteArray) (hp : s0.extract 0 (min (s0.size : Int) 200).toNat = p) (hs : s0.size ≤ maxLen) (hp2 : p.size ≤ 200) (w : World) (he : Errs w) :
    Calls Tryd.prog 4 #[.agg #[.int .i64 l, .int .u32 c], .string s0] w fun e w' => e = .returned (.bool true) ∧ Below w.heap.size w w' := by
  unfold maxLen at hs
  obtain ⟨T, hT⟩ : ∃ T : ByteArray, (⟨(txtL l.toNat (tms c 32)).toArray⟩ : ByteArray) = T := ⟨_, rfl⟩
  have H3 := Lib.hid (hT ▸ text_right l c hl hc0 hc1)
  have H4 := Lib.hid (hT ▸ rtext_right l c hl hc0 hc1)
  have hl2 := rB_true.1 hl
  have hrT : rdAll T.data.toList = some (l.toNat, c.toNat) := by
    rw [rdAll_some]
    refine ⟨by omega, by omega, ?_⟩
    rw [← hT, Int.toNat_of_nonneg hc0]
  have hTz : T.size ≤ 1000000 := by
    rw [← hT, ← tmsF_map]
    have h1 := txtL_len l.toNat (by omega) (tmsF c)
    have h2 : (tmsF c).length ≤ 32 := by have := congrArg List.length (tmsF_map c); rw [List.length_map] at this; rw [this]; exact tms_le c 32
    show (txtL l.toNat ((tmsF c).map Fin.val)).toArray.size ≤ _
    rw [List.size_toArray]
    omega
  have H5 := Lib.hid (show ∀ w, Errs w → Calls Tryd.prog 25 #[.string T] w fun e w' => e = .returned (.tuple #[.agg #[.int .i64 l, .int .u32 c], .int .i64 0]) ∧ Below w.heap.size w w' from fun w he => by
    have h := read_any T hTz w he
    rw [hrT] at h
    simp only [labRet] at h
    rw [Int.toNat_of_nonneg hc0, Int.toNat_of_nonneg hl2.1] at h
    exact h)
  clear hT hrT hl2
  obtain ⟨x, y, z, hxyz⟩ := labRet_is (rdAll p.data.toList)
  have H1 := Lib.hid (hxyz ▸ read_any p (by omega))
  have H2 := Lib.hid (hxyz ▸ rread_any p (by omega))
  clear hxyz
  have hA := LabAt.one w l c
  have hB := (Below.refl _ w).alloc (Nat.le_refl _) (.cells #[.int .i64 l, .int .u32 c] 24)
  replace he := he.keep hB
  go_enter Tryd.func4, Tryd.ntmps4
  go_wp2_with fail
  refine (lives_any _ he).mono ?_
  rintro e w1 ⟨rfl, hb⟩
  replace hA := hA.keep hb
  replace he := he.keep hb
  replace hB := hB.trans (hb.mono hB.size)
  clear hb
  obtain ⟨a0, a1⟩ := hA
  go_wp2_with fail
  refine (H3.out _).mono ?_
  rintro e w2 ⟨rfl, hb⟩
  replace he := he.keep hb
  replace hB := hB.trans (hb.mono hB.size)
  obtain ⟨a0, a1⟩ := LabAt.keep (w := w1) ⟨a0, a1⟩ hb
  clear hb hp
  go_wp2_with fail
  refine (H4.out _).mono ?_
  rintro e w3 ⟨rfl, hb⟩
  replace he := he.keep hb
  replace hB := hB.trans (hb.mono hB.size)
  obtain ⟨a0, a1⟩ := LabAt.keep (w := w2) ⟨a0, a1⟩ hb
  clear hb
  go_wp2_with fail
  refine (H1.out _ he).mono ?_
  rintro e w4 ⟨rfl, hb⟩
  replace he := he.keep hb
  replace hB := (hB.trans (hb.mono hB.size))
  have hBx := LabAt.one w4 x y
  have hb2 := (Below.refl _ w4).alloc (Nat.le_refl _) (.cells #[.int .i64 x, .int .u32 y] 24)
  replace hB := hB.trans (hb2.mono hB.size)
  have hb' := hb
  clear hb hb2
  replace he := he.keep ((Below.refl _ w4).alloc (Nat.le_refl _) (.cells #[.int .i64 x, .int .u32 y] 24))
  obtain ⟨a0, a1⟩ := (LabAt.keep (w := w3) ⟨a0, a1⟩ hb').later (.cells #[.int .i64 x, .int .u32 y] 24)
  clear hb'
  go_wp2_with fail
  refine (H2.out _).mono ?_
  rintro e w5 ⟨rfl, hb⟩
  replace hB := (hB.trans (hb.mono hB.size))
  replace he := (he.keep hb).keep ((Below.refl _ w5).alloc (Nat.le_refl _) (.cells #[.int .i64 x, .int .u32 y] 24))
  replace hBx := (hBx.keep hb).later (.cells #[.int .i64 x, .int .u32 y] 24)
  obtain ⟨b0, b1⟩ := hBx
  have hA := (LabAt.keep ⟨a0, a1⟩ hb).later (.cells #[.int .i64 x, .int .u32 y] 24)
  replace hB := hB.alloc hB.size (.cells #[.int .i64 x, .int .u32 y] 24)
  clear hb H1 H2 a0 a1
  go_wp2_with fail
  refine (H5.out _ he).mono ?_
  rintro e w6 ⟨rfl, hb⟩
  replace hB := (hB.trans (hb.mono hB.size))
  obtain ⟨a0, a1⟩ := (hA.keep hb).later (.cells #[.int .i64 l, .int .u32 c] 24)
  have hB7 := hB.alloc hB.size (.cells #[.int .i64 l, .int .u32 c] 24)
  clear hb hB b0 b1 hA
  go_wp2
  go_ret
  exact ⟨rfl, hB7⟩

theorem texts_law (l c : Int) (hc0 : 0 ≤ c) (hc1 : c < 4294967296) (s0 : ByteArray) (hs : s0.size ≤ maxLen) (w : World) (he : Errs w) :
    Calls Tryd.prog 4 #[.agg #[.int .i64 l, .int .u32 c], .string s0] w fun e w' => e = .returned (.bool true) ∧ Below w.heap.size w w' := by
  have hz : (s0.extract 0 (min (s0.size : Int) 200).toNat).size ≤ 200 := by rw [ByteArray.size_extract]; omega
  cases hl : rB l
  · exact texts_wrong l c hl s0 _ rfl hs hz w he
  · exact texts_right l c hl hc0 hc1 s0 _ rfl hs hz w he
end Go.Proofs.YtkmbllnnaljepaaDoor
