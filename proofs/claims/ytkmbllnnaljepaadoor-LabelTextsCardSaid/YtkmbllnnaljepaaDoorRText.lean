/- The document's own Text: what each call returns. -/
import Derived.Test.YtkmbllnnaljepaaDoorRTeams
import Derived.Test.YtkmbllnnaljepaaDoorBack
import Derived.Test.YtkmbllnnaljepaaDoorDig
namespace Go.Proofs.YtkmbllnnaljepaaDoor
open Go.ChangeShapes Go.WideShapes Go.RowKit

set_option maxHeartbeats 400000 in
theorem rtext_wrong (l c : Int) (hl : rB l = false) (w : World) :
    Calls Tryd.prog 24 #[.agg #[.int .i64 l, .int .u32 c]] w fun e w' => e = .returned (.tuple #[.string ⟨#[]⟩, .int .i64 1]) ∧ Below w.heap.size w w' := by
  go_enter Tryd.func24, Tryd.ntmps24
  go_wp2_with fail
  refine (rright_any _ _ _).mono ?_
  rintro e w1 ⟨rfl, hb⟩
  go_wp2
  go_ret2
  exact ⟨rfl, ((Below.refl _ _).alloc (Nat.le_refl _) _).trans (hb.mono (by simp))⟩

theorem ret_txt {a b : ByteArray} (h : a = b) : Ending.returned (.tuple #[.string a, .int .i64 0]) = .returned (.tuple #[.string b, .int .i64 0]) := by rw [h]
theorem txt_more {L k x : Nat} {xs : List Nat} {s d : ByteArray} {b : UInt8} (hs : s = ⟨(txtL L (xs.take k)).toArray⟩) (hx : xs[k]? = some x) (hd : d = ⟨(Lib.decDigits x).toArray⟩) (hb : b = sepT (xs.take k)) :
    s ++ ⟨#[b]⟩ ++ d = ⟨(txtL L (xs.take (k + 1))).toArray⟩ := by
  subst hs hd hb
  rw [List.take_add_one, hx]
  show _ = (⟨(txtL L (xs.take k ++ [x])).toArray⟩ : ByteArray)
  rw [txtL_snoc]
  apply ByteArray.ext
  simp

set_option maxHeartbeats 800000 in
set_option maxRecDepth 100000 in
theorem rtext_right (l c : Int) (hl : rB l = true) (hc0 : 0 ≤ c) (hc1 : c < 4294967296) (w : World) :
    Calls Tryd.prog 24 #[.agg #[.int .i64 l, .int .u32 c]] w fun e w' => e = .returned (.tuple #[.string ⟨(txtL l.toNat (tms c 32)).toArray⟩, .int .i64 0]) ∧ Below w.heap.size w w' := by
  have hl2 := rB_true.1 hl
  obtain ⟨L, rfl⟩ := Int.eq_ofNat_of_zero_le hl2.1
  rw [Int.toNat_natCast]
  have hA := LabAt.one w L c
  have hxl := tms_le c 32
  have Hmem := Lib.hid (fun x => tms_mem c 32 x)
  obtain ⟨xs, hxs⟩ : ∃ xs, tms c 32 = xs := ⟨_, rfl⟩
  rw [hxs] at hxl Hmem ⊢
  have Hxs := Lib.hid hxs
  clear hxs
  go_enter Tryd.func24, Tryd.ntmps24
  go_wp2_with fail
  refine (rright_any _ _ _).mono ?_
  rintro e w1 ⟨rfl, hb⟩
  replace hA := hA.keep hb
  have hB1 : Below w.heap.size w w1 := ((Below.refl _ _).alloc (Nat.le_refl _) _).trans (hb.mono (by simp))
  clear hb
  obtain ⟨a0, a1⟩ := hA
  go_wp2_with fail
  refine (digits_any L (by omega) _).mono ?_
  rintro e w2 ⟨rfl, rfl⟩
  go_wp2_with fail
  refine (rteams_ints L c hc0 hc1 _).mono ?_
  rintro e w3 ⟨v, rfl, hI, hb⟩
  have hB := hB1.trans (hb.mono hB1.size)
  clear a0 a1 hb hB1
  rw [Hxs.out] at hI
  obtain ⟨av, cap, rfl, hcx⟩ := hI
  have Hcx := Lib.hid hcx
  have hlen := dig_len (k := L) (by omega)
  clear hcx
  go_wp2
  go_loop [4, 6] (fun sv i => ∃ (k : Nat) (s : ByteArray), k ≤ xs.length ∧ i = .int .i64 k ∧ sv = .string s ∧ s.size ≤ 2 + 3 * k ∧ Hid (s = ⟨(txtL L (xs.take k)).toArray⟩)) (fun _ i => xs.length - (intOf i).toNat)
  case atStart => exact ⟨0, _, Nat.zero_le _, rfl, rfl, hlen, by show (_ : ByteArray) = _; simp [txtL, tailT]⟩
  case round =>
    obtain ⟨k, s, hk, rfl, rfl, hsz, hs⟩ := hrel
    by_cases hlt : k < xs.length
    · obtain ⟨x, hx⟩ : ∃ x, xs[k]? = some x := ⟨_, List.getElem?_eq_getElem hlt⟩
      have hx32 := ((Hmem.out x).1 (List.mem_of_getElem? hx)).1
      obtain ⟨g, rfl, hc⟩ := Hcx.out k x hx
      obtain ⟨d, hd⟩ : ∃ d : ByteArray, d = ⟨(Lib.decDigits x).toArray⟩ := ⟨_, rfl⟩
      have hd2 : d.size ≤ 2 := by rw [hd]; exact dig_len (by omega)
      have Hx := Lib.hid hx
      have Hd := Lib.hid hd
      have hcall := Lib.hid (hd ▸ digits_any x hx32 w3)
      clear hx hd
      by_cases hk0 : k = 0
      · subst hk0
        go_wp2_with fail
        refine hcall.out.mono ?_
        rintro e w4 ⟨rfl, rfl⟩
        go_wp2
        go_round
        case rel => exact ⟨1, s ++ ⟨#[43]⟩ ++ d, hlt, by go_num, rfl, by simp only [ByteArray.size_append]; show s.size + 1 + d.size ≤ _; omega, Lib.hid (txt_more (b := 43) hs.out Hx.out Hd.out (by simp [sepT]))⟩
        case measure => simp [intOf]; omega
      · go_wp2_with fail
        refine hcall.out.mono ?_
        rintro e w4 ⟨rfl, rfl⟩
        go_wp2
        go_round
        case rel => exact ⟨k + 1, s ++ ⟨#[44]⟩ ++ d, hlt, by go_num, rfl, by simp only [ByteArray.size_append]; show s.size + 1 + d.size ≤ _; omega, Lib.hid (txt_more (b := 44) hs.out Hx.out Hd.out (by
          have : xs.take k ≠ [] := by
            intro e
            have := congrArg List.length e
            rw [List.length_take, List.length_nil] at this
            omega
          cases ht : xs.take k with
          | nil => exact absurd ht this
          | cons => rfl))⟩
        case measure => simp [intOf]; omega
    · obtain rfl : k = xs.length := by omega
      go_wp2
      go_ret2
      exact ⟨ret_txt (by rw [hs.out, List.take_length]), hB⟩
end Go.Proofs.YtkmbllnnaljepaaDoor
