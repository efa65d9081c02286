/- The document's own Digits: what each call returns. -/
import Derived.Test.YtkmbllnnaljepaaDoorTeams
import Derived.Lib.ItoaNum
namespace Go.Proofs.YtkmbllnnaljepaaDoor
open Go.ChangeShapes Go.WideShapes Go.RowKit

theorem slice_string_lh {P : Program} (w : World) (t : TypeId) (s : ByteArray) (ht : P.underlying t = some .string) (kl kh : IntKind) (l h : Int) (h0 : 0 ≤ l) (h1 : l ≤ h) (h2 : h ≤ s.size) :
    (Instr.slice t (.string s) (some (.int kl l)) (some (.int kh h)) none).run P w = .ok (.string (s.extract l.toNat h.toNat)) w := by
  have eh : (h.toNat : Int) = h := Int.toNat_of_nonneg (by omega)
  simp [Instr.slice, run_underlying ht, Instr.sliceBounds, run_sliceBound, *, (by omega : 0 ≤ h)]
theorem digit_at : ∀ d : Fin 10, (⟨#[48, 49, 50, 51, 52, 53, 54, 55, 56, 57]⟩ : ByteArray).extract d.val (d.val + 1) = ⟨#[UInt8.ofNat (48 + d.val)]⟩ := by decide +kernel
theorem digit_slice (q : Nat) (hq : q < 10) (w : World) : (Instr.slice 9 (.string ⟨#[48, 49, 50, 51, 52, 53, 54, 55, 56, 57]⟩) (some (.int .i64 (q : Int))) (some (.int .i64 ((q : Int) + 1))) none).run Tryd.prog w = .ok (.string ⟨#[UInt8.ofNat (48 + q)]⟩) w := by
  rw [slice_string_lh w _ _ Tryd.underlying9 _ _ _ _ (by omega) (by omega) (by show (q : Int) + 1 ≤ 10; omega), ← digit_at ⟨q, hq⟩]
  rfl
theorem dec_small (k : Nat) (hk : k < 32) : Lib.decDigits k = (if k < 10 then [UInt8.ofNat (48 + k)] else [UInt8.ofNat (48 + k / 10), UInt8.ofNat (48 + k % 10)]) := by
  rw [Lib.decDigits]
  split
  · simp_all
  · rw [Lib.decDigits, dif_pos (by omega)]; simp_all

theorem ret_str {a b : ByteArray} (h : a = b) : Ending.returned (.string a) = .returned (.string b) := by rw [h]

set_option maxHeartbeats 800000 in
set_option maxRecDepth 100000 in
theorem digits_any (n : Nat) (hn : n < 32) (w : World) :
    Calls Tryd.prog 36 #[.int .i64 (n : Int)] w fun e w' => e = .returned (.string ⟨(Lib.decDigits n).toArray⟩) ∧ w = w' := by
  obtain ⟨L, hL⟩ : ∃ L, Lib.decDigits n = L := ⟨_, rfl⟩
  have Hd := Lib.hid (hL.symm.trans (dec_small n hn))
  rw [hL]
  clear hL
  obtain ⟨p, q, hp, hq, rfl⟩ : ∃ p q : Nat, p < 4 ∧ q < 10 ∧ n = 10 * p + q := ⟨n / 10, n % 10, by omega, by omega, by omega⟩
  have e1 : (q : Int) % 10 = q := by omega
  have e2 : (10 * (p : Int) + q) / 10 = p := by omega
  have e5 : (p : Int) % 10 = p := by omega
  have e6 : (p : Int) / 10 = 0 := by omega
  have hs := digit_slice q hq
  have hs2 := digit_slice p (by omega)
  obtain ⟨bq, hbq⟩ : ∃ b, UInt8.ofNat (48 + q) = b := ⟨_, rfl⟩
  obtain ⟨bp, hbp⟩ : ∃ b, UInt8.ofNat (48 + p) = b := ⟨_, rfl⟩
  rw [hbq] at hs
  rw [hbp] at hs2
  replace Hd := Lib.hid (show L = if p = 0 then [bq] else [bp, bq] by
    rw [Hd.out]
    split
    · rw [if_pos (by omega), show 10 * p + q = q by omega, hbq]
    · rw [if_neg (by omega), show (10 * p + q) / 10 = p by omega, show (10 * p + q) % 10 = q by omega, hbq, hbp])
  clear hbq hbp
  go_enter Tryd.func36, Tryd.ntmps36
  go_wp2
  go_loop [0, 3] (fun nv s => (nv = .int .i64 (p : Int) ∧ s = .string ⟨#[bq]⟩) ∨ (nv = .int .i64 0 ∧ 0 < p ∧ s = .string ⟨#[bp, bq]⟩)) (fun nv _ => (intOf nv).toNat)
  case atStart => exact .inl ⟨by go_num, rfl⟩
  case round =>
    rcases hrel with ⟨rfl, rfl⟩ | ⟨rfl, hp0, rfl⟩
    · by_cases hp0 : 0 < p
      · go_wp2
        go_round
        case rel => exact .inr ⟨by go_num, hp0, congrArg Value.string (ByteArray.ext (by simp))⟩
        case measure => simp [intOf]; omega
      · obtain rfl : p = 0 := by omega
        go_wp2
        go_ret
        exact ⟨ret_str (by rw [Hd.out]; rfl), rfl⟩
    · go_wp2
      go_ret
      exact ⟨ret_str (by rw [Hd.out, if_neg (by omega)]), rfl⟩
end Go.Proofs.YtkmbllnnaljepaaDoor
