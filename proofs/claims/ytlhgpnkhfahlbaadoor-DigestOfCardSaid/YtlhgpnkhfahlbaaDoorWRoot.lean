/- The first bits of a root's fraction: the document's own way. -/
import Derived.Test.YtlhgpnkhfahlbaaDoorWTimes
namespace Go.Proofs.YtlhgpnkhfahlbaaDoor
open Go.ChangeShapes Go.WideShapes Go.RowKit

theorem allN_len (o : List Nat) (k : Nat) : (allN o k).length = o.length * (k + 1) := by
  induction k with
  | zero => simp [allN]
  | succ k ih => rw [allN, timesN, tmN_len, ih, Nat.mul_add _ (k + 1) 1]; omega
theorem rtN_lt (p n t : Nat) : rtN p n t < 18446744073709551616 := by
  induction t with
  | zero => simp [rtN]
  | succ t ih =>
    rw [rtN]
    split
    · exact ih
    · exact Nat.mod_lt _ (by decide)
def bitN (t : Nat) : Nat := 1099511627776 / 2 ^ t
theorem bitN_succ (t : Nat) : bitN (t + 1) = bitN t / 2 := by unfold bitN; rw [Nat.pow_succ, Nat.div_div_eq_div_mul]
theorem bitN_le (t : Nat) : bitN t ≤ 1099511627776 := Nat.div_le_self _ _
theorem bitN_pos {t : Nat} (h : t < 41) : 0 < bitN t := Nat.div_pos (Nat.le_trans (Nat.pow_le_pow_right (by omega) (show t ≤ 40 by omega)) (by decide)) (Nat.two_pow_pos t)
theorem bitN_end : bitN 41 = 0 := by decide
theorem rtN_step (p n t : Nat) : rtN p n (t + 1) = if aboveN (allN (plN ((rtN p n t + bitN t) % 18446744073709551616)) (n - 1)) (wholeN p n) then rtN p n t else (rtN p n t + bitN t) % 18446744073709551616 := rfl
/-- What lies in memory while a root is sought. -/
def Ro (w : World) (g : Nat) (W : List Nat) (wr : World) : Prop := Rw wr g 40 (W.map v64) ∧ Below g w wr
theorem Ro.keep {w wr w5 : World} {g : Nat} {W : List Nat} (h : Ro w g W wr) (hb : Below wr.heap.size wr w5) : Ro w g W w5 := ⟨h.1.keep hb, h.2.trans (hb.mono (Nat.le_of_lt (Rw.lt h.1)))⟩
theorem Rw.cls0 {w : World} {g : Nat} {t : TypeId} {cs : List Value} (h : Rw w g t cs) : Cls w g 0 cs := h.cls 0 _ (fun j v hv => by rw [Nat.zero_add]; exact hv)
/-- The powers so far. -/
def Po (w : World) (g go ga : Nat) (W O A : List Nat) (wr : World) : Prop := Ro w g W wr ∧ Cls wr go 0 (O.map v64) ∧ Cls wr ga 0 (A.map v64) ∧ go < wr.heap.size ∧ ga < wr.heap.size

set_option maxHeartbeats 1600000 in
theorem root_any (p n : Nat) (hn : 1 ≤ n ∧ n ≤ 3) (w : World) :
    Calls Tryd.prog 24 #[.int .u64 (p : Int), .int .i64 (n : Int)] w fun e w' => e = .returned (.int .u32 (rootN p n : Int)) ∧ Below w.heap.size w w' := by
  have hmk := make_u64 (2 * n + 1) (by omega) (2 * (n : Int) + 1) (by omega)
  obtain ⟨hn1, hn3⟩ := hn
  have Hro : Unit → rootN p n = rtN p n 41 % 4294967296 := fun _ => rfl
  have hWl : (wholeN p n).length = 2 * n + 1 := by simp [wholeN]
  have HW : Unit → wholeN p n = (zs (2 * n + 1)).set (2 * n) p := fun _ => rfl
  have Hst : Unit → ∀ t, rtN p n (t + 1) = _ := fun _ t => rtN_step p n t
  generalize wholeN p n = WL at *
  go_enter Tryd.func24, Tryd.ntmps24
  go_upto_region 2 with fail
  clear hmk
  have r0 := Rw.new w 40 ((zs (2 * n + 1)).map v64)
  have hB := (Below.refl _ w).alloc (Nat.le_refl _) (.cells ((zs (2 * n + 1)).map v64).toArray 40)
  generalize w.alloc (.cells ((zs (2 * n + 1)).map v64).toArray 40) = W at *
  have z0 := (r0.cell (2 * n)).trans (at64 (x := 0) (by simp [zs]))
  have y0 := r0.frozen (2 * n)
  obtain ⟨n2, hn2⟩ : ∃ n2, n2 = 2 * n := ⟨_, rfl⟩
  have x2 : 2 * (n : Int) = (n2 : Int) := by omega
  have hR : Ro w w.heap.size WL (W.setCell ⟨w.heap.size, n2, none⟩ (v64 p)) := by
    refine ⟨?_, hB.setCell (p := ⟨w.heap.size, n2, none⟩) (Nat.le_refl _) _⟩
    rw [HW (), List.map_set, ← hn2]
    rw [← hn2] at r0
    exact r0.setCell n2 (v64 p)
  rw [← hn2] at z0 y0 hWl ⊢
  clear hB r0 HW
  have hn2' : Unit → n2 = 2 * n := fun _ => hn2
  have hb2 : n2 ≤ 6 := by omega
  clear hn2
  go_upto_region 3 with fail
  clear z0 y0
  change Code.wp _ _ _ _ (W.setCell ⟨w.heap.size, n2, none⟩ (v64 p))
  generalize W.setCell ⟨w.heap.size, n2, none⟩ (v64 p) = W1 at *
  rw [show n2 + 1 = WL.length from hWl.symm]
  have hWb : WL.length ≤ 1000 := by omega
  clear hb2 hWl hn2' x2
  generalize hN : w.heap.size = g at *
  have HN : Unit → w.heap.size = g := fun _ => hN
  clear hN
  go_upto_region 5 with fail
  go_loopw [6, 7] (fun lo bit wr => ∃ t : Nat, t ≤ 41 ∧ lo = .int .u64 (rtN p n t : Int) ∧ bit = .int .u64 (bitN t : Int) ∧ Ro w g WL wr) (fun _ bit _ => (intOf bit).toNat)
  case atStart => exact ⟨0, by omega, rfl, rfl, hR⟩
  case round =>
    clear hR
    obtain ⟨t, ht, rfl, rfl, hR⟩ := hrel
    by_cases hlt : t < 41
    · have hlo := rtN_lt p n t
      have hb1 := bitN_le t
      have hb0 := bitN_pos hlt
      have Hs := Hst () t
      have HS : Unit → rtN p n (t + 1) = _ := fun _ => Hs
      have Hb : Unit → bitN (t + 1) = bitN t / 2 := fun _ => bitN_succ t
      clear Hs
      generalize rtN p n t = lo at *
      generalize bitN t = bit at *
      obtain ⟨X, hX⟩ : ∃ X, X = (lo + bit) % 18446744073709551616 := ⟨_, rfl⟩
      have xX : IntKind.u64.wrap ((lo : Int) + (bit : Int)) = (X : Int) := by
        rw [hX]; simp [IntKind.wrap, IntKind.bits, IntKind.signed]
      have hXb : X < 18446744073709551616 := by omega
      rw [← hX] at HS
      have hbi : (0 : Int) < (bit : Int) := by omega
      clear hX hlo
      obtain ⟨X0, hX0⟩ : ∃ X0, X0 = X % 65536 := ⟨_, rfl⟩
      obtain ⟨X1, hX1⟩ : ∃ X1, X1 = X / 65536 := ⟨_, rfl⟩
      obtain ⟨X2, hX2⟩ : ∃ X2, X2 = X1 % 65536 := ⟨_, rfl⟩
      obtain ⟨X3, hX3⟩ : ∃ X3, X3 = X / 4294967296 := ⟨_, rfl⟩
      have e0 : (X : Int) % 65536 = (X0 : Int) := by omega
      have e1 : (X : Int) / 65536 = (X1 : Int) := by omega
      have e2 : (X1 : Int) % 65536 = (X2 : Int) := by omega
      have e3 : (X : Int) / 4294967296 = (X3 : Int) := by omega
      have w0 : IntKind.u64.wrap (X0 : Int) = (X0 : Int) := by simp [IntKind.wrap, IntKind.bits, IntKind.signed]; omega
      have w1 : IntKind.u64.wrap (X1 : Int) = (X1 : Int) := by simp [IntKind.wrap, IntKind.bits, IntKind.signed]; omega
      have w2 : IntKind.u64.wrap (X2 : Int) = (X2 : Int) := by simp [IntKind.wrap, IntKind.bits, IntKind.signed]; omega
      have w3 : IntKind.u64.wrap (X3 : Int) = (X3 : Int) := by simp [IntKind.wrap, IntKind.bits, IntKind.signed]; omega
      have hpl : plN X = [X0, X2, X3] := by rw [hX0, hX2, hX1, hX3]; rfl
      rw [hpl] at HS
      clear hX0 hX1 hX2 hX3 hpl
      go_upto_region 11 with fail
      have hO := Rw.new wr 40 ([X0, X2, X3].map v64)
      have hOb := (Below.refl _ wr).alloc (Nat.le_refl _) (.cells ([X0, X2, X3].map v64).toArray 40)
      change Code.wp _ _ _ _ (wr.alloc (.cells ([X0, X2, X3].map v64).toArray 40))
      replace hR := hR.keep hOb
      have hP : Po w g wr.heap.size wr.heap.size WL [X0, X2, X3] (allN [X0, X2, X3] 0) (wr.alloc (.cells ([X0, X2, X3].map v64).toArray 40)) := ⟨hR, hO.cls0, hO.cls0, hO.lt, hO.lt⟩
      clear hO hOb hR e0 e1 e2 e3 w0 w1 w2 w3 xX
      generalize wr.alloc (.cells ([X0, X2, X3].map v64).toArray 40) = W5 at *
      generalize wr.heap.size = go at *
      have hOl : [X0, X2, X3].length = 3 := rfl
      generalize [X0, X2, X3] = O at *
      go_loopw [10, 11] (fun al i wr => ∃ k ga ca : Nat, k + 1 ≤ n ∧ i = .int .i64 ((k : Int) + 1) ∧ al = .slice (some ⟨ga, 0, none⟩) (allN O k).length ca ∧ Po w g go ga WL O (allN O k) wr) (fun _ i _ => n - (intOf i).toNat)
      case atStart => exact ⟨0, go, 3, by omega, rfl, by rw [show (allN O 0).length = 3 from hOl], hP⟩
      case round =>
        clear hP
        obtain ⟨k, ga, ca, hk, rfl, rfl, hP⟩ := hrel
        have hAl := allN_len O k
        rw [hOl] at hAl
        have hAb : (allN O k).length ≤ 1000 := by omega
        clear hAl
        by_cases hlt2 : k + 1 < n
        · have hlk : (k : Int) + 1 < (n : Int) := by omega
          have Ha : Unit → timesN (allN O k) O = allN O (k + 1) := fun _ => rfl
          generalize allN O k = A at *
          have Kt := Lib.hid (times_any ga go ca 3 A O hAb (by omega) wr hP.2.2.1 hP.2.1 hP.2.2.2.2 hP.2.2.2.1)
          rw [Ha (), hOl] at Kt
          go_wp2_with fail
          with_reducible refine Kt.out.mono ?_
          rintro e w6 ⟨rfl, hr6, hb6⟩
          have hP6 : Po w g go wr.heap.size WL O (allN O (k + 1)) w6 := ⟨hP.1.keep hb6, hP.2.1.keep hb6, hr6.cls0, Nat.lt_of_lt_of_le hP.2.2.2.1 hb6.size, hr6.lt⟩
          clear hP hr6 hb6 Kt
          generalize hAn : allN O (k + 1) = An at *
          go_wp2_with fail
          go_roundw
          case rel => exact ⟨k + 1, wr.heap.size, An.length, by omega, by simp, by rw [hAn], by rw [hAn]; exact hP6⟩
          case measure => simp [intOf]; omega
        · have hkn : (k : Int) + 1 = (n : Int) := by omega
          rw [hkn]
          rw [show n - 1 = k by omega] at HS
          generalize allN O k = A at *
          have Ka := Lib.hid (above_any ga g ca WL.length A WL hAb hWb wr hP.2.2.1 hP.1.1.cls0)
          obtain ⟨hR, _⟩ := hP
          have hk1 : ¬ (n : Int) < (n : Int) := by omega
          clear hkn hlt2 hk
          obtain ⟨b2, hb2⟩ : ∃ b2, b2 = bit / 2 := ⟨_, rfl⟩
          have e5 : (bit : Int) / 2 = (b2 : Int) := by omega
          have w5 : IntKind.u64.wrap (b2 : Int) = (b2 : Int) := by simp [IntKind.wrap, IntKind.bits, IntKind.signed]; omega
          have hb3 : b2 < bit := by omega
          rw [← hb2] at Hb
          clear hb2
          cases hab : aboveN A WL with
          | true =>
            rw [hab, if_pos rfl] at HS
            rw [hab] at Ka
            clear hab
            go_wp2_with fail
            refine Ka.out.mono ?_
            rintro e w6 ⟨rfl, rfl⟩
            go_wp2_with fail
            go_roundw
            case rel => exact ⟨t + 1, by omega, by rw [HS ()], by rw [Hb ()], hR⟩
            case measure => simp [intOf]; omega
          | false =>
            rw [hab, if_neg (by simp)] at HS
            rw [hab] at Ka
            clear hab
            go_wp2_with fail
            refine Ka.out.mono ?_
            rintro e w6 ⟨rfl, rfl⟩
            go_wp2_with fail
            go_roundw
            case rel => exact ⟨t + 1, by omega, by rw [HS ()], by rw [Hb ()], hR⟩
            case measure => simp [intOf]; omega
    · obtain rfl : t = 41 := by omega
      rw [bitN_end]
      have hr := Hro ()
      have HR : Unit → rtN p n 41 % 4294967296 = rootN p n := fun _ => hr.symm
      clear hr Hro Hst
      generalize rtN p n 41 = R at *
      obtain ⟨r, hr⟩ : ∃ r, r = R % 4294967296 := ⟨_, rfl⟩
      have e1 : (R : Int) % 4294967296 = (r : Int) := by omega
      rw [← hr] at HR
      have hrb : r < 4294967296 := by omega
      have w1 : IntKind.u64.wrap (r : Int) = (r : Int) := by simp [IntKind.wrap, IntKind.bits, IntKind.signed]; omega
      have w2 : IntKind.u32.wrap (r : Int) = (r : Int) := by rw [IntKind.wrap_u32']; omega
      clear hr
      go_wp2_with fail
      go_ret
      rw [HN (), ← HR ()]
      exact ⟨rfl, hR.2⟩
end Go.Proofs.YtlhgpnkhfahlbaaDoor
