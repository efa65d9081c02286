/- The document's numbers: the walks of its Digits and its Number. -/
import Derived.Test.YtcljijcggnfemaaDoorWDec
import Derived.Test.YtcljijcggnfemaaDoorWRefW
import Derived.Test.YtcljijcggnfemaaDoorWEarly
namespace Go.Proofs.YtcljijcggnfemaaDoor
open Go.ChangeShapes Go.WideShapes Go.RowKit

theorem digit_part (q : Nat) (hq : q < 10) (i j : Int) (hi : i = (q : Int)) (hj : j = (q : Int) + 1) (w : World) : (Instr.slice 9 (.string ⟨#[48, 49, 50, 51, 52, 53, 54, 55, 56, 57]⟩) (some (.int .i64 i)) (some (.int .i64 j)) none).run Tryd.prog w = .ok (.string ⟨#[d8 q]⟩) w := by
  subst hi hj
  have := cut_part [48, 49, 50, 51, 52, 53, 54, 55, 56, 57] q (q + 1) (by simp; omega) (by omega) w
  rw [show ([48, 49, 50, 51, 52, 53, 54, 55, 56, 57] : Bs).toArray = #[48, 49, 50, 51, 52, 53, 54, 55, 56, 57] from rfl] at this
  rw [show ((q : Int) + 1) = ((q + 1 : Nat) : Int) by omega, this]
  congr 3
  rcases (show q = 0 ∨ q = 1 ∨ q = 2 ∨ q = 3 ∨ q = 4 ∨ q = 5 ∨ q = 6 ∨ q = 7 ∨ q = 8 ∨ q = 9 by omega) with rfl | rfl | rfl | rfl | rfl | rfl | rfl | rfl | rfl | rfl <;> rfl
set_option maxHeartbeats 3200000 in
set_option maxRecDepth 100000 in
theorem rdigits_any (n : Nat) (w : World) (hn : n < 100000000000) : Calls Tryd.prog 22 #[.int .i64 (n : Int)] w fun e w' => e = .returned (.string ⟨(dec n).toArray⟩) ∧ w' = w := by
  have hs := (Dg.start n).step (.inr rfl)
  have hcut := digit_part (n % 10) (by omega) ((n : Int) % 10) ((n : Int) % 10 + 1) (by omega) (by omega)
  have hni : (n : Int) < 100000000000 := by omega
  have hn0 : 0 ≤ (n : Int) := by omega
  have h0 : Unit → ((n : Int) / 10) = ((n / 10 : Nat) : Int) := fun _ => by omega
  obtain ⟨D, hD⟩ : ∃ D, dec n = D := ⟨_, rfl⟩
  rw [hD]
  have HD : Unit → dec n = D := fun _ => hD
  have hDl : D.length ≤ 12 := by rw [← hD]; have := dec_len 11 n (by omega); omega
  have HL : Unit → ∀ k s, Dg n k s → s.length ≤ 12 := fun _ k s h => by
    unfold Dg at h
    rw [hD] at h
    split at h
    · rw [← h]; exact hDl
    · rw [h, List.length_append] at hDl; omega
  clear hD
  go_enter Tryd.func22, Tryd.ntmps22
  go_upto_region 3 with fail
  go_loopw [0, 3] (fun u0 u3 wr => ∃ (k : Nat) (s : Bs), u0 = .int .i64 (k : Int) ∧ u3 = .string ⟨s.toArray⟩ ∧ k ≤ n ∧ s ≠ [] ∧ Dg n k s ∧ w = wr) (fun u0 _ _ => (intOf u0).toNat)
  case atStart => exact ⟨n / 10, [d8 (n % 10)], by rw [h0 ()], rfl, Nat.div_le_self _ _, by simp, hs, rfl⟩
  case round =>
    clear hs hcut h0
    obtain ⟨k, s, rfl, rfl, hkn, hne, hg, rfl⟩ := hrel
    have hki : (k : Int) < 100000000000 := by omega
    by_cases hk : 0 < k
    · have hk0 : 0 < (k : Int) := by omega
      have hk1 : 0 ≤ (k : Int) := by omega
      have hcut := digit_part (k % 10) (by omega) ((k : Int) % 10) ((k : Int) % 10 + 1) (by omega) (by omega)
      have hg' := hg.step (.inl hk)
      have hsl := HL () k s hg
      have hsz : (⟨s.toArray⟩ : ByteArray).size = s.length := by simp [ByteArray.size]
      have hsi : (s.length : Int) ≤ 12 := by omega
      have hcat : (⟨#[d8 (k % 10)]⟩ : ByteArray) ++ ⟨s.toArray⟩ = ⟨(d8 (k % 10) :: s).toArray⟩ := cat_text [d8 (k % 10)] s
      have h1 : Unit → ((k : Int) / 10) = ((k / 10 : Nat) : Int) := fun _ => by omega
      have hdz : (⟨#[d8 (k % 10)]⟩ : ByteArray).size = 1 := rfl
      go_wp2_with fail
      go_roundw
      case rel => exact ⟨k / 10, d8 (k % 10) :: s, by rw [h1 ()], rfl, by omega, by simp, hg', trivial⟩
      case measure => simp [intOf]; omega
    · obtain rfl : k = 0 := by omega
      obtain rfl : s = D := (hg.done hne).trans (HD ())
      go_wp2_with fail
      go_ret
      exact ⟨rfl, rfl⟩
/-- The number so far, of the digits alone. -/
def accN : Nat → Bs → Nat
  | a, [] => a
  | a, c :: r => if 48 ≤ c.toNat ∧ c.toNat ≤ 57 then accN (10 * a + (c.toNat - 48)) r else accN a r
theorem accN_snoc (a : Nat) (l : Bs) (c : UInt8) : accN a (l ++ [c]) = if 48 ≤ c.toNat ∧ c.toNat ≤ 57 then 10 * accN a l + (c.toNat - 48) else accN a l := by
  induction l generalizing a with
  | nil => simp only [List.nil_append, accN]
  | cons b l ih =>
    simp only [List.cons_append, accN]
    split
    · exact ih _
    · exact ih _
theorem accN_ltk (k : Nat) (l : Bs) (hk : l.length = k) : accN 0 l < 10 ^ k := by
  induction k generalizing l with
  | zero => rw [List.eq_nil_of_length_eq_zero hk]; simp [accN]
  | succ k ih =>
    rcases List.eq_nil_or_concat l with rfl | ⟨l', c, hl⟩
    · cases hk
    · rw [List.concat_eq_append] at hl
      subst hl
      have h := ih l' (by simpa using hk)
      rw [accN_snoc, Nat.pow_succ]
      split
      · omega
      · omega
theorem accN_lt (l : Bs) : accN 0 l < 10 ^ l.length := accN_ltk _ l rfl
theorem accN_num {l : Bs} {a m : Nat} (h : numG a l = some m) : accN a l = m := by
  induction l generalizing a with
  | nil => simp only [numG] at h; injection h
  | cons c l ih =>
    simp only [numG] at h
    simp only [accN]
    split at h
    · rename_i hc
      rw [if_pos hc, Nat.mul_comm]
      exact ih h
    · cases h
theorem d8_of {c : UInt8} (h : 48 ≤ c.toNat ∧ c.toNat ≤ 57) : d8 (c.toNat - 48) = c := by
  apply UInt8.toNat_inj.1
  rw [d8_nat (by omega)]; omega
theorem dec_numk (k : Nat) : ∀ (l : Bs) (m : Nat), l.length = k → numG 0 l = some m → l ≠ [] → (l.head? ≠ some 48 ∨ l = [48]) → dec m = l := by
  induction k with
  | zero => intro l m hk _ hne; exact absurd (List.eq_nil_of_length_eq_zero hk) hne
  | succ k ihk =>
  intro l m hk h hne hz
  rcases List.eq_nil_or_concat l with rfl | ⟨l', c, hl⟩
  · exact absurd rfl hne
  · rw [List.concat_eq_append] at hl
    subst hl
    rw [numG_snoc] at h
    cases hm : numG 0 l' with
    | none => rw [hm] at h; cases h
    | some m' =>
      rw [hm] at h
      simp only at h
      split at h
      · rename_i hc
        injection h with h
        by_cases hl' : l' = []
        · subst hl'
          simp only [numG] at hm
          injection hm with hm
          rw [← h, ← hm, dec_small (by omega), show 0 * 10 + (c.toNat - 48) = c.toNat - 48 by omega, d8_of hc]; rfl
        · have hhd : (l' ++ [c]).head? = l'.head? := by cases l' with | nil => exact absurd rfl hl' | cons a r => rfl
          have hz' : l'.head? ≠ some 48 := by
            rcases hz with hz | hz
            · rwa [hhd] at hz
            · exfalso
              have := congrArg List.length hz
              have h3 := List.length_pos_iff.2 hl'
              simp at this
              exact hl' this
          have ih := ihk l' m' (by simpa using hk) hm hl' (.inl hz')
          have hm0 : 0 < m' := by
            rcases Nat.eq_zero_or_pos m' with e | e
            · subst e
              rw [dec_small (by omega)] at ih
              rw [← ih] at hz'
              exact absurd rfl hz'
            · exact e
          rw [← h, dec_big (by omega), show (m' * 10 + (c.toNat - 48)) / 10 = m' by omega, show (m' * 10 + (c.toNat - 48)) % 10 = c.toNat - 48 by omega, ih, d8_of hc]
      · cases h
theorem dec_num (l : Bs) (m : Nat) (h : numG 0 l = some m) (hne : l ≠ []) (hz : l.head? ≠ some 48 ∨ l = [48]) : dec m = l := dec_numk _ l m rfl h hne hz
theorem numW_of {l : Bs} {m : Nat} (h : numW l = some m) : l.length ≤ 9 ∧ numG 0 l = some m ∧ dec m = l := by
  unfold numW at h
  split at h
  · cases h
  · rename_i hc
    refine ⟨by omega, h, dec_num l m h (fun e => hc (.inl e)) ?_⟩
    by_cases h48 : l = [48]
    · exact .inr h48
    · exact .inl (fun e => hc (.inr (.inr ⟨e, h48⟩)))
/-- The document's number is the program's. -/
theorem refnum (l : Bs) : numW l = if accN 0 (l.take 10) ≤ 999999999 ∧ dec (accN 0 (l.take 10)) = l then some (accN 0 (l.take 10)) else none := by
  split
  · rename_i h
    have := numW_dec (accN 0 (l.take 10)) (by omega)
    rwa [h.2] at this
  · rename_i h
    cases hm : numW l with
    | none => rfl
    | some m =>
      exfalso
      obtain ⟨h1, h2, h3⟩ := numW_of hm
      apply h
      rw [List.take_of_length_le (by omega), accN_num h2]
      refine ⟨?_, h3⟩
      have h4 := accN_lt l
      rw [accN_num h2] at h4
      have h5 : (10 : Nat) ^ l.length ≤ 10 ^ 9 := Nat.pow_le_pow_right (by omega) h1
      omega
set_option maxHeartbeats 3200000 in
set_option maxRecDepth 100000 in
theorem rnumber_any (l : Bs) (w : World) (hl : l.length ≤ 1000000) : Calls Tryd.prog 12 #[.string ⟨l.toArray⟩] w fun e w' => e = .returned (numT (numW l)) ∧ w' = w := by
  have hsz : (⟨l.toArray⟩ : ByteArray).size = l.length := by simp [ByteArray.size]
  obtain ⟨n, hn⟩ : ∃ n, l.length = n := ⟨_, rfl⟩
  rw [hn] at hl hsz
  obtain ⟨t, ht⟩ : ∃ t : ByteArray, t = ⟨l.toArray⟩ := ⟨_, rfl⟩
  have hix : Unit → ∀ (k : Nat) (c : UInt8), l[k]? = some c → ∀ w, (Instr.index 9 (.string t) (.int .i64 (k : Int))).run Tryd.prog w = .ok (.int .u8 (c.toNat : Int)) w := fun _ k c hc w => by rw [ht]; exact at_text l k c hc _ rfl w
  rw [← ht] at hsz ⊢
  have HT : Unit → t = ⟨l.toArray⟩ := fun _ => ht
  clear ht
  have HN : Unit → l.length = n := fun _ => hn
  clear hn
  have hni : (n : Int) ≤ 1000000 := by omega
  obtain ⟨o, ho⟩ : ∃ o, numW l = o := ⟨_, rfl⟩
  rw [ho]
  have HO : Unit → numW l = o := fun _ => ho
  clear ho
  go_enter Tryd.func12, Tryd.ntmps12
  go_upto_region 3 with fail
  go_loopw [4, 5] (fun u4 u5 wr => ∃ i : Nat, i ≤ n ∧ i ≤ 10 ∧ u5 = .int .i64 (i : Int) ∧ u4 = .int .i64 (accN 0 (l.take i) : Int) ∧ w = wr) (fun _ u5 _ => 10 - (intOf u5).toNat)
  case atStart => exact ⟨0, Nat.zero_le _, Nat.zero_le _, rfl, rfl, rfl⟩
  case round =>
    obtain ⟨i, hin, hi10, rfl, rfl, rfl⟩ := hrel
    have hlt := accN_lt (l.take i)
    rw [List.length_take, HN (), Nat.min_eq_left hin] at hlt
    have h10 : (10 : Nat) ^ i ≤ 10 ^ 10 := Nat.pow_le_pow_right (by omega) hi10
    obtain ⟨N, hN⟩ : ∃ N, accN 0 (l.take i) = N := ⟨_, rfl⟩
    rw [hN] at hlt ⊢
    have HAN : Unit → accN 0 (l.take i) = N := fun _ => hN
    clear hN
    have hNn : N < 10000000000 := by omega
    clear hlt h10
    have hNi : (N : Int) < 10000000000 := by omega
    have hN0 : 0 ≤ (N : Int) := by omega
    by_cases hgo : i < n ∧ i < 10
    · obtain ⟨hlt, hi9⟩ := hgo
      have hki : (i : Int) < (n : Int) := by omega
      have hk10 : (i : Int) < 10 := by omega
      obtain ⟨c, hc⟩ : ∃ c, l[i]? = some c := ⟨_, List.getElem?_eq_getElem (by have := HN (); omega)⟩
      have hx := hix () i c hc
      have HS : Unit → accN 0 (l.take (i + 1)) = if 48 ≤ c.toNat ∧ c.toNat ≤ 57 then 10 * N + (c.toNat - 48) else N := fun _ => by
        rw [List.take_add_one, hc]
        show accN 0 (l.take i ++ [c]) = _
        rw [accN_snoc, HAN ()]
      obtain ⟨b, hb⟩ : ∃ b : Int, (c.toNat : Int) = b := ⟨_, rfl⟩
      rw [hb] at hx
      have HC : Unit → (c.toNat : Int) = b := fun _ => hb
      clear hb
      by_cases c1 : 48 ≤ b
      · by_cases c2 : b ≤ 57
        · have hs := HS ()
          rw [if_pos (by have := HC (); omega)] at hs
          have HV : Unit → ((accN 0 (l.take (i + 1)) : Nat) : Int) = 10 * (N : Int) + (b - 48) := fun _ => by rw [hs]; have := HC (); omega
          clear hs HS HC
          go_wp2_with fail
          go_roundw
          case rel => exact ⟨i + 1, by omega, by omega, by simp, by rw [HV ()], trivial⟩
          case measure => simp [intOf]; omega
        · have hs := HS ()
          rw [if_neg (by have := HC (); omega)] at hs
          have HV : Unit → accN 0 (l.take (i + 1)) = N := fun _ => hs
          clear hs HS HC
          go_wp2_with fail
          go_roundw
          case rel => exact ⟨i + 1, by omega, by omega, by simp, by rw [HV ()], trivial⟩
          case measure => simp [intOf]; omega
      · have hs := HS ()
        rw [if_neg (by have := HC (); omega)] at hs
        have HV : Unit → accN 0 (l.take (i + 1)) = N := fun _ => hs
        clear hs HS HC
        go_wp2_with fail
        go_roundw
        case rel => exact ⟨i + 1, by omega, by omega, by simp, by rw [HV ()], trivial⟩
        case measure => simp [intOf]; omega
    · by_cases hlt : i < n
      · have hki : (i : Int) < (n : Int) := by omega
        have hk10 : ¬ (i : Int) < 10 := by omega
        have htk : l.take i = l.take 10 := by rw [show i = 10 by omega]
        have HD : Unit → numW l = if N ≤ 999999999 ∧ dec N = l then some N else none := fun _ => by rw [refnum l, ← htk, HAN ()]
        clear htk
        by_cases hbig : 999999999 < N
        · have hbi : 999999999 < (N : Int) := by omega
          have hd := HD ()
          rw [if_neg (by omega)] at hd
          obtain rfl := (HO ()).symm.trans hd
          go_wp2_with fail
          go_ret2
          exact ⟨rfl, rfl⟩
        · have hbi : (N : Int) ≤ 999999999 := by omega
          have K := Lib.hid (rdigits_any N w (by omega))
          obtain ⟨Z, hZ⟩ : ∃ Z : Int, (N : Int) = Z := ⟨_, rfl⟩
          rw [hZ] at K hbi hNi hN0 ⊢
          have HZ : Unit → (N : Int) = Z := fun _ => hZ
          have hNN : Unit → N ≤ 999999999 := fun _ => by omega
          clear hZ hNn hbig
          have hsm := same_text (dec N) l
          rw [← HT ()] at hsm
          by_cases hdl : dec N = l
          · have hd := HD ()
            rw [if_pos ⟨hNN (), hdl⟩] at hd
            obtain rfl := (HO ()).symm.trans hd
            have e1 : (dec N == l) = true := by rw [beq_iff_eq]; exact hdl
            rw [e1] at hsm
            generalize (⟨(dec N).toArray⟩ : ByteArray) = tD at *
            have hsm2 : (tD.toList != t.toList) = false := by rw [bne, hsm]; rfl
            clear hd HD hdl e1
            go_wp2_with fail
            refine K.out.mono ?_
            rintro e w1 ⟨rfl, rfl⟩
            go_wp2_with fail
            go_ret2
            refine ⟨?_, rfl⟩
            have h := HZ ()
            subst h
            rfl
          · have hd := HD ()
            rw [if_neg (by rintro ⟨_, h⟩; exact hdl h)] at hd
            obtain rfl := (HO ()).symm.trans hd
            have e1 : (dec N == l) = false := by rw [beq_eq_false_iff_ne]; exact hdl
            rw [e1] at hsm
            generalize (⟨(dec N).toArray⟩ : ByteArray) = tD at *
            have hsm2 : (tD.toList != t.toList) = true := by rw [bne, hsm]; rfl
            clear hd HD hdl e1
            go_wp2_with fail
            refine K.out.mono ?_
            rintro e w1 ⟨rfl, rfl⟩
            go_wp2_with fail
            go_ret2
            exact ⟨rfl, rfl⟩
      · have hki : ¬ (i : Int) < (n : Int) := by omega
        have htk : l.take i = l.take 10 := by have := HN (); rw [List.take_of_length_le (by omega), List.take_of_length_le (by omega)]
        have HD : Unit → numW l = if N ≤ 999999999 ∧ dec N = l then some N else none := fun _ => by rw [refnum l, ← htk, HAN ()]
        clear htk
        by_cases hbig : 999999999 < N
        · have hbi : 999999999 < (N : Int) := by omega
          have hd := HD ()
          rw [if_neg (by omega)] at hd
          obtain rfl := (HO ()).symm.trans hd
          go_wp2_with fail
          go_ret2
          exact ⟨rfl, rfl⟩
        · have hbi : (N : Int) ≤ 999999999 := by omega
          have K := Lib.hid (rdigits_any N w (by omega))
          obtain ⟨Z, hZ⟩ : ∃ Z : Int, (N : Int) = Z := ⟨_, rfl⟩
          rw [hZ] at K hbi hNi hN0 ⊢
          have HZ : Unit → (N : Int) = Z := fun _ => hZ
          have hNN : Unit → N ≤ 999999999 := fun _ => by omega
          clear hZ hNn hbig
          have hsm := same_text (dec N) l
          rw [← HT ()] at hsm
          by_cases hdl : dec N = l
          · have hd := HD ()
            rw [if_pos ⟨hNN (), hdl⟩] at hd
            obtain rfl := (HO ()).symm.trans hd
            have e1 : (dec N == l) = true := by rw [beq_iff_eq]; exact hdl
            rw [e1] at hsm
            generalize (⟨(dec N).toArray⟩ : ByteArray) = tD at *
            have hsm2 : (tD.toList != t.toList) = false := by rw [bne, hsm]; rfl
            clear hd HD hdl e1
            go_wp2_with fail
            refine K.out.mono ?_
            rintro e w1 ⟨rfl, rfl⟩
            go_wp2_with fail
            go_ret2
            refine ⟨?_, rfl⟩
            have h := HZ ()
            subst h
            rfl
          · have hd := HD ()
            rw [if_neg (by rintro ⟨_, h⟩; exact hdl h)] at hd
            obtain rfl := (HO ()).symm.trans hd
            have e1 : (dec N == l) = false := by rw [beq_eq_false_iff_ne]; exact hdl
            rw [e1] at hsm
            generalize (⟨(dec N).toArray⟩ : ByteArray) = tD at *
            have hsm2 : (tD.toList != t.toList) = true := by rw [bne, hsm]; rfl
            clear hd HD hdl e1
            go_wp2_with fail
            refine K.out.mono ?_
            rintro e w1 ⟨rfl, rfl⟩
            go_wp2_with fail
            go_ret2
            exact ⟨rfl, rfl⟩
end Go.Proofs.YtcljijcggnfemaaDoor
