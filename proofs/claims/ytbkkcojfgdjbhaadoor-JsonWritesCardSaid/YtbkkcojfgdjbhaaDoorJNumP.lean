/- Numbers, there and back: plain. -/
import Derived.Test.YtbkkcojfgdjbhaaDoorJVal
import Derived.Lib.ParseIntBCases
namespace Go.Proofs.YtbkkcojfgdjbhaaDoor

theorem dd_small {u : Nat} (h : u < 10) : Lib.decDigits u = [UInt8.ofNat (48 + u)] := by rw [Lib.decDigits, dif_pos h]
theorem dd_big {u : Nat} (h : ¬ u < 10) : Lib.decDigits u = Lib.decDigits (u / 10) ++ [UInt8.ofNat (48 + u % 10)] := by rw [Lib.decDigits, dif_neg h]
theorem dig_of (k : Nat) (h : k < 10) : isDig (UInt8.ofNat (48 + k)) = true ∧ (UInt8.ofNat (48 + k)).toNat = 48 + k := by
  have : ∀ m : Fin 10, isDig (UInt8.ofNat (48 + m.val)) = true ∧ (UInt8.ofNat (48 + m.val)).toNat = 48 + m.val := by decide
  exact this ⟨k, h⟩
theorem dd_all (u : Nat) : ∀ c ∈ Lib.decDigits u, isDig c = true := by
  induction u using Nat.strongRecOn with
  | _ u ih =>
    by_cases h : u < 10
    · rw [dd_small h]
      intro c hc
      rw [List.mem_singleton.1 hc]; exact (dig_of u h).1
    · rw [dd_big h]
      intro c hc
      rcases List.mem_append.1 hc with hc | hc
      · exact ih (u / 10) (by omega) c hc
      · rw [List.mem_singleton.1 hc]; exact (dig_of (u % 10) (by omega)).1
theorem dd_ne (u : Nat) : Lib.decDigits u ≠ [] := by
  by_cases h : u < 10
  · rw [dd_small h]; simp
  · rw [dd_big h]; simp
theorem par_app (M a k : Nat) (hk : k < 10) (ha : a < 1844674407370955162) (hm : a * 10 + k ≤ M) : ∀ (l : Bs) (acc : Nat), Lib.parseUintM M acc l = .ok a → Lib.parseUintM M acc (l ++ [UInt8.ofNat (48 + k)]) = .ok (a * 10 + k) := by
  intro l
  have hd := (dig_of k hk).2
  induction l with
  | nil =>
    intro acc h
    simp only [Lib.parseUintM] at h
    injection h with h
    subst h
    rw [List.nil_append, Lib.parseUintM, hd, if_pos (by omega), if_neg (by omega), if_neg (by omega), Lib.parseUintM]
    congr 1
    omega
  | cons c l ih =>
    intro acc h
    rw [List.cons_append]
    rw [Lib.parseUintM] at h ⊢
    split at h
    · rename_i h1
      rw [if_pos h1]
      split at h
      · cases h
      · rename_i h2
        rw [if_neg h2]
        split at h
        · cases h
        · rename_i h3
          rw [if_neg h3]
          exact ih _ h
    · cases h
theorem dd_parse (M u : Nat) (h : u ≤ M) (hM : M ≤ 18446744073709551615) : Lib.parseUintM M 0 (Lib.decDigits u) = .ok u := by
  induction u using Nat.strongRecOn with
  | _ u ih =>
    by_cases hu : u < 10
    · rw [dd_small hu]
      have := par_app M 0 u hu (by omega) (by omega) [] 0 rfl
      simpa using this
    · rw [dd_big hu]
      have h1 := ih (u / 10) (by omega) (by omega)
      have := par_app M (u / 10) (u % 10) (by omega) (by omega) (by omega) _ 0 h1
      rw [this]
      congr 1
      omega
theorem dd_parseB (u : Nat) (h : u ≤ 18446744073709551615) : Lib.parseUintB 64 (Lib.decDigits u) = .ok u := by
  unfold Lib.parseUintB
  rw [if_neg (dd_ne u)]
  exact dd_parse _ u (by simpa using h) (by simp)
/-- A number's text: its first sign, and digits. -/
theorem itoa_shape (n : Int) : ∃ c ds, Lib.itoa n = c :: ds ∧ (∀ x ∈ ds, isDig x = true) ∧ (c = 45 ∨ isDig c = true) := by
  unfold Lib.itoa
  split
  · exact ⟨45, _, rfl, dd_all _, .inl rfl⟩
  · have h := dd_all n.toNat
    cases hd : Lib.decDigits n.toNat with
    | nil => exact absurd hd (dd_ne _)
    | cons c ds => rw [hd] at h; exact ⟨c, ds, rfl, fun x hx => h x (by simp [hx]), .inr (h c (by simp))⟩
theorem parse_itoa (n : Int) (h0 : -9223372036854775808 ≤ n) (h1 : n ≤ 9223372036854775807) : Lib.parseIntB 64 (Lib.itoa n) = .ok n := by
  unfold Lib.itoa
  split
  · rename_i hn
    rw [Lib.parseIntB_minus, dd_parseB _ (by omega)]
    simp only [Lib.signedC]
    rw [if_neg (by simp; omega)]
    congr 1
    omega
  · rename_i hn
    have h := dd_all n.toNat
    have hp := dd_parseB n.toNat (by omega)
    cases hd : Lib.decDigits n.toNat with
    | nil => exact absurd hd (dd_ne _)
    | cons c ds =>
      rw [hd] at h hp
      have hc := h c (by simp)
      unfold isDig at hc
      simp only [Bool.and_eq_true, decide_eq_true_eq] at hc
      rw [Lib.parseIntB_plain 64 c ds (by omega) (by omega), hp]
      simp only [Lib.signlessC]
      rw [if_neg (by simp; omega)]
      congr 1
      omega
theorem while_all (p : UInt8 → Bool) (l r : Bs) (h : ∀ x ∈ l, p x = true) (hr : ∀ c, r.head? = some c → p c = false) : (l ++ r).takeWhile p = l ∧ (l ++ r).dropWhile p = r := by
  induction l with
  | nil =>
    cases r with
    | nil => exact ⟨rfl, rfl⟩
    | cons c r => have := hr c rfl; simp [this]
  | cons a l ih =>
    have ha := h a (by simp)
    have := ih (fun x hx => h x (by simp [hx]))
    simp [ha, this]
theorem num_itoa (n : Int) (h0 : -9223372036854775808 ≤ n) (h1 : n ≤ 9223372036854775807) (r : Bs) (hr : ∀ c, r.head? = some c → isDig c = false) : numN (Lib.itoa n ++ r) = .ok (.mk 3 n [] [] []) r := by
  obtain ⟨c, ds, e, hds, _⟩ := itoa_shape n
  have hp := parse_itoa n h0 h1
  have hw := while_all isDig ds r hds hr
  unfold numN
  simp only [e, List.cons_append, List.take_succ_cons, List.take_zero, List.drop_succ_cons, List.drop_zero, hw.1, hw.2, List.nil_append]
  rw [← e, hp]
  simp
theorem val_itoa (d : Nat) (n : Int) (h0 : -9223372036854775808 ≤ n) (h1 : n ≤ 9223372036854775807) (r : Bs) (hr : ∀ c, r.head? = some c → isDig c = false) (k : Nat) (hk : k ≠ 400) : valN d (Lib.itoa n ++ r) k = .ok (.mk 3 n [] [] [], k + 1) (skipB r) := by
  have hn := num_itoa n h0 h1 r hr
  obtain ⟨c, ds, e, hds, hc⟩ := itoa_shape n
  rw [e, List.cons_append] at hn ⊢
  rw [val_step d c (ds ++ r) k hk]
  have hcn : c ≠ 34 ∧ c ≠ 91 ∧ c ≠ 123 := by
    rcases hc with rfl | hc
    · decide
    · refine ⟨?_, ?_, ?_⟩ <;> (rintro rfl; revert hc; decide)
  rw [if_neg hcn.1, if_neg hcn.2.1, if_neg hcn.2.2, if_pos hc, hn]
  rfl
theorem skip_not (c : UInt8) (r : Bs) (h : [9, 10, 13, 32].contains c = false) : skipB (c :: r) = c :: r := by
  unfold skipB Lib.trimLeftS
  simp only [List.dropWhile_cons, h]
  rfl
theorem itoa_skip (n : Int) (r : Bs) : skipB (Lib.itoa n ++ r) = Lib.itoa n ++ r := by
  obtain ⟨c, ds, e, hds, hc⟩ := itoa_shape n
  rw [e, List.cons_append]
  apply skip_not
  rcases hc with rfl | hc
  · decide
  · unfold isDig at hc
    simp only [Bool.and_eq_true, decide_eq_true_eq] at hc
    have hn : c ≠ 9 ∧ c ≠ 10 ∧ c ≠ 13 ∧ c ≠ 32 := by
      refine ⟨?_, ?_, ?_, ?_⟩ <;> (rintro rfl; revert hc; decide)
    simp [hn]
/-- A number's text is read as the number. -/
theorem read_itoa (n : Int) (h0 : -9223372036854775808 ≤ n) (h1 : n ≤ 9223372036854775807) : readN (Lib.itoa n) = (.mk 3 n [] [] [], 0) := by
  have hs := itoa_skip n []
  have hv := val_itoa 6 n h0 h1 [] (fun c h => by cases h) 0 (by omega)
  rw [List.append_nil] at hs hv
  unfold readN
  rw [hs, hv]
  rfl
/-- With something behind it, it is none. -/
theorem read_more (n : Int) (h0 : -9223372036854775808 ≤ n) (h1 : n ≤ 9223372036854775807) (c : UInt8) (r : Bs) (hc : isDig c = false) (hb : [9, 10, 13, 32].contains c = false) : readN (Lib.itoa n ++ c :: r) = (.zero, 2) := by
  have hs := itoa_skip n (c :: r)
  have hv := val_itoa 6 n h0 h1 (c :: r) (fun x h => by simp at h; rw [← h]; exact hc) 0 (by omega)
  unfold readN
  rw [hs, hv, skip_not c r hb]
  simp
theorem read_plus (l : Bs) : readN (43 :: l) = (.zero, 2) := by
  unfold readN
  rw [skip_not 43 l (by decide), val_step 6 43 l 0 (by omega)]
  have : wordN (43 :: l) = .err 2 := by
    unfold wordN
    rw [show (43 :: l).takeWhile isLow = [] by rw [List.takeWhile_cons]; rfl]
    rfl
  rw [if_neg (by decide), if_neg (by decide), if_neg (by decide), if_neg (by decide), this]
  rfl
theorem read_nought (n : Int) (h0 : -9223372036854775808 ≤ n) (h1 : n ≤ 9223372036854775807) : readN (48 :: Lib.itoa n) = (.zero, 2) := by
  unfold readN
  rw [skip_not 48 _ (by decide), val_step 6 48 _ 0 (by omega)]
  rw [if_neg (by decide), if_neg (by decide), if_neg (by decide), if_pos (.inr (by decide))]
  by_cases hn : n < 0
  · have e : Lib.itoa n = 45 :: Lib.decDigits n.natAbs := by unfold Lib.itoa; rw [if_pos hn]
    have hnum : numN (48 :: Lib.itoa n) = .ok (.mk 3 0 [] [] []) (Lib.itoa n) := by
      have := num_itoa 0 (by omega) (by omega) (Lib.itoa n) (fun c h => by rw [e] at h; simp at h; rw [← h]; rfl)
      rw [show Lib.itoa 0 = [48] by unfold Lib.itoa; rw [if_neg (by omega)]; exact dd_small (by decide)] at this
      exact this
    rw [hnum]
    show (match Rs.ok (J.mk 3 0 [] [] [], 0 + 1) (skipB (Lib.itoa n)) with | .err e => (J.zero, e) | .ok (j, _) r => if r = [] then (j, 0) else (J.zero, 2)) = _
    have hs := itoa_skip n []
    rw [List.append_nil] at hs
    rw [hs, e]
    simp
  · have hall := dd_all n.toNat
    have e : Lib.itoa n = Lib.decDigits n.toNat := by unfold Lib.itoa; rw [if_neg hn]
    have hnum : numN (48 :: Lib.itoa n) = .err 2 := by
      have hw := while_all isDig (Lib.decDigits n.toNat) [] hall (fun c h => by cases h)
      rw [List.append_nil] at hw
      unfold numN
      simp only [e, List.take_succ_cons, List.take_zero, List.drop_succ_cons, List.drop_zero, hw.1, List.nil_append, List.cons_append]
      have hz : Lib.parseUintM (2 ^ 64 - 1) 0 (48 :: Lib.decDigits n.toNat) = Lib.parseUintM (2 ^ 64 - 1) 0 (Lib.decDigits n.toNat) := by
        rw [Lib.parseUintM]
        rfl
      have hp2 : Lib.parseIntB 64 (48 :: Lib.decDigits n.toNat) = .ok n := by
        have hd := dd_parse (2 ^ 64 - 1) n.toNat (by simp; omega) (by simp)
        rw [Lib.parseIntB_plain 64 48 _ (by decide) (by decide)]
        unfold Lib.parseUintB
        rw [if_neg (by simp), hz, hd]
        simp only [Lib.signlessC]
        rw [if_neg (by simp; omega)]
        congr 1
        omega
      rw [hp2]
      simp only
      rw [if_neg]
      intro hv
      rw [e] at hv
      have := congrArg List.length hv
      simp at this
    rw [hnum]
    rfl
end Go.Proofs.YtbkkcojfgdjbhaaDoor
