/- A text that is written is read again: plain. -/
import Derived.Test.YtbkkcojfgdjbhaaDoorJWr
import Derived.Lib.MapLaws
import Derived.Lib.ValidLaws
namespace Go.Proofs.YtbkkcojfgdjbhaaDoor

/-- A sign is told by its own bytes. -/
theorem dec_take (s r : Bs) (hne : s ≠ []) (hv : ¬ ((Lib.decodeL s).1 = 65533 ∧ (Lib.decodeL s).2 = 1)) :
    Lib.decodeL (s.take (Lib.decodeL s).2 ++ r) = Lib.decodeL s ∧ (128 ≤ (s.getD 0 0).toNat → (∀ b ∈ s.take (Lib.decodeL s).2, 128 ≤ b.toNat) ∧ 128 ≤ (Lib.decodeL s).1) := by
  have hl : 0 < s.length := List.length_pos_iff.2 hne
  rw [Lib.decodeL_N s] at hv ⊢
  have k0 := (s.getD 0 0).toNat_lt
  have k1 := (s.getD 1 0).toNat_lt
  have k2 := (s.getD 2 0).toNat_lt
  have k3 := (s.getD 3 0).toNat_lt
  rcases Lib.decodeN_shape s.length (s.getD 0 0).toNat (s.getD 1 0).toNat (s.getD 2 0).toNat (s.getD 3 0).toNat with ⟨c, e⟩ | ⟨c1, c2, c3, cv, e⟩ | ⟨c1, c2, c3, c4, cv, cs, e⟩ | ⟨c1, c2, c3, c4, c5, cv, cw, e⟩ | e
  · rw [e]
    dsimp only
    rw [Lib.takeA s hl, Lib.decodeL_N]
    generalize s.getD 0 0 = b0 at *
    refine ⟨?_, fun h => by omega⟩
    simp [Lib.decodeN, c]
  · rw [e]
    dsimp only
    rw [Lib.takeB s c2, Lib.decodeL_N]
    generalize s.getD 0 0 = b0 at *
    generalize s.getD 1 0 = b1 at *
    refine ⟨?_, fun h => ⟨fun b hb => ?_, by omega⟩⟩
    · simp only [List.cons_append, List.nil_append, List.getD_cons_zero, List.getD_cons_succ, List.length_cons]
      unfold Lib.decodeN
      rw [if_neg (by omega), if_pos (by omega), if_pos (by omega)]
    · simp at hb
      rcases hb with rfl | rfl <;> omega
  · rw [e]
    dsimp only
    rw [Lib.takeC s c2, Lib.decodeL_N]
    generalize s.getD 0 0 = b0 at *
    generalize s.getD 1 0 = b1 at *
    generalize s.getD 2 0 = b2 at *
    refine ⟨?_, fun h => ⟨fun b hb => ?_, by omega⟩⟩
    · simp only [List.cons_append, List.nil_append, List.getD_cons_zero, List.getD_cons_succ, List.length_cons]
      unfold Lib.decodeN
      rw [if_neg (by omega), if_neg (by omega), if_pos (by omega), if_pos (by omega)]
    · simp at hb
      rcases hb with rfl | rfl | rfl <;> omega
  · rw [e]
    dsimp only
    rw [Lib.takeD s c2, Lib.decodeL_N]
    generalize s.getD 0 0 = b0 at *
    generalize s.getD 1 0 = b1 at *
    generalize s.getD 2 0 = b2 at *
    generalize s.getD 3 0 = b3 at *
    refine ⟨?_, fun h => ⟨fun b hb => ?_, by omega⟩⟩
    · simp only [List.cons_append, List.nil_append, List.getD_cons_zero, List.getD_cons_succ, List.length_cons]
      unfold Lib.decodeN
      rw [if_neg (by omega), if_neg (by omega), if_neg (by omega), if_pos (by omega), if_pos (by omega)]
    · simp at hb
      rcases hb with rfl | rfl | rfl | rfl <;> omega
  · rw [e] at hv
    exact absurd ⟨rfl, rfl⟩ hv
theorem hexV_D (n : Nat) (h : n < 16) : hexV (hexD n) = some n := by
  have : ∀ m : Fin 16, hexV (hexD m.val) = some m.val := by decide
  exact this ⟨n, h⟩
theorem u8_eq {c : UInt8} {n : Nat} (h : c.toNat = n) (d : UInt8) (hd : d.toNat = n) : c = d := UInt8.toNat_inj.1 (by omega)
/-- A byte below 128, as it is written, is one sign: itself. -/
theorem sign_esc (c : UInt8) (h : c.toNat < 128) (r : Bs) : signN (escW c ++ r) = some ((c.toNat : Int), r) ∧ (escW c ++ r).head? ≠ some 34 := by
  unfold escW
  by_cases h1 : c.toNat = 34 ∨ c.toNat = 92
  · rw [if_pos h1]
    rcases h1 with h1 | h1
    · obtain rfl := u8_eq h1 34 rfl
      exact ⟨rfl, by simp⟩
    · obtain rfl := u8_eq h1 92 rfl
      exact ⟨rfl, by simp⟩
  · rw [if_neg h1]
    by_cases h2 : c.toNat < 32
    · rw [if_pos h2]
      refine ⟨?_, by simp⟩
      have e : signN ([92, 117, 48, 48, hexD (c.toNat / 16), hexD (c.toNat % 16)] ++ r) = cpN (48 :: 48 :: hexD (c.toNat / 16) :: hexD (c.toNat % 16) :: r) := rfl
      rw [e]
      have e4 : fourN (48 :: 48 :: hexD (c.toNat / 16) :: hexD (c.toNat % 16) :: r) = some (c.toNat, r) := by
        simp only [fourN, hexV_D (c.toNat / 16) (by omega), hexV_D (c.toNat % 16) (by omega), show hexV 48 = some 0 from rfl]
        show some (0 * 4096 + 0 * 256 + c.toNat / 16 * 16 + c.toNat % 16, r) = _
        congr 2
        omega
      unfold cpN
      rw [e4]
      simp only
      rw [if_pos (by omega)]
    · rw [if_neg h2]
      have hn : c ≠ 92 := fun e => h1 (.inr (by rw [e]; rfl))
      have hn2 : c ≠ 34 := fun e => h1 (.inl (by rw [e]; rfl))
      refine ⟨?_, by simpa using hn2⟩
      show signN (c :: r) = _
      unfold signN
      simp only
      rw [if_neg hn, Lib.decodeL_ascii c r h]
      simp only
      rw [if_neg (by omega)]
      rfl
theorem enc_ascii (c : UInt8) (h : c.toNat < 128) : Lib.encodeRune (c.toNat : Int) = [c] := by
  unfold Lib.encodeRune
  rw [Lib.encodeRuneZ_one (by omega) (by omega)]
  simp
theorem tx_sign (f : Nat) (acc l r : Bs) (v : Int) (h : l.head? ≠ some 34) (hs : signN l = some (v, r)) : txN (f + 1) acc l = txN f (acc ++ Lib.encodeRune v) r := by
  cases l with
  | nil => cases hs
  | cons c l =>
    rw [txN, if_neg (by simpa using h), hs]
theorem esc_high (W : UInt8 → Bs) (hW : ∀ c : UInt8, 128 ≤ c.toNat → W c = [c]) (l : Bs) (h : ∀ b ∈ l, 128 ≤ b.toNat) : l.flatMap W = l := by
  induction l with
  | nil => rfl
  | cons b l ih =>
    have hb := h b (by simp)
    rw [List.flatMap_cons, ih (fun x hx => h x (by simp [hx]))]
    rw [hW b hb]
    rfl
theorem tx_gen (W : UInt8 → Bs) (hW1 : ∀ (c : UInt8), c.toNat < 128 → ∀ r, signN (W c ++ r) = some ((c.toNat : Int), r) ∧ (W c ++ r).head? ≠ some 34) (hW2 : ∀ c : UInt8, 128 ≤ c.toNat → W c = [c]) (n : Nat) (s acc r : Bs) (hn : s.length ≤ n) (hv : Lib.validD s = true) (f : Nat) (hf : s.length < f) : txN f acc (s.flatMap W ++ 34 :: r) = .ok (acc ++ s) r := by
  induction n generalizing s acc f with
  | zero =>
    obtain rfl : s = [] := List.eq_nil_of_length_eq_zero (by omega)
    obtain ⟨f, rfl⟩ : ∃ g, f = g + 1 := ⟨f - 1, by simp at hf; omega⟩
    simp [txN]
  | succ n ih =>
    obtain ⟨f, rfl⟩ : ∃ g, f = g + 1 := ⟨f - 1, by omega⟩
    cases s with
    | nil => simp [txN]
    | cons c s =>
      rw [List.length_cons] at hn hf
      by_cases hc : c.toNat < 128
      · rw [Lib.validD_cons c s hc] at hv
        rw [List.flatMap_cons, List.append_assoc]
        obtain ⟨h1, h2⟩ := hW1 c hc (s.flatMap W ++ 34 :: r)
        rw [tx_sign f acc _ _ _ h2 h1, enc_ascii c hc, ih s (acc ++ [c]) (by omega) hv f (by omega)]
        simp
      · have hst := Lib.validD_step (c :: s) (by simp)
        rw [hv] at hst
        have hnb : ¬ ((Lib.decodeL (c :: s)).1 = 65533 ∧ (Lib.decodeL (c :: s)).2 = 1) := by
          intro h
          rw [if_pos h] at hst
          cases hst
        rw [if_neg hnb] at hst
        have hdl := Lib.decodeL_le (c :: s) (by simp)
        have hdw := Lib.decodeL_width (c :: s)
        have hen := Lib.encode_decode (c :: s) (by simp) hnb
        obtain ⟨K, hK⟩ : ∃ K, K = (Lib.decodeL (c :: s)).2 := ⟨_, rfl⟩
        have hsp : c :: s = (c :: s).take K ++ (c :: s).drop K := (List.take_append_drop K _).symm
        obtain ⟨hd, hh⟩ := dec_take (c :: s) (((c :: s).drop K).flatMap W ++ 34 :: r) (by simp) hnb
        obtain ⟨hh1, hh2⟩ := hh (by simpa using hc)
        rw [← hK] at hdl hdw hen hst hd hh1
        have e1 : (c :: s).flatMap W ++ 34 :: r = (c :: s).take K ++ (((c :: s).drop K).flatMap W ++ 34 :: r) := by
          conv => lhs; rw [hsp, List.flatMap_append, esc_high W hW2 _ hh1]
          rw [List.append_assoc]
        have hsg : signN ((c :: s).take K ++ (((c :: s).drop K).flatMap W ++ 34 :: r)) = some (((Lib.decodeL (c :: s)).1 : Int), ((c :: s).drop K).flatMap W ++ 34 :: r) := by
          obtain ⟨K', rfl⟩ : ∃ K', K = K' + 1 := ⟨K - 1, by omega⟩
          rw [List.take_succ_cons, List.cons_append] at hd ⊢
          unfold signN
          simp only
          rw [if_neg (by intro e; subst e; simp at hc), hd, if_neg (by omega), ← hK]
          congr 2
          rw [List.drop_succ_cons, List.drop_append_of_le_length (by rw [List.length_take]; simp at hdl; omega), List.drop_eq_nil_of_le (by rw [List.length_take]; omega)]
          rfl
        have hhd : ((c :: s).take K ++ (((c :: s).drop K).flatMap W ++ 34 :: r)).head? ≠ some 34 := by
          obtain ⟨K', rfl⟩ : ∃ K', K = K' + 1 := ⟨K - 1, by omega⟩
          rw [List.take_succ_cons]
          simp
          intro e; subst e; simp at hc
        rw [e1, tx_sign f acc _ _ _ hhd hsg, hen, ih ((c :: s).drop K) _ (by rw [List.length_drop, List.length_cons]; omega) hst.symm f (by rw [List.length_drop, List.length_cons]; omega), List.append_assoc, List.take_append_drop]
theorem escW_high (c : UInt8) (h : 128 ≤ c.toNat) : escW c = [c] := by unfold escW; rw [if_neg (by omega), if_neg (by omega)]
theorem tx_back (n : Nat) (s acc r : Bs) (hn : s.length ≤ n) (hv : Lib.validD s = true) (f : Nat) (hf : s.length < f) : txN f acc (s.flatMap escW ++ 34 :: r) = .ok (acc ++ s) r :=
  tx_gen escW (fun c h r => sign_esc c h r) escW_high n s acc r hn hv f hf
theorem flat_ge (s : Bs) : s.length ≤ (s.flatMap escW).length := by
  induction s with
  | nil => simp
  | cons c s ih =>
    have : 1 ≤ (escW c).length := by unfold escW; split <;> (try split) <;> simp
    rw [List.flatMap_cons, List.length_append, List.length_cons]; omega
/-- A text that may be is read as it was. -/
theorem text_back (s r : Bs) (hl : s.length ≤ 200) (hv : Lib.validD s = true) : textN (quoteN s ++ r) = .ok s r := by
  have e : quoteN s ++ r = 34 :: (s.flatMap escW ++ 34 :: r) := by simp [quoteN]
  have hf := flat_ge s
  rw [e]
  unfold textN
  simp only
  rw [if_pos trivial, tx_back s.length s [] r (Nat.le_refl _) hv _ (by rw [List.length_append]; omega)]
  simp only [List.nil_append]
  rw [if_neg (by omega)]
end Go.Proofs.YtbkkcojfgdjbhaaDoor
