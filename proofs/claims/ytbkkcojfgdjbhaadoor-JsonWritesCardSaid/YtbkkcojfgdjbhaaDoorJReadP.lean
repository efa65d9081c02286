/- What is read may be: plain. -/
import Derived.Test.YtbkkcojfgdjbhaaDoorJBackT
import Derived.Test.YtbkkcojfgdjbhaaDoorJWrite
import Derived.Test.YtbkkcojfgdjbhaaDoorJVal
import Derived.Lib.ParseIntBTie
namespace Go.Proofs.YtbkkcojfgdjbhaaDoor

theorem valid_app (n : Nat) (a b : Bs) (hn : a.length ≤ n) (ha : Lib.validD a = true) : Lib.validD (a ++ b) = Lib.validD b := by
  induction n generalizing a with
  | zero => obtain rfl : a = [] := List.eq_nil_of_length_eq_zero (by omega); rfl
  | succ n ih =>
    cases a with
    | nil => rfl
    | cons c a =>
      have hst := Lib.validD_step (c :: a) (by simp)
      rw [ha] at hst
      have hnb : ¬ ((Lib.decodeL (c :: a)).1 = 65533 ∧ (Lib.decodeL (c :: a)).2 = 1) := by
        intro h
        rw [if_pos h] at hst
        cases hst
      rw [if_neg hnb] at hst
      have hle := Lib.decodeL_le (c :: a) (by simp)
      have hw := Lib.decodeL_width (c :: a)
      have hd := (dec_take (c :: a) ((c :: a).drop (Lib.decodeL (c :: a)).2 ++ b) (by simp) hnb).1
      rw [← List.append_assoc, List.take_append_drop] at hd
      rw [Lib.validD_step (c :: a ++ b) (by simp), hd, if_neg hnb, List.drop_append_of_le_length hle]
      exact ih _ (by rw [List.length_drop]; simp only [List.length_cons] at hn ⊢; omega) hst.symm
theorem valid_one (l : Bs) (hne : l ≠ []) (v : Nat) (h : Lib.decodeL l = (v, l.length)) (hv : ¬ (v = 65533 ∧ l.length = 1)) : Lib.validD l = true := by
  rw [Lib.validD_step l hne, h]
  simp only
  rw [if_neg hv, List.drop_length]
  rfl
theorem toU8 (x : Int) (h0 : 0 ≤ x) (h1 : x < 256) : (x.toNat.toUInt8).toNat = x.toNat := by
  rw [Nat.toUInt8_eq, UInt8.toNat_ofNat']
  omega
theorem enc_valid (v : Int) (h0 : 0 ≤ v) (h1 : v ≤ 1114111) (h2 : v < 55296 ∨ 57343 < v) : Lib.validD (Lib.encodeRune v) = true := by
  unfold Lib.encodeRune
  by_cases c1 : v ≤ 127
  · rw [Lib.encodeRuneZ_one h0 c1]
    refine valid_one _ (by simp) v.toNat ?_ (by simp; omega)
    simp only [List.map_cons, List.map_nil]
    rw [Lib.decodeL_ascii _ _ (by rw [toU8 v h0 (by omega)]; omega), toU8 v h0 (by omega)]
    rfl
  · by_cases c2 : v ≤ 2047
    · rw [Lib.encodeRuneZ_two (by omega) c2]
      refine valid_one _ (by simp) v.toNat ?_ (by simp)
      simp only [List.map_cons, List.map_nil]
      rw [Lib.decodeL_N]
      simp only [List.getD_cons_zero, List.getD_cons_succ, List.length_cons, List.length_nil, toU8 (192 + v / 64) (by omega) (by omega), toU8 (128 + v % 64) (by omega) (by omega)]
      unfold Lib.decodeN
      rw [if_neg (by omega), if_pos (by omega), if_pos (by omega)]
      apply Prod.ext
      · simp only; omega
      · rfl
    · by_cases c3 : v ≤ 65535
      · rw [Lib.encodeRuneZ_three (by omega)]
        refine valid_one _ (by simp) v.toNat ?_ (by simp)
        simp only [List.map_cons, List.map_nil]
        rw [Lib.decodeL_N]
        simp only [List.getD_cons_zero, List.getD_cons_succ, List.length_cons, List.length_nil, toU8 (224 + v / 4096) (by omega) (by omega), toU8 (128 + v / 64 % 64) (by omega) (by omega), toU8 (128 + v % 64) (by omega) (by omega)]
        unfold Lib.decodeN
        rw [if_neg (by omega), if_neg (by omega), if_pos (by omega), if_pos (by omega)]
        apply Prod.ext
        · simp only; omega
        · rfl
      · rw [Lib.encodeRuneZ_four (by omega) h1]
        refine valid_one _ (by simp) v.toNat ?_ (by simp)
        simp only [List.map_cons, List.map_nil]
        rw [Lib.decodeL_N]
        simp only [List.getD_cons_zero, List.getD_cons_succ, List.length_cons, List.length_nil, toU8 (240 + v / 262144) (by omega) (by omega), toU8 (128 + v / 4096 % 64) (by omega) (by omega), toU8 (128 + v / 64 % 64) (by omega) (by omega), toU8 (128 + v % 64) (by omega) (by omega)]
        unfold Lib.decodeN
        rw [if_neg (by omega), if_neg (by omega), if_neg (by omega), if_pos (by omega), if_pos (by omega)]
        apply Prod.ext
        · simp only; omega
        · rfl
theorem tx_valid {f : Nat} {acc l s r : Bs} (ha : Lib.validD acc = true) (h : txN f acc l = .ok s r) : Lib.validD s = true := by
  induction f generalizing acc l with
  | zero => cases h
  | succ f ih =>
    cases l with
    | nil => cases h
    | cons c l =>
      rw [txN] at h
      split at h
      · cases h; exact ha
      · cases hs : signN (c :: l) with
        | none => rw [hs] at h; cases h
        | some x =>
          obtain ⟨v, r2⟩ := x
          rw [hs] at h
          have hv := sign_val hs
          refine ih ?_ h
          rw [valid_app _ acc _ (Nat.le_refl _) ha]
          exact enc_valid v hv.1 hv.2.1 hv.2.2
theorem text_ok {l s r : Bs} (h : textN l = .ok s r) : textOk s = true := by
  have hl := (text_len h).2
  cases l with
  | nil => cases h
  | cons c l =>
    unfold textN at h
    simp only at h
    split at h
    · cases hx : txN (l.length + 1) [] l with
      | err e => rw [hx] at h; cases h
      | ok s2 r2 =>
        rw [hx] at h
        simp only at h
        split at h
        · cases h
        · cases h
          unfold textOk
          rw [tx_valid rfl hx, decide_eq_true hl]
          rfl
    · cases h
theorem key_ok {keys : List Bs} {l s r : Bs} (h : keyN keys l = .ok s r) : textOk s = true ∧ keys.contains s = false := by
  unfold keyN at h
  cases ht : textN l with
  | err e => rw [ht] at h; cases h
  | ok s2 r2 =>
    rw [ht] at h
    simp only at h
    split at h
    · cases h
    · rename_i hc
      split at h
      · split at h
        · cases h; exact ⟨text_ok ht, by simpa using hc⟩
        · cases h
      · cases h
theorem ky_snoc (done keys : List Bs) (s : Bs) : kyN done (keys ++ [s]) = (kyN done keys && (textOk s && !(done ++ keys).contains s)) := by
  induction keys generalizing done with
  | nil => simp [kyN]
  | cons k r ih =>
    rw [List.cons_append, kyN, kyN, ih]
    simp only [List.append_assoc, List.cons_append, List.nil_append]
    cases textOk k <;> cases done.contains k <;> simp
/-- What a reader of values hands back may be. -/
def Fits (d : Nat) (V : Bs → Nat → Rs (J × Nat)) : Prop := ∀ l n j n2 r, n ≤ 400 → V l n = .ok (j, n2) r → fitN d j (400 - (n : Int)) = some (400 - (n2 : Int)) ∧ Rg d j ∧ n < n2 ∧ n2 ≤ 400
theorem fold_snoc (f : J → Int → Option Int) (kids : List J) (j : J) (a b c : Int) (h : kids.foldl (fun o kid => o.bind (fun x => f kid x)) (some a) = some b) (hj : f j b = some c) : (kids ++ [j]).foldl (fun o kid => o.bind (fun x => f kid x)) (some a) = some c := by
  rw [List.foldl_append, h]; exact hj
theorem kid_fits {d : Nat} {V : Bs → Nat → Rs (J × Nat)} (hV : Fits d V) (k : Int) (hk : k = 5 ∨ k = 6) (n0 : Nat) (_hn0 : n0 ≤ 400) (f : Nat) : ∀ {keys : List Bs} {kids : List J} {l : Bs} {n : Nat} {j : J} {n2 : Nat} {r : Bs}, n ≤ 400 → n0 + kids.length ≤ n → kyN [] keys = true → (k = 5 → keys = []) → (k = 6 → keys.length = kids.length) →
    kids.foldl (fun o kid => o.bind (fun x => fitN d kid x)) (some (400 - (n0 : Int))) = some (400 - (n : Int)) → (∀ kid ∈ kids, Rg d kid) → kidN V f k keys kids l n = .ok (j, n2) r → fitN (d + 1) j (400 - (n0 : Int) + 1) = some (400 - (n2 : Int)) ∧ Rg (d + 1) j ∧ n ≤ n2 ∧ n2 ≤ 400 := by
  induction f with
  | zero => intro keys kids l n j n2 r _ _ _ _ _ _ _ h; cases h
  | succ f ih =>
    intro keys kids l n j n2 r hn hkn hky h5 h6 hf hR h
    rw [kid_step] at h
    split at h
    · simp at h
      obtain ⟨⟨rfl, rfl⟩, rfl⟩ := h
      have hform : formB k 0 [] keys.length kids.length = true := by
        rcases hk with rfl | rfl
        · rw [h5 rfl]; simp [formB]
        · simp [formB, h6 rfl]
      rw [fitN_more (by omega) hform (by omega), hky, if_pos rfl]
      refine ⟨?_, ⟨by omega, hR⟩, Nat.le_refl _, hn⟩
      rw [show 400 - (n0 : Int) + 1 - 1 = 400 - (n0 : Int) by omega]
      exact hf
    · cases hx : nextN kids.isEmpty l with
      | none => rw [hx] at h; cases h
      | some l1 =>
        rw [hx] at h
        simp only at h
        cases he : entN V k keys l1 n with
        | err e => rw [he] at h; cases h
        | ok x r2 =>
          obtain ⟨s, j2, n3⟩ := x
          rw [he] at h
          simp only at h
          unfold entN at he
          by_cases hk6 : k = 6
          · rw [if_pos hk6] at he h
            cases hke : keyN keys l1 with
            | err e => rw [hke] at he; cases he
            | ok s2 r3 =>
              have hko := key_ok hke
              rw [hke] at he
              simp only at he
              cases hv : V r3 n with
              | err e => rw [hv] at he; cases he
              | ok y r4 =>
                obtain ⟨j3, n4⟩ := y
                have h2 := hV _ _ _ _ _ hn hv
                rw [hv] at he
                simp at he
                obtain ⟨⟨rfl, rfl, rfl⟩, rfl⟩ := he
                have := ih h2.2.2.2 (by rw [List.length_append]; simp only [List.length_cons, List.length_nil]; omega) (by rw [ky_snoc, hky, hko.1, List.nil_append, hko.2]; rfl) (fun e => by omega) (fun _ => by rw [List.length_append, List.length_append, h6 hk6]; rfl) (fold_snoc (fitN d) kids j3 _ _ _ hf h2.1) (fun kid hm => by
                  rcases List.mem_append.1 hm with hm | hm
                  · exact hR kid hm
                  · rw [List.mem_singleton.1 hm]; exact h2.2.1) h
                exact ⟨this.1, this.2.1, by omega, this.2.2.2⟩
          · rw [if_neg hk6] at he h
            simp only at he
            cases hv : V l1 n with
            | err e => rw [hv] at he; cases he
            | ok y r4 =>
              obtain ⟨j3, n4⟩ := y
              have h2 := hV _ _ _ _ _ hn hv
              rw [hv] at he
              simp at he
              obtain ⟨⟨_, rfl, rfl⟩, rfl⟩ := he
              have := ih h2.2.2.2 (by rw [List.length_append]; simp only [List.length_cons, List.length_nil]; omega) hky h5 (fun e => by omega) (fold_snoc (fitN d) kids j3 _ _ _ hf h2.1) (fun kid hm => by
                rcases List.mem_append.1 hm with hm | hm
                · exact hR kid hm
                · rw [List.mem_singleton.1 hm]; exact h2.2.1) h
              exact ⟨this.1, this.2.1, by omega, this.2.2.2⟩
theorem leaf_fits (d : Nat) (k m : Int) (s : Bs) (n : Nat) (hn : n < 400) (hf : formB k m s 0 0 = true) (hk : k ≠ 5 ∧ k ≠ 6) (ht : textOk s = true) (hr : -9223372036854775808 ≤ m ∧ m ≤ 9223372036854775807) : fitN d (.mk k m s [] []) (400 - (n : Int)) = some (400 - ((n + 1 : Nat) : Int)) ∧ Rg d (.mk k m s [] []) := by
  refine ⟨?_, ?_⟩
  · have e : 400 - (n : Int) - 1 = 400 - ((n + 1 : Nat) : Int) := by omega
    have h := fitN_leaf (d := d) (k := k) (n := m) (s := s) (keys := []) (kids := []) (left := 400 - (n : Int)) (by simp only [List.length_nil]; omega) hf hk
    rw [ht, e] at h
    exact h
  · cases d with
    | zero => exact hr
    | succ d => exact ⟨hr, by simp⟩
theorem num_ok {l r : Bs} {j : J} (h : numN l = .ok j r) : ∃ v, j = .mk 3 v [] [] [] ∧ -9223372036854775808 ≤ v ∧ v ≤ 9223372036854775807 := by
  unfold numN at h
  simp only at h
  split at h
  · rename_i v hv
    split at h
    · cases h
      have := Lib.parseIntB_bounds hv
      refine ⟨v, rfl, ?_, ?_⟩
      · have h1 := this.1
        simp at h1
        omega
      · have h1 := this.2
        simp at h1
        omega
    · cases h
  · cases h
theorem word_ok {l r : Bs} {j : J} (h : wordN l = .ok j r) : ∃ k, j = .mk k 0 [] [] [] ∧ (k = 0 ∨ k = 1 ∨ k = 2) := by
  unfold wordN at h
  split at h
  · rename_i k hk
    cases h
    refine ⟨k, rfl, ?_⟩
    unfold wordV at hk
    split at hk
    · cases hk; omega
    · split at hk
      · cases hk; omega
      · split at hk
        · cases hk; omega
        · cases hk
  · cases h
theorem textV_ok {l r : Bs} {j : J} (h : textV l = .ok j r) : ∃ s, j = .mk 4 0 s [] [] ∧ textOk s = true := by
  unfold textV at h
  cases ht : textN l with
  | err e => rw [ht] at h; cases h
  | ok s r2 => rw [ht] at h; cases h; exact ⟨s, rfl, text_ok ht⟩
theorem val_fits (d : Nat) : Fits d (valN d) := by
  have leafs : ∀ (d : Nat) (c : UInt8) (l : Bs) (n : Nat) (j : J) (n2 : Nat) (r : Bs), n < 400 → ((if c = 34 then (textV (c :: l)).count (n + 1) else if c = 45 ∨ isDig c = true then (numN (c :: l)).count (n + 1) else (wordN (c :: l)).count (n + 1)) = .ok (j, n2) r) → fitN d j (400 - (n : Int)) = some (400 - (n2 : Int)) ∧ Rg d j ∧ n < n2 ∧ n2 ≤ 400 := by
    intro d c l n j n2 r hn h
    split at h
    · obtain ⟨rfl, h1⟩ := count_ok h
      obtain ⟨s, rfl, hs⟩ := textV_ok h1
      obtain ⟨h2, h3⟩ := leaf_fits d 4 0 s n hn (by simp [formB]) (by decide) hs (by omega)
      exact ⟨h2, h3, by omega, by omega⟩
    · split at h
      · obtain ⟨rfl, h1⟩ := count_ok h
        obtain ⟨v, rfl, hv⟩ := num_ok h1
        obtain ⟨h2, h3⟩ := leaf_fits d 3 v [] n hn (by simp [formB]) (by decide) rfl hv
        exact ⟨h2, h3, by omega, by omega⟩
      · obtain ⟨rfl, h1⟩ := count_ok h
        obtain ⟨k, rfl, hk⟩ := word_ok h1
        obtain ⟨h2, h3⟩ := leaf_fits d k 0 [] n hn (by rcases hk with rfl | rfl | rfl <;> rfl) (by omega) rfl (by omega)
        exact ⟨h2, h3, by omega, by omega⟩
  induction d with
  | zero =>
    intro l n j n2 r hn h
    by_cases h400 : n = 400
    · subst h400; unfold valN at h; cases h
    · cases l with
      | nil => unfold valN at h; rw [if_neg h400] at h; cases h
      | cons c l =>
        rw [val_step 0 c l n h400] at h
        obtain ⟨r0, h, _⟩ := skip_ok h
        refine leafs 0 c l n j n2 r0 (by omega) ?_
        by_cases c1 : c = 34
        · rw [if_pos c1] at h ⊢; exact h
        · rw [if_neg c1] at h ⊢
          split at h
          · cases h
          · split at h
            · cases h
            · exact h
  | succ d ih =>
    intro l n j n2 r hn h
    by_cases h400 : n = 400
    · subst h400; unfold valN at h; cases h
    · cases l with
      | nil => unfold valN at h; rw [if_neg h400] at h; cases h
      | cons c l =>
        rw [val_step (d + 1) c l n h400] at h
        obtain ⟨r0, h, _⟩ := skip_ok h
        by_cases c1 : c = 34
        · exact leafs (d + 1) c l n j n2 r0 (by omega) (by rw [if_pos c1] at h ⊢; exact h)
        · rw [if_neg c1] at h
          by_cases c2 : c = 91
          · rw [if_pos c2] at h
            have h' : kidN (valN d) 401 5 [] [] (skipB l) (n + 1) = .ok (j, n2) r0 := h
            have := kid_fits ih 5 (.inl rfl) (n + 1) (by omega) 401 (n := n + 1) (by omega) (by simp) rfl (fun _ => rfl) (fun e => by omega) rfl (by simp) h'
            rw [show 400 - ((n + 1 : Nat) : Int) + 1 = 400 - (n : Int) by omega] at this
            exact ⟨this.1, this.2.1, by omega, this.2.2.2⟩
          · rw [if_neg c2] at h
            by_cases c3 : c = 123
            · rw [if_pos c3] at h
              have h' : kidN (valN d) 401 6 [] [] (skipB l) (n + 1) = .ok (j, n2) r0 := h
              have := kid_fits ih 6 (.inr rfl) (n + 1) (by omega) 401 (n := n + 1) (by omega) (by simp) rfl (fun e => by omega) (fun _ => rfl) rfl (by simp) h'
              rw [show 400 - ((n + 1 : Nat) : Int) + 1 = 400 - (n : Int) by omega] at this
              exact ⟨this.1, this.2.1, by omega, this.2.2.2⟩
            · rw [if_neg c3] at h
              exact leafs (d + 1) c l n j n2 r0 (by omega) (by rw [if_neg c1]; exact h)
theorem fit_siz : ∀ (d : Nat) (j : J) (l l2 : Int), l ≤ 400 → fitN d j l = some l2 → Siz (d + 1) j := by
  intro d
  induction d with
  | zero =>
    rintro ⟨k, n, s, keys, kids⟩ l l2 hl h
    obtain ⟨h1, hf, h⟩ := fit_form h
    rcases h with ⟨h5, h6, ht, _⟩ | ⟨_, d', e, _⟩
    · have := textOk_len ht
      have hkk : keys.length = 0 ∧ kids.length = 0 := by
        unfold formB at hf
        simp only [Bool.and_eq_true, h5, h6, if_false, decide_eq_true_eq] at hf
        exact hf.2
      obtain rfl : keys = [] := List.eq_nil_of_length_eq_zero hkk.1
      exact ⟨by omega, by simp, by simp, by omega, fun _ _ => trivial⟩
    · omega
  | succ d ih =>
    rintro ⟨k, n, s, keys, kids⟩ l l2 hl h
    obtain ⟨h1, hf, h⟩ := fit_form h
    rcases h with ⟨h5, h6, ht, _⟩ | ⟨h56, d', e, hky, hfold⟩
    · have := textOk_len ht
      have hkk : keys.length = 0 ∧ kids.length = 0 := by
        unfold formB at hf
        simp only [Bool.and_eq_true, h5, h6, if_false, decide_eq_true_eq] at hf
        exact hf.2
      obtain rfl : keys = [] := List.eq_nil_of_length_eq_zero hkk.1
      obtain rfl : kids = [] := List.eq_nil_of_length_eq_zero hkk.2
      exact ⟨by omega, by simp, by simp, by simp, by simp⟩
    · obtain rfl : d = d' := by omega
      have hs : s = [] := by
        unfold formB at hf
        simp only [Bool.and_eq_true, decide_eq_true_eq] at hf
        rcases hf.1.2 with h | h
        · omega
        · exact h
      have hkl : keys.length ≤ kids.length := by
        unfold formB at hf
        simp only [Bool.and_eq_true, decide_eq_true_eq] at hf
        have := hf.2
        rcases h56 with rfl | rfl
        · simp at this; simp [this]
        · simp at this; omega
      refine ⟨by rw [hs]; simp, by omega, fun k hk => by have := textOk_len (ky_each hky k hk); omega, by omega, ?_⟩
      have each : ∀ (ks : List J) (a b : Int), a ≤ 400 → ks.foldl (fun o kid => o.bind (fun x => fitN d kid x)) (some a) = some b → ∀ kid ∈ ks, Siz (d + 1) kid := by
        intro ks
        induction ks with
        | nil => intro a b _ _ kid hm; cases hm
        | cons j r ihr =>
          intro a b ha hfo kid hm
          rw [List.foldl_cons] at hfo
          change r.foldl _ (fitN d j a) = _ at hfo
          cases hx : fitN d j a with
          | none => rw [hx, fold_none] at hfo; cases hfo
          | some c =>
            rw [hx] at hfo
            have hle := fitN_le d j a c hx
            rcases List.mem_cons.1 hm with rfl | hm
            · exact ih _ a c ha hx
            · exact ihr c b (by omega) hfo kid hm
      exact each kids (l - 1) l2 (by omega) hfold
/-- What is read: sizes, ranges; it may be, if there is no error. -/
theorem read_good (l : Bs) : Siz 7 (readN l).1 ∧ Rg 6 (readN l).1 ∧ rightN (readN l).1 = true ∧ ((readN l).2 ≠ 0 → (readN l).1 = .zero) := by
  have zero : Siz 7 J.zero ∧ Rg 6 J.zero ∧ rightN J.zero = true := ⟨⟨by simp, by simp, by simp, by simp, by simp⟩, ⟨by omega, by simp⟩, rfl⟩
  unfold readN
  cases h : valN 6 (skipB l) 0 with
  | err e => exact ⟨zero.1, zero.2.1, zero.2.2, fun _ => rfl⟩
  | ok x r =>
    obtain ⟨j, n2⟩ := x
    simp only
    split
    · have hf := val_fits 6 (skipB l) 0 j n2 r (by omega) h
      refine ⟨fit_siz 6 j _ _ (by omega) hf.1, hf.2.1, ?_, fun h => absurd rfl h⟩
      have h2 := hf.1
      unfold rightN
      rw [show (400 : Int) = 400 - ((0 : Nat) : Int) by omega, h2]
      rfl
    · exact ⟨zero.1, zero.2.1, zero.2.2, fun _ => rfl⟩
end Go.Proofs.YtbkkcojfgdjbhaaDoor
