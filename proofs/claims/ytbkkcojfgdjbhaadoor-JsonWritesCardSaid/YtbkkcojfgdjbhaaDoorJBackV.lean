/- A value that is written is read again: plain. -/
import Derived.Test.YtbkkcojfgdjbhaaDoorJReadP
import Derived.Test.YtbkkcojfgdjbhaaDoorJNumP
namespace Go.Proofs.YtbkkcojfgdjbhaaDoor

def HeadOk (c : UInt8) : Prop := [9, 10, 13, 32].contains c = false ∧ c ≠ 93 ∧ c ≠ 125 ∧ c ≠ 44
theorem dig_range {c : UInt8} (h : isDig c = true) : 48 ≤ c.toNat ∧ c.toNat ≤ 57 := by
  unfold isDig at h
  simpa using h
theorem u8_ne {c d : UInt8} (h : c.toNat ≠ d.toNat) : c ≠ d := fun e => h (by rw [e])
theorem head_dig {c : UInt8} (h : isDig c = true) : HeadOk c := by
  have hr := dig_range h
  refine ⟨?_, u8_ne (by simp; omega), u8_ne (by simp; omega), u8_ne (by simp; omega)⟩
  have h1 : c ≠ 9 := u8_ne (by simp; omega)
  have h2 : c ≠ 10 := u8_ne (by simp; omega)
  have h3 : c ≠ 13 := u8_ne (by simp; omega)
  have h4 : c ≠ 32 := u8_ne (by simp; omega)
  simp [h1, h2, h3, h4]
theorem leaf_head (k n : Int) (s : Bs) : ∃ c t, leafW k n s = c :: t ∧ HeadOk c := by
  unfold leafW
  split
  · exact ⟨_, _, rfl, by unfold HeadOk; decide⟩
  · split
    · exact ⟨_, _, rfl, by unfold HeadOk; decide⟩
    · split
      · obtain ⟨c, ds, e, _, hc⟩ := itoa_shape n
        refine ⟨c, ds, e, ?_⟩
        rcases hc with rfl | hc
        · unfold HeadOk; decide
        · exact head_dig hc
      · split
        · exact ⟨34, _, rfl, by unfold HeadOk; decide⟩
        · exact ⟨_, _, rfl, by unfold HeadOk; decide⟩
theorem wr_head (d : Nat) (j : J) : ∃ c t, wrN d j = c :: t ∧ HeadOk c := by
  obtain ⟨k, n, s, keys, kids⟩ := j
  cases d with
  | zero => rw [wrN]; exact leaf_head k n s
  | succ d =>
    rw [wrN]
    split
    · rename_i h
      rcases h with rfl | rfl
      · exact ⟨91, _, rfl, by unfold HeadOk; decide⟩
      · exact ⟨123, _, rfl, by unfold HeadOk; decide⟩
    · exact leaf_head k n s
theorem wr_skip (d : Nat) (j : J) (r : Bs) : skipB (wrN d j ++ r) = wrN d j ++ r := by
  obtain ⟨c, t, e, h⟩ := wr_head d j
  rw [e, List.cons_append]
  exact skip_not c _ h.1
/-- What may stand behind a value. -/
def Stop (r : Bs) : Prop := ∀ c, r.head? = some c → isDig c = false ∧ isLow c = false
theorem word_back (w : Bs) (k : Int) (hw : ∀ x ∈ w, isLow x = true) (hv : wordV w = some k) (r : Bs) (hr : Stop r) : wordN (w ++ r) = .ok (.mk k 0 [] [] []) r := by
  have h := while_all isLow w r hw (fun c hc => (hr c hc).2)
  unfold wordN
  rw [h.1, h.2, hv]
theorem leaf_back (d n : Nat) (k m : Int) (s : Bs) (r : Bs) (hr : Stop r) (hn : n ≠ 400) (hf : formB k m s 0 0 = true) (hk : k ≠ 5 ∧ k ≠ 6) (ht : textOk s = true) (hm : -9223372036854775808 ≤ m ∧ m ≤ 9223372036854775807) : valN d (leafW k m s ++ r) n = .ok (.mk k m s [] [], n + 1) (skipB r) := by
  obtain ⟨hk0, hk6, _⟩ := form_kind hf
  have hms : (k = 3 ∨ m = 0) ∧ (k = 4 ∨ s = []) := by
    unfold formB at hf
    simp only [Bool.and_eq_true, decide_eq_true_eq] at hf
    exact ⟨hf.1.1.2, hf.1.2⟩
  have wd : ∀ (c : UInt8) (w : Bs) (k : Int), (c = 110 ∨ c = 102 ∨ c = 116) → (∀ x ∈ c :: w, isLow x = true) → wordV (c :: w) = some k → valN d (c :: w ++ r) n = .ok (.mk k 0 [] [] [], n + 1) (skipB r) := by
    intro c w k hc hw hv
    have h := word_back (c :: w) k hw hv r hr
    rw [List.cons_append] at h ⊢
    rw [val_step d c (w ++ r) n hn]
    rcases hc with rfl | rfl | rfl
    all_goals
      rw [if_neg (by decide), if_neg (by decide), if_neg (by decide), if_neg (by decide), h]
      rfl
  have hcases : k = 0 ∨ k = 1 ∨ k = 2 ∨ k = 3 ∨ k = 4 := by omega
  rcases hcases with rfl | rfl | rfl | rfl | rfl
  · obtain ⟨rfl, rfl⟩ : m = 0 ∧ s = [] := ⟨by omega, by rcases hms.2 with h | h; omega; exact h⟩
    exact wd 110 [117, 108, 108] 0 (.inl rfl) (by decide) (by decide)
  · obtain ⟨rfl, rfl⟩ : m = 0 ∧ s = [] := ⟨by omega, by rcases hms.2 with h | h; omega; exact h⟩
    exact wd 102 [97, 108, 115, 101] 1 (.inr (.inl rfl)) (by decide) (by decide)
  · obtain ⟨rfl, rfl⟩ : m = 0 ∧ s = [] := ⟨by omega, by rcases hms.2 with h | h; omega; exact h⟩
    exact wd 116 [114, 117, 101] 2 (.inr (.inr rfl)) (by decide) (by decide)
  · obtain rfl : s = [] := by rcases hms.2 with h | h; omega; exact h
    exact val_itoa d m hm.1 hm.2 r (fun c hc => (hr c hc).1) n hn
  · obtain rfl : m = 0 := by omega
    have h := text_back s r (textOk_len ht) (textOk_valid ht)
    show valN d (quoteN s ++ r) n = _
    have e : quoteN s ++ r = 34 :: (s.flatMap escW ++ [34] ++ r) := by simp [quoteN]
    rw [e] at h ⊢
    rw [val_step d 34 _ n hn, if_pos rfl]
    unfold textV
    rw [h]
    rfl
theorem cl_stop (k : Int) (hk : k = 5 ∨ k = 6) (r : Bs) : Stop (clN k :: r) := by
  intro c hc
  simp at hc
  subst hc
  rcases hk with rfl | rfl <;> decide
theorem kidsW_stop (W : J → Bs) (k : Int) (hk : k = 5 ∨ k = 6) (keys : List Bs) (kids : List J) (r : Bs) : Stop (kidsW W k false keys kids ++ clN k :: r) ∧ skipB (kidsW W k false keys kids ++ clN k :: r) = kidsW W k false keys kids ++ clN k :: r := by
  cases kids with
  | nil =>
    refine ⟨cl_stop k hk r, ?_⟩
    rw [kidsW, List.nil_append]
    apply skip_not
    rcases hk with rfl | rfl <;> decide
  | cons j kids =>
    obtain ⟨t, ht⟩ : ∃ t, kidsW W k false keys (j :: kids) ++ clN k :: r = 44 :: t := ⟨_, by rw [kidsW]; simp only [List.append_assoc]; rfl⟩
    rw [ht]
    refine ⟨?_, skip_not 44 _ (by decide)⟩
    intro c hc
    simp at hc
    subst hc
    decide
def VBack (d : Nat) : Prop := ∀ (j : J) (n : Nat) (l2 : Int) (r : Bs), n ≤ 400 → fitN d j (400 - (n : Int)) = some l2 → Rg d j → Stop r → ∃ n2 : Nat, n2 ≤ 400 ∧ n < n2 ∧ l2 = 400 - (n2 : Int) ∧ valN d (wrN d j ++ r) n = .ok (j, n2) (skipB r)
theorem key_back (earlier : List Bs) (s r : Bs) (ht : textOk s = true) (he : earlier.contains s = false) (hr : skipB r = r) : keyN earlier (quoteN s ++ 58 :: r) = .ok s r := by
  unfold keyN
  rw [text_back s (58 :: r) (textOk_len ht) (textOk_valid ht)]
  simp only
  rw [if_neg (by rw [he]; simp), skip_not 58 r (by decide)]
  simp only
  rw [if_pos trivial, hr]
theorem ky_split {done : List Bs} {k : Bs} {r : List Bs} (h : kyN done (k :: r) = true) : textOk k = true ∧ done.contains k = false ∧ kyN (done ++ [k]) r = true := by
  rw [kyN] at h
  simp only [Bool.and_eq_true, Bool.not_eq_true'] at h
  exact ⟨h.1.1, h.1.2, h.2⟩
theorem kids_back {d : Nat} (hV : VBack d) (k : Int) (hk : k = 5 ∨ k = 6) (r : Bs) : ∀ (kids : List J) (f : Nat) (kd : List Bs) (jd : List J) (keys : List Bs) (n : Nat) (l2 : Int), kids.length < f → n ≤ 400 → kyN kd keys = true → (k = 5 → kd = [] ∧ keys = []) → (k = 6 → keys.length = kids.length) → (∀ kid ∈ kids, Rg d kid) →
    kids.foldl (fun o kid => o.bind (fun x => fitN d kid x)) (some (400 - (n : Int))) = some l2 →
    ∃ n2 : Nat, n2 ≤ 400 ∧ n ≤ n2 ∧ l2 = 400 - (n2 : Int) ∧ kidN (valN d) f k kd jd (kidsW (wrN d) k jd.isEmpty keys kids ++ clN k :: r) n = .ok (.mk k 0 [] (kd ++ keys) (jd ++ kids), n2) r := by
  intro kids
  induction kids with
  | nil =>
    intro f kd jd keys n l2 hf hn hky h5 h6 hR hfo
    obtain ⟨f, rfl⟩ : ∃ g, f = g + 1 := ⟨f - 1, by omega⟩
    obtain rfl : keys = [] := by
      rcases hk with rfl | rfl
      · exact (h5 rfl).2
      · exact List.eq_nil_of_length_eq_zero (by simpa using h6 rfl)
    cases hfo
    refine ⟨n, hn, Nat.le_refl _, rfl, ?_⟩
    rw [kid_step, kidsW, List.nil_append, if_pos (by rfl), List.append_nil, List.append_nil]
    rfl
  | cons j kids ih =>
    intro f kd jd keys n l2 hf hn hky h5 h6 hR hfo
    obtain ⟨f, rfl⟩ : ∃ g, f = g + 1 := ⟨f - 1, by omega⟩
    rw [List.foldl_cons] at hfo
    change kids.foldl _ (fitN d j (400 - (n : Int))) = _ at hfo
    cases hx : fitN d j (400 - (n : Int)) with
    | none => rw [hx, fold_none] at hfo; cases hfo
    | some l3 =>
      rw [hx] at hfo
      obtain ⟨hst, hsk⟩ := kidsW_stop (wrN d) k hk keys.tail kids r
      obtain ⟨n2, hn2, hlt, rfl, hval⟩ := hV j n l3 (kidsW (wrN d) k false keys.tail kids ++ clN k :: r) hn hx (hR j (by simp)) hst
      rw [hsk] at hval
      rw [kid_step]
      -- the text of this entry
      obtain ⟨E, hE⟩ : ∃ E, E = (if k = 6 then quoteN (keys.headD []) ++ [58] else []) ++ (wrN d j ++ (kidsW (wrN d) k false keys.tail kids ++ clN k :: r)) := ⟨_, rfl⟩
      have htext : kidsW (wrN d) k jd.isEmpty keys (j :: kids) ++ clN k :: r = (if jd.isEmpty = true then [] else [44]) ++ E := by
        rw [kidsW, hE]; simp only [List.append_assoc]
      have hEh : ∃ c t, E = c :: t ∧ HeadOk c := by
        rw [hE]
        rcases hk with rfl | rfl
        · obtain ⟨c, t, e, h⟩ := wr_head d j
          rw [if_neg (by decide), List.nil_append, e]
          exact ⟨c, _, rfl, h⟩
        · rw [if_pos rfl]
          exact ⟨34, _, rfl, by unfold HeadOk; decide⟩
      obtain ⟨c, t, hc, hh⟩ := hEh
      have hcl : c ≠ clN k := by
        rcases hk with rfl | rfl
        · exact hh.2.1
        · exact hh.2.2.1
      have hnext : ¬ ((if jd.isEmpty = true then [] else [44]) ++ E).head? = some (clN k) ∧ nextN jd.isEmpty ((if jd.isEmpty = true then [] else [44]) ++ E) = some E := by
        cases hj : jd.isEmpty with
        | true =>
          rw [if_pos rfl, List.nil_append, hc]
          exact ⟨by simpa using hcl, rfl⟩
        | false =>
          rw [if_neg (by decide), hc]
          refine ⟨?_, ?_⟩
          · simp
            rcases hk with rfl | rfl <;> decide
          · show (if (44 : UInt8) = 44 then some (skipB (c :: t)) else none) = _
            rw [if_pos rfl, skip_not c t hh.1]
      rw [htext, if_neg hnext.1, hnext.2]
      simp only
      have hlen : kids.length < f := by simp only [List.length_cons] at hf; omega
      rcases hk with rfl | rfl
      · obtain ⟨rfl, rfl⟩ := h5 rfl
        have hent : entN (valN d) 5 [] E n = .ok ([], j, n2) (kidsW (wrN d) 5 false [] kids ++ clN 5 :: r) := by
          rw [hE]
          unfold entN
          rw [if_neg (by decide), if_neg (by decide)]
          simp only [List.nil_append]
          rw [hval]
          rfl
        rw [hent]
        simp only
        rw [if_neg (by decide)]
        obtain ⟨n3, h1, h2, h3, h4⟩ := ih f [] (jd ++ [j]) [] n2 l2 hlen hn2 rfl (fun _ => ⟨rfl, rfl⟩) (fun e => by omega) (fun x hx => hR x (by simp [hx])) hfo
        refine ⟨n3, h1, by omega, h3, ?_⟩
        rw [show (jd ++ [j]).isEmpty = false by cases jd <;> rfl] at h4
        rw [h4]
        simp
      · cases keys with
        | nil => have := h6 rfl; simp at this
        | cons key keys =>
          obtain ⟨hk1, hk2, hk3⟩ := ky_split hky
          have hent : entN (valN d) 6 kd E n = .ok (key, j, n2) (kidsW (wrN d) 6 false keys kids ++ clN 6 :: r) := by
            rw [hE]
            unfold entN
            rw [if_pos rfl, if_pos rfl]
            simp only [List.headD_cons, List.append_assoc, List.cons_append, List.nil_append, List.tail_cons]
            rw [key_back kd key _ hk1 hk2 (wr_skip d j _)]
            simp only
            simp only [List.tail_cons] at hval
            rw [hval]
          rw [hent]
          simp only
          rw [if_pos trivial]
          obtain ⟨n3, h1, h2, h3, h4⟩ := ih f (kd ++ [key]) (jd ++ [j]) keys n2 l2 hlen hn2 hk3 (fun e => by omega) (fun _ => by have := h6 rfl; simpa using this) (fun x hx => hR x (by simp [hx])) hfo
          refine ⟨n3, h1, by omega, h3, ?_⟩
          rw [show (jd ++ [j]).isEmpty = false by cases jd <;> rfl] at h4
          rw [h4]
          simp
theorem form_leaf {k n : Int} {s : Bs} {a b : Nat} (h : formB k n s a b = true) (hk : k ≠ 5 ∧ k ≠ 6) : a = 0 ∧ b = 0 := by
  unfold formB at h
  simp only [Bool.and_eq_true, hk.1, hk.2, if_false, decide_eq_true_eq] at h
  exact h.2
theorem form_rest {k n : Int} {s : Bs} {a b : Nat} (h : formB k n s a b = true) (hk : k = 5 ∨ k = 6) : n = 0 ∧ s = [] ∧ (k = 5 → a = 0) := by
  unfold formB at h
  simp only [Bool.and_eq_true, decide_eq_true_eq] at h
  refine ⟨by omega, by rcases h.1.2 with h | h; omega; exact h, fun e => ?_⟩
  have := h.2
  subst e
  simpa using this
theorem val_back (d : Nat) : VBack d := by
  induction d with
  | zero =>
    rintro ⟨k, m, s, keys, kids⟩ n l2 r hn hfit hR hr
    obtain ⟨h1, hf, hc⟩ := fit_form hfit
    rcases hc with ⟨h5, h6, ht, rfl⟩ | ⟨_, d', e, _⟩
    · obtain ⟨ha, hb⟩ := form_leaf hf ⟨h5, h6⟩
      obtain rfl := List.eq_nil_of_length_eq_zero ha
      obtain rfl := List.eq_nil_of_length_eq_zero hb
      exact ⟨n + 1, by omega, by omega, by omega, leaf_back 0 n k m s r hr (by omega) hf ⟨h5, h6⟩ ht hR.num⟩
    · omega
  | succ d ih =>
    rintro ⟨k, m, s, keys, kids⟩ n l2 r hn hfit hR hr
    obtain ⟨h1, hf, hc⟩ := fit_form hfit
    rcases hc with ⟨h5, h6, ht, rfl⟩ | ⟨h56, d', e, hky, hfold⟩
    · obtain ⟨ha, hb⟩ := form_leaf hf ⟨h5, h6⟩
      obtain rfl := List.eq_nil_of_length_eq_zero ha
      obtain rfl := List.eq_nil_of_length_eq_zero hb
      refine ⟨n + 1, by omega, by omega, by omega, ?_⟩
      rw [wrN, if_neg (by omega)]
      exact leaf_back (d + 1) n k m s r hr (by omega) hf ⟨h5, h6⟩ ht hR.num
    · obtain rfl : d = d' := by omega
      obtain ⟨rfl, rfl, hk5⟩ := form_rest hf h56
      obtain ⟨_, _, hk6⟩ := form_kind hf
      have e1 : 400 - (n : Int) - 1 = 400 - ((n + 1 : Nat) : Int) := by omega
      rw [e1] at hfold h1
      obtain ⟨n2, h2, h3, rfl, h4⟩ := kids_back ih k h56 r kids 401 [] [] keys (n + 1) l2 (by omega) (by omega) hky (fun e => ⟨rfl, List.eq_nil_of_length_eq_zero (hk5 e)⟩) hk6 hR.2 hfold
      refine ⟨n2, h2, by omega, rfl, ?_⟩
      rw [wrN, if_pos h56]
      simp only [List.append_assoc, List.cons_append, List.nil_append, List.isEmpty_nil] at h4 ⊢
      have hs : skipB (kidsW (wrN d) k true keys kids ++ clN k :: r) = kidsW (wrN d) k true keys kids ++ clN k :: r := by
        cases kids with
        | nil =>
          rw [kidsW, List.nil_append]
          apply skip_not
          rcases h56 with rfl | rfl <;> decide
        | cons j kids =>
          rw [kidsW]
          simp only [if_true, List.nil_append, List.append_assoc]
          by_cases hk : k = 6
          · rw [if_pos hk]
            exact skip_not 34 _ (by decide)
          · rw [if_neg hk, List.nil_append]
            exact wr_skip d j _
      rw [val_step (d + 1) (opN k) _ n (by omega)]
      rcases h56 with rfl | rfl
      · rw [show opN 5 = 91 from rfl, if_neg (by decide), if_pos rfl]
        show (kidN (valN d) 401 5 [] [] (skipB _) (n + 1)).skip = _
        rw [hs, h4]
        rfl
      · rw [show opN 6 = 123 from rfl, if_neg (by decide), if_neg (by decide), if_pos rfl]
        show (kidN (valN d) 401 6 [] [] (skipB _) (n + 1)).skip = _
        rw [hs, h4]
        rfl
/-- What is written is read again. -/
theorem read_wr (j : J) (h : rightN j = true) (hR : Rg 6 j) : readN (wrN 6 j) = (j, 0) := by
  unfold rightN at h
  cases hf : fitN 6 j 400 with
  | none => rw [hf] at h; cases h
  | some l2 =>
    obtain ⟨n2, _, _, _, hv⟩ := val_back 6 j 0 l2 [] (by omega) (by rw [show (400 : Int) - ((0 : Nat) : Int) = 400 by omega]; exact hf) hR (fun c hc => by cases hc)
    have hs := wr_skip 6 j []
    rw [List.append_nil] at hv hs
    unfold readN
    rw [hs, hv]
    rfl
end Go.Proofs.YtbkkcojfgdjbhaaDoor
