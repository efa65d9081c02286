/- A value as the statements cut it (back): plain. -/
import Derived.Test.YtbkkcojfgdjbhaaDoorJBackV
namespace Go.Proofs.YtbkkcojfgdjbhaaDoor

theorem kidsW_len2 (W : J → Bs) (f : J → Int → Option Int) (k : Int) : ∀ (kids : List J) (keys : List Bs) (first : Bool) (l l2 : Int), (∀ s ∈ keys, s.length ≤ 200) → (∀ j ∈ kids, ∀ x y, f j x = some y → ((W j).length : Int) + 1204 ≤ 2410 * (x - y)) → kids.foldl (fun o kid => o.bind (fun x => f kid x)) (some l) = some l2 → ((kidsW W k first keys kids).length : Int) ≤ 2410 * (l - l2) := by
  intro kids
  induction kids with
  | nil =>
    intro keys first l l2 _ _ h
    cases h
    simp [kidsW]
  | cons j r ih =>
    intro keys first l l2 hk hW h
    rw [List.foldl_cons] at h
    change r.foldl _ (f j l) = _ at h
    cases hx : f j l with
    | none => rw [hx, fold_none] at h; cases h
    | some l3 =>
      rw [hx] at h
      have h1 := hW j (by simp) l l3 hx
      have h2 := ih keys.tail false l3 l2 (fun s hs => hk s (List.mem_of_mem_tail hs)) (fun j hj => hW j (by simp [hj])) h
      have h3 : (keys.headD []).length ≤ 200 := by
        cases keys with
        | nil => simp
        | cons a b => exact hk a (by simp)
      have h4 := quote_len (keys.headD [])
      rw [kidsW]
      simp only [List.length_append]
      have h5 : (if first then ([] : Bs) else [44]).length ≤ 1 := by split <;> simp
      have h6 : (if k = 6 then quoteN (keys.headD []) ++ [58] else []).length ≤ 1203 := by
        split
        · rw [List.length_append]; simp only [List.length_cons, List.length_nil]; omega
        · simp
      omega
theorem wr_len2 : ∀ (d : Nat) (j : J) (l l2 : Int), Rg d j → fitN d j l = some l2 → ((wrN d j).length : Int) + 1204 ≤ 2410 * (l - l2) := by
  intro d
  induction d with
  | zero =>
    rintro ⟨k, n, s, keys, kids⟩ l l2 hr h
    obtain ⟨_, hf, h⟩ := fit_form h
    rcases h with ⟨_, _, ht, rfl⟩ | ⟨_, d', e, _⟩
    · have := leaf_len (k := k) (fun _ => textOk_len ht) hr.num
      rw [wrN]; omega
    · omega
  | succ d ih =>
    rintro ⟨k, n, s, keys, kids⟩ l l2 hr h
    obtain ⟨_, hf, h⟩ := fit_form h
    rcases h with ⟨h5, h6, ht, rfl⟩ | ⟨h5, d', e, hk, h⟩
    · have := leaf_len (k := k) (fun _ => textOk_len ht) hr.num
      rw [wrN, if_neg (by omega)]; omega
    · obtain rfl : d = d' := by omega
      have := kidsW_len2 (wrN d) (fitN d) k kids keys true (l - 1) l2 (fun s hs => textOk_len (ky_each hk s hs)) (fun j hj x y hxy => ih j x y (hr.2 j hj) hxy) h
      rw [wrN, if_pos h5]
      simp only [List.length_append, List.length_cons, List.length_nil]
      omega
/-- A value that may be has a text that can be read. -/
theorem right_len (j : J) (h : rightN j = true) (hR : Rg 6 j) : (wrN 6 j).length ≤ 1000000 := by
  unfold rightN at h
  cases hf : fitN 6 j 400 with
  | none => rw [hf] at h; cases h
  | some l2 =>
    have h1 := wr_len2 6 j 400 l2 hR hf
    have h2 := fitN_le 6 j 400 l2 hf
    omega
theorem fold_each {f : J → Int → Option Int} {Q : J → Prop} (hQ : ∀ j a b, a ≤ 400 → f j a = some b → b ≤ 400 ∧ Q j) : ∀ (ks : List J) (a b : Int), a ≤ 400 → ks.foldl (fun o kid => o.bind (fun x => f kid x)) (some a) = some b → ∀ kid ∈ ks, Q kid := by
  intro ks
  induction ks with
  | nil => intro a b _ _ kid hm; cases hm
  | cons j r ih =>
    intro a b ha hf kid hm
    rw [List.foldl_cons] at hf
    change r.foldl _ (f j a) = _ at hf
    cases hx : f j a with
    | none => rw [hx, fold_none] at hf; cases hf
    | some c =>
      rw [hx] at hf
      have h1 := hQ j a c ha hx
      rcases List.mem_cons.1 hm with rfl | hm
      · exact h1.2
      · exact ih c b h1.1 hf kid hm
/-- A value that may be has sizes that every machine has, however deep one looks. -/
theorem fit_siz_any : ∀ (d m : Nat) (j : J) (l l2 : Int), l ≤ 400 → fitN d j l = some l2 → Siz m j := by
  intro d
  induction d with
  | zero =>
    rintro m ⟨k, n, s, keys, kids⟩ l l2 hl h
    cases m with
    | zero => trivial
    | succ m =>
      obtain ⟨h1, hf, h⟩ := fit_form h
      rcases h with ⟨h5, h6, ht, _⟩ | ⟨_, d', e, _⟩
      · have := textOk_len ht
        obtain ⟨ha, hb⟩ := form_leaf hf ⟨h5, h6⟩
        obtain rfl := List.eq_nil_of_length_eq_zero ha
        obtain rfl := List.eq_nil_of_length_eq_zero hb
        exact ⟨by omega, by simp, by simp, by simp, by simp⟩
      · omega
  | succ d ih =>
    rintro m ⟨k, n, s, keys, kids⟩ l l2 hl h
    cases m with
    | zero => trivial
    | succ m =>
      obtain ⟨h1, hf, h⟩ := fit_form h
      rcases h with ⟨h5, h6, ht, _⟩ | ⟨h56, d', e, hky, hfold⟩
      · have := textOk_len ht
        obtain ⟨ha, hb⟩ := form_leaf hf ⟨h5, h6⟩
        obtain rfl := List.eq_nil_of_length_eq_zero ha
        obtain rfl := List.eq_nil_of_length_eq_zero hb
        exact ⟨by omega, by simp, by simp, by simp, by simp⟩
      · obtain rfl : d = d' := by omega
        obtain ⟨_, rfl, hk5⟩ := form_rest hf h56
        have hk6 := (form_kind hf).2.2
        have hkl : keys.length ≤ kids.length := by
          rcases h56 with e | e
          · have := hk5 e; omega
          · have := hk6 e; omega
        exact ⟨by simp, by omega, fun k hk => by have := textOk_len (ky_each hky k hk); omega, by omega, fold_each (Q := fun kid => Siz m kid) (fun j a b ha hx => ⟨by have := fitN_le d j a b hx; omega, ih m j a b ha hx⟩) kids (l - 1) l2 (by omega) hfold⟩
/-- Kids, one by one, while fewer than 450 were begun. -/
def bkids (B : J → Nat → J × Nat) : List J → Nat → List J × Nat
  | [], c => ([], c)
  | j :: r, c => if c < 450 then ((B j (c + 1)).1 :: (bkids B r (B j (c + 1)).2).1, (bkids B r (B j (c + 1)).2).2) else ([], c)
/-- m: how many lists and objects more may be within one another; c: how many values were begun. -/
def backN : Nat → J → Nat → J × Nat
  | 0, .mk k n s keys _, c => (.mk k n (s.take 300) (keys.take 20) [], c)
  | m + 1, .mk k n s keys kids, c => (.mk k n (s.take 300) (keys.take 20) (bkids (backN m) (kids.take 20) c).1, (bkids (backN m) (kids.take 20) c).2)
theorem bkids_len (B : J → Nat → J × Nat) (l : List J) (c : Nat) : (bkids B l c).1.length ≤ l.length := by
  induction l generalizing c with
  | nil => simp [bkids]
  | cons j r ih =>
    rw [bkids]
    split
    · have := ih (B j (c + 1)).2
      simp only [List.length_cons]; omega
    · simp
theorem bkids_all {B : J → Nat → J × Nat} {Q : J → Prop} (l : List J) (c : Nat) (h : ∀ j ∈ l, ∀ c, Q (B j c).1) : ∀ x ∈ (bkids B l c).1, Q x := by
  induction l generalizing c with
  | nil => intro x hx; simp [bkids] at hx
  | cons j r ih =>
    rw [bkids]
    split
    · intro x hx
      rcases List.mem_cons.1 hx with rfl | hx
      · exact h j (by simp) _
      · exact ih _ (fun y hy => h y (by simp [hy])) x hx
    · intro x hx; cases hx
theorem bkids_cnt {B : J → Nat → J × Nat} (hB : ∀ j c, c ≤ 450 → c ≤ (B j c).2 ∧ (B j c).2 ≤ 450) (l : List J) (c : Nat) (hc : c ≤ 450) : c ≤ (bkids B l c).2 ∧ (bkids B l c).2 ≤ 450 := by
  induction l generalizing c with
  | nil => exact ⟨Nat.le_refl _, hc⟩
  | cons j r ih =>
    rw [bkids]
    split
    · have h1 := hB j (c + 1) (by omega)
      have h2 := ih (B j (c + 1)).2 h1.2
      exact ⟨by simp only; omega, h2.2⟩
    · exact ⟨Nat.le_refl _, hc⟩
theorem back_cnt (m : Nat) : ∀ (j : J) (c : Nat), c ≤ 450 → c ≤ (backN m j c).2 ∧ (backN m j c).2 ≤ 450 := by
  induction m with
  | zero => rintro ⟨k, n, s, keys, kids⟩ c hc; exact ⟨Nat.le_refl _, hc⟩
  | succ m ih => rintro ⟨k, n, s, keys, kids⟩ c hc; exact bkids_cnt ih (kids.take 20) c hc
/-- Numbers that a machine has, at every depth. -/
theorem back_rg (m : Nat) : ∀ (j : J) (c d : Nat), (∀ e, Rg e j) → Rg d (backN m j c).1 := by
  induction m with
  | zero =>
    rintro ⟨k, n, s, keys, kids⟩ c d h
    have h0 := (h 0).num
    cases d with
    | zero => exact h0
    | succ d => exact ⟨h0, by simp⟩
  | succ m ih =>
    rintro ⟨k, n, s, keys, kids⟩ c d h
    have h0 := (h 0).num
    cases d with
    | zero => exact h0
    | succ d => exact ⟨h0, bkids_all (Q := fun x => Rg d x) (kids.take 20) c (fun j hj c => ih j c d (fun e => (h (e + 1)).2 j (List.mem_of_mem_take hj)))⟩
/-- Keys that a machine has, at every depth. -/
def Kz : Nat → J → Prop
  | 0, _ => True
  | d + 1, .mk _ _ _ keys kids => (∀ k ∈ keys, k.length ≤ 9223372036854775807) ∧ ∀ kid ∈ kids, Kz d kid
theorem back_siz (m : Nat) : ∀ (j : J) (c d : Nat), (∀ e, Kz e j) → Siz d (backN m j c).1 := by
  induction m with
  | zero =>
    rintro ⟨k, n, s, keys, kids⟩ c d h
    cases d with
    | zero => trivial
    | succ d => exact ⟨by rw [List.length_take]; omega, by rw [List.length_take]; omega, fun x hx => (h 1).1 x (List.mem_of_mem_take hx), by simp, by simp⟩
  | succ m ih =>
    rintro ⟨k, n, s, keys, kids⟩ c d h
    cases d with
    | zero => trivial
    | succ d =>
      have hl := bkids_len (backN m) (kids.take 20) c
      rw [List.length_take] at hl
      exact ⟨by rw [List.length_take]; omega, by rw [List.length_take]; omega, fun x hx => (h 1).1 x (List.mem_of_mem_take hx), by omega, bkids_all (Q := fun x => Siz d x) (kids.take 20) c (fun j hj c => ih j c d (fun e => (h (e + 1)).2 j (List.mem_of_mem_take hj)))⟩
end Go.Proofs.YtbkkcojfgdjbhaaDoor
