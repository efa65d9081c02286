/- Blanks behind a text change nothing: plain. -/
import Derived.Test.YtbkkcojfgdjbhaaDoorJNumP
import Derived.Lib.MapLaws
import Derived.Lib.ValidLaws
namespace Go.Proofs.YtbkkcojfgdjbhaaDoor

def BL (t : Bs) : Prop := ∀ c ∈ t, c = 9 ∨ c = 10 ∨ c = 13 ∨ c = 32
theorem BL.nil : BL [] := fun c h => by cases h
theorem BL.tail {c : UInt8} {t : Bs} (h : BL (c :: t)) : BL t := fun x hx => h x (by simp [hx])
theorem BL.head {c : UInt8} {t : Bs} (h : BL (c :: t)) : c = 9 ∨ c = 10 ∨ c = 13 ∨ c = 32 := h c (by simp)
theorem bl_in {c : UInt8} : ([9, 10, 13, 32].contains c = true) ↔ (c = 9 ∨ c = 10 ∨ c = 13 ∨ c = 32) := by simp
theorem bl_skip {t : Bs} (h : BL t) : skipB t = [] := by
  unfold skipB Lib.trimLeftS
  induction t with
  | nil => rfl
  | cons c t ih =>
    rw [List.dropWhile_cons, if_pos (bl_in.2 h.head)]
    exact ih h.tail
theorem skip_cons (c : UInt8) (r : Bs) : skipB (c :: r) = if [9, 10, 13, 32].contains c then skipB r else c :: r := by
  unfold skipB Lib.trimLeftS
  rw [List.dropWhile_cons]
theorem skip_app (r t : Bs) (h : BL t) : ∃ t', BL t' ∧ skipB (r ++ t) = skipB r ++ t' ∧ (skipB r = [] → t' = []) := by
  induction r with
  | nil => exact ⟨[], BL.nil, by rw [List.nil_append, bl_skip h]; rfl, fun _ => rfl⟩
  | cons c r ih =>
    rw [List.cons_append, skip_cons, skip_cons]
    by_cases hc : [9, 10, 13, 32].contains c = true
    · rw [if_pos hc, if_pos hc]; exact ih
    · rw [if_neg hc, if_neg hc]; exact ⟨t, h, rfl, fun e => by cases e⟩
theorem skip_pre (p r : Bs) (h : BL p) : skipB (p ++ r) = skipB r := by
  induction p with
  | nil => rfl
  | cons c p ih => rw [List.cons_append, skip_cons, if_pos (bl_in.2 h.head)]; exact ih h.tail
theorem hex_bl {c : UInt8} (h : c = 9 ∨ c = 10 ∨ c = 13 ∨ c = 32) : hexV c = none := by rcases h with rfl | rfl | rfl | rfl <;> rfl
theorem four_ok {l r t : Bs} {v : Nat} (h : fourN l = some (v, r)) : fourN (l ++ t) = some (v, r ++ t) := by
  match l, h with
  | a :: b :: c :: d :: r', h =>
    simp only [fourN, List.cons_append] at h ⊢
    cases h1 : hexV a <;> cases h2 : hexV b <;> cases h3 : hexV c <;> cases h4 : hexV d <;> simp_all
  | [], h => cases h
  | [_], h => cases h
  | [_, _], h => cases h
  | [_, _, _], h => cases h
theorem four_at {a b c d : UInt8} {r : Bs} (h : hexV a = none ∨ hexV b = none ∨ hexV c = none ∨ hexV d = none) : fourN (a :: b :: c :: d :: r) = none := by
  simp only [fourN]
  cases h1 : hexV a <;> cases h2 : hexV b <;> cases h3 : hexV c <;> cases h4 : hexV d <;> simp_all
theorem four_no {l t : Bs} (ht : BL t) (h : fourN l = none) : fourN (l ++ t) = none := by
  match l with
  | a :: b :: c :: d :: r' =>
    simp only [fourN, List.cons_append] at h ⊢
    cases h1 : hexV a <;> cases h2 : hexV b <;> cases h3 : hexV c <;> cases h4 : hexV d <;> simp_all
  | [] =>
    match t, ht with
    | [], _ => rfl
    | [_], _ => rfl
    | [_, _], _ => rfl
    | [_, _, _], _ => rfl
    | a :: b :: c :: d :: r, ht => exact four_at (.inl (hex_bl ht.head))
  | [x] =>
    match t, ht with
    | [], _ => rfl
    | [_], _ => rfl
    | [_, _], _ => rfl
    | b :: c :: d :: r, ht => exact four_at (.inr (.inl (hex_bl ht.head)))
  | [x, y] =>
    match t, ht with
    | [], _ => rfl
    | [_], _ => rfl
    | c :: d :: r, ht => exact four_at (.inr (.inr (.inl (hex_bl ht.head))))
  | [x, y, z] =>
    match t, ht with
    | [], _ => rfl
    | d :: r, ht => exact four_at (.inr (.inr (.inr (hex_bl ht.head))))
theorem pair_ext (h : Nat) (l t : Bs) (ht : BL t) : pairN h (l ++ t) = (pairN h l).map (fun x => (x.1, x.2 ++ t)) := by
  cases l with
  | nil =>
    cases t with
    | nil => rfl
    | cons c t =>
      have : c ≠ 117 := by rcases ht.head with rfl | rfl | rfl | rfl <;> decide
      simp [pairN, this]
  | cons b r =>
    rw [List.cons_append, pairN, pairN]
    split
    · cases hf : fourN r with
      | none => rw [four_no ht hf]; rfl
      | some x =>
        obtain ⟨o, r3⟩ := x
        rw [four_ok hf]
        simp only
        split <;> rfl
    · rfl
theorem cp_ext (l t : Bs) (ht : BL t) : cpN (l ++ t) = (cpN l).map (fun x => (x.1, x.2 ++ t)) := by
  unfold cpN
  cases hf : fourN l with
  | none => rw [four_no ht hf]; rfl
  | some x =>
    obtain ⟨h, r⟩ := x
    rw [four_ok hf]
    simp only
    split
    · rfl
    · split
      · rfl
      · cases r with
        | nil =>
          cases t with
          | nil => rfl
          | cons c t =>
            have : c ≠ 92 := by rcases ht.head with rfl | rfl | rfl | rfl <;> decide
            simp [this]
        | cons a r1 =>
          simp only [List.cons_append]
          split
          · exact pair_ext h r1 t ht
          · rfl
theorem esc_ext (l t : Bs) (ht : BL t) : escN (l ++ t) = (escN l).map (fun x => (x.1, x.2 ++ t)) := by
  cases l with
  | nil =>
    cases t with
    | nil => rfl
    | cons c t => rcases ht.head with rfl | rfl | rfl | rfl <;> rfl
  | cons c r =>
    rw [List.cons_append]
    unfold escN
    simp only
    split
    · exact cp_ext r t ht
    · cases escV c <;> rfl
theorem decN_ext (n n' b0 b1 b2 b3 c1 c2 c3 : Nat) (_h0 : 1 ≤ n) (hn : n ≤ n') (h1 : 1 < n → c1 = b1) (g1 : ¬ 1 < n → c1 < 128) (h2 : 2 < n → c2 = b2) (g2 : ¬ 2 < n → c2 < 128) (h3 : 3 < n → c3 = b3) (g3 : ¬ 3 < n → c3 < 128) : Lib.decodeN n' b0 c1 c2 c3 = Lib.decodeN n b0 b1 b2 b3 := by
  by_cases k1 : 1 < n
  · have e1 := h1 k1
    by_cases k2 : 2 < n
    · have e2 := h2 k2
      by_cases k3 : 3 < n
      · have e3 := h3 k3
        subst e1 e2 e3
        simp only [Lib.decodeN, k1, k2, k3, show 1 < n' by omega, show 2 < n' by omega, show 3 < n' by omega]
      · have e3 := g3 k3
        subst e1 e2
        have q : ¬ (c3 / 64 = 2) := by omega
        simp only [Lib.decodeN, k1, k2, k3, q, show 1 < n' by omega, show 2 < n' by omega, and_false, false_and, if_false]
    · have e2 := g2 k2
      have q : ¬ (c2 / 64 = 2) := by omega
      subst e1
      simp only [Lib.decodeN, k1, k2, q, show 1 < n' by omega, and_false, false_and, if_false]
  · have e1 := g1 k1
    have q : ¬ (c1 / 64 = 2) := by omega
    simp only [Lib.decodeN, k1, q, and_false, false_and, if_false]
theorem bl_getD {t : Bs} (h : BL t) (k : Nat) : (t.getD k 0).toNat < 128 := by
  rw [List.getD]
  cases hk : t[k]? with
  | none => decide
  | some c => rcases h c (List.mem_of_getElem? hk) with rfl | rfl | rfl | rfl <;> decide
theorem dec_ext (l t : Bs) (hne : l ≠ []) (ht : BL t) : Lib.decodeL (l ++ t) = Lib.decodeL l := by
  have hl : 1 ≤ l.length := List.length_pos_iff.2 hne
  have hg : ∀ k, (k < l.length → (l ++ t).getD k 0 = l.getD k 0) ∧ (¬ k < l.length → ((l ++ t).getD k 0).toNat < 128) := fun k => by
    refine ⟨fun h => by rw [List.getD, List.getD, List.getElem?_append_left h], fun h => ?_⟩
    rw [List.getD, List.getElem?_append_right (by omega)]
    exact bl_getD ht _
  rw [Lib.decodeL_N, Lib.decodeL_N, (hg 0).1 (by omega)]
  exact decN_ext _ _ _ _ _ _ _ _ _ hl (by rw [List.length_append]; omega) (fun h => by rw [(hg 1).1 h]) (hg 1).2 (fun h => by rw [(hg 2).1 h]) (hg 2).2 (fun h => by rw [(hg 3).1 h]) (hg 3).2
theorem sign_ext (l t : Bs) (hne : l ≠ []) (ht : BL t) : signN (l ++ t) = (signN l).map (fun x => (x.1, x.2 ++ t)) := by
  cases l with
  | nil => exact absurd rfl hne
  | cons c r =>
    have hd := dec_ext (c :: r) t (by simp) ht
    have hle := Lib.decodeL_le (c :: r) (by simp)
    rw [List.cons_append] at hd ⊢
    unfold signN
    simp only
    split
    · exact esc_ext r t ht
    · rw [hd]
      split
      · rfl
      · rw [← List.cons_append, List.drop_append_of_le_length hle]; rfl
theorem tx_blank (f : Nat) (acc t : Bs) (ht : BL t) : txN f acc t = .err 2 := by
  induction f generalizing acc t with
  | zero => rfl
  | succ f ih =>
    cases t with
    | nil => rfl
    | cons c t =>
      rw [txN]
      rcases ht.head with rfl | rfl | rfl | rfl
      · rw [if_neg (by decide)]
        unfold signN
        simp only
        rw [if_neg (by decide), Lib.decodeL_ascii _ _ (by decide), if_pos (by decide)]
      · rw [if_neg (by decide)]
        unfold signN
        simp only
        rw [if_neg (by decide), Lib.decodeL_ascii _ _ (by decide), if_pos (by decide)]
      · rw [if_neg (by decide)]
        unfold signN
        simp only
        rw [if_neg (by decide), Lib.decodeL_ascii _ _ (by decide), if_pos (by decide)]
      · rw [if_neg (by decide)]
        unfold signN
        simp only
        rw [if_neg (by decide), Lib.decodeL_ascii _ _ (by decide), if_neg (by decide)]
        exact ih _ t ht.tail
/-- The same, with blanks behind what is left. -/
def Ex0 {α : Type} (a b : Rs α) : Prop := match a, b with
  | .ok x r, .ok y r' => x = y ∧ ∃ t, BL t ∧ r' = r ++ t
  | .err e, .err e' => e = e'
  | _, _ => False
/-- The same, and nothing is left where nothing was. -/
def Ext {α : Type} (a b : Rs α) : Prop := match a, b with
  | .ok x r, .ok y r' => x = y ∧ ∃ t, BL t ∧ r' = r ++ t ∧ (r = [] → t = [])
  | .err e, .err e' => e = e'
  | _, _ => False
theorem Ex0.skip {α : Type} {a b : Rs α} (h : Ex0 a b) : Ext a.skip b.skip := by
  cases a with
  | err e => cases b with
    | err e' => exact h
    | ok y r' => exact h
  | ok x r => cases b with
    | err e' => exact h
    | ok y r' =>
      obtain ⟨rfl, t, ht, rfl⟩ := h
      obtain ⟨t', h1, h2, h3⟩ := skip_app r t ht
      exact ⟨rfl, t', h1, h2, h3⟩
theorem Ex0.count {α : Type} {a b : Rs α} (h : Ex0 a b) (n : Nat) : Ex0 (a.count n) (b.count n) := by
  cases a with
  | err e => cases b with
    | err e' => exact h
    | ok y r' => exact h
  | ok x r => cases b with
    | err e' => exact h
    | ok y r' =>
      obtain ⟨rfl, t, ht, rfl⟩ := h
      exact ⟨rfl, t, ht, rfl⟩
theorem Ext.to0 {α : Type} {a b : Rs α} (h : Ext a b) : Ex0 a b := by
  cases a with
  | err e => cases b with
    | err e' => exact h
    | ok y r' => exact h
  | ok x r => cases b with
    | err e' => exact h
    | ok y r' =>
      obtain ⟨rfl, t, ht, rfl, _⟩ := h
      exact ⟨rfl, t, ht, rfl⟩
theorem tx_ext (f f' : Nat) (acc l t : Bs) (ht : BL t) (hf : l.length < f) (hf' : (l ++ t).length < f') : Ex0 (txN f acc l) (txN f' acc (l ++ t)) := by
  induction f generalizing f' acc l with
  | zero => omega
  | succ f ih =>
    obtain ⟨f', rfl⟩ : ∃ g, f' = g + 1 := ⟨f' - 1, by omega⟩
    cases l with
    | nil => rw [List.nil_append, tx_blank _ _ _ ht]; exact rfl
    | cons c r =>
      have hs := sign_ext (c :: r) t (by simp) ht
      rw [List.cons_append] at hs hf' ⊢
      rw [txN, txN]
      split
      · exact ⟨rfl, t, ht, rfl⟩
      · rw [hs]
        cases hsg : signN (c :: r) with
        | none => exact rfl
        | some x =>
          obtain ⟨v, r2⟩ := x
          have hl := sign_len hsg
          simp only [Option.map_some]
          refine ih f' _ r2 (by omega) ?_
          rw [List.length_append]
          rw [List.length_cons, List.length_append] at hf'
          rw [List.length_cons] at hl
          omega
theorem text_ext (l t : Bs) (ht : BL t) : Ex0 (textN l) (textN (l ++ t)) := by
  cases l with
  | nil =>
    cases t with
    | nil => exact rfl
    | cons c t =>
      have : c ≠ 34 := by rcases ht.head with rfl | rfl | rfl | rfl <;> decide
      show Ex0 (Rs.err 2) (textN (c :: t))
      unfold textN
      simp only
      rw [if_neg this]; exact rfl
  | cons c r =>
    rw [List.cons_append]
    unfold textN
    simp only
    split
    · have h := tx_ext (r.length + 1) ((r ++ t).length + 1) [] r t ht (by omega) (by omega)
      cases h1 : txN (r.length + 1) [] r with
      | err e =>
        cases h2 : txN ((r ++ t).length + 1) [] (r ++ t) with
        | err e' => rw [h1, h2] at h; exact h
        | ok s r2 => rw [h1, h2] at h; exact h.elim
      | ok s r2 =>
        cases h2 : txN ((r ++ t).length + 1) [] (r ++ t) with
        | err e' => rw [h1, h2] at h; exact h.elim
        | ok s' r2' =>
          rw [h1, h2] at h
          obtain ⟨rfl, t', ht', rfl⟩ := h
          simp only
          split
          · exact rfl
          · exact ⟨rfl, t', ht', rfl⟩
    · exact rfl
theorem textV_ext (l t : Bs) (ht : BL t) : Ex0 (textV l) (textV (l ++ t)) := by
  have h := text_ext l t ht
  unfold textV
  cases h1 : textN l with
  | err e =>
    cases h2 : textN (l ++ t) with
    | err e' => rw [h1, h2] at h; exact h
    | ok s r2 => rw [h1, h2] at h; exact h.elim
  | ok s r2 =>
    cases h2 : textN (l ++ t) with
    | err e' => rw [h1, h2] at h; exact h.elim
    | ok s' r2' =>
      rw [h1, h2] at h
      obtain ⟨rfl, t', ht', rfl⟩ := h
      exact ⟨rfl, t', ht', rfl⟩
theorem key_ext (earlier : List Bs) (l t : Bs) (ht : BL t) : Ext (keyN earlier l) (keyN earlier (l ++ t)) := by
  have h := text_ext l t ht
  unfold keyN
  cases h1 : textN l with
  | err e =>
    cases h2 : textN (l ++ t) with
    | err e' => rw [h1, h2] at h; exact h
    | ok s r2 => rw [h1, h2] at h; exact h.elim
  | ok s r2 =>
    cases h2 : textN (l ++ t) with
    | err e' => rw [h1, h2] at h; exact h.elim
    | ok s' r2' =>
      rw [h1, h2] at h
      obtain ⟨rfl, t', ht', rfl⟩ := h
      simp only
      split
      · exact rfl
      · obtain ⟨t2, h3, h4, h5⟩ := skip_app r2 t' ht'
        rw [h4]
        cases hs : skipB r2 with
        | nil => rw [h5 hs]; exact rfl
        | cons c r3 =>
          simp only [List.cons_append]
          split
          · obtain ⟨t3, h6, h7, h8⟩ := skip_app r3 t2 h3
            exact ⟨rfl, t3, h6, h7, h8⟩
          · exact rfl
theorem while_ext (p : UInt8 → Bool) (hp : p 9 = false ∧ p 10 = false ∧ p 13 = false ∧ p 32 = false) (l t : Bs) (ht : BL t) : (l ++ t).takeWhile p = l.takeWhile p ∧ (l ++ t).dropWhile p = l.dropWhile p ++ t := by
  induction l with
  | nil =>
    cases t with
    | nil => exact ⟨rfl, rfl⟩
    | cons c t =>
      have : p c = false := by rcases ht.head with rfl | rfl | rfl | rfl; exact hp.1; exact hp.2.1; exact hp.2.2.1; exact hp.2.2.2
      simp [this]
  | cons a l ih =>
    simp only [List.cons_append, List.takeWhile_cons, List.dropWhile_cons]
    split
    · rw [ih.1, ih.2]; exact ⟨rfl, rfl⟩
    · exact ⟨rfl, rfl⟩
theorem word_ext (l t : Bs) (ht : BL t) : Ex0 (wordN l) (wordN (l ++ t)) := by
  obtain ⟨h1, h2⟩ := while_ext isLow (by decide) l t ht
  unfold wordN
  rw [h1, h2]
  split
  · exact ⟨rfl, t, ht, rfl⟩
  · exact rfl
theorem num_ext (c : UInt8) (l t : Bs) (ht : BL t) : Ex0 (numN (c :: l)) (numN (c :: l ++ t)) := by
  obtain ⟨h1, h2⟩ := while_ext isDig (by decide) l t ht
  unfold numN
  simp only [List.cons_append, List.take_succ_cons, List.take_zero, List.drop_succ_cons, List.drop_zero, h1, h2]
  split
  · split
    · exact ⟨rfl, t, ht, rfl⟩
    · exact rfl
  · exact rfl
def VExt (V : Bs → Nat → Rs (J × Nat)) : Prop := ∀ l t n, BL t → (l = [] → t = []) → Ext (V l n) (V (l ++ t) n)
theorem ent_ext {V : Bs → Nat → Rs (J × Nat)} (hV : VExt V) (k : Int) (keys : List Bs) (l t : Bs) (n : Nat) (ht : BL t) (h0 : l = [] → t = []) : Ext (entN V k keys l n) (entN V k keys (l ++ t) n) := by
  have key : ∀ (a b : Rs Bs), Ext a b → Ext (match a with | .err e => .err e | .ok s r => match V r n with | .err e => .err e | .ok (j, n2) r2 => .ok (s, j, n2) r2) (match b with | .err e => .err e | .ok s r => match V r n with | .err e => .err e | .ok (j, n2) r2 => .ok (s, j, n2) r2) := by
    intro a b hab
    cases a with
    | err e => cases b with
      | err e' => exact hab
      | ok y r' => exact hab.elim
    | ok s r => cases b with
      | err e' => exact hab.elim
      | ok y r' =>
        obtain ⟨rfl, t', ht', rfl, h5⟩ := hab
        have h := hV r t' n ht' h5
        simp only
        cases h1 : V r n with
        | err e =>
          cases h2 : V (r ++ t') n with
          | err e' => rw [h1, h2] at h; exact h
          | ok x r2 => rw [h1, h2] at h; exact h.elim
        | ok x r2 =>
          cases h2 : V (r ++ t') n with
          | err e' => rw [h1, h2] at h; exact h.elim
          | ok x' r2' =>
            rw [h1, h2] at h
            obtain ⟨rfl, t2, h6, rfl, h7⟩ := h
            exact ⟨rfl, t2, h6, rfl, h7⟩
  unfold entN
  apply key
  split
  · exact key_ext keys l t ht
  · exact ⟨rfl, t, ht, rfl, h0⟩
theorem next_ext (b : Bool) (l t : Bs) (ht : BL t) (h0 : l = [] → t = []) : (nextN b l = none ∧ nextN b (l ++ t) = none) ∨ ∃ l1 t1, nextN b l = some l1 ∧ nextN b (l ++ t) = some (l1 ++ t1) ∧ BL t1 ∧ (l1 = [] → t1 = []) := by
  unfold nextN
  cases b with
  | true => exact .inr ⟨l, t, rfl, rfl, ht, h0⟩
  | false =>
    cases l with
    | nil => rw [h0 rfl]; exact .inl ⟨rfl, rfl⟩
    | cons c r =>
      simp only [List.cons_append]
      by_cases hc : c = 44
      · obtain ⟨t', h1, h2, h3⟩ := skip_app r t ht
        exact .inr ⟨_, t', if_pos hc, by rw [if_neg (by decide), if_pos hc, h2], h1, h3⟩
      · exact .inl ⟨if_neg hc, by rw [if_neg (by decide), if_neg hc]⟩
theorem kid_ext {V : Bs → Nat → Rs (J × Nat)} (hV : VExt V) (k : Int) (f : Nat) : ∀ (keys : List Bs) (kids : List J) (l t : Bs) (n : Nat), BL t → (l = [] → t = []) → Ex0 (kidN V f k keys kids l n) (kidN V f k keys kids (l ++ t) n) := by
  induction f with
  | zero => intro keys kids l t n _ _; exact rfl
  | succ f ih =>
    intro keys kids l t n ht h0
    rw [kid_step, kid_step]
    have hh : (l ++ t).head? = l.head? := by
      cases l with
      | nil => rw [h0 rfl]; rfl
      | cons c r => rfl
    rw [hh]
    split
    · rename_i hc
      cases l with
      | nil => cases hc
      | cons c r => exact ⟨rfl, t, ht, rfl⟩
    · rcases next_ext kids.isEmpty l t ht h0 with ⟨h1, h2⟩ | ⟨l1, t1, h1, h2, h3, h4⟩
      · rw [h1, h2]; exact rfl
      · rw [h1, h2]
        simp only
        have h := ent_ext hV k keys l1 t1 n h3 h4
        cases e1 : entN V k keys l1 n with
        | err e =>
          cases e2 : entN V k keys (l1 ++ t1) n with
          | err e' => rw [e1, e2] at h; exact h
          | ok x r2 => rw [e1, e2] at h; exact h.elim
        | ok x r2 =>
          cases e2 : entN V k keys (l1 ++ t1) n with
          | err e' => rw [e1, e2] at h; exact h.elim
          | ok x' r2' =>
            rw [e1, e2] at h
            obtain ⟨rfl, t2, h6, rfl, h7⟩ := h
            obtain ⟨s, j, n2⟩ := x
            exact ih _ _ r2 t2 n2 h6 h7
theorem val_nil (d n : Nat) (hn : n ≠ 400) : valN d [] n = .err 2 := by cases d <;> (unfold valN; rw [if_neg hn])
theorem val_ext (d : Nat) : VExt (valN d) := by
  induction d with
  | zero =>
    intro l t n ht h0
    by_cases hn : n = 400
    · subst hn; unfold valN; exact rfl
    · cases l with
      | nil =>
        rw [h0 rfl, List.append_nil, val_nil _ n hn]
        exact rfl
      | cons c r =>
        rw [List.cons_append, val_step 0 c r n hn, val_step 0 c (r ++ t) n hn]
        apply Ex0.skip
        have e : c :: (r ++ t) = c :: r ++ t := rfl
        rw [e]
        split
        · exact (textV_ext _ t ht).count _
        · split
          · exact rfl
          · split
            · exact rfl
            · split
              · exact (num_ext c r t ht).count _
              · exact (word_ext _ t ht).count _
  | succ d ih =>
    intro l t n ht h0
    by_cases hn : n = 400
    · subst hn; unfold valN; exact rfl
    · cases l with
      | nil =>
        rw [h0 rfl, List.append_nil, val_nil _ n hn]
        exact rfl
      | cons c r =>
        rw [List.cons_append, val_step (d + 1) c r n hn, val_step (d + 1) c (r ++ t) n hn]
        apply Ex0.skip
        have e : c :: (r ++ t) = c :: r ++ t := rfl
        rw [e]
        obtain ⟨t', h1, h2, h3⟩ := skip_app r t ht
        split
        · exact (textV_ext _ t ht).count _
        · split
          · show Ex0 (kidN (valN d) 401 5 [] [] (skipB r) (n + 1)) (kidN (valN d) 401 5 [] [] (skipB (r ++ t)) (n + 1))
            rw [h2]; exact kid_ext ih 5 401 [] [] _ t' _ h1 h3
          · split
            · show Ex0 (kidN (valN d) 401 6 [] [] (skipB r) (n + 1)) (kidN (valN d) 401 6 [] [] (skipB (r ++ t)) (n + 1))
              rw [h2]; exact kid_ext ih 6 401 [] [] _ t' _ h1 h3
            · split
              · exact (num_ext c r t ht).count _
              · exact (word_ext _ t ht).count _
/-- Blanks ahead and behind change nothing. -/
theorem read_blanks (p l t : Bs) (hp : BL p) (ht : BL t) : readN (p ++ l ++ t) = readN l := by
  obtain ⟨t', h1, h2, h3⟩ := skip_app l t ht
  unfold readN
  rw [List.append_assoc, skip_pre p _ hp, h2]
  have h := val_ext 6 (skipB l) t' 0 h1 h3
  cases e1 : valN 6 (skipB l) 0 with
  | err e =>
    cases e2 : valN 6 (skipB l ++ t') 0 with
    | err e' => rw [e1, e2] at h; simp only; rw [show e = e' from h]
    | ok x r2 => rw [e1, e2] at h; exact h.elim
  | ok x r =>
    cases e2 : valN 6 (skipB l ++ t') 0 with
    | err e' => rw [e1, e2] at h; exact h.elim
    | ok x' r' =>
      rw [e1, e2] at h
      obtain ⟨rfl, t2, h6, rfl, h7⟩ := h
      simp only
      by_cases hr : r = []
      · rw [hr, h7 hr]; rfl
      · rw [if_neg hr, if_neg (by simp [hr])]
end Go.Proofs.YtbkkcojfgdjbhaaDoor
