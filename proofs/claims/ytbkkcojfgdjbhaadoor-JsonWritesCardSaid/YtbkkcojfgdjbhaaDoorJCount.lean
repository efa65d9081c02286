/- How many values there are, and how much is left. -/
import Derived.Test.YtbkkcojfgdjbhaaDoorJObj
namespace Go.Proofs.YtbkkcojfgdjbhaaDoor

theorem kid_step (V : Bs → Nat → Rs (J × Nat)) (f : Nat) (k : Int) (keys : List Bs) (kids : List J) (l : Bs) (n : Nat) :
    kidN V (f + 1) k keys kids l n = if l.head? = some (clN k) then .ok (.mk k 0 [] keys kids, n) l.tail
      else match nextN kids.isEmpty l with
        | none => .err 2
        | some l1 => match entN V k keys l1 n with
          | .err e => .err e
          | .ok (s, j, n2) r2 => kidN V f k (if k = 6 then keys ++ [s] else keys) (kids ++ [j]) r2 n2 := by
  rw [kidN]
  split
  · rfl
  · cases nextN kids.isEmpty l with
    | none => rfl
    | some l1 =>
      simp only [entN]
      cases (if k = 6 then keyN keys l1 else Rs.ok [] l1) with
      | err e => rfl
      | ok s r =>
        simp only
        cases V r n with
        | err e => rfl
        | ok x r2 => rfl
theorem next_len {b : Bool} {l l1 : Bs} (h : nextN b l = some l1) : l1.length ≤ l.length := by
  unfold nextN at h
  split at h
  · simp at h; rw [h]; exact Nat.le_refl _
  · cases l with
    | nil => cases h
    | cons c r =>
      simp only at h
      split at h
      · simp at h
        have := skip_len r
        rw [← h, List.length_cons]; omega
      · cases h
/-- What a reader of values keeps to: each value counts, there are at most 400, and nothing is left that wasn't there. -/
def Good (V : Bs → Nat → Rs (J × Nat)) : Prop := ∀ l n j n2 r, n ≤ 400 → V l n = .ok (j, n2) r → n < n2 ∧ n2 ≤ 400 ∧ r.length ≤ l.length
theorem ent_good {V : Bs → Nat → Rs (J × Nat)} (hV : Good V) {k : Int} {keys : List Bs} {l : Bs} {n : Nat} {s : Bs} {j : J} {n2 : Nat} {r : Bs} (hn : n ≤ 400) (h : entN V k keys l n = .ok (s, j, n2) r) : n < n2 ∧ n2 ≤ 400 ∧ r.length ≤ l.length := by
  unfold entN at h
  by_cases hk : k = 6
  · rw [if_pos hk] at h
    cases hke : keyN keys l with
    | err e => rw [hke] at h; cases h
    | ok s2 r2 =>
      have h1 := key_len hke
      rw [hke] at h
      simp only at h
      cases hv : V r2 n with
      | err e => rw [hv] at h; cases h
      | ok x r3 =>
        obtain ⟨j2, n3⟩ := x
        have h2 := hV _ _ _ _ _ hn hv
        rw [hv] at h
        simp at h
        obtain ⟨⟨_, _, rfl⟩, rfl⟩ := h
        omega
  · rw [if_neg hk] at h
    simp only at h
    cases hv : V l n with
    | err e => rw [hv] at h; cases h
    | ok x r3 =>
      obtain ⟨j2, n3⟩ := x
      have h2 := hV _ _ _ _ _ hn hv
      rw [hv] at h
      simp at h
      obtain ⟨⟨_, _, rfl⟩, rfl⟩ := h
      exact h2
theorem kid_good {V : Bs → Nat → Rs (J × Nat)} (hV : Good V) (f : Nat) : ∀ {k : Int} {keys : List Bs} {kids : List J} {l : Bs} {n : Nat} {j : J} {n2 : Nat} {r : Bs}, n ≤ 400 → kidN V f k keys kids l n = .ok (j, n2) r → n ≤ n2 ∧ n2 ≤ 400 ∧ r.length ≤ l.length := by
  induction f with
  | zero => intro k keys kids l n j n2 r _ h; cases h
  | succ f ih =>
    intro k keys kids l n j n2 r hn h
    rw [kid_step] at h
    split at h
    · simp at h
      obtain ⟨⟨_, rfl⟩, rfl⟩ := h
      exact ⟨Nat.le_refl _, hn, by rw [List.length_tail]; omega⟩
    · cases hx : nextN kids.isEmpty l with
      | none => rw [hx] at h; cases h
      | some l1 =>
        have h1 := next_len hx
        rw [hx] at h
        simp only at h
        cases he : entN V k keys l1 n with
        | err e => rw [he] at h; cases h
        | ok x r2 =>
          obtain ⟨s, j2, n3⟩ := x
          have h2 := ent_good hV hn he
          rw [he] at h
          have h3 := ih h2.2.1 h
          omega
theorem skip_ok {α : Type} {x : Rs α} {a : α} {r : Bs} (h : x.skip = .ok a r) : ∃ r0, x = .ok a r0 ∧ r = skipB r0 := by
  cases x with
  | err e => cases h
  | ok b l => simp [Rs.skip] at h; exact ⟨l, by rw [h.1], h.2.symm⟩
theorem drop_while_len (p : UInt8 → Bool) (l : Bs) : (l.dropWhile p).length ≤ l.length := (List.dropWhile_suffix p).length_le
theorem num_len {l r : Bs} {j : J} (h : numN l = .ok j r) : r.length ≤ l.length := by
  unfold numN at h
  simp only at h
  split at h
  · split at h
    · simp at h
      have := drop_while_len isDig (l.drop 1)
      rw [← h.2]
      simp at this ⊢
      omega
    · cases h
  · cases h
theorem word_len {l r : Bs} {j : J} (h : wordN l = .ok j r) : r.length ≤ l.length := by
  unfold wordN at h
  split at h
  · simp at h
    rw [← h.2]; exact drop_while_len _ _
  · cases h
theorem textV_len {l r : Bs} {j : J} (h : textV l = .ok j r) : r.length ≤ l.length := by
  unfold textV at h
  cases ht : textN l with
  | err e => rw [ht] at h; cases h
  | ok s r2 =>
    have := text_len ht
    rw [ht] at h; simp at h; rw [← h.2]; omega
theorem count_ok {α : Type} {n n2 : Nat} {x : Rs α} {a : α} {r : Bs} (h : x.count n = .ok (a, n2) r) : n2 = n ∧ x = .ok a r := by
  cases x with
  | err e => cases h
  | ok b l => simp [Rs.count] at h; obtain ⟨⟨rfl, rfl⟩, rfl⟩ := h; exact ⟨rfl, rfl⟩
theorem val_good (d : Nat) : Good (valN d) := by
  induction d with
  | zero =>
    intro l n j n2 r hn h
    unfold valN at h
    split at h
    · cases h
    · rename_i hn4
      split at h
      · cases h
      · rename_i c r0
        obtain ⟨r1, h1, rfl⟩ := skip_ok h
        have hs := skip_len r1
        split at h1
        · obtain ⟨rfl, h2⟩ := count_ok h1
          have := textV_len h2; omega
        · split at h1
          · cases h1
          · split at h1
            · cases h1
            · split at h1
              · obtain ⟨rfl, h2⟩ := count_ok h1
                have := num_len h2; omega
              · obtain ⟨rfl, h2⟩ := count_ok h1
                have := word_len h2; omega
  | succ d ih =>
    intro l n j n2 r hn h
    unfold valN at h
    split at h
    · cases h
    · rename_i hn4
      split at h
      · cases h
      · rename_i c r0
        obtain ⟨r1, h1, rfl⟩ := skip_ok h
        have hs := skip_len r1
        have hs0 := skip_len r0
        split at h1
        · obtain ⟨rfl, h2⟩ := count_ok h1
          have := textV_len h2; omega
        · split at h1
          · have := kid_good ih 401 (by omega) h1
            rw [List.length_cons]; omega
          · split at h1
            · have := kid_good ih 401 (by omega) h1
              rw [List.length_cons]; omega
            · split at h1
              · obtain ⟨rfl, h2⟩ := count_ok h1
                have := num_len h2; omega
              · obtain ⟨rfl, h2⟩ := count_ok h1
                have := word_len h2; omega
end Go.Proofs.YtbkkcojfgdjbhaaDoor
