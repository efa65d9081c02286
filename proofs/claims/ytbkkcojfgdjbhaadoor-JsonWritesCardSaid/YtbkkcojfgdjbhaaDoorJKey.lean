/- A key, and its colon. -/
import Derived.Test.YtbkkcojfgdjbhaaDoorJText
namespace Go.Proofs.YtbkkcojfgdjbhaaDoor
open Go.ChangeShapes Go.WideShapes Go.RowKit

/-- A slice of texts, in a block of P. -/
def StrsAt (P : Nat → Prop) (w : World) (v : Value) (ss : List Bs) : Prop :=
  (ss = [] ∧ ∃ a c, v = .slice a 0 c) ∨ ∃ g o c, v = .slice (some ⟨g, o, none⟩) ss.length c ∧ ss.length ≤ c ∧ P g ∧ g < w.heap.size ∧ ∀ (j : Nat) s, ss[j]? = some s → w.cell? ⟨g, o + j, none⟩ = some (.string ⟨s.toArray⟩)
theorem cell_asd {S : Nat → Prop} {w w' : World} (k : Asd S w w') {g j : Nat} (hg : ¬ S g) {v : Value} (h : w.cell? ⟨g, j, none⟩ = some v) : w'.cell? ⟨g, j, none⟩ = some v := by
  have hlt := World.block_lt_of_cell? w _ h
  unfold World.cell? at h ⊢
  rw [k.block g hlt hg]; exact h
theorem StrsAt.keep {P S : Nat → Prop} {w w' : World} {v : Value} {ss : List Bs} (h : StrsAt P w v ss) (k : Asd S w w') (hd : ∀ i, P i → ¬ S i) : StrsAt P w' v ss := by
  rcases h with h | ⟨g, o, c, e, hle, hp, hlt, hc⟩
  · exact .inl h
  · exact .inr ⟨g, o, c, e, hle, hp, Nat.lt_of_lt_of_le hlt k.size, fun j s hs => cell_asd k (hd g hp) (hc j s hs)⟩
theorem contains_is (ss : List Bs) (s : Bs) : Lib.containsS (ss.map fun s => (⟨s.toArray⟩ : ByteArray)) ⟨s.toArray⟩ = ss.contains s := by
  rw [Bool.eq_iff_iff, Lib.containsS_iff, List.contains_iff_mem]
  constructor
  · intro h
    obtain ⟨x, hx, e⟩ := List.mem_map.1 h
    have : x = s := by
      have e2 := congrArg (fun b : ByteArray => b.data.toList) e
      simpa using e2
    rw [← this]; exact hx
  · intro h
    exact List.mem_map.2 ⟨s, h, rfl⟩
theorem contains_any (P : Nat → Prop) (v : Value) (ss : List Bs) (s : Bs) (w : World) (h : StrsAt P w v ss) (hl : ss.length ≤ 1000000) :
    Calls Tryd.prog 61 #[v, .string ⟨s.toArray⟩] w fun e w' => e = .returned (.bool (ss.contains s)) ∧ w' = w := by
  rcases h with ⟨rfl, a, c, rfl⟩ | ⟨g, o, c, rfl, _, _, _, hc⟩
  · exact Tryd.slices_Contains_string_empty a c _ w
  · refine (Tryd.slices_Contains_string g o ss.length c (ss.map fun s => (⟨s.toArray⟩ : ByteArray)) ⟨s.toArray⟩ w (by simp) (by omega) (fun j hj => ?_)).mono fun e w' h => ?_
    · have hj' : j < ss.length := by simpa using hj
      rw [hc j _ (List.getElem?_eq_getElem hj')]
      simp [hj']
    · rw [List.take_of_length_le (by simp), contains_is] at h
      exact h
theorem skip_len (l : Bs) : (skipB l).length ≤ l.length := by
  unfold skipB Lib.trimLeftS
  exact (List.dropWhile_suffix _).length_le
theorem tx_len {f : Nat} {acc l s r : Bs} (h : txN f acc l = .ok s r) : r.length < l.length := by
  induction f generalizing acc l with
  | zero => cases h
  | succ f ih =>
    cases l with
    | nil => cases h
    | cons c l =>
      rw [txN] at h
      split at h
      · simp at h; rw [← h.2, List.length_cons]; omega
      · cases hs : signN (c :: l) with
        | none => rw [hs] at h; cases h
        | some x =>
          obtain ⟨v, r2⟩ := x
          have h1 := sign_len hs
          rw [hs] at h
          have h2 := ih h
          omega
theorem text_len {l s r : Bs} (h : textN l = .ok s r) : r.length < l.length ∧ s.length ≤ 200 := by
  cases l with
  | nil => cases h
  | cons c l =>
    unfold textN at h
    simp only at h
    split at h
    · cases ht : txN (l.length + 1) [] l with
      | err e => rw [ht] at h; cases h
      | ok a b =>
        have := tx_len ht
        rw [ht] at h
        simp only at h
        split at h
        · cases h
        · simp at h
          rw [← h.1, ← h.2, List.length_cons]; omega
    · cases h
theorem tx_err {f : Nat} {acc l : Bs} {e : Int} (h : txN f acc l = .err e) : e = 2 := by
  induction f generalizing acc l with
  | zero => cases h; rfl
  | succ f ih =>
    cases l with
    | nil => cases h; rfl
    | cons c l =>
      rw [txN] at h
      split at h
      · cases h
      · cases hs : signN (c :: l) with
        | none => rw [hs] at h; cases h; rfl
        | some x => rw [hs] at h; exact ih h
theorem text_err {l : Bs} {e : Int} (h : textN l = .err e) : e = 2 ∨ e = 4 := by
  cases l with
  | nil => cases h; exact .inl rfl
  | cons c l =>
    unfold textN at h
    simp only at h
    split at h
    · cases ht : txN (l.length + 1) [] l with
      | err e => rw [ht] at h; cases h; exact .inl (tx_err ht)
      | ok a b =>
        rw [ht] at h
        simp only at h
        split at h
        · cases h; exact .inr rfl
        · cases h
    · cases h; exact .inl rfl

set_option maxHeartbeats 1600000 in
set_option maxRecDepth 100000 in
theorem key_any (P : Nat → Prop) (R : Nat) (l : Bs) (n : Nat) (M : Value) (kv : Value) (keys : List Bs) (w : World) (h : Rq w R l n M) (hE : Env w) (hR : 10 ≤ R) (hl : l.length ≤ 1000000) (hk : StrsAt P w kv keys) (hP : ¬ P R) (hkl : keys.length ≤ 1000000) :
    Calls Tryd.prog 81 #[.pointer (some ⟨R, 0, none⟩), kv] w (TextP R n M w (keyN keys l)) := by
  have K := Lib.hid (text_any R l n M w h hE hR hl)
  have hd : ∀ i, P i → ¬ i = R := fun i hi e => hP (e ▸ hi)
  unfold keyN
  cases ht : textN l with
  | err er =>
    rw [ht] at K
    have hne : (er == 0) = false := by
      rcases text_err ht with rfl | rfl <;> rfl
    go_enter Tryd.func81, Tryd.ntmps81
    go_wp2_with fail
    refine K.out.mono ?_
    rintro e w1 ⟨⟨s, r, rfl, h1⟩, a1⟩
    clear K
    go_wp2_with fail
    go_ret2
    exact ⟨⟨_, _, rfl, h1⟩, a1⟩
  | ok s r =>
    rw [ht] at K
    simp only
    have KC : ∀ w2, Asd (· = R) w w2 → Calls Tryd.prog 61 #[kv, .string ⟨s.toArray⟩] w2 fun e w' => e = .returned (.bool (keys.contains s)) ∧ w' = w2 := fun w2 a2 => contains_any P kv keys s w2 (hk.keep a2 hd) hkl
    cases hc : keys.contains s with
    | true =>
      rw [hc] at KC
      rw [if_pos rfl]
      go_enter Tryd.func81, Tryd.ntmps81
      go_wp2_with fail
      refine K.out.mono ?_
      rintro e w1 ⟨⟨rfl, h1⟩, a1⟩
      clear K ht
      go_wp2_with fail
      refine (skip_any R r n M w1 h1).mono ?_
      rintro e w2 ⟨rfl, h2, a2⟩
      replace a2 := a1.andThen a2
      have K2 := Lib.hid (KC w2 a2)
      clear a1 h1 hk KC
      go_wp2_with fail
      refine K2.out.mono ?_
      rintro e w3 ⟨rfl, rfl⟩
      clear K2
      go_wp2_with fail
      go_ret2
      exact ⟨⟨_, _, rfl, h2⟩, a2⟩
    | false =>
      rw [hc] at KC
      rw [if_neg (by simp)]
      cases hs : skipB r with
      | nil =>
        simp only
        go_enter Tryd.func81, Tryd.ntmps81
        go_wp2_with fail
        refine K.out.mono ?_
        rintro e w1 ⟨⟨rfl, h1⟩, a1⟩
        clear K ht
        go_wp2_with fail
        refine (skip_any R r n M w1 h1).mono ?_
        rintro e w2 ⟨rfl, h2, a2⟩
        replace a2 := a1.andThen a2
        have K2 := Lib.hid (KC w2 a2)
        clear a1 h1 hk KC
        go_wp2_with fail
        refine K2.out.mono ?_
        rintro e w3 ⟨rfl, rfl⟩
        clear K2
        go_wp2_with fail
        rw [hs] at h2
        refine (take_miss R 58 [] n M w3 h2 (by simp) 58 rfl).mono ?_
        rintro e w4 ⟨rfl, rfl⟩
        go_wp2_with fail
        go_ret2
        exact ⟨⟨_, _, rfl, h2⟩, a2⟩
      | cons c r2 =>
        simp only
        by_cases ec : c = 58
        · subst ec
          rw [if_pos rfl]
          go_enter Tryd.func81, Tryd.ntmps81
          go_wp2_with fail
          refine K.out.mono ?_
          rintro e w1 ⟨⟨rfl, h1⟩, a1⟩
          clear K ht
          go_wp2_with fail
          refine (skip_any R r n M w1 h1).mono ?_
          rintro e w2 ⟨rfl, h2, a2⟩
          replace a2 := a1.andThen a2
          have K2 := Lib.hid (KC w2 a2)
          clear a1 h1 hk KC
          go_wp2_with fail
          refine K2.out.mono ?_
          rintro e w3 ⟨rfl, rfl⟩
          clear K2
          go_wp2_with fail
          rw [hs] at h2
          refine (take_hit R 58 r2 n M w3 h2).mono ?_
          rintro e w4 ⟨rfl, h4, a4⟩
          replace a4 := a2.andThen a4
          clear a2 h2
          go_wp2_with fail
          refine (skip_any R r2 n M w4 h4).mono ?_
          rintro e w5 ⟨rfl, h5, a5⟩
          replace a5 := a4.andThen a5
          go_wp2_with fail
          go_ret2
          exact ⟨⟨rfl, h5⟩, a5⟩
        · rw [if_neg ec]
          go_enter Tryd.func81, Tryd.ntmps81
          go_wp2_with fail
          refine K.out.mono ?_
          rintro e w1 ⟨⟨rfl, h1⟩, a1⟩
          clear K ht
          go_wp2_with fail
          refine (skip_any R r n M w1 h1).mono ?_
          rintro e w2 ⟨rfl, h2, a2⟩
          replace a2 := a1.andThen a2
          have K2 := Lib.hid (KC w2 a2)
          clear a1 h1 hk KC
          go_wp2_with fail
          refine K2.out.mono ?_
          rintro e w3 ⟨rfl, rfl⟩
          clear K2
          go_wp2_with fail
          rw [hs] at h2
          refine (take_miss R 58 (c :: r2) n M w3 h2 (by simpa using ec) 58 rfl).mono ?_
          rintro e w4 ⟨rfl, rfl⟩
          go_wp2_with fail
          go_ret2
          exact ⟨⟨_, _, rfl, h2⟩, a2⟩
end Go.Proofs.YtbkkcojfgdjbhaaDoor
