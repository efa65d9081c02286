/- The document's pattern reader: sign. -/
import Derived.Test.YteooofakpkbgoaaDoorQRd
namespace Go.Proofs.YteooofakpkbgoaaDoor.Dn
open Go.ChangeShapes Go.WideShapes Go.RowKit

theorem drop_cons {s r : Bs} {K : Nat} {c : UInt8} (h : s.drop K = c :: r) : s[K]? = some c ∧ s.drop (K + 1) = r ∧ K < s.length ∧ r.length + K + 1 = s.length := by
  have hl := congrArg List.length h
  rw [List.length_drop, List.length_cons] at hl
  have hk : K < s.length := by omega
  rw [List.drop_eq_getElem_cons hk] at h
  injection h with h1 h2
  exact ⟨by rw [List.getElem?_eq_getElem hk, h1], h2, hk, by omega⟩
theorem drop_none {s : Bs} {K : Nat} (h : s.drop K = []) : s.length ≤ K := by
  have hl := congrArg List.length h
  rw [List.length_drop, List.length_nil] at hl
  omega
theorem next_hit {R K : Nat} {s r : Bs} {c : UInt8} (hl : s.drop K = c :: r) (w : World) (h : Rd w R s K 0) :
    Calls Tryd.prog 71 #[.pointer (some ⟨R, 0, none⟩)] w fun e w' => e = .returned (.tuple #[.int .u8 (c.toNat : Int), .bool true]) ∧ Below w.heap.size w w' := by
  have := next_any R s K 0 w h
  unfold nextN at this
  rw [if_pos rfl, (drop_cons hl).1] at this
  exact this
theorem next_end {R K : Nat} {s : Bs} (hl : s.drop K = []) (w : World) (h : Rd w R s K 0) :
    Calls Tryd.prog 71 #[.pointer (some ⟨R, 0, none⟩)] w fun e w' => e = .returned (.tuple #[.int .u8 0, .bool false]) ∧ Below w.heap.size w w' := by
  have := next_any R s K 0 w h
  unfold nextN at this
  rw [if_pos rfl, List.getElem?_eq_none (drop_none hl)] at this
  exact this
theorem next_err {R K : Nat} {s : Bs} {E : Int} (hE : E ≠ 0) (w : World) (h : Rd w R s K E) :
    Calls Tryd.prog 71 #[.pointer (some ⟨R, 0, none⟩)] w fun e w' => e = .returned (.tuple #[.int .u8 0, .bool false]) ∧ Below w.heap.size w w' := by
  have := next_any R s K E w h
  unfold nextN at this
  rw [if_neg hE] at this
  exact this
theorem fail_new {R K : Nat} {s : Bs} (x : Int) (w : World) (h : Rd w R s K 0) :
    Calls Tryd.prog 53 #[.pointer (some ⟨R, 0, none⟩), .int .i64 x] w fun r w' => r = .returned (.tuple #[]) ∧ Rd w' R s K x ∧ Asd (· = R) w w' := by
  have := fail_any R K s 0 x w h
  rw [if_pos rfl] at this
  exact this
theorem fail_old {R K : Nat} {s : Bs} {E : Int} (hE : E ≠ 0) (x : Int) (w : World) (h : Rd w R s K E) :
    Calls Tryd.prog 53 #[.pointer (some ⟨R, 0, none⟩), .int .i64 x] w fun r w' => r = .returned (.tuple #[]) ∧ Rd w' R s K E ∧ Asd (· = R) w w' := by
  have := fail_any R K s E x w h
  rw [if_neg hE] at this
  exact this
theorem Rd.inc {w : World} {R K K' : Nat} {s : Bs} {E : Int} (h : Rd w R s K E) (e : K' = K + 1) : Rd (w.setCell ⟨R, 1, none⟩ (.int .i64 ((K : Int) + 1))) R s K' E := by
  have := h.go K'
  rwa [show (K' : Int) = (K : Int) + 1 by omega] at this
/-- What sign hands back; S: the text, as long as it is. -/
def SignP (R : Nat) (s : Bs) (o : Option (UInt8 × Bx)) (e : Ending) (w' : World) : Prop :=
  match o with
  | some (c, r) => e = .returned (.int .u8 (c.toNat : Int)) ∧ ∃ K, s.drop K = r ∧ K ≤ s.length ∧ Rd w' R s K 0
  | none => (∃ c : UInt8, e = .returned (.int .u8 (c.toNat : Int))) ∧ ∃ K, K ≤ s.length + 1 ∧ Rd w' R s K 2
theorem u8_ne {c : UInt8} {n : Nat} (h : c ≠ UInt8.ofNat n) (hn : n < 256) : ((c.toNat : Int) == (n : Int)) = false := by
  rw [beq_eq_false_iff_ne]
  intro e
  apply h
  apply UInt8.toNat_inj.1
  simp
  omega
set_option maxHeartbeats 3200000 in
set_option maxRecDepth 100000 in
theorem sign_any (R K : Nat) (s : Bs) (w : World) (h : Rd w R s K 0) (hs : s.length ≤ 100) (hK : K ≤ s.length) :
    Calls Tryd.prog 98 #[.pointer (some ⟨R, 0, none⟩)] w fun e w' => SignP R s (signN (s.drop K)) e w' ∧ Asd (· = R) w w' := by
  have hKb : K ≤ 100 := by omega
  obtain ⟨K', hKb', eK⟩ : ∃ K', K' ≤ 101 ∧ (Unit → K' = K + 1) := ⟨_, by omega, fun _ => rfl⟩
  obtain ⟨K'', hKb'', eK'⟩ : ∃ K'', K'' ≤ 102 ∧ (Unit → K'' = K' + 1) := ⟨_, by omega, fun _ => rfl⟩
  have A := Asd.refl (· = R) w
  cases hl : s.drop K with
  | nil =>
    have h1 := drop_none hl
    have HS : Unit → signN [] = none := fun _ => rfl
    have K1 := Lib.hid fun w' h => next_end (R := R) hl w' h
    have K2 := Lib.hid fun w' h => fail_new (R := R) (K := K') (s := s) 2 w' h
    clear hl
    go_enter Tryd.func98, Tryd.ntmps98
    go_wp2_with fail
    refine (K1.out _ h).mono ?_
    rintro e v1 ⟨rfl, hb⟩
    replace h := h.stay hb
    replace A := A.below hb
    clear hb
    have c1 := h.pos
    have f1 := Rw.frozen h 1
    go_upto_region 3 with fail
    replace h := h.inc (eK ())
    replace A := A.set1 1 (.int .i64 ((K : Int) + 1))
    generalize v1.setCell ⟨R, 1, none⟩ (.int .i64 ((K : Int) + 1)) = v2 at *
    clear c1 f1
    go_wp2_with fail
    refine (K2.out _ h).mono ?_
    rintro e v3 ⟨rfl, h', A'⟩
    replace h := h'
    replace A := A.andThen A'
    clear h' A' 
    go_wp2_with fail
    go_ret
    exact ⟨by rw [HS ()]; exact ⟨⟨0, rfl⟩, K', by have := eK (); omega, h⟩, A⟩
  | cons c r =>
    obtain ⟨hc, hr, hk, hn⟩ := drop_cons hl
    rw [← eK ()] at hr
    have K1 := Lib.hid fun w' h => next_hit (R := R) hl w' h
    clear hl hc
    by_cases h92 : c = 92
    · subst h92
      cases r with
      | nil =>
        have HS : Unit → signN [92] = none := fun _ => rfl
        have K2 := Lib.hid fun w' h => next_end (R := R) hr w' h
        have K3 := Lib.hid fun w' h => fail_new (R := R) (K := K'') (s := s) 2 w' h
        clear hr
        go_enter Tryd.func98, Tryd.ntmps98
        go_wp2_with fail
        refine (K1.out _ h).mono ?_
        rintro e v4 ⟨rfl, hb⟩
        replace h := h.stay hb
        replace A := A.below hb
        clear hb
        have c1 := h.pos
        have f1 := Rw.frozen h 1
        go_upto_region 3 with fail
        replace h := h.inc (eK ())
        replace A := A.set1 1 (.int .i64 ((K : Int) + 1))
        generalize v4.setCell ⟨R, 1, none⟩ (.int .i64 ((K : Int) + 1)) = v5 at *
        clear c1 f1
        go_wp2_with fail
        refine (K2.out _ h).mono ?_
        rintro e v6 ⟨rfl, hb⟩
        replace h := h.stay hb
        replace A := A.below hb
        clear hb
        have c1 := h.pos
        have f1 := Rw.frozen h 1
        go_upto_region 6 with fail
        replace h := h.inc (eK' ())
        replace A := A.set1 1 (.int .i64 ((K' : Int) + 1))
        generalize v6.setCell ⟨R, 1, none⟩ (.int .i64 ((K' : Int) + 1)) = v7 at *
        clear c1 f1
        go_wp2_with fail
        refine (K3.out _ h).mono ?_
        rintro e v8 ⟨rfl, h', A'⟩
        replace h := h'
        replace A := A.andThen A'
        clear h' A' 
        go_wp2_with fail
        go_ret
        exact ⟨by rw [HS ()]; exact ⟨⟨0, rfl⟩, K'', by have := eK (); have := eK' (); simp at hn; omega, h⟩, A⟩
      | cons d r =>
        obtain ⟨hd, hr2, hk2, hn2⟩ := drop_cons hr
        have HS : Unit → signN (92 :: d :: r) = some (d, r) := fun _ => by simp [signN]
        have K2 := Lib.hid fun w' h => next_hit (R := R) hr w' h
        clear hr hd
        go_enter Tryd.func98, Tryd.ntmps98
        go_wp2_with fail
        refine (K1.out _ h).mono ?_
        rintro e v9 ⟨rfl, hb⟩
        replace h := h.stay hb
        replace A := A.below hb
        clear hb
        have c1 := h.pos
        have f1 := Rw.frozen h 1
        go_upto_region 3 with fail
        replace h := h.inc (eK ())
        replace A := A.set1 1 (.int .i64 ((K : Int) + 1))
        generalize v9.setCell ⟨R, 1, none⟩ (.int .i64 ((K : Int) + 1)) = v10 at *
        clear c1 f1
        go_wp2_with fail
        refine (K2.out _ h).mono ?_
        rintro e v11 ⟨rfl, hb⟩
        replace h := h.stay hb
        replace A := A.below hb
        clear hb
        have c1 := h.pos
        have f1 := Rw.frozen h 1
        go_upto_region 6 with fail
        replace h := h.inc (eK' ())
        replace A := A.set1 1 (.int .i64 ((K' : Int) + 1))
        generalize v11.setCell ⟨R, 1, none⟩ (.int .i64 ((K' : Int) + 1)) = v12 at *
        clear c1 f1
        go_wp2_with fail
        go_ret
        exact ⟨by rw [HS ()]; exact ⟨rfl, K'', by rw [eK' ()]; exact hr2, by have := eK (); have := eK' (); omega, h⟩, A⟩
    · have hne := u8_ne (n := 92) h92 (by decide)
      have HS : Unit → signN (c :: r) = some (c, r) := fun _ => by simp [signN, h92]
      go_enter Tryd.func98, Tryd.ntmps98
      go_wp2_with fail
      refine (K1.out _ h).mono ?_
      rintro e v13 ⟨rfl, hb⟩
      replace h := h.stay hb
      replace A := A.below hb
      clear hb
      have c1 := h.pos
      have f1 := Rw.frozen h 1
      go_upto_region 3 with fail
      replace h := h.inc (eK ())
      replace A := A.set1 1 (.int .i64 ((K : Int) + 1))
      generalize v13.setCell ⟨R, 1, none⟩ (.int .i64 ((K : Int) + 1)) = v14 at *
      clear c1 f1
      go_wp2_with fail
      go_ret
      exact ⟨by rw [HS ()]; exact ⟨rfl, K', hr, by have := eK (); have := eK' (); omega, h⟩, A⟩
end Go.Proofs.YteooofakpkbgoaaDoor.Dn
