/- QC: several texts in one. -/
import Derived.Test.YtknhkmlihbgjpaaDoorQA
import Derived.Deep.DeepCutAuto
/- The document's pattern reader: class. -/
namespace Go.Proofs.YtknhkmlihbgjpaaDoor.Dn
open Go.ChangeShapes Go.WideShapes Go.RowKit

/-- A set read so far, the first of its elements being number i. -/
def clsI (i m : Nat) (q : UInt8 → Bool) (l : Bx) : Option ((UInt8 → Bool) × Bx) := if i = 0 ∧ l.head? = some 93 then none else clsN m q l
theorem clsI_start (l : Bx) : clsI 0 l.length noSet l = cls1 l := by
  cases l with
  | nil => simp [clsI, cls1, clsN]
  | cons c l =>
    unfold clsI cls1
    simp only [List.head?_cons, Option.some.injEq, true_and]
/-- How much there is to read. -/
def left (w : World) (R n : Nat) : Nat := match w.cell? ⟨R, 2, none⟩ with
  | some (.int _ 0) => (match w.cell? ⟨R, 1, none⟩ with
    | some (.int _ k) => n + 1 - k.toNat
    | _ => 0)
  | _ => 0
theorem Rd.left0 {w : World} {R K n : Nat} {s : Bs} (h : Rd w R s K 0) : left w R n = n + 1 - K := by
  unfold left
  rw [h.err, h.pos]
  simp
theorem Rd.left2 {w : World} {R K n : Nat} {s : Bs} {E : Int} (hE : E ≠ 0) (h : Rd w R s K E) : left w R n = 0 := by
  unfold left
  rw [h.err]
  split
  · rename_i e
    injection e with e
    injection e with _ e
    exact absurd e hE
  · rfl
def ClassP (R : Nat) (s : Bs) (o : Option ((UInt8 → Bool) × Bx)) (e : Ending) (w' : World) : Prop :=
  match o with
  | some (p, r) => e = .returned (.agg (nodeC 0 p nilS).toArray) ∧ ∃ K, s.drop K = r ∧ K ≤ s.length ∧ Rd w' R s K 0
  | none => (∃ p, e = .returned (.agg (nodeC 0 p nilS).toArray)) ∧ ∃ K, K ≤ s.length + 3 ∧ Rd w' R s K 2
theorem clsI_none {k m : Nat} {q : UInt8 → Bool} {c : UInt8} {r : Bx} (hc : ¬ c = 93) (he : elemN (c :: r) = none) : clsI k m q (c :: r) = none := by
  unfold clsI
  rw [if_neg (by simp [hc])]
  cases m with
  | zero => rfl
  | succ m => rw [clsN, if_neg hc, he]
theorem clsI_some {k m : Nat} {q : UInt8 → Bool} {c f b : UInt8} {r r2 : Bx} (hc : ¬ c = 93) (he : elemN (c :: r) = some ((f, b), r2)) (hm : (c :: r).length ≤ m) :
    ∃ m', r2.length ≤ m' ∧ clsI k m q (c :: r) = clsI (k + 1) m' (fun x => q x || (decide (f ≤ x) && decide (x ≤ b))) r2 := by
  have hl := elemN_len he
  obtain ⟨m', rfl⟩ : ∃ m', m = m' + 1 := ⟨m - 1, by rw [List.length_cons] at hm; omega⟩
  refine ⟨m', by omega, ?_⟩
  unfold clsI
  rw [if_neg (by simp [hc]), if_neg (by omega), clsN, if_neg hc, he]
theorem wrap_i64 {x : Int} (h1 : -9223372036854775808 ≤ x) (h2 : x < 9223372036854775808) : IntKind.i64.wrap x = x := by
  rw [IntKind.wrap_i64]
  omega
theorem nil_one : nilS.oneCell' = true := rfl
-- walks
set_option pp.deepTerms true in
set_option pp.maxSteps 1000000 in
set_option maxHeartbeats 6400000 in
set_option maxRecDepth 100000 in
theorem class_plain (R K : Nat) (s l : Bs) (w : World) (h : Rd w R s K 0) (hs : s.length ≤ 100) (hK : K ≤ s.length) (hl : s.drop K = l) (h94 : l.head? ≠ some 94) :
    Calls Tryd.prog 117 #[.pointer (some ⟨R, 0, none⟩)] w fun e w' => ClassP R s (cls1 l) e w' ∧ Asd (· = R) w w' := by
  obtain ⟨O, hO⟩ : ∃ O, clsI 0 l.length noSet l = O := ⟨_, rfl⟩
  rw [← clsI_start, hO]
  have HO : Unit → clsI 0 l.length noSet l = O := fun _ => hO
  clear hO
  have hKb : K ≤ 100 := by omega
  obtain ⟨x, ok, hN, hx⟩ : ∃ (x : Int) (ok : Bool), (∀ w', Rd w' R s K 0 → Calls Tryd.prog 113 #[.pointer (some ⟨R, 0, none⟩)] w' fun e w'' => e = .returned (.tuple #[.int .u8 x, .bool ok]) ∧ Below w'.heap.size w' w'') ∧ (x == 94) = false := by
    cases hl2 : s.drop K with
    | nil => exact ⟨0, false, fun w' h => next_end hl2 w' h, by decide⟩
    | cons c r =>
      refine ⟨(c.toNat : Int), true, fun w' h => next_hit hl2 w' h, u8_ne (n := 94) (fun e => h94 ?_) (by decide)⟩
      rw [← hl, hl2, List.head?_cons, e]
      rfl
  have K1 := Lib.hid hN
  clear hN h94
  have hzc := zero_node
  obtain ⟨Z, eZ⟩ : ∃ Z, nodeC 0 noSet nilS = Z := ⟨_, rfl⟩
  have hlZ := nodeC_len 0 noSet nilS
  have hoZ := nodeC_one 0 noSet nil_one
  rw [eZ] at hzc hlZ hoZ
  have EZ : Unit → nodeC 0 noSet nilS = Z := fun _ => eZ
  clear eZ
  have hR := Rw.lt h
  go_enter Tryd.func117, Tryd.ntmps117
  go_upto_region 1 with fail
  have rA := Rw.new w 145 Z
  have hb0 := (Below.refl w.heap.size w).alloc (Nat.le_refl _) (.cells Z.toArray 145)
  replace h := h.stay hb0
  generalize w.alloc (.cells Z.toArray 145) = w1 at *
  obtain ⟨bA, hbA, hA0⟩ : ∃ bA, w.heap.size ≤ bA ∧ w.heap.size = bA := ⟨_, Nat.le_refl _, rfl⟩
  rw [hA0] at rA
  simp only [hA0]
  have rB := Rw.new w1 145 Z
  have hb1 := (Below.refl w1.heap.size w1).alloc (Nat.le_refl _) (.cells Z.toArray 145)
  have hAB := Rw.lt rA
  go_upto_region 2 with (first | refine wpList_exec (exec_build0 Z hzc rfl _) rfl ?_ | refine store_node _ _ rB hlZ Z hlZ hoZ _ _ rfl rfl rfl rfl ?_)
  rw [World.setRow_alloc_new]
  have hsz := hb0.size
  have A := Asd.of_below (S := (fun k => k = R)) (hb0.trans (hb1.mono hb0.size))
  replace h := h.stay hb1
  replace rA := rA.stay hb1
  generalize w1.alloc (.cells Z.toArray 145) = w2 at *
  obtain ⟨bB, hB0⟩ : ∃ bB, w1.heap.size = bB := ⟨_, rfl⟩
  rw [hB0] at rB hAB hsz
  simp only [hB0]
  have hbB : w.heap.size ≤ bB := hsz
  have hBR : bB ≠ R := by omega
  have hAR : bA ≠ R := by omega
  have hBA : bA ≠ bB := by omega
  rw [← EZ ()] at rB
  clear hb0 hb1 hA0 hB0 hR hAB hsz
  go_wp2_with fail
  refine (K1.out _ h).mono ?_
  rintro e v1 ⟨rfl, hb⟩
  replace h := h.stay hb
  replace rA := rA.stay hb
  replace rB := rB.stay hb
  replace A := A.below hb
  clear hb
  clear K1
  go_wp2_with fail
  go_loopw [7] (fun i wr => ∃ (k : Nat) (q : UInt8 → Bool) (K : Nat) (E : Int), i = .int .i64 (k : Int) ∧ Rd wr R s K E ∧ Rw wr bB 145 (nodeC 0 q nilS) ∧ Rw wr bA 145 Z ∧ Asd (· = R) w wr ∧ ((E = 0 ∧ K ≤ s.length ∧ k ≤ K ∧ ∃ m, (s.drop K).length ≤ m ∧ clsI k m q (s.drop K) = O) ∨ (E = 2 ∧ O = none ∧ K ≤ s.length + 2 ∧ k ≤ 102))) (fun _ wr => left wr R s.length)
  case atStart => exact ⟨0, noSet, K, 0, rfl, h, rB, rA, A, .inl ⟨rfl, by omega, by omega, l.length, by rw [hl]; omega, by rw [hl]; exact HO ()⟩⟩
  case round =>
    clear h rB rA A HO
    obtain ⟨k, q, K9, E, rfl, h, rB, rA, A, hE⟩ := hrel
    rcases hE with ⟨rfl, hK9, hkK, m, hm, hO⟩ | ⟨rfl, hO, hK9, hk9⟩
    case inr =>
      have K2 := Lib.hid fun w' h => next_err (R := R) (K := K9) (s := s) (E := 2) (by decide) w' h
      have K3 := Lib.hid fun w' h => fail_old (R := R) (K := K9) (s := s) (E := 2) (by decide) 2 w' h
      go_wp2_with fail
      refine (K2.out _ h).mono ?_
      rintro e v2 ⟨rfl, hb⟩
      replace h := h.stay hb
      replace rA := rA.stay hb
      replace rB := rB.stay hb
      replace A := A.below hb
      clear hb
      go_wp2_with fail
      refine (K3.out _ h).mono ?_
      rintro e v3 ⟨rfl, h', A'⟩
      replace h := h'
      replace rA := rA.keep A' hAR
      replace rB := rB.keep A' hBR
      replace A := A.andThen A'
      clear h' A' 
      clear K2 K3
      have hl8 := nodeC_len 0 q nilS
      have ho8 := nodeC_one 0 q nil_one
      obtain ⟨X8, e8⟩ : ∃ X, nodeC 0 q nilS = X := ⟨_, rfl⟩
      rw [e8] at hl8 ho8 rB
      have E8 : Unit → nodeC 0 q nilS = X8 := fun _ => e8
      clear e8
      go_wp2_with (first | refine load_node _ _ rB hl8 _ rfl rfl rfl ?_ | refine store_node _ _ rA hlZ X8 hl8 ho8 _ _ rfl rfl rfl rfl ?_)
      refine ret_node _ _ (rw_setRow rA) hl8 rfl rfl rfl ?_
      exact ⟨by first | (rw [hO]; exact ⟨⟨_, by rw [E8 ()]⟩, K9, by omega, rw_setRow_ne h hAR.symm⟩) | exact ⟨⟨_, by rw [E8 ()]⟩, K9, by omega, rw_setRow_ne h hAR.symm⟩, asd_setRow A (.inr hbA)⟩
    case inl =>
      cases hd : s.drop K9 with
      | nil =>
        rw [hd] at hO
        have hO2 : O = none := by rw [← hO]; cases m <;> simp [clsI, clsN]
        clear hO
        have hO := hO2
        clear hO2
        have K2 := Lib.hid fun w' h => next_end (R := R) hd w' h
        have K3 := Lib.hid fun w' h => fail_new (R := R) (K := K9) (s := s) 2 w' h
        clear hd hm
        go_wp2_with fail
        refine (K2.out _ h).mono ?_
        rintro e v4 ⟨rfl, hb⟩
        replace h := h.stay hb
        replace rA := rA.stay hb
        replace rB := rB.stay hb
        replace A := A.below hb
        clear hb
        go_wp2_with fail
        refine (K3.out _ h).mono ?_
        rintro e v5 ⟨rfl, h', A'⟩
        replace h := h'
        replace rA := rA.keep A' hAR
        replace rB := rB.keep A' hBR
        replace A := A.andThen A'
        clear h' A' 
        clear K2 K3
        have hl8 := nodeC_len 0 q nilS
        have ho8 := nodeC_one 0 q nil_one
        obtain ⟨X8, e8⟩ : ∃ X, nodeC 0 q nilS = X := ⟨_, rfl⟩
        rw [e8] at hl8 ho8 rB
        have E8 : Unit → nodeC 0 q nilS = X8 := fun _ => e8
        clear e8
        go_wp2_with (first | refine load_node _ _ rB hl8 _ rfl rfl rfl ?_ | refine store_node _ _ rA hlZ X8 hl8 ho8 _ _ rfl rfl rfl rfl ?_)
        refine ret_node _ _ (rw_setRow rA) hl8 rfl rfl rfl ?_
        exact ⟨by first | (rw [hO]; exact ⟨⟨_, by rw [E8 ()]⟩, K9, by omega, rw_setRow_ne h hAR.symm⟩) | exact ⟨⟨_, by rw [E8 ()]⟩, K9, by omega, rw_setRow_ne h hAR.symm⟩, asd_setRow A (.inr hbA)⟩
      | cons c r =>
        rw [hd] at hO hm
        obtain ⟨hc0, hr, hk, hn⟩ := drop_cons hd
        obtain ⟨K2, hKb2, eK2⟩ : ∃ K2, K2 ≤ 101 ∧ (Unit → K2 = K9 + 1) := ⟨_, by omega, fun _ => rfl⟩
        rw [← eK2 ()] at hr
        have HOc : Unit → clsI k m q (c :: r) = O := fun _ => hO
        have hK9b : K9 ≤ 100 := by omega
        have hkb : k ≤ 100 := by omega
        have K3 := Lib.hid fun w' h => next_hit (R := R) hd w' h
        have K4 := Lib.hid fun w' h => sign_any R K9 s w' h hs hK9
        rw [hd] at K4
        have hL := h.left0 (n := s.length)
        clear hO hc0
        by_cases h93 : c = 93
        · subst h93
          clear hd K4
          go_wp2_with fail
          refine (K3.out _ h).mono ?_
          rintro e v6 ⟨rfl, hb⟩
          replace h := h.stay hb
          replace rA := rA.stay hb
          replace rB := rB.stay hb
          replace A := A.below hb
          clear hb
          clear K3
          have c1 := h.pos
          have f1 := Rw.frozen h 1
          go_upto_region 14 with fail
          replace h := h.inc (eK2 ())
          replace rA := rA.other hAR 1 (.int .i64 ((K9 : Int) + 1))
          replace rB := rB.other hBR 1 (.int .i64 ((K9 : Int) + 1))
          replace A := A.set1 1 (.int .i64 ((K9 : Int) + 1))
          generalize v6.setCell ⟨R, 1, none⟩ (.int .i64 ((K9 : Int) + 1)) = v7 at *
          clear c1 f1
          by_cases hk0 : k = 0
          · subst hk0
            have hO : O = none := by rw [← HOc ()]; simp [clsI]
            have K5 := Lib.hid fun w' h => fail_new (R := R) (K := K2) (s := s) 2 w' h
            clear HOc
            go_wp2_with fail
            refine (K5.out _ h).mono ?_
            rintro e v8 ⟨rfl, h', A'⟩
            replace h := h'
            replace rA := rA.keep A' hAR
            replace rB := rB.keep A' hBR
            replace A := A.andThen A'
            clear h' A' 
            clear K5
            go_wp2_with fail
            go_loopw [13] (fun i wr => ∃ k : Nat, k ≤ 256 ∧ i = .int .i64 (k : Int) ∧ Rd wr R s K2 2 ∧ Rw wr bB 145 (nodeC 0 (q) nilS) ∧ Rw wr bA 145 Z ∧ Asd (· = R) w wr) (fun i _ => 256 - (intOf i).toNat)
            case atStart => exact ⟨0, by omega, rfl, h, rB, rA, A⟩
            case round =>
              clear h rB rA A
              obtain ⟨k, hk, rfl, h, rB, rA, A⟩ := hrel
              clear hk
              by_cases hk : (k : Int) < 256
              · skip
                have hl8 := nodeC_len 0 q nilS
                have ho8 := nodeC_one 0 q nil_one
                obtain ⟨X8, e8⟩ : ∃ X, nodeC 0 q nilS = X := ⟨_, rfl⟩
                rw [e8] at hl8 ho8 rB
                have E8 : Unit → nodeC 0 q nilS = X8 := fun _ => e8
                clear e8
                go_wp2_with (first | refine load_node _ _ rB hl8 _ rfl rfl rfl ?_ | refine store_node _ _ rA hlZ X8 hl8 ho8 _ _ rfl rfl rfl rfl ?_)
                refine ret_node _ _ (rw_setRow rA) hl8 rfl rfl rfl ?_
                exact ⟨by first | (rw [hO]; exact ⟨⟨_, by rw [E8 ()]⟩, K2, by have := eK2 (); omega, rw_setRow_ne h hAR.symm⟩) | exact ⟨⟨_, by rw [E8 ()]⟩, K2, by have := eK2 (); omega, rw_setRow_ne h hAR.symm⟩, asd_setRow A (.inr hbA)⟩
              · skip
                have hl8 := nodeC_len 0 q nilS
                have ho8 := nodeC_one 0 q nil_one
                obtain ⟨X8, e8⟩ : ∃ X, nodeC 0 q nilS = X := ⟨_, rfl⟩
                rw [e8] at hl8 ho8 rB
                have E8 : Unit → nodeC 0 q nilS = X8 := fun _ => e8
                clear e8
                go_wp2_with (first | refine load_node _ _ rB hl8 _ rfl rfl rfl ?_ | refine store_node _ _ rA hlZ X8 hl8 ho8 _ _ rfl rfl rfl rfl ?_)
                refine ret_node _ _ (rw_setRow rA) hl8 rfl rfl rfl ?_
                exact ⟨by first | (rw [hO]; exact ⟨⟨_, by rw [E8 ()]⟩, K2, by have := eK2 (); omega, rw_setRow_ne h hAR.symm⟩) | exact ⟨⟨_, by rw [E8 ()]⟩, K2, by have := eK2 (); omega, rw_setRow_ne h hAR.symm⟩, asd_setRow A (.inr hbA)⟩
          · have hO : O = some (q, r) := by
              rw [← HOc ()]
              rw [List.length_cons] at hm
              obtain ⟨m', rfl⟩ : ∃ m', m = m' + 1 := ⟨m - 1, by omega⟩
              simp [clsI, clsN, hk0]
            have hki : ((k : Int) == 0) = false := by rw [beq_eq_false_iff_ne]; omega
            clear HOc
            go_wp2_with fail
            go_loopw [13] (fun i wr => ∃ k : Nat, k ≤ 256 ∧ i = .int .i64 (k : Int) ∧ Rd wr R s K2 0 ∧ Rw wr bB 145 (nodeC 0 (q) nilS) ∧ Rw wr bA 145 Z ∧ Asd (· = R) w wr) (fun i _ => 256 - (intOf i).toNat)
            case atStart => exact ⟨0, by omega, rfl, h, rB, rA, A⟩
            case round =>
              clear h rB rA A
              obtain ⟨k, hk, rfl, h, rB, rA, A⟩ := hrel
              clear hk
              by_cases hk : (k : Int) < 256
              · skip
                have hl8 := nodeC_len 0 q nilS
                have ho8 := nodeC_one 0 q nil_one
                obtain ⟨X8, e8⟩ : ∃ X, nodeC 0 q nilS = X := ⟨_, rfl⟩
                rw [e8] at hl8 ho8 rB
                have E8 : Unit → nodeC 0 q nilS = X8 := fun _ => e8
                clear e8
                go_wp2_with (first | refine load_node _ _ rB hl8 _ rfl rfl rfl ?_ | refine store_node _ _ rA hlZ X8 hl8 ho8 _ _ rfl rfl rfl rfl ?_)
                refine ret_node _ _ (rw_setRow rA) hl8 rfl rfl rfl ?_
                exact ⟨by first | (rw [hO]; exact ⟨by rw [E8 ()], K2, hr, by have := eK2 (); omega, rw_setRow_ne h hAR.symm⟩) | exact ⟨by rw [E8 ()], K2, hr, by have := eK2 (); omega, rw_setRow_ne h hAR.symm⟩, asd_setRow A (.inr hbA)⟩
              · skip
                have hl8 := nodeC_len 0 q nilS
                have ho8 := nodeC_one 0 q nil_one
                obtain ⟨X8, e8⟩ : ∃ X, nodeC 0 q nilS = X := ⟨_, rfl⟩
                rw [e8] at hl8 ho8 rB
                have E8 : Unit → nodeC 0 q nilS = X8 := fun _ => e8
                clear e8
                go_wp2_with (first | refine load_node _ _ rB hl8 _ rfl rfl rfl ?_ | refine store_node _ _ rA hlZ X8 hl8 ho8 _ _ rfl rfl rfl rfl ?_)
                refine ret_node _ _ (rw_setRow rA) hl8 rfl rfl rfl ?_
                exact ⟨by first | (rw [hO]; exact ⟨by rw [E8 ()], K2, hr, by have := eK2 (); omega, rw_setRow_ne h hAR.symm⟩) | exact ⟨by rw [E8 ()], K2, hr, by have := eK2 (); omega, rw_setRow_ne h hAR.symm⟩, asd_setRow A (.inr hbA)⟩
        · have hne : ((c.toNat : Int) == 93) = false := u8_ne (n := 93) h93 (by decide)
          obtain ⟨OE, hOE⟩ : ∃ OE, elemN (c :: r) = OE := ⟨_, rfl⟩
          have HOE : Unit → elemN (c :: r) = OE := fun _ => hOE
          clear hOE
          go_wp2_with fail
          refine (K3.out _ h).mono ?_
          rintro e v9 ⟨rfl, hb⟩
          replace h := h.stay hb
          replace rA := rA.stay hb
          replace rB := rB.stay hb
          replace A := A.below hb
          clear hb
          clear K3
          go_wp2_with fail
          refine (K4.out _ h).mono ?_
          rintro e v90 ⟨hS, A'⟩
          clear h K4
          replace rA := rA.keep A' hAR
          replace rB := rB.keep A' hBR
          replace A := A.andThen A'
          clear A'
          cases hg : signN (c :: r) with
            | none =>
              rw [hg] at hS
              obtain ⟨⟨f, rfl⟩, K5, hK5, h⟩ := hS
              have hO2 : OE = none := by rw [← HOE ()]; simp [elemN, hg]
              have K6 := Lib.hid fun w' h => next_err (R := R) (K := K5) (s := s) (E := 2) (by decide) w' h
              clear hd hg
              go_wp2_with fail
              refine (K6.out _ h).mono ?_
              rintro e v10 ⟨rfl, hb⟩
              replace h := h.stay hb
              replace rA := rA.stay hb
              replace rB := rB.stay hb
              replace A := A.below hb
              clear hb
              clear K6
              skip
              go_upto_region 19 with fail
              try simp only [List.append_eq, List.cons_append, List.nil_append]
              refine region_class (fun w' => Below v10.heap.size v10 w' ∧ True) (by kernel_rfl) (by kernel_rfl) (⟨(Below.refl _ _).drew, trivial⟩) ?_
              repeat
                first
                | go_big_quiet_skip
                | (go_big_quiet_want
                   refine quiet_val ?_
                   apply Exists.intro
                   refine ⟨fun w' hw' => ?_, ?_⟩
                   · obtain ⟨_, _⟩ := hw'
                     go_simp
                     first | done | rfl | exact ⟨rfl, rfl⟩
                   simp only [Act.put, List.setIfInBounds_toArray, List.set_cons_zero, List.set_cons_succ]
                   go_big_quiet_on)
                | (go_big_quiet_want
                   refine quiet_call ?_
                   apply Exists.intro
                   apply Exists.intro
                   refine ⟨fun w' => ?_, ?_⟩
                   · go_simp
                     first | done | rfl | exact ⟨rfl, rfl⟩
                   apply Exists.intro
                   refine ⟨fun w' hw' => ?_, ?_⟩
                   · first
                     | fail
                   simp only [Act.put, List.setIfInBounds_toArray, List.set_cons_zero, List.set_cons_succ]
                   go_big_quiet_on)
              refine wpQuiet_nil ?_
              intro w5 hw5
              have hb5 := hw5.1
              clear hw5
              replace h := h.stay hb5
              replace rA := rA.stay hb5
              replace rB := rB.stay hb5
              replace A := A.below hb5
              clear hb5
              have hff : ¬ ((f.toNat : Int) < (f.toNat : Int)) := by omega
              replace HOE : Unit → elemN (c :: r) = none := fun _ => by rw [HOE (), hO2]
              clear hO2
              have hfb : f.toNat < 256 := f.toNat_lt
              go_wp2_with fail
              go_loopw [12] (fun i wr => ∃ kk : Nat, f.toNat ≤ kk ∧ kk < 257 ∧ (kk = f.toNat ∨ kk ≤ f.toNat + 1) ∧ i = .int .i64 (kk : Int) ∧ Rd wr R s K5 2 ∧ Rw wr bB 145 (nodeC 0 (upto q f kk) nilS) ∧ Rw wr bA 145 Z ∧ Asd (· = R) w wr) (fun i _ => f.toNat + 1 - (intOf i).toNat)
              case atStart => exact ⟨f.toNat, by omega, by have := f.toNat_lt; omega, .inl rfl, rfl, h, by rw [upto_start]; exact rB, rA, A⟩
              case round =>
                clear h rB rA A
                obtain ⟨kk, hk0, hk1, hk2, rfl, h, rB, rA, A⟩ := hrel
                have hbl := f.toNat_lt
                by_cases hlt : kk ≤ f.toNat
                · have hc := (rB.cell (1 + kk)).trans (nodeC_bit 0 (upto q f kk) nilS (by omega))
                  have hfz := rB.frozen (1 + kk)
                  go_wp2_with fail
                  go_roundw
                  case rel =>
                    refine ⟨kk + 1, by omega, by omega, .inr (by omega), by go_num, Rw.other h hBR.symm _ _, ?_, rA.other hBA _ _, A.setCell (p := ⟨bB, 1 + kk, none⟩) (.inr hbB) _⟩
                    have := rB.setCell (1 + kk) (.bool true)
                    rw [nodeC_putBit _ _ _ (by omega), upto_step q f hk0 (by omega)] at this
                    exact this
                  case measure => simp [intOf]; omega
                · have hnot : ¬ ((kk : Int) ≤ (f.toNat : Int)) := by omega
                  have e2 := clsI_none (k := k) (m := m) (q := q) h93 (HOE ())
                  have he : upto q f kk = fun x => q x || (decide (f ≤ x) && decide (x ≤ f)) := by
                    rcases hk2 with rfl | hk2
                    · rw [upto_start, upto_void q (by rw [UInt8.lt_iff_toNat_lt]; omega)]
                    · obtain rfl : kk = f.toNat + 1 := by omega
                      exact upto_end q f f
                  go_wp2_with fail
                  go_roundw
                  case rel => exact ⟨k + 1, upto q f kk, K5, 2, by go_num, h, rB, rA, A, .inr ⟨rfl, by rw [← HOc (), e2], by omega, by omega⟩⟩
                  case measure =>
                    rw [hL, h.left2 (by decide)]
                    omega
            | some fr =>
              obtain ⟨f, r1⟩ := fr
              rw [hg] at hS
              obtain ⟨rfl, K5, hr1, hK5, h⟩ := hS
              have hlt := signN_len hg
              have hKK : K9 < K5 := by
                have e1 := congrArg List.length hr1
                rw [List.length_drop] at e1
                rw [List.length_cons] at hlt
                omega
              have hff : ¬ ((f.toNat : Int) < (f.toNat : Int)) := by omega
              have hK5b : K5 ≤ 100 := by omega
              cases r1 with
              | nil =>
                have hO2 : OE = some ((f, f), s.drop K5) := by rw [← HOE (), hr1]; simp [elemN, hg]
                have K6 := Lib.hid fun w' h => next_end (R := R) hr1 w' h
                clear hd hg hr1
                go_wp2_with fail
                refine (K6.out _ h).mono ?_
                rintro e v11 ⟨rfl, hb⟩
                replace h := h.stay hb
                replace rA := rA.stay hb
                replace rB := rB.stay hb
                replace A := A.below hb
                clear hb
                clear K6
                skip
                go_upto_region 19 with fail
                try simp only [List.append_eq, List.cons_append, List.nil_append]
                refine region_class (fun w' => Below v11.heap.size v11 w' ∧ True) (by kernel_rfl) (by kernel_rfl) (⟨(Below.refl _ _).drew, trivial⟩) ?_
                repeat
                  first
                  | go_big_quiet_skip
                  | (go_big_quiet_want
                     refine quiet_val ?_
                     apply Exists.intro
                     refine ⟨fun w' hw' => ?_, ?_⟩
                     · obtain ⟨_, _⟩ := hw'
                       go_simp
                       first | done | rfl | exact ⟨rfl, rfl⟩
                     simp only [Act.put, List.setIfInBounds_toArray, List.set_cons_zero, List.set_cons_succ]
                     go_big_quiet_on)
                  | (go_big_quiet_want
                     refine quiet_call ?_
                     apply Exists.intro
                     apply Exists.intro
                     refine ⟨fun w' => ?_, ?_⟩
                     · go_simp
                       first | done | rfl | exact ⟨rfl, rfl⟩
                     apply Exists.intro
                     refine ⟨fun w' hw' => ?_, ?_⟩
                     · first
                       | fail
                     simp only [Act.put, List.setIfInBounds_toArray, List.set_cons_zero, List.set_cons_succ]
                     go_big_quiet_on)
                refine wpQuiet_nil ?_
                intro w5 hw5
                have hb5 := hw5.1
                clear hw5
                replace h := h.stay hb5
                replace rA := rA.stay hb5
                replace rB := rB.stay hb5
                replace A := A.below hb5
                clear hb5
                replace HOE : Unit → elemN (c :: r) = some ((f, f), s.drop K5) := fun _ => by rw [HOE (), hO2]
                clear hO2
                have hfb : f.toNat < 256 := f.toNat_lt
                go_wp2_with fail
                go_loopw [12] (fun i wr => ∃ kk : Nat, f.toNat ≤ kk ∧ kk < 257 ∧ (kk = f.toNat ∨ kk ≤ f.toNat + 1) ∧ i = .int .i64 (kk : Int) ∧ Rd wr R s K5 0 ∧ Rw wr bB 145 (nodeC 0 (upto q f kk) nilS) ∧ Rw wr bA 145 Z ∧ Asd (· = R) w wr) (fun i _ => f.toNat + 1 - (intOf i).toNat)
                case atStart => exact ⟨f.toNat, by omega, by have := f.toNat_lt; omega, .inl rfl, rfl, h, by rw [upto_start]; exact rB, rA, A⟩
                case round =>
                  clear h rB rA A
                  obtain ⟨kk, hk0, hk1, hk2, rfl, h, rB, rA, A⟩ := hrel
                  have hbl := f.toNat_lt
                  by_cases hlt : kk ≤ f.toNat
                  · have hc := (rB.cell (1 + kk)).trans (nodeC_bit 0 (upto q f kk) nilS (by omega))
                    have hfz := rB.frozen (1 + kk)
                    go_wp2_with fail
                    go_roundw
                    case rel =>
                      refine ⟨kk + 1, by omega, by omega, .inr (by omega), by go_num, Rw.other h hBR.symm _ _, ?_, rA.other hBA _ _, A.setCell (p := ⟨bB, 1 + kk, none⟩) (.inr hbB) _⟩
                      have := rB.setCell (1 + kk) (.bool true)
                      rw [nodeC_putBit _ _ _ (by omega), upto_step q f hk0 (by omega)] at this
                      exact this
                    case measure => simp [intOf]; omega
                  · have hnot : ¬ ((kk : Int) ≤ (f.toNat : Int)) := by omega
                    obtain ⟨m', hm', e2⟩ := clsI_some (k := k) (q := q) h93 (HOE ()) hm
                    have he : upto q f kk = fun x => q x || (decide (f ≤ x) && decide (x ≤ f)) := by
                      rcases hk2 with rfl | hk2
                      · rw [upto_start, upto_void q (by rw [UInt8.lt_iff_toNat_lt]; omega)]
                      · obtain rfl : kk = f.toNat + 1 := by omega
                        exact upto_end q f f
                    go_wp2_with fail
                    go_roundw
                    case rel => exact ⟨k + 1, upto q f kk, K5, 0, by go_num, h, rB, rA, A, .inl ⟨rfl, by omega, by omega, m', hm', by rw [← HOc (), e2, he]⟩⟩
                    case measure =>
                      rw [hL, h.left0]
                      omega
              | cons y r2 =>
                have K6 := Lib.hid fun w' h => next_hit (R := R) hr1 w' h
                obtain ⟨hy0, hr2, hk2, hn2⟩ := drop_cons hr1
                by_cases h45 : y = 45
                · subst h45
                  cases r2 with
                  | nil =>
                    have hO2 : OE = some ((f, f), s.drop K5) := by rw [← HOE (), hr1]; simp [elemN, hg]
                    have hge : ¬ ((K5 : Int) + 1 < (s.length : Int)) := by simp at hn2; omega
                    have hgd : (decide ((K5 : Int) + 1 < (s.length : Int))) = false := by simp only [decide_eq_false_iff_not]; exact hge
                    clear hd hg hr1 hy0 hr2 hn2
                    go_wp2_with fail
                    refine (K6.out _ h).mono ?_
                    rintro e v12 ⟨rfl, hb⟩
                    replace h := h.stay hb
                    replace rA := rA.stay hb
                    replace rB := rB.stay hb
                    replace A := A.below hb
                    clear hb
                    clear K6
                    have hwr : IntKind.i64.wrap ((K5 : Int) + 1) = (K5 : Int) + 1 := wrap_i64 (by omega) (by omega)
                    have c0 := h.text
                    have c1 := h.pos
                    have hsz : (⟨s.toArray⟩ : ByteArray).size = s.length := by simp [ByteArray.size]
                    generalize (⟨s.toArray⟩ : ByteArray) = X at *
                    go_upto_region 19 with fail
                    try simp only [List.append_eq, List.cons_append, List.nil_append]
                    refine region_class (fun w' => Below v12.heap.size v12 w' ∧ w'.cell? ⟨R, 0, none⟩ = some (.string X) ∧ w'.cell? ⟨R, 1, none⟩ = some (.int .i64 (K5 : Int))) (by kernel_rfl) (by kernel_rfl) (⟨(Below.refl _ _).drew, c0, c1⟩) ?_
                    repeat
                      first
                      | go_big_quiet_skip
                      | (go_big_quiet_want
                         refine quiet_val ?_
                         apply Exists.intro
                         refine ⟨fun w' hw' => ?_, ?_⟩
                         · obtain ⟨_, e0, e1⟩ := hw'
                           go_simp
                           first | done | rfl | exact ⟨rfl, rfl⟩
                         simp only [Act.put, List.setIfInBounds_toArray, List.set_cons_zero, List.set_cons_succ]
                         go_big_quiet_on)
                      | (go_big_quiet_want
                         refine quiet_call ?_
                         apply Exists.intro
                         apply Exists.intro
                         refine ⟨fun w' => ?_, ?_⟩
                         · go_simp
                           first | done | rfl | exact ⟨rfl, rfl⟩
                         apply Exists.intro
                         refine ⟨fun w' hw' => ?_, ?_⟩
                         · first
                           | fail
                         simp only [Act.put, List.setIfInBounds_toArray, List.set_cons_zero, List.set_cons_succ]
                         go_big_quiet_on)
                    refine wpQuiet_nil ?_
                    intro w5 hw5
                    have hb5 := hw5.1
                    clear hw5
                    replace h := h.stay hb5
                    replace rA := rA.stay hb5
                    replace rB := rB.stay hb5
                    replace A := A.below hb5
                    clear hb5
                    clear c0 c1 hsz hwr
                    replace HOE : Unit → elemN (c :: r) = some ((f, f), s.drop K5) := fun _ => by rw [HOE (), hO2]
                    clear hO2
                    have hfb : f.toNat < 256 := f.toNat_lt
                    go_wp2_with fail
                    go_loopw [12] (fun i wr => ∃ kk : Nat, f.toNat ≤ kk ∧ kk < 257 ∧ (kk = f.toNat ∨ kk ≤ f.toNat + 1) ∧ i = .int .i64 (kk : Int) ∧ Rd wr R s K5 0 ∧ Rw wr bB 145 (nodeC 0 (upto q f kk) nilS) ∧ Rw wr bA 145 Z ∧ Asd (· = R) w wr) (fun i _ => f.toNat + 1 - (intOf i).toNat)
                    case atStart => exact ⟨f.toNat, by omega, by have := f.toNat_lt; omega, .inl rfl, rfl, h, by rw [upto_start]; exact rB, rA, A⟩
                    case round =>
                      clear h rB rA A
                      obtain ⟨kk, hk0, hk1, hk2, rfl, h, rB, rA, A⟩ := hrel
                      have hbl := f.toNat_lt
                      by_cases hlt : kk ≤ f.toNat
                      · have hc := (rB.cell (1 + kk)).trans (nodeC_bit 0 (upto q f kk) nilS (by omega))
                        have hfz := rB.frozen (1 + kk)
                        go_wp2_with fail
                        go_roundw
                        case rel =>
                          refine ⟨kk + 1, by omega, by omega, .inr (by omega), by go_num, Rw.other h hBR.symm _ _, ?_, rA.other hBA _ _, A.setCell (p := ⟨bB, 1 + kk, none⟩) (.inr hbB) _⟩
                          have := rB.setCell (1 + kk) (.bool true)
                          rw [nodeC_putBit _ _ _ (by omega), upto_step q f hk0 (by omega)] at this
                          exact this
                        case measure => simp [intOf]; omega
                      · have hnot : ¬ ((kk : Int) ≤ (f.toNat : Int)) := by omega
                        obtain ⟨m', hm', e2⟩ := clsI_some (k := k) (q := q) h93 (HOE ()) hm
                        have he : upto q f kk = fun x => q x || (decide (f ≤ x) && decide (x ≤ f)) := by
                          rcases hk2 with rfl | hk2
                          · rw [upto_start, upto_void q (by rw [UInt8.lt_iff_toNat_lt]; omega)]
                          · obtain rfl : kk = f.toNat + 1 := by omega
                            exact upto_end q f f
                        go_wp2_with fail
                        go_roundw
                        case rel => exact ⟨k + 1, upto q f kk, K5, 0, by go_num, h, rB, rA, A, .inl ⟨rfl, by omega, by omega, m', hm', by rw [← HOc (), e2, he]⟩⟩
                        case measure =>
                          rw [hL, h.left0]
                          omega
                  | cons z r3 =>
                    have hge : ((K5 : Int) + 1 < (s.length : Int)) := by simp at hn2; omega
                    obtain ⟨hz0, hr3, hk3, hn3⟩ := drop_cons hr2
                    have hn2s : Unit → (z :: r3).length + K5 + 1 = s.length := fun _ => hn2
                    have hi := at_text s (K5 + 1) z hz0 ((K5 : Int) + 1) (by omega)
                    by_cases hz : z = 93
                    · subst hz
                      have hO2 : OE = some ((f, f), s.drop K5) := by rw [← HOE (), hr1]; simp [elemN, hg]
                      clear hd hg hr1 hy0 hr2 hn2 hz0 hr3 hn3
                      go_wp2_with fail
                      refine (K6.out _ h).mono ?_
                      rintro e v13 ⟨rfl, hb⟩
                      replace h := h.stay hb
                      replace rA := rA.stay hb
                      replace rB := rB.stay hb
                      replace A := A.below hb
                      clear hb
                      clear K6
                      have hwr : IntKind.i64.wrap ((K5 : Int) + 1) = (K5 : Int) + 1 := wrap_i64 (by omega) (by omega)
                      have c0 := h.text
                      have c1 := h.pos
                      have hsz : (⟨s.toArray⟩ : ByteArray).size = s.length := by simp [ByteArray.size]
                      generalize (⟨s.toArray⟩ : ByteArray) = X at *
                      go_upto_region 19 with fail
                      try simp only [List.append_eq, List.cons_append, List.nil_append]
                      refine region_class (fun w' => Below v13.heap.size v13 w' ∧ w'.cell? ⟨R, 0, none⟩ = some (.string X) ∧ w'.cell? ⟨R, 1, none⟩ = some (.int .i64 (K5 : Int))) (by kernel_rfl) (by kernel_rfl) (⟨(Below.refl _ _).drew, c0, c1⟩) ?_
                      repeat
                        first
                        | go_big_quiet_skip
                        | (go_big_quiet_want
                           refine quiet_val ?_
                           apply Exists.intro
                           refine ⟨fun w' hw' => ?_, ?_⟩
                           · obtain ⟨_, e0, e1⟩ := hw'
                             go_simp
                             first | done | rfl | exact ⟨rfl, rfl⟩
                           simp only [Act.put, List.setIfInBounds_toArray, List.set_cons_zero, List.set_cons_succ]
                           go_big_quiet_on)
                        | (go_big_quiet_want
                           refine quiet_call ?_
                           apply Exists.intro
                           apply Exists.intro
                           refine ⟨fun w' => ?_, ?_⟩
                           · go_simp
                             first | done | rfl | exact ⟨rfl, rfl⟩
                           apply Exists.intro
                           refine ⟨fun w' hw' => ?_, ?_⟩
                           · first
                             | fail
                           simp only [Act.put, List.setIfInBounds_toArray, List.set_cons_zero, List.set_cons_succ]
                           go_big_quiet_on)
                      refine wpQuiet_nil ?_
                      intro w5 hw5
                      have hb5 := hw5.1
                      clear hw5
                      replace h := h.stay hb5
                      replace rA := rA.stay hb5
                      replace rB := rB.stay hb5
                      replace A := A.below hb5
                      clear hb5
                      clear c0 c1 hsz hwr hi
                      replace HOE : Unit → elemN (c :: r) = some ((f, f), s.drop K5) := fun _ => by rw [HOE (), hO2]
                      clear hO2
                      have hfb : f.toNat < 256 := f.toNat_lt
                      go_wp2_with fail
                      go_loopw [12] (fun i wr => ∃ kk : Nat, f.toNat ≤ kk ∧ kk < 257 ∧ (kk = f.toNat ∨ kk ≤ f.toNat + 1) ∧ i = .int .i64 (kk : Int) ∧ Rd wr R s K5 0 ∧ Rw wr bB 145 (nodeC 0 (upto q f kk) nilS) ∧ Rw wr bA 145 Z ∧ Asd (· = R) w wr) (fun i _ => f.toNat + 1 - (intOf i).toNat)
                      case atStart => exact ⟨f.toNat, by omega, by have := f.toNat_lt; omega, .inl rfl, rfl, h, by rw [upto_start]; exact rB, rA, A⟩
                      case round =>
                        clear h rB rA A
                        obtain ⟨kk, hk0, hk1, hk2, rfl, h, rB, rA, A⟩ := hrel
                        have hbl := f.toNat_lt
                        by_cases hlt : kk ≤ f.toNat
                        · have hc := (rB.cell (1 + kk)).trans (nodeC_bit 0 (upto q f kk) nilS (by omega))
                          have hfz := rB.frozen (1 + kk)
                          go_wp2_with fail
                          go_roundw
                          case rel =>
                            refine ⟨kk + 1, by omega, by omega, .inr (by omega), by go_num, Rw.other h hBR.symm _ _, ?_, rA.other hBA _ _, A.setCell (p := ⟨bB, 1 + kk, none⟩) (.inr hbB) _⟩
                            have := rB.setCell (1 + kk) (.bool true)
                            rw [nodeC_putBit _ _ _ (by omega), upto_step q f hk0 (by omega)] at this
                            exact this
                          case measure => simp [intOf]; omega
                        · have hnot : ¬ ((kk : Int) ≤ (f.toNat : Int)) := by omega
                          obtain ⟨m', hm', e2⟩ := clsI_some (k := k) (q := q) h93 (HOE ()) hm
                          have he : upto q f kk = fun x => q x || (decide (f ≤ x) && decide (x ≤ f)) := by
                            rcases hk2 with rfl | hk2
                            · rw [upto_start, upto_void q (by rw [UInt8.lt_iff_toNat_lt]; omega)]
                            · obtain rfl : kk = f.toNat + 1 := by omega
                              exact upto_end q f f
                          go_wp2_with fail
                          go_roundw
                          case rel => exact ⟨k + 1, upto q f kk, K5, 0, by go_num, h, rB, rA, A, .inl ⟨rfl, by omega, by omega, m', hm', by rw [← HOc (), e2, he]⟩⟩
                          case measure =>
                            rw [hL, h.left0]
                            omega
                    · have hzn : ((z.toNat : Int) == 93) = false := u8_ne (n := 93) hz (by decide)
                      have hzn2 : ((z.toNat : Int) != 93) = true := by rw [bne, hzn]; rfl
                      obtain ⟨K7, hKb7, eK7⟩ : ∃ K7, K7 ≤ 101 ∧ (Unit → K7 = K5 + 1) := ⟨_, by omega, fun _ => rfl⟩
                      have hO2 : OE = match signN (z :: r3) with | none => none | some (l, r'') => if f ≤ l then some ((f, l), r'') else none := by
                        rw [← HOE ()]
                        simp [elemN, hg, hz]
                        rfl
                      rw [← eK7 ()] at hr2 hk3
                      have K8 := Lib.hid fun w' h => sign_any R K7 s w' h hs (by omega)
                      rw [hr2] at K8
                      clear hd hg hr1 hy0 hz0 hr3 hn3 hn2 hr2
                      go_wp2_with fail
                      refine (K6.out _ h).mono ?_
                      rintro e v14 ⟨rfl, hb⟩
                      replace h := h.stay hb
                      replace rA := rA.stay hb
                      replace rB := rB.stay hb
                      replace A := A.below hb
                      clear hb
                      clear K6
                      have hwr : IntKind.i64.wrap ((K5 : Int) + 1) = (K5 : Int) + 1 := wrap_i64 (by omega) (by omega)
                      have c0 := h.text
                      have c1 := h.pos
                      have hsz : (⟨s.toArray⟩ : ByteArray).size = s.length := by simp [ByteArray.size]
                      generalize (⟨s.toArray⟩ : ByteArray) = X at *
                      go_upto_region 19 with fail
                      try simp only [List.append_eq, List.cons_append, List.nil_append]
                      refine region_class (fun w' => Below v14.heap.size v14 w' ∧ w'.cell? ⟨R, 0, none⟩ = some (.string X) ∧ w'.cell? ⟨R, 1, none⟩ = some (.int .i64 (K5 : Int))) (by kernel_rfl) (by kernel_rfl) (⟨(Below.refl _ _).drew, c0, c1⟩) ?_
                      repeat
                        first
                        | go_big_quiet_skip
                        | (go_big_quiet_want
                           refine quiet_val ?_
                           apply Exists.intro
                           refine ⟨fun w' hw' => ?_, ?_⟩
                           · obtain ⟨_, e0, e1⟩ := hw'
                             go_simp
                             first | done | rfl | exact ⟨rfl, rfl⟩
                           simp only [Act.put, List.setIfInBounds_toArray, List.set_cons_zero, List.set_cons_succ]
                           go_big_quiet_on)
                        | (go_big_quiet_want
                           refine quiet_call ?_
                           apply Exists.intro
                           apply Exists.intro
                           refine ⟨fun w' => ?_, ?_⟩
                           · go_simp
                             first | done | rfl | exact ⟨rfl, rfl⟩
                           apply Exists.intro
                           refine ⟨fun w' hw' => ?_, ?_⟩
                           · first
                             | fail
                           simp only [Act.put, List.setIfInBounds_toArray, List.set_cons_zero, List.set_cons_succ]
                           go_big_quiet_on)
                      refine wpQuiet_nil ?_
                      intro w5 hw5
                      have hb5 := hw5.1
                      clear hw5
                      replace h := h.stay hb5
                      replace rA := rA.stay hb5
                      replace rB := rB.stay hb5
                      replace A := A.below hb5
                      clear hb5
                      clear c0 c1 hsz hwr hi
                      have c1 := h.pos
                      have f1 := Rw.frozen h 1
                      go_upto_region 21 with fail
                      replace h := h.inc (eK7 ())
                      replace rA := rA.other hAR 1 (.int .i64 ((K5 : Int) + 1))
                      replace rB := rB.other hBR 1 (.int .i64 ((K5 : Int) + 1))
                      replace A := A.set1 1 (.int .i64 ((K5 : Int) + 1))
                      generalize w5.setCell ⟨R, 1, none⟩ (.int .i64 ((K5 : Int) + 1)) = v15 at *
                      clear c1 f1
                      go_wp2_with fail
                      refine (K8.out _ h).mono ?_
                      rintro e v91 ⟨hS, A'⟩
                      clear h K8
                      replace rA := rA.keep A' hAR
                      replace rB := rB.keep A' hBR
                      replace A := A.andThen A'
                      clear A'
                      cases hg2 : signN (z :: r3) with
                      | none =>
                        rw [hg2] at hS hO2
                        obtain ⟨⟨b, rfl⟩, K6, hK6, h⟩ := hS
                        have K8 := Lib.hid fun w' h => fail_old (R := R) (K := K6) (s := s) (E := 2) (by decide) 2 w' h
                        by_cases hlb : (b.toNat : Int) < (f.toNat : Int)
                        · go_wp2_with fail
                          refine (K8.out _ h).mono ?_
                          rintro e v16 ⟨rfl, h', A'⟩
                          replace h := h'
                          replace rA := rA.keep A' hAR
                          replace rB := rB.keep A' hBR
                          replace A := A.andThen A'
                          clear h' A' 
                          replace HOE : Unit → elemN (c :: r) = none := fun _ => by rw [HOE (), hO2]
                          clear hO2
                          have hfb : f.toNat < 256 := f.toNat_lt
                          go_wp2_with fail
                          go_loopw [12] (fun i wr => ∃ kk : Nat, f.toNat ≤ kk ∧ kk < 257 ∧ (kk = f.toNat ∨ kk ≤ b.toNat + 1) ∧ i = .int .i64 (kk : Int) ∧ Rd wr R s K6 2 ∧ Rw wr bB 145 (nodeC 0 (upto q f kk) nilS) ∧ Rw wr bA 145 Z ∧ Asd (· = R) w wr) (fun i _ => b.toNat + 1 - (intOf i).toNat)
                          case atStart => exact ⟨f.toNat, by omega, by have := f.toNat_lt; omega, .inl rfl, rfl, h, by rw [upto_start]; exact rB, rA, A⟩
                          case round =>
                            clear h rB rA A
                            obtain ⟨kk, hk0, hk1, hk2, rfl, h, rB, rA, A⟩ := hrel
                            have hbl := b.toNat_lt
                            by_cases hlt : kk ≤ b.toNat
                            · exfalso; omega
                            · have hnot : ¬ ((kk : Int) ≤ (b.toNat : Int)) := by omega
                              have e2 := clsI_none (k := k) (m := m) (q := q) h93 (HOE ())
                              have he : upto q f kk = fun x => q x || (decide (f ≤ x) && decide (x ≤ b)) := by
                                rcases hk2 with rfl | hk2
                                · rw [upto_start, upto_void q (by rw [UInt8.lt_iff_toNat_lt]; omega)]
                                · obtain rfl : kk = b.toNat + 1 := by omega
                                  exact upto_end q f b
                              go_wp2_with fail
                              go_roundw
                              case rel => exact ⟨k + 1, upto q f kk, K6, 2, by go_num, h, rB, rA, A, .inr ⟨rfl, by rw [← HOc (), e2], by omega, by omega⟩⟩
                              case measure =>
                                rw [hL, h.left2 (by decide)]
                                omega
                        · skip
                          replace HOE : Unit → elemN (c :: r) = none := fun _ => by rw [HOE (), hO2]
                          clear hO2
                          have hfb : f.toNat < 256 := f.toNat_lt
                          go_wp2_with fail
                          go_loopw [12] (fun i wr => ∃ kk : Nat, f.toNat ≤ kk ∧ kk < 257 ∧ (kk = f.toNat ∨ kk ≤ b.toNat + 1) ∧ i = .int .i64 (kk : Int) ∧ Rd wr R s K6 2 ∧ Rw wr bB 145 (nodeC 0 (upto q f kk) nilS) ∧ Rw wr bA 145 Z ∧ Asd (· = R) w wr) (fun i _ => b.toNat + 1 - (intOf i).toNat)
                          case atStart => exact ⟨f.toNat, by omega, by have := f.toNat_lt; omega, .inl rfl, rfl, h, by rw [upto_start]; exact rB, rA, A⟩
                          case round =>
                            clear h rB rA A
                            obtain ⟨kk, hk0, hk1, hk2, rfl, h, rB, rA, A⟩ := hrel
                            have hbl := b.toNat_lt
                            by_cases hlt : kk ≤ b.toNat
                            · have hc := (rB.cell (1 + kk)).trans (nodeC_bit 0 (upto q f kk) nilS (by omega))
                              have hfz := rB.frozen (1 + kk)
                              go_wp2_with fail
                              go_roundw
                              case rel =>
                                refine ⟨kk + 1, by omega, by omega, .inr (by omega), by go_num, Rw.other h hBR.symm _ _, ?_, rA.other hBA _ _, A.setCell (p := ⟨bB, 1 + kk, none⟩) (.inr hbB) _⟩
                                have := rB.setCell (1 + kk) (.bool true)
                                rw [nodeC_putBit _ _ _ (by omega), upto_step q f hk0 (by omega)] at this
                                exact this
                              case measure => simp [intOf]; omega
                            · have hnot : ¬ ((kk : Int) ≤ (b.toNat : Int)) := by omega
                              have e2 := clsI_none (k := k) (m := m) (q := q) h93 (HOE ())
                              have he : upto q f kk = fun x => q x || (decide (f ≤ x) && decide (x ≤ b)) := by
                                rcases hk2 with rfl | hk2
                                · rw [upto_start, upto_void q (by rw [UInt8.lt_iff_toNat_lt]; omega)]
                                · obtain rfl : kk = b.toNat + 1 := by omega
                                  exact upto_end q f b
                              go_wp2_with fail
                              go_roundw
                              case rel => exact ⟨k + 1, upto q f kk, K6, 2, by go_num, h, rB, rA, A, .inr ⟨rfl, by rw [← HOc (), e2], by omega, by omega⟩⟩
                              case measure =>
                                rw [hL, h.left2 (by decide)]
                                omega
                      | some br =>
                        obtain ⟨b, r4⟩ := br
                        rw [hg2] at hS hO2
                        obtain ⟨rfl, K6, hr4, hK6, h⟩ := hS
                        have hlt2 := signN_len hg2
                        by_cases hlb : (b.toNat : Int) < (f.toNat : Int)
                        · have hno : ¬ f ≤ b := by rw [UInt8.le_iff_toNat_le]; omega
                          simp only [hno, if_false] at hO2
                          have K8 := Lib.hid fun w' h => fail_new (R := R) (K := K6) (s := s) 2 w' h
                          go_wp2_with fail
                          refine (K8.out _ h).mono ?_
                          rintro e v17 ⟨rfl, h', A'⟩
                          replace h := h'
                          replace rA := rA.keep A' hAR
                          replace rB := rB.keep A' hBR
                          replace A := A.andThen A'
                          clear h' A' 
                          replace HOE : Unit → elemN (c :: r) = none := fun _ => by rw [HOE (), hO2]
                          clear hO2
                          have hfb : f.toNat < 256 := f.toNat_lt
                          go_wp2_with fail
                          go_loopw [12] (fun i wr => ∃ kk : Nat, f.toNat ≤ kk ∧ kk < 257 ∧ (kk = f.toNat ∨ kk ≤ b.toNat + 1) ∧ i = .int .i64 (kk : Int) ∧ Rd wr R s K6 2 ∧ Rw wr bB 145 (nodeC 0 (upto q f kk) nilS) ∧ Rw wr bA 145 Z ∧ Asd (· = R) w wr) (fun i _ => b.toNat + 1 - (intOf i).toNat)
                          case atStart => exact ⟨f.toNat, by omega, by have := f.toNat_lt; omega, .inl rfl, rfl, h, by rw [upto_start]; exact rB, rA, A⟩
                          case round =>
                            clear h rB rA A
                            obtain ⟨kk, hk0, hk1, hk2, rfl, h, rB, rA, A⟩ := hrel
                            have hbl := b.toNat_lt
                            by_cases hlt : kk ≤ b.toNat
                            · exfalso; omega
                            · have hnot : ¬ ((kk : Int) ≤ (b.toNat : Int)) := by omega
                              have e2 := clsI_none (k := k) (m := m) (q := q) h93 (HOE ())
                              have he : upto q f kk = fun x => q x || (decide (f ≤ x) && decide (x ≤ b)) := by
                                rcases hk2 with rfl | hk2
                                · rw [upto_start, upto_void q (by rw [UInt8.lt_iff_toNat_lt]; omega)]
                                · obtain rfl : kk = b.toNat + 1 := by omega
                                  exact upto_end q f b
                              go_wp2_with fail
                              go_roundw
                              case rel => exact ⟨k + 1, upto q f kk, K6, 2, by go_num, h, rB, rA, A, .inr ⟨rfl, by rw [← HOc (), e2], by omega, by omega⟩⟩
                              case measure =>
                                rw [hL, h.left2 (by decide)]
                                omega
                        · have hyes : f ≤ b := by rw [UInt8.le_iff_toNat_le]; omega
                          simp only [hyes, if_true] at hO2
                          have hK67 : K9 < K6 := by
                            have e1 := congrArg List.length hr4
                            rw [List.length_drop] at e1
                            have := eK7 ()
                            have := hn2s ()
                            simp only [List.length_cons] at hlt2 this
                            omega
                          rw [← hr4] at hO2
                          replace HOE : Unit → elemN (c :: r) = some ((f, b), s.drop K6) := fun _ => by rw [HOE (), hO2]
                          clear hO2
                          have hfb : f.toNat < 256 := f.toNat_lt
                          go_wp2_with fail
                          go_loopw [12] (fun i wr => ∃ kk : Nat, f.toNat ≤ kk ∧ kk < 257 ∧ (kk = f.toNat ∨ kk ≤ b.toNat + 1) ∧ i = .int .i64 (kk : Int) ∧ Rd wr R s K6 0 ∧ Rw wr bB 145 (nodeC 0 (upto q f kk) nilS) ∧ Rw wr bA 145 Z ∧ Asd (· = R) w wr) (fun i _ => b.toNat + 1 - (intOf i).toNat)
                          case atStart => exact ⟨f.toNat, by omega, by have := f.toNat_lt; omega, .inl rfl, rfl, h, by rw [upto_start]; exact rB, rA, A⟩
                          case round =>
                            clear h rB rA A
                            obtain ⟨kk, hk0, hk1, hk2, rfl, h, rB, rA, A⟩ := hrel
                            have hbl := b.toNat_lt
                            by_cases hlt : kk ≤ b.toNat
                            · have hc := (rB.cell (1 + kk)).trans (nodeC_bit 0 (upto q f kk) nilS (by omega))
                              have hfz := rB.frozen (1 + kk)
                              go_wp2_with fail
                              go_roundw
                              case rel =>
                                refine ⟨kk + 1, by omega, by omega, .inr (by omega), by go_num, Rw.other h hBR.symm _ _, ?_, rA.other hBA _ _, A.setCell (p := ⟨bB, 1 + kk, none⟩) (.inr hbB) _⟩
                                have := rB.setCell (1 + kk) (.bool true)
                                rw [nodeC_putBit _ _ _ (by omega), upto_step q f hk0 (by omega)] at this
                                exact this
                              case measure => simp [intOf]; omega
                            · have hnot : ¬ ((kk : Int) ≤ (b.toNat : Int)) := by omega
                              obtain ⟨m', hm', e2⟩ := clsI_some (k := k) (q := q) h93 (HOE ()) hm
                              have he : upto q f kk = fun x => q x || (decide (f ≤ x) && decide (x ≤ b)) := by
                                rcases hk2 with rfl | hk2
                                · rw [upto_start, upto_void q (by rw [UInt8.lt_iff_toNat_lt]; omega)]
                                · obtain rfl : kk = b.toNat + 1 := by omega
                                  exact upto_end q f b
                              go_wp2_with fail
                              go_roundw
                              case rel => exact ⟨k + 1, upto q f kk, K6, 0, by go_num, h, rB, rA, A, .inl ⟨rfl, by omega, by omega, m', hm', by rw [← HOc (), e2, he]⟩⟩
                              case measure =>
                                rw [hL, h.left0]
                                omega
                · have h45n : ((y.toNat : Int) == 45) = false := u8_ne (n := 45) h45 (by decide)
                  have hO2 : OE = some ((f, f), s.drop K5) := by
                    rw [← HOE (), hr1]
                    cases r2 <;> simp [elemN, hg, h45]
                  clear hd hg hr1 hy0 hr2 hn2
                  go_wp2_with fail
                  refine (K6.out _ h).mono ?_
                  rintro e v18 ⟨rfl, hb⟩
                  replace h := h.stay hb
                  replace rA := rA.stay hb
                  replace rB := rB.stay hb
                  replace A := A.below hb
                  clear hb
                  clear K6
                  skip
                  go_upto_region 19 with fail
                  try simp only [List.append_eq, List.cons_append, List.nil_append]
                  refine region_class (fun w' => Below v18.heap.size v18 w' ∧ True) (by kernel_rfl) (by kernel_rfl) (⟨(Below.refl _ _).drew, trivial⟩) ?_
                  repeat
                    first
                    | go_big_quiet_skip
                    | (go_big_quiet_want
                       refine quiet_val ?_
                       apply Exists.intro
                       refine ⟨fun w' hw' => ?_, ?_⟩
                       · obtain ⟨_, _⟩ := hw'
                         go_simp
                         first | done | rfl | exact ⟨rfl, rfl⟩
                       simp only [Act.put, List.setIfInBounds_toArray, List.set_cons_zero, List.set_cons_succ]
                       go_big_quiet_on)
                    | (go_big_quiet_want
                       refine quiet_call ?_
                       apply Exists.intro
                       apply Exists.intro
                       refine ⟨fun w' => ?_, ?_⟩
                       · go_simp
                         first | done | rfl | exact ⟨rfl, rfl⟩
                       apply Exists.intro
                       refine ⟨fun w' hw' => ?_, ?_⟩
                       · first
                         | fail
                       simp only [Act.put, List.setIfInBounds_toArray, List.set_cons_zero, List.set_cons_succ]
                       go_big_quiet_on)
                  refine wpQuiet_nil ?_
                  intro w5 hw5
                  have hb5 := hw5.1
                  clear hw5
                  replace h := h.stay hb5
                  replace rA := rA.stay hb5
                  replace rB := rB.stay hb5
                  replace A := A.below hb5
                  clear hb5
                  replace HOE : Unit → elemN (c :: r) = some ((f, f), s.drop K5) := fun _ => by rw [HOE (), hO2]
                  clear hO2
                  have hfb : f.toNat < 256 := f.toNat_lt
                  go_wp2_with fail
                  go_loopw [12] (fun i wr => ∃ kk : Nat, f.toNat ≤ kk ∧ kk < 257 ∧ (kk = f.toNat ∨ kk ≤ f.toNat + 1) ∧ i = .int .i64 (kk : Int) ∧ Rd wr R s K5 0 ∧ Rw wr bB 145 (nodeC 0 (upto q f kk) nilS) ∧ Rw wr bA 145 Z ∧ Asd (· = R) w wr) (fun i _ => f.toNat + 1 - (intOf i).toNat)
                  case atStart => exact ⟨f.toNat, by omega, by have := f.toNat_lt; omega, .inl rfl, rfl, h, by rw [upto_start]; exact rB, rA, A⟩
                  case round =>
                    clear h rB rA A
                    obtain ⟨kk, hk0, hk1, hk2, rfl, h, rB, rA, A⟩ := hrel
                    have hbl := f.toNat_lt
                    by_cases hlt : kk ≤ f.toNat
                    · have hc := (rB.cell (1 + kk)).trans (nodeC_bit 0 (upto q f kk) nilS (by omega))
                      have hfz := rB.frozen (1 + kk)
                      go_wp2_with fail
                      go_roundw
                      case rel =>
                        refine ⟨kk + 1, by omega, by omega, .inr (by omega), by go_num, Rw.other h hBR.symm _ _, ?_, rA.other hBA _ _, A.setCell (p := ⟨bB, 1 + kk, none⟩) (.inr hbB) _⟩
                        have := rB.setCell (1 + kk) (.bool true)
                        rw [nodeC_putBit _ _ _ (by omega), upto_step q f hk0 (by omega)] at this
                        exact this
                      case measure => simp [intOf]; omega
                    · have hnot : ¬ ((kk : Int) ≤ (f.toNat : Int)) := by omega
                      obtain ⟨m', hm', e2⟩ := clsI_some (k := k) (q := q) h93 (HOE ()) hm
                      have he : upto q f kk = fun x => q x || (decide (f ≤ x) && decide (x ≤ f)) := by
                        rcases hk2 with rfl | hk2
                        · rw [upto_start, upto_void q (by rw [UInt8.lt_iff_toNat_lt]; omega)]
                        · obtain rfl : kk = f.toNat + 1 := by omega
                          exact upto_end q f f
                      go_wp2_with fail
                      go_roundw
                      case rel => exact ⟨k + 1, upto q f kk, K5, 0, by go_num, h, rB, rA, A, .inl ⟨rfl, by omega, by omega, m', hm', by rw [← HOc (), e2, he]⟩⟩
                      case measure =>
                        rw [hL, h.left0]
                        omega
end Go.Proofs.YtknhkmlihbgjpaaDoor.Dn
/- The document's pattern reader: class, behind a ^, and any (the walk is written by wip/tools/gnot.py out of XQClass). -/
namespace Go.Proofs.YtknhkmlihbgjpaaDoor.Dn
open Go.ChangeShapes Go.WideShapes Go.RowKit

set_option maxHeartbeats 6400000 in
set_option maxRecDepth 100000 in
theorem class_not (R K0 : Nat) (s l : Bs) (w : World) (h : Rd w R s K0 0) (hs : s.length ≤ 100) (hl0 : s.drop K0 = 94 :: l) :
    Calls Tryd.prog 117 #[.pointer (some ⟨R, 0, none⟩)] w fun e w' => ClassP R s ((cls1 l).map (fun x => (fun b => !x.1 b, x.2))) e w' ∧ Asd (· = R) w w' := by
  obtain ⟨hc9, hl9, hk9, hn9⟩ := drop_cons hl0
  obtain ⟨K, hKb, eK⟩ : ∃ K, K ≤ 101 ∧ (Unit → K = K0 + 1) := ⟨_, by omega, fun _ => rfl⟩
  have hl : s.drop K = l := by rw [eK ()]; exact hl9
  have hK : K ≤ s.length := by have := eK (); omega
  have hK0 : K0 ≤ 100 := by omega
  clear hc9 hl9 hk9 hn9
  obtain ⟨O, hO⟩ : ∃ O, clsI 0 l.length noSet l = O := ⟨_, rfl⟩
  rw [← clsI_start, hO]
  have HO : Unit → clsI 0 l.length noSet l = O := fun _ => hO
  clear hO
  have K1 := Lib.hid fun w' h => next_hit (R := R) hl0 w' h
  have hzc := zero_node
  obtain ⟨Z, eZ⟩ : ∃ Z, nodeC 0 noSet nilS = Z := ⟨_, rfl⟩
  have hlZ := nodeC_len 0 noSet nilS
  have hoZ := nodeC_one 0 noSet nil_one
  rw [eZ] at hzc hlZ hoZ
  have EZ : Unit → nodeC 0 noSet nilS = Z := fun _ => eZ
  clear eZ
  have hR := Rw.lt h
  go_enter Tryd.func117, Tryd.ntmps117
  go_upto_region 1 with fail
  have rA := Rw.new w 145 Z
  have hb0 := (Below.refl w.heap.size w).alloc (Nat.le_refl _) (.cells Z.toArray 145)
  replace h := h.stay hb0
  generalize w.alloc (.cells Z.toArray 145) = w1 at *
  obtain ⟨bA, hbA, hA0⟩ : ∃ bA, w.heap.size ≤ bA ∧ w.heap.size = bA := ⟨_, Nat.le_refl _, rfl⟩
  rw [hA0] at rA
  simp only [hA0]
  have rB := Rw.new w1 145 Z
  have hb1 := (Below.refl w1.heap.size w1).alloc (Nat.le_refl _) (.cells Z.toArray 145)
  have hAB := Rw.lt rA
  go_upto_region 2 with (first | refine wpList_exec (exec_build0 Z hzc rfl _) rfl ?_ | refine store_node _ _ rB hlZ Z hlZ hoZ _ _ rfl rfl rfl rfl ?_)
  rw [World.setRow_alloc_new]
  have hsz := hb0.size
  have A := Asd.of_below (S := (fun k => k = R)) (hb0.trans (hb1.mono hb0.size))
  replace h := h.stay hb1
  replace rA := rA.stay hb1
  generalize w1.alloc (.cells Z.toArray 145) = w2 at *
  obtain ⟨bB, hB0⟩ : ∃ bB, w1.heap.size = bB := ⟨_, rfl⟩
  rw [hB0] at rB hAB hsz
  simp only [hB0]
  have hbB : w.heap.size ≤ bB := hsz
  have hBR : bB ≠ R := by omega
  have hAR : bA ≠ R := by omega
  have hBA : bA ≠ bB := by omega
  rw [← EZ ()] at rB
  clear hb0 hb1 hA0 hB0 hR hAB hsz
  go_wp2_with fail
  refine (K1.out _ h).mono ?_
  rintro e v1 ⟨rfl, hb⟩
  replace h := h.stay hb
  replace rA := rA.stay hb
  replace rB := rB.stay hb
  replace A := A.below hb
  clear hb
  clear K1
  have c1 := h.pos
  have f1 := Rw.frozen h 1
  go_upto_region 6 with fail
  replace h := h.inc (eK ())
  replace rA := rA.other hAR 1 (.int .i64 ((K0 : Int) + 1))
  replace rB := rB.other hBR 1 (.int .i64 ((K0 : Int) + 1))
  replace A := A.set1 1 (.int .i64 ((K0 : Int) + 1))
  generalize v1.setCell ⟨R, 1, none⟩ (.int .i64 ((K0 : Int) + 1)) = v19 at *
  clear c1 f1
  go_wp2_with fail
  go_loopw [7] (fun i wr => ∃ (k : Nat) (q : UInt8 → Bool) (K : Nat) (E : Int), i = .int .i64 (k : Int) ∧ Rd wr R s K E ∧ Rw wr bB 145 (nodeC 0 q nilS) ∧ Rw wr bA 145 Z ∧ Asd (· = R) w wr ∧ ((E = 0 ∧ K ≤ s.length ∧ k ≤ K ∧ ∃ m, (s.drop K).length ≤ m ∧ clsI k m q (s.drop K) = O) ∨ (E = 2 ∧ O = none ∧ K ≤ s.length + 2 ∧ k ≤ 102))) (fun _ wr => left wr R s.length)
  case atStart => exact ⟨0, noSet, K, 0, rfl, h, rB, rA, A, .inl ⟨rfl, by omega, by omega, l.length, by rw [hl]; omega, by rw [hl]; exact HO ()⟩⟩
  case round =>
    clear h rB rA A HO
    obtain ⟨k, q, K9, E, rfl, h, rB, rA, A, hE⟩ := hrel
    rcases hE with ⟨rfl, hK9, hkK, m, hm, hO⟩ | ⟨rfl, hO, hK9, hk9⟩
    case inr =>
      have K2 := Lib.hid fun w' h => next_err (R := R) (K := K9) (s := s) (E := 2) (by decide) w' h
      have K3 := Lib.hid fun w' h => fail_old (R := R) (K := K9) (s := s) (E := 2) (by decide) 2 w' h
      go_wp2_with fail
      refine (K2.out _ h).mono ?_
      rintro e v2 ⟨rfl, hb⟩
      replace h := h.stay hb
      replace rA := rA.stay hb
      replace rB := rB.stay hb
      replace A := A.below hb
      clear hb
      go_wp2_with fail
      refine (K3.out _ h).mono ?_
      rintro e v3 ⟨rfl, h', A'⟩
      replace h := h'
      replace rA := rA.keep A' hAR
      replace rB := rB.keep A' hBR
      replace A := A.andThen A'
      clear h' A' 
      clear K2 K3
      have hl8 := nodeC_len 0 q nilS
      have ho8 := nodeC_one 0 q nil_one
      obtain ⟨X8, e8⟩ : ∃ X, nodeC 0 q nilS = X := ⟨_, rfl⟩
      rw [e8] at hl8 ho8 rB
      have E8 : Unit → nodeC 0 q nilS = X8 := fun _ => e8
      clear e8
      go_wp2_with (first | refine load_node _ _ rB hl8 _ rfl rfl rfl ?_ | refine store_node _ _ rA hlZ X8 hl8 ho8 _ _ rfl rfl rfl rfl ?_)
      refine ret_node _ _ (rw_setRow rA) hl8 rfl rfl rfl ?_
      exact ⟨by first | (rw [hO, Option.map_none]; exact ⟨⟨_, by rw [E8 ()]⟩, K9, by omega, rw_setRow_ne h hAR.symm⟩) | exact ⟨⟨_, by rw [E8 ()]⟩, K9, by omega, rw_setRow_ne h hAR.symm⟩, asd_setRow A (.inr hbA)⟩
    case inl =>
      cases hd : s.drop K9 with
      | nil =>
        rw [hd] at hO
        have hO2 : O = none := by rw [← hO]; cases m <;> simp [clsI, clsN]
        clear hO
        have hO := hO2
        clear hO2
        have K2 := Lib.hid fun w' h => next_end (R := R) hd w' h
        have K3 := Lib.hid fun w' h => fail_new (R := R) (K := K9) (s := s) 2 w' h
        clear hd hm
        go_wp2_with fail
        refine (K2.out _ h).mono ?_
        rintro e v4 ⟨rfl, hb⟩
        replace h := h.stay hb
        replace rA := rA.stay hb
        replace rB := rB.stay hb
        replace A := A.below hb
        clear hb
        go_wp2_with fail
        refine (K3.out _ h).mono ?_
        rintro e v5 ⟨rfl, h', A'⟩
        replace h := h'
        replace rA := rA.keep A' hAR
        replace rB := rB.keep A' hBR
        replace A := A.andThen A'
        clear h' A' 
        clear K2 K3
        have hl8 := nodeC_len 0 q nilS
        have ho8 := nodeC_one 0 q nil_one
        obtain ⟨X8, e8⟩ : ∃ X, nodeC 0 q nilS = X := ⟨_, rfl⟩
        rw [e8] at hl8 ho8 rB
        have E8 : Unit → nodeC 0 q nilS = X8 := fun _ => e8
        clear e8
        go_wp2_with (first | refine load_node _ _ rB hl8 _ rfl rfl rfl ?_ | refine store_node _ _ rA hlZ X8 hl8 ho8 _ _ rfl rfl rfl rfl ?_)
        refine ret_node _ _ (rw_setRow rA) hl8 rfl rfl rfl ?_
        exact ⟨by first | (rw [hO, Option.map_none]; exact ⟨⟨_, by rw [E8 ()]⟩, K9, by omega, rw_setRow_ne h hAR.symm⟩) | exact ⟨⟨_, by rw [E8 ()]⟩, K9, by omega, rw_setRow_ne h hAR.symm⟩, asd_setRow A (.inr hbA)⟩
      | cons c r =>
        rw [hd] at hO hm
        obtain ⟨hc0, hr, hk, hn⟩ := drop_cons hd
        obtain ⟨K2, hKb2, eK2⟩ : ∃ K2, K2 ≤ 101 ∧ (Unit → K2 = K9 + 1) := ⟨_, by omega, fun _ => rfl⟩
        rw [← eK2 ()] at hr
        have HOc : Unit → clsI k m q (c :: r) = O := fun _ => hO
        have hK9b : K9 ≤ 100 := by omega
        have hkb : k ≤ 100 := by omega
        have K3 := Lib.hid fun w' h => next_hit (R := R) hd w' h
        have K4 := Lib.hid fun w' h => sign_any R K9 s w' h hs hK9
        rw [hd] at K4
        have hL := h.left0 (n := s.length)
        clear hO hc0
        by_cases h93 : c = 93
        · subst h93
          clear hd K4
          go_wp2_with fail
          refine (K3.out _ h).mono ?_
          rintro e v6 ⟨rfl, hb⟩
          replace h := h.stay hb
          replace rA := rA.stay hb
          replace rB := rB.stay hb
          replace A := A.below hb
          clear hb
          clear K3
          have c1 := h.pos
          have f1 := Rw.frozen h 1
          go_upto_region 14 with fail
          replace h := h.inc (eK2 ())
          replace rA := rA.other hAR 1 (.int .i64 ((K9 : Int) + 1))
          replace rB := rB.other hBR 1 (.int .i64 ((K9 : Int) + 1))
          replace A := A.set1 1 (.int .i64 ((K9 : Int) + 1))
          generalize v6.setCell ⟨R, 1, none⟩ (.int .i64 ((K9 : Int) + 1)) = v7 at *
          clear c1 f1
          by_cases hk0 : k = 0
          · subst hk0
            have hO : O = none := by rw [← HOc ()]; simp [clsI]
            have K5 := Lib.hid fun w' h => fail_new (R := R) (K := K2) (s := s) 2 w' h
            clear HOc
            go_wp2_with fail
            refine (K5.out _ h).mono ?_
            rintro e v8 ⟨rfl, h', A'⟩
            replace h := h'
            replace rA := rA.keep A' hAR
            replace rB := rB.keep A' hBR
            replace A := A.andThen A'
            clear h' A' 
            clear K5
            go_wp2_with fail
            go_loopw [13] (fun i wr => ∃ kk : Nat, kk ≤ 256 ∧ i = .int .i64 (kk : Int) ∧ Rd wr R s K2 2 ∧ Rw wr bB 145 (nodeC 0 (turnd q kk) nilS) ∧ Rw wr bA 145 Z ∧ Asd (· = R) w wr) (fun i _ => 256 - (intOf i).toNat)
            case atStart => exact ⟨0, by omega, rfl, h, by rw [turnd_start]; exact rB, rA, A⟩
            case round =>
              clear h rB rA A
              obtain ⟨kk, hkk, rfl, h, rB, rA, A⟩ := hrel
              by_cases hlt : (kk : Int) < 256
              · have hkn : kk < 256 := by omega
                have hc := (rB.cell (1 + kk)).trans (nodeC_bit 0 (turnd q kk) nilS (by omega))
                rw [turnd_get q hkn] at hc
                have hfz := rB.frozen (1 + kk)
                go_wp2_with fail
                go_roundw
                case rel =>
                  refine ⟨kk + 1, by omega, by go_num, Rw.other h hBR.symm _ _, ?_, rA.other hBA _ _, A.setCell (p := ⟨bB, 1 + kk, none⟩) (.inr hbB) _⟩
                  have := rB.setCell (1 + kk) (.bool (!q (UInt8.ofNat kk)))
                  rw [nodeC_putBit _ _ _ (by omega), turnd_step q (by omega)] at this
                  exact this
                case measure => simp [intOf]; omega
              · have e7 : turnd q kk = fun x => !q x := by rw [show kk = 256 by omega]; exact turnd_end q
                rw [e7] at rB
                have hl8 := nodeC_len 0 (fun x => !q x) nilS
                have ho8 := nodeC_one 0 (fun x => !q x) nil_one
                obtain ⟨X8, e8⟩ : ∃ X, nodeC 0 (fun x => !q x) nilS = X := ⟨_, rfl⟩
                rw [e8] at hl8 ho8 rB
                have E8 : Unit → nodeC 0 (fun x => !q x) nilS = X8 := fun _ => e8
                clear e8
                go_wp2_with (first | refine load_node _ _ rB hl8 _ rfl rfl rfl ?_ | refine store_node _ _ rA hlZ X8 hl8 ho8 _ _ rfl rfl rfl rfl ?_)
                refine ret_node _ _ (rw_setRow rA) hl8 rfl rfl rfl ?_
                exact ⟨by exact ⟨⟨_, by rw [E8 ()]⟩, K2, by have := eK2 (); omega, rw_setRow_ne h hAR.symm⟩, asd_setRow A (.inr hbA)⟩
          · have hO : O = some (q, r) := by
              rw [← HOc ()]
              rw [List.length_cons] at hm
              obtain ⟨m', rfl⟩ : ∃ m', m = m' + 1 := ⟨m - 1, by omega⟩
              simp [clsI, clsN, hk0]
            have hki : ((k : Int) == 0) = false := by rw [beq_eq_false_iff_ne]; omega
            clear HOc
            go_wp2_with fail
            go_loopw [13] (fun i wr => ∃ kk : Nat, kk ≤ 256 ∧ i = .int .i64 (kk : Int) ∧ Rd wr R s K2 0 ∧ Rw wr bB 145 (nodeC 0 (turnd q kk) nilS) ∧ Rw wr bA 145 Z ∧ Asd (· = R) w wr) (fun i _ => 256 - (intOf i).toNat)
            case atStart => exact ⟨0, by omega, rfl, h, by rw [turnd_start]; exact rB, rA, A⟩
            case round =>
              clear h rB rA A
              obtain ⟨kk, hkk, rfl, h, rB, rA, A⟩ := hrel
              by_cases hlt : (kk : Int) < 256
              · have hkn : kk < 256 := by omega
                have hc := (rB.cell (1 + kk)).trans (nodeC_bit 0 (turnd q kk) nilS (by omega))
                rw [turnd_get q hkn] at hc
                have hfz := rB.frozen (1 + kk)
                go_wp2_with fail
                go_roundw
                case rel =>
                  refine ⟨kk + 1, by omega, by go_num, Rw.other h hBR.symm _ _, ?_, rA.other hBA _ _, A.setCell (p := ⟨bB, 1 + kk, none⟩) (.inr hbB) _⟩
                  have := rB.setCell (1 + kk) (.bool (!q (UInt8.ofNat kk)))
                  rw [nodeC_putBit _ _ _ (by omega), turnd_step q (by omega)] at this
                  exact this
                case measure => simp [intOf]; omega
              · have e7 : turnd q kk = fun x => !q x := by rw [show kk = 256 by omega]; exact turnd_end q
                rw [e7] at rB
                have hl8 := nodeC_len 0 (fun x => !q x) nilS
                have ho8 := nodeC_one 0 (fun x => !q x) nil_one
                obtain ⟨X8, e8⟩ : ∃ X, nodeC 0 (fun x => !q x) nilS = X := ⟨_, rfl⟩
                rw [e8] at hl8 ho8 rB
                have E8 : Unit → nodeC 0 (fun x => !q x) nilS = X8 := fun _ => e8
                clear e8
                go_wp2_with (first | refine load_node _ _ rB hl8 _ rfl rfl rfl ?_ | refine store_node _ _ rA hlZ X8 hl8 ho8 _ _ rfl rfl rfl rfl ?_)
                refine ret_node _ _ (rw_setRow rA) hl8 rfl rfl rfl ?_
                exact ⟨by exact ⟨by rw [E8 ()], K2, hr, by have := eK2 (); omega, rw_setRow_ne h hAR.symm⟩, asd_setRow A (.inr hbA)⟩
        · have hne : ((c.toNat : Int) == 93) = false := u8_ne (n := 93) h93 (by decide)
          obtain ⟨OE, hOE⟩ : ∃ OE, elemN (c :: r) = OE := ⟨_, rfl⟩
          have HOE : Unit → elemN (c :: r) = OE := fun _ => hOE
          clear hOE
          go_wp2_with fail
          refine (K3.out _ h).mono ?_
          rintro e v9 ⟨rfl, hb⟩
          replace h := h.stay hb
          replace rA := rA.stay hb
          replace rB := rB.stay hb
          replace A := A.below hb
          clear hb
          clear K3
          go_wp2_with fail
          refine (K4.out _ h).mono ?_
          rintro e v90 ⟨hS, A'⟩
          clear h K4
          replace rA := rA.keep A' hAR
          replace rB := rB.keep A' hBR
          replace A := A.andThen A'
          clear A'
          cases hg : signN (c :: r) with
            | none =>
              rw [hg] at hS
              obtain ⟨⟨f, rfl⟩, K5, hK5, h⟩ := hS
              have hO2 : OE = none := by rw [← HOE ()]; simp [elemN, hg]
              have K6 := Lib.hid fun w' h => next_err (R := R) (K := K5) (s := s) (E := 2) (by decide) w' h
              clear hd hg
              go_wp2_with fail
              refine (K6.out _ h).mono ?_
              rintro e v10 ⟨rfl, hb⟩
              replace h := h.stay hb
              replace rA := rA.stay hb
              replace rB := rB.stay hb
              replace A := A.below hb
              clear hb
              clear K6
              skip
              go_upto_region 19 with fail
              try simp only [List.append_eq, List.cons_append, List.nil_append]
              refine region_class (fun w' => Below v10.heap.size v10 w' ∧ True) (by kernel_rfl) (by kernel_rfl) (⟨(Below.refl _ _).drew, trivial⟩) ?_
              repeat
                first
                | go_big_quiet_skip
                | (go_big_quiet_want
                   refine quiet_val ?_
                   apply Exists.intro
                   refine ⟨fun w' hw' => ?_, ?_⟩
                   · obtain ⟨_, _⟩ := hw'
                     go_simp
                     first | done | rfl | exact ⟨rfl, rfl⟩
                   simp only [Act.put, List.setIfInBounds_toArray, List.set_cons_zero, List.set_cons_succ]
                   go_big_quiet_on)
                | (go_big_quiet_want
                   refine quiet_call ?_
                   apply Exists.intro
                   apply Exists.intro
                   refine ⟨fun w' => ?_, ?_⟩
                   · go_simp
                     first | done | rfl | exact ⟨rfl, rfl⟩
                   apply Exists.intro
                   refine ⟨fun w' hw' => ?_, ?_⟩
                   · first
                     | fail
                   simp only [Act.put, List.setIfInBounds_toArray, List.set_cons_zero, List.set_cons_succ]
                   go_big_quiet_on)
              refine wpQuiet_nil ?_
              intro w5 hw5
              have hb5 := hw5.1
              clear hw5
              replace h := h.stay hb5
              replace rA := rA.stay hb5
              replace rB := rB.stay hb5
              replace A := A.below hb5
              clear hb5
              have hff : ¬ ((f.toNat : Int) < (f.toNat : Int)) := by omega
              replace HOE : Unit → elemN (c :: r) = none := fun _ => by rw [HOE (), hO2]
              clear hO2
              have hfb : f.toNat < 256 := f.toNat_lt
              go_wp2_with fail
              go_loopw [12] (fun i wr => ∃ kk : Nat, f.toNat ≤ kk ∧ kk < 257 ∧ (kk = f.toNat ∨ kk ≤ f.toNat + 1) ∧ i = .int .i64 (kk : Int) ∧ Rd wr R s K5 2 ∧ Rw wr bB 145 (nodeC 0 (upto q f kk) nilS) ∧ Rw wr bA 145 Z ∧ Asd (· = R) w wr) (fun i _ => f.toNat + 1 - (intOf i).toNat)
              case atStart => exact ⟨f.toNat, by omega, by have := f.toNat_lt; omega, .inl rfl, rfl, h, by rw [upto_start]; exact rB, rA, A⟩
              case round =>
                clear h rB rA A
                obtain ⟨kk, hk0, hk1, hk2, rfl, h, rB, rA, A⟩ := hrel
                have hbl := f.toNat_lt
                by_cases hlt : kk ≤ f.toNat
                · have hc := (rB.cell (1 + kk)).trans (nodeC_bit 0 (upto q f kk) nilS (by omega))
                  have hfz := rB.frozen (1 + kk)
                  go_wp2_with fail
                  go_roundw
                  case rel =>
                    refine ⟨kk + 1, by omega, by omega, .inr (by omega), by go_num, Rw.other h hBR.symm _ _, ?_, rA.other hBA _ _, A.setCell (p := ⟨bB, 1 + kk, none⟩) (.inr hbB) _⟩
                    have := rB.setCell (1 + kk) (.bool true)
                    rw [nodeC_putBit _ _ _ (by omega), upto_step q f hk0 (by omega)] at this
                    exact this
                  case measure => simp [intOf]; omega
                · have hnot : ¬ ((kk : Int) ≤ (f.toNat : Int)) := by omega
                  have e2 := clsI_none (k := k) (m := m) (q := q) h93 (HOE ())
                  have he : upto q f kk = fun x => q x || (decide (f ≤ x) && decide (x ≤ f)) := by
                    rcases hk2 with rfl | hk2
                    · rw [upto_start, upto_void q (by rw [UInt8.lt_iff_toNat_lt]; omega)]
                    · obtain rfl : kk = f.toNat + 1 := by omega
                      exact upto_end q f f
                  go_wp2_with fail
                  go_roundw
                  case rel => exact ⟨k + 1, upto q f kk, K5, 2, by go_num, h, rB, rA, A, .inr ⟨rfl, by rw [← HOc (), e2], by omega, by omega⟩⟩
                  case measure =>
                    rw [hL, h.left2 (by decide)]
                    omega
            | some fr =>
              obtain ⟨f, r1⟩ := fr
              rw [hg] at hS
              obtain ⟨rfl, K5, hr1, hK5, h⟩ := hS
              have hlt := signN_len hg
              have hKK : K9 < K5 := by
                have e1 := congrArg List.length hr1
                rw [List.length_drop] at e1
                rw [List.length_cons] at hlt
                omega
              have hff : ¬ ((f.toNat : Int) < (f.toNat : Int)) := by omega
              have hK5b : K5 ≤ 100 := by omega
              cases r1 with
              | nil =>
                have hO2 : OE = some ((f, f), s.drop K5) := by rw [← HOE (), hr1]; simp [elemN, hg]
                have K6 := Lib.hid fun w' h => next_end (R := R) hr1 w' h
                clear hd hg hr1
                go_wp2_with fail
                refine (K6.out _ h).mono ?_
                rintro e v11 ⟨rfl, hb⟩
                replace h := h.stay hb
                replace rA := rA.stay hb
                replace rB := rB.stay hb
                replace A := A.below hb
                clear hb
                clear K6
                skip
                go_upto_region 19 with fail
                try simp only [List.append_eq, List.cons_append, List.nil_append]
                refine region_class (fun w' => Below v11.heap.size v11 w' ∧ True) (by kernel_rfl) (by kernel_rfl) (⟨(Below.refl _ _).drew, trivial⟩) ?_
                repeat
                  first
                  | go_big_quiet_skip
                  | (go_big_quiet_want
                     refine quiet_val ?_
                     apply Exists.intro
                     refine ⟨fun w' hw' => ?_, ?_⟩
                     · obtain ⟨_, _⟩ := hw'
                       go_simp
                       first | done | rfl | exact ⟨rfl, rfl⟩
                     simp only [Act.put, List.setIfInBounds_toArray, List.set_cons_zero, List.set_cons_succ]
                     go_big_quiet_on)
                  | (go_big_quiet_want
                     refine quiet_call ?_
                     apply Exists.intro
                     apply Exists.intro
                     refine ⟨fun w' => ?_, ?_⟩
                     · go_simp
                       first | done | rfl | exact ⟨rfl, rfl⟩
                     apply Exists.intro
                     refine ⟨fun w' hw' => ?_, ?_⟩
                     · first
                       | fail
                     simp only [Act.put, List.setIfInBounds_toArray, List.set_cons_zero, List.set_cons_succ]
                     go_big_quiet_on)
                refine wpQuiet_nil ?_
                intro w5 hw5
                have hb5 := hw5.1
                clear hw5
                replace h := h.stay hb5
                replace rA := rA.stay hb5
                replace rB := rB.stay hb5
                replace A := A.below hb5
                clear hb5
                replace HOE : Unit → elemN (c :: r) = some ((f, f), s.drop K5) := fun _ => by rw [HOE (), hO2]
                clear hO2
                have hfb : f.toNat < 256 := f.toNat_lt
                go_wp2_with fail
                go_loopw [12] (fun i wr => ∃ kk : Nat, f.toNat ≤ kk ∧ kk < 257 ∧ (kk = f.toNat ∨ kk ≤ f.toNat + 1) ∧ i = .int .i64 (kk : Int) ∧ Rd wr R s K5 0 ∧ Rw wr bB 145 (nodeC 0 (upto q f kk) nilS) ∧ Rw wr bA 145 Z ∧ Asd (· = R) w wr) (fun i _ => f.toNat + 1 - (intOf i).toNat)
                case atStart => exact ⟨f.toNat, by omega, by have := f.toNat_lt; omega, .inl rfl, rfl, h, by rw [upto_start]; exact rB, rA, A⟩
                case round =>
                  clear h rB rA A
                  obtain ⟨kk, hk0, hk1, hk2, rfl, h, rB, rA, A⟩ := hrel
                  have hbl := f.toNat_lt
                  by_cases hlt : kk ≤ f.toNat
                  · have hc := (rB.cell (1 + kk)).trans (nodeC_bit 0 (upto q f kk) nilS (by omega))
                    have hfz := rB.frozen (1 + kk)
                    go_wp2_with fail
                    go_roundw
                    case rel =>
                      refine ⟨kk + 1, by omega, by omega, .inr (by omega), by go_num, Rw.other h hBR.symm _ _, ?_, rA.other hBA _ _, A.setCell (p := ⟨bB, 1 + kk, none⟩) (.inr hbB) _⟩
                      have := rB.setCell (1 + kk) (.bool true)
                      rw [nodeC_putBit _ _ _ (by omega), upto_step q f hk0 (by omega)] at this
                      exact this
                    case measure => simp [intOf]; omega
                  · have hnot : ¬ ((kk : Int) ≤ (f.toNat : Int)) := by omega
                    obtain ⟨m', hm', e2⟩ := clsI_some (k := k) (q := q) h93 (HOE ()) hm
                    have he : upto q f kk = fun x => q x || (decide (f ≤ x) && decide (x ≤ f)) := by
                      rcases hk2 with rfl | hk2
                      · rw [upto_start, upto_void q (by rw [UInt8.lt_iff_toNat_lt]; omega)]
                      · obtain rfl : kk = f.toNat + 1 := by omega
                        exact upto_end q f f
                    go_wp2_with fail
                    go_roundw
                    case rel => exact ⟨k + 1, upto q f kk, K5, 0, by go_num, h, rB, rA, A, .inl ⟨rfl, by omega, by omega, m', hm', by rw [← HOc (), e2, he]⟩⟩
                    case measure =>
                      rw [hL, h.left0]
                      omega
              | cons y r2 =>
                have K6 := Lib.hid fun w' h => next_hit (R := R) hr1 w' h
                obtain ⟨hy0, hr2, hk2, hn2⟩ := drop_cons hr1
                by_cases h45 : y = 45
                · subst h45
                  cases r2 with
                  | nil =>
                    have hO2 : OE = some ((f, f), s.drop K5) := by rw [← HOE (), hr1]; simp [elemN, hg]
                    have hge : ¬ ((K5 : Int) + 1 < (s.length : Int)) := by simp at hn2; omega
                    have hgd : (decide ((K5 : Int) + 1 < (s.length : Int))) = false := by simp only [decide_eq_false_iff_not]; exact hge
                    clear hd hg hr1 hy0 hr2 hn2
                    go_wp2_with fail
                    refine (K6.out _ h).mono ?_
                    rintro e v12 ⟨rfl, hb⟩
                    replace h := h.stay hb
                    replace rA := rA.stay hb
                    replace rB := rB.stay hb
                    replace A := A.below hb
                    clear hb
                    clear K6
                    have hwr : IntKind.i64.wrap ((K5 : Int) + 1) = (K5 : Int) + 1 := wrap_i64 (by omega) (by omega)
                    have c0 := h.text
                    have c1 := h.pos
                    have hsz : (⟨s.toArray⟩ : ByteArray).size = s.length := by simp [ByteArray.size]
                    generalize (⟨s.toArray⟩ : ByteArray) = X at *
                    go_upto_region 19 with fail
                    try simp only [List.append_eq, List.cons_append, List.nil_append]
                    refine region_class (fun w' => Below v12.heap.size v12 w' ∧ w'.cell? ⟨R, 0, none⟩ = some (.string X) ∧ w'.cell? ⟨R, 1, none⟩ = some (.int .i64 (K5 : Int))) (by kernel_rfl) (by kernel_rfl) (⟨(Below.refl _ _).drew, c0, c1⟩) ?_
                    repeat
                      first
                      | go_big_quiet_skip
                      | (go_big_quiet_want
                         refine quiet_val ?_
                         apply Exists.intro
                         refine ⟨fun w' hw' => ?_, ?_⟩
                         · obtain ⟨_, e0, e1⟩ := hw'
                           go_simp
                           first | done | rfl | exact ⟨rfl, rfl⟩
                         simp only [Act.put, List.setIfInBounds_toArray, List.set_cons_zero, List.set_cons_succ]
                         go_big_quiet_on)
                      | (go_big_quiet_want
                         refine quiet_call ?_
                         apply Exists.intro
                         apply Exists.intro
                         refine ⟨fun w' => ?_, ?_⟩
                         · go_simp
                           first | done | rfl | exact ⟨rfl, rfl⟩
                         apply Exists.intro
                         refine ⟨fun w' hw' => ?_, ?_⟩
                         · first
                           | fail
                         simp only [Act.put, List.setIfInBounds_toArray, List.set_cons_zero, List.set_cons_succ]
                         go_big_quiet_on)
                    refine wpQuiet_nil ?_
                    intro w5 hw5
                    have hb5 := hw5.1
                    clear hw5
                    replace h := h.stay hb5
                    replace rA := rA.stay hb5
                    replace rB := rB.stay hb5
                    replace A := A.below hb5
                    clear hb5
                    clear c0 c1 hsz hwr
                    replace HOE : Unit → elemN (c :: r) = some ((f, f), s.drop K5) := fun _ => by rw [HOE (), hO2]
                    clear hO2
                    have hfb : f.toNat < 256 := f.toNat_lt
                    go_wp2_with fail
                    go_loopw [12] (fun i wr => ∃ kk : Nat, f.toNat ≤ kk ∧ kk < 257 ∧ (kk = f.toNat ∨ kk ≤ f.toNat + 1) ∧ i = .int .i64 (kk : Int) ∧ Rd wr R s K5 0 ∧ Rw wr bB 145 (nodeC 0 (upto q f kk) nilS) ∧ Rw wr bA 145 Z ∧ Asd (· = R) w wr) (fun i _ => f.toNat + 1 - (intOf i).toNat)
                    case atStart => exact ⟨f.toNat, by omega, by have := f.toNat_lt; omega, .inl rfl, rfl, h, by rw [upto_start]; exact rB, rA, A⟩
                    case round =>
                      clear h rB rA A
                      obtain ⟨kk, hk0, hk1, hk2, rfl, h, rB, rA, A⟩ := hrel
                      have hbl := f.toNat_lt
                      by_cases hlt : kk ≤ f.toNat
                      · have hc := (rB.cell (1 + kk)).trans (nodeC_bit 0 (upto q f kk) nilS (by omega))
                        have hfz := rB.frozen (1 + kk)
                        go_wp2_with fail
                        go_roundw
                        case rel =>
                          refine ⟨kk + 1, by omega, by omega, .inr (by omega), by go_num, Rw.other h hBR.symm _ _, ?_, rA.other hBA _ _, A.setCell (p := ⟨bB, 1 + kk, none⟩) (.inr hbB) _⟩
                          have := rB.setCell (1 + kk) (.bool true)
                          rw [nodeC_putBit _ _ _ (by omega), upto_step q f hk0 (by omega)] at this
                          exact this
                        case measure => simp [intOf]; omega
                      · have hnot : ¬ ((kk : Int) ≤ (f.toNat : Int)) := by omega
                        obtain ⟨m', hm', e2⟩ := clsI_some (k := k) (q := q) h93 (HOE ()) hm
                        have he : upto q f kk = fun x => q x || (decide (f ≤ x) && decide (x ≤ f)) := by
                          rcases hk2 with rfl | hk2
                          · rw [upto_start, upto_void q (by rw [UInt8.lt_iff_toNat_lt]; omega)]
                          · obtain rfl : kk = f.toNat + 1 := by omega
                            exact upto_end q f f
                        go_wp2_with fail
                        go_roundw
                        case rel => exact ⟨k + 1, upto q f kk, K5, 0, by go_num, h, rB, rA, A, .inl ⟨rfl, by omega, by omega, m', hm', by rw [← HOc (), e2, he]⟩⟩
                        case measure =>
                          rw [hL, h.left0]
                          omega
                  | cons z r3 =>
                    have hge : ((K5 : Int) + 1 < (s.length : Int)) := by simp at hn2; omega
                    obtain ⟨hz0, hr3, hk3, hn3⟩ := drop_cons hr2
                    have hn2s : Unit → (z :: r3).length + K5 + 1 = s.length := fun _ => hn2
                    have hi := at_text s (K5 + 1) z hz0 ((K5 : Int) + 1) (by omega)
                    by_cases hz : z = 93
                    · subst hz
                      have hO2 : OE = some ((f, f), s.drop K5) := by rw [← HOE (), hr1]; simp [elemN, hg]
                      clear hd hg hr1 hy0 hr2 hn2 hz0 hr3 hn3
                      go_wp2_with fail
                      refine (K6.out _ h).mono ?_
                      rintro e v13 ⟨rfl, hb⟩
                      replace h := h.stay hb
                      replace rA := rA.stay hb
                      replace rB := rB.stay hb
                      replace A := A.below hb
                      clear hb
                      clear K6
                      have hwr : IntKind.i64.wrap ((K5 : Int) + 1) = (K5 : Int) + 1 := wrap_i64 (by omega) (by omega)
                      have c0 := h.text
                      have c1 := h.pos
                      have hsz : (⟨s.toArray⟩ : ByteArray).size = s.length := by simp [ByteArray.size]
                      generalize (⟨s.toArray⟩ : ByteArray) = X at *
                      go_upto_region 19 with fail
                      try simp only [List.append_eq, List.cons_append, List.nil_append]
                      refine region_class (fun w' => Below v13.heap.size v13 w' ∧ w'.cell? ⟨R, 0, none⟩ = some (.string X) ∧ w'.cell? ⟨R, 1, none⟩ = some (.int .i64 (K5 : Int))) (by kernel_rfl) (by kernel_rfl) (⟨(Below.refl _ _).drew, c0, c1⟩) ?_
                      repeat
                        first
                        | go_big_quiet_skip
                        | (go_big_quiet_want
                           refine quiet_val ?_
                           apply Exists.intro
                           refine ⟨fun w' hw' => ?_, ?_⟩
                           · obtain ⟨_, e0, e1⟩ := hw'
                             go_simp
                             first | done | rfl | exact ⟨rfl, rfl⟩
                           simp only [Act.put, List.setIfInBounds_toArray, List.set_cons_zero, List.set_cons_succ]
                           go_big_quiet_on)
                        | (go_big_quiet_want
                           refine quiet_call ?_
                           apply Exists.intro
                           apply Exists.intro
                           refine ⟨fun w' => ?_, ?_⟩
                           · go_simp
                             first | done | rfl | exact ⟨rfl, rfl⟩
                           apply Exists.intro
                           refine ⟨fun w' hw' => ?_, ?_⟩
                           · first
                             | fail
                           simp only [Act.put, List.setIfInBounds_toArray, List.set_cons_zero, List.set_cons_succ]
                           go_big_quiet_on)
                      refine wpQuiet_nil ?_
                      intro w5 hw5
                      have hb5 := hw5.1
                      clear hw5
                      replace h := h.stay hb5
                      replace rA := rA.stay hb5
                      replace rB := rB.stay hb5
                      replace A := A.below hb5
                      clear hb5
                      clear c0 c1 hsz hwr hi
                      replace HOE : Unit → elemN (c :: r) = some ((f, f), s.drop K5) := fun _ => by rw [HOE (), hO2]
                      clear hO2
                      have hfb : f.toNat < 256 := f.toNat_lt
                      go_wp2_with fail
                      go_loopw [12] (fun i wr => ∃ kk : Nat, f.toNat ≤ kk ∧ kk < 257 ∧ (kk = f.toNat ∨ kk ≤ f.toNat + 1) ∧ i = .int .i64 (kk : Int) ∧ Rd wr R s K5 0 ∧ Rw wr bB 145 (nodeC 0 (upto q f kk) nilS) ∧ Rw wr bA 145 Z ∧ Asd (· = R) w wr) (fun i _ => f.toNat + 1 - (intOf i).toNat)
                      case atStart => exact ⟨f.toNat, by omega, by have := f.toNat_lt; omega, .inl rfl, rfl, h, by rw [upto_start]; exact rB, rA, A⟩
                      case round =>
                        clear h rB rA A
                        obtain ⟨kk, hk0, hk1, hk2, rfl, h, rB, rA, A⟩ := hrel
                        have hbl := f.toNat_lt
                        by_cases hlt : kk ≤ f.toNat
                        · have hc := (rB.cell (1 + kk)).trans (nodeC_bit 0 (upto q f kk) nilS (by omega))
                          have hfz := rB.frozen (1 + kk)
                          go_wp2_with fail
                          go_roundw
                          case rel =>
                            refine ⟨kk + 1, by omega, by omega, .inr (by omega), by go_num, Rw.other h hBR.symm _ _, ?_, rA.other hBA _ _, A.setCell (p := ⟨bB, 1 + kk, none⟩) (.inr hbB) _⟩
                            have := rB.setCell (1 + kk) (.bool true)
                            rw [nodeC_putBit _ _ _ (by omega), upto_step q f hk0 (by omega)] at this
                            exact this
                          case measure => simp [intOf]; omega
                        · have hnot : ¬ ((kk : Int) ≤ (f.toNat : Int)) := by omega
                          obtain ⟨m', hm', e2⟩ := clsI_some (k := k) (q := q) h93 (HOE ()) hm
                          have he : upto q f kk = fun x => q x || (decide (f ≤ x) && decide (x ≤ f)) := by
                            rcases hk2 with rfl | hk2
                            · rw [upto_start, upto_void q (by rw [UInt8.lt_iff_toNat_lt]; omega)]
                            · obtain rfl : kk = f.toNat + 1 := by omega
                              exact upto_end q f f
                          go_wp2_with fail
                          go_roundw
                          case rel => exact ⟨k + 1, upto q f kk, K5, 0, by go_num, h, rB, rA, A, .inl ⟨rfl, by omega, by omega, m', hm', by rw [← HOc (), e2, he]⟩⟩
                          case measure =>
                            rw [hL, h.left0]
                            omega
                    · have hzn : ((z.toNat : Int) == 93) = false := u8_ne (n := 93) hz (by decide)
                      have hzn2 : ((z.toNat : Int) != 93) = true := by rw [bne, hzn]; rfl
                      obtain ⟨K7, hKb7, eK7⟩ : ∃ K7, K7 ≤ 101 ∧ (Unit → K7 = K5 + 1) := ⟨_, by omega, fun _ => rfl⟩
                      have hO2 : OE = match signN (z :: r3) with | none => none | some (l, r'') => if f ≤ l then some ((f, l), r'') else none := by
                        rw [← HOE ()]
                        simp [elemN, hg, hz]
                        rfl
                      rw [← eK7 ()] at hr2 hk3
                      have K8 := Lib.hid fun w' h => sign_any R K7 s w' h hs (by omega)
                      rw [hr2] at K8
                      clear hd hg hr1 hy0 hz0 hr3 hn3 hn2 hr2
                      go_wp2_with fail
                      refine (K6.out _ h).mono ?_
                      rintro e v14 ⟨rfl, hb⟩
                      replace h := h.stay hb
                      replace rA := rA.stay hb
                      replace rB := rB.stay hb
                      replace A := A.below hb
                      clear hb
                      clear K6
                      have hwr : IntKind.i64.wrap ((K5 : Int) + 1) = (K5 : Int) + 1 := wrap_i64 (by omega) (by omega)
                      have c0 := h.text
                      have c1 := h.pos
                      have hsz : (⟨s.toArray⟩ : ByteArray).size = s.length := by simp [ByteArray.size]
                      generalize (⟨s.toArray⟩ : ByteArray) = X at *
                      go_upto_region 19 with fail
                      try simp only [List.append_eq, List.cons_append, List.nil_append]
                      refine region_class (fun w' => Below v14.heap.size v14 w' ∧ w'.cell? ⟨R, 0, none⟩ = some (.string X) ∧ w'.cell? ⟨R, 1, none⟩ = some (.int .i64 (K5 : Int))) (by kernel_rfl) (by kernel_rfl) (⟨(Below.refl _ _).drew, c0, c1⟩) ?_
                      repeat
                        first
                        | go_big_quiet_skip
                        | (go_big_quiet_want
                           refine quiet_val ?_
                           apply Exists.intro
                           refine ⟨fun w' hw' => ?_, ?_⟩
                           · obtain ⟨_, e0, e1⟩ := hw'
                             go_simp
                             first | done | rfl | exact ⟨rfl, rfl⟩
                           simp only [Act.put, List.setIfInBounds_toArray, List.set_cons_zero, List.set_cons_succ]
                           go_big_quiet_on)
                        | (go_big_quiet_want
                           refine quiet_call ?_
                           apply Exists.intro
                           apply Exists.intro
                           refine ⟨fun w' => ?_, ?_⟩
                           · go_simp
                             first | done | rfl | exact ⟨rfl, rfl⟩
                           apply Exists.intro
                           refine ⟨fun w' hw' => ?_, ?_⟩
                           · first
                             | fail
                           simp only [Act.put, List.setIfInBounds_toArray, List.set_cons_zero, List.set_cons_succ]
                           go_big_quiet_on)
                      refine wpQuiet_nil ?_
                      intro w5 hw5
                      have hb5 := hw5.1
                      clear hw5
                      replace h := h.stay hb5
                      replace rA := rA.stay hb5
                      replace rB := rB.stay hb5
                      replace A := A.below hb5
                      clear hb5
                      clear c0 c1 hsz hwr hi
                      have c1 := h.pos
                      have f1 := Rw.frozen h 1
                      go_upto_region 21 with fail
                      replace h := h.inc (eK7 ())
                      replace rA := rA.other hAR 1 (.int .i64 ((K5 : Int) + 1))
                      replace rB := rB.other hBR 1 (.int .i64 ((K5 : Int) + 1))
                      replace A := A.set1 1 (.int .i64 ((K5 : Int) + 1))
                      generalize w5.setCell ⟨R, 1, none⟩ (.int .i64 ((K5 : Int) + 1)) = v15 at *
                      clear c1 f1
                      go_wp2_with fail
                      refine (K8.out _ h).mono ?_
                      rintro e v91 ⟨hS, A'⟩
                      clear h K8
                      replace rA := rA.keep A' hAR
                      replace rB := rB.keep A' hBR
                      replace A := A.andThen A'
                      clear A'
                      cases hg2 : signN (z :: r3) with
                      | none =>
                        rw [hg2] at hS hO2
                        obtain ⟨⟨b, rfl⟩, K6, hK6, h⟩ := hS
                        have K8 := Lib.hid fun w' h => fail_old (R := R) (K := K6) (s := s) (E := 2) (by decide) 2 w' h
                        by_cases hlb : (b.toNat : Int) < (f.toNat : Int)
                        · go_wp2_with fail
                          refine (K8.out _ h).mono ?_
                          rintro e v16 ⟨rfl, h', A'⟩
                          replace h := h'
                          replace rA := rA.keep A' hAR
                          replace rB := rB.keep A' hBR
                          replace A := A.andThen A'
                          clear h' A' 
                          replace HOE : Unit → elemN (c :: r) = none := fun _ => by rw [HOE (), hO2]
                          clear hO2
                          have hfb : f.toNat < 256 := f.toNat_lt
                          go_wp2_with fail
                          go_loopw [12] (fun i wr => ∃ kk : Nat, f.toNat ≤ kk ∧ kk < 257 ∧ (kk = f.toNat ∨ kk ≤ b.toNat + 1) ∧ i = .int .i64 (kk : Int) ∧ Rd wr R s K6 2 ∧ Rw wr bB 145 (nodeC 0 (upto q f kk) nilS) ∧ Rw wr bA 145 Z ∧ Asd (· = R) w wr) (fun i _ => b.toNat + 1 - (intOf i).toNat)
                          case atStart => exact ⟨f.toNat, by omega, by have := f.toNat_lt; omega, .inl rfl, rfl, h, by rw [upto_start]; exact rB, rA, A⟩
                          case round =>
                            clear h rB rA A
                            obtain ⟨kk, hk0, hk1, hk2, rfl, h, rB, rA, A⟩ := hrel
                            have hbl := b.toNat_lt
                            by_cases hlt : kk ≤ b.toNat
                            · exfalso; omega
                            · have hnot : ¬ ((kk : Int) ≤ (b.toNat : Int)) := by omega
                              have e2 := clsI_none (k := k) (m := m) (q := q) h93 (HOE ())
                              have he : upto q f kk = fun x => q x || (decide (f ≤ x) && decide (x ≤ b)) := by
                                rcases hk2 with rfl | hk2
                                · rw [upto_start, upto_void q (by rw [UInt8.lt_iff_toNat_lt]; omega)]
                                · obtain rfl : kk = b.toNat + 1 := by omega
                                  exact upto_end q f b
                              go_wp2_with fail
                              go_roundw
                              case rel => exact ⟨k + 1, upto q f kk, K6, 2, by go_num, h, rB, rA, A, .inr ⟨rfl, by rw [← HOc (), e2], by omega, by omega⟩⟩
                              case measure =>
                                rw [hL, h.left2 (by decide)]
                                omega
                        · skip
                          replace HOE : Unit → elemN (c :: r) = none := fun _ => by rw [HOE (), hO2]
                          clear hO2
                          have hfb : f.toNat < 256 := f.toNat_lt
                          go_wp2_with fail
                          go_loopw [12] (fun i wr => ∃ kk : Nat, f.toNat ≤ kk ∧ kk < 257 ∧ (kk = f.toNat ∨ kk ≤ b.toNat + 1) ∧ i = .int .i64 (kk : Int) ∧ Rd wr R s K6 2 ∧ Rw wr bB 145 (nodeC 0 (upto q f kk) nilS) ∧ Rw wr bA 145 Z ∧ Asd (· = R) w wr) (fun i _ => b.toNat + 1 - (intOf i).toNat)
                          case atStart => exact ⟨f.toNat, by omega, by have := f.toNat_lt; omega, .inl rfl, rfl, h, by rw [upto_start]; exact rB, rA, A⟩
                          case round =>
                            clear h rB rA A
                            obtain ⟨kk, hk0, hk1, hk2, rfl, h, rB, rA, A⟩ := hrel
                            have hbl := b.toNat_lt
                            by_cases hlt : kk ≤ b.toNat
                            · have hc := (rB.cell (1 + kk)).trans (nodeC_bit 0 (upto q f kk) nilS (by omega))
                              have hfz := rB.frozen (1 + kk)
                              go_wp2_with fail
                              go_roundw
                              case rel =>
                                refine ⟨kk + 1, by omega, by omega, .inr (by omega), by go_num, Rw.other h hBR.symm _ _, ?_, rA.other hBA _ _, A.setCell (p := ⟨bB, 1 + kk, none⟩) (.inr hbB) _⟩
                                have := rB.setCell (1 + kk) (.bool true)
                                rw [nodeC_putBit _ _ _ (by omega), upto_step q f hk0 (by omega)] at this
                                exact this
                              case measure => simp [intOf]; omega
                            · have hnot : ¬ ((kk : Int) ≤ (b.toNat : Int)) := by omega
                              have e2 := clsI_none (k := k) (m := m) (q := q) h93 (HOE ())
                              have he : upto q f kk = fun x => q x || (decide (f ≤ x) && decide (x ≤ b)) := by
                                rcases hk2 with rfl | hk2
                                · rw [upto_start, upto_void q (by rw [UInt8.lt_iff_toNat_lt]; omega)]
                                · obtain rfl : kk = b.toNat + 1 := by omega
                                  exact upto_end q f b
                              go_wp2_with fail
                              go_roundw
                              case rel => exact ⟨k + 1, upto q f kk, K6, 2, by go_num, h, rB, rA, A, .inr ⟨rfl, by rw [← HOc (), e2], by omega, by omega⟩⟩
                              case measure =>
                                rw [hL, h.left2 (by decide)]
                                omega
                      | some br =>
                        obtain ⟨b, r4⟩ := br
                        rw [hg2] at hS hO2
                        obtain ⟨rfl, K6, hr4, hK6, h⟩ := hS
                        have hlt2 := signN_len hg2
                        by_cases hlb : (b.toNat : Int) < (f.toNat : Int)
                        · have hno : ¬ f ≤ b := by rw [UInt8.le_iff_toNat_le]; omega
                          simp only [hno, if_false] at hO2
                          have K8 := Lib.hid fun w' h => fail_new (R := R) (K := K6) (s := s) 2 w' h
                          go_wp2_with fail
                          refine (K8.out _ h).mono ?_
                          rintro e v17 ⟨rfl, h', A'⟩
                          replace h := h'
                          replace rA := rA.keep A' hAR
                          replace rB := rB.keep A' hBR
                          replace A := A.andThen A'
                          clear h' A' 
                          replace HOE : Unit → elemN (c :: r) = none := fun _ => by rw [HOE (), hO2]
                          clear hO2
                          have hfb : f.toNat < 256 := f.toNat_lt
                          go_wp2_with fail
                          go_loopw [12] (fun i wr => ∃ kk : Nat, f.toNat ≤ kk ∧ kk < 257 ∧ (kk = f.toNat ∨ kk ≤ b.toNat + 1) ∧ i = .int .i64 (kk : Int) ∧ Rd wr R s K6 2 ∧ Rw wr bB 145 (nodeC 0 (upto q f kk) nilS) ∧ Rw wr bA 145 Z ∧ Asd (· = R) w wr) (fun i _ => b.toNat + 1 - (intOf i).toNat)
                          case atStart => exact ⟨f.toNat, by omega, by have := f.toNat_lt; omega, .inl rfl, rfl, h, by rw [upto_start]; exact rB, rA, A⟩
                          case round =>
                            clear h rB rA A
                            obtain ⟨kk, hk0, hk1, hk2, rfl, h, rB, rA, A⟩ := hrel
                            have hbl := b.toNat_lt
                            by_cases hlt : kk ≤ b.toNat
                            · exfalso; omega
                            · have hnot : ¬ ((kk : Int) ≤ (b.toNat : Int)) := by omega
                              have e2 := clsI_none (k := k) (m := m) (q := q) h93 (HOE ())
                              have he : upto q f kk = fun x => q x || (decide (f ≤ x) && decide (x ≤ b)) := by
                                rcases hk2 with rfl | hk2
                                · rw [upto_start, upto_void q (by rw [UInt8.lt_iff_toNat_lt]; omega)]
                                · obtain rfl : kk = b.toNat + 1 := by omega
                                  exact upto_end q f b
                              go_wp2_with fail
                              go_roundw
                              case rel => exact ⟨k + 1, upto q f kk, K6, 2, by go_num, h, rB, rA, A, .inr ⟨rfl, by rw [← HOc (), e2], by omega, by omega⟩⟩
                              case measure =>
                                rw [hL, h.left2 (by decide)]
                                omega
                        · have hyes : f ≤ b := by rw [UInt8.le_iff_toNat_le]; omega
                          simp only [hyes, if_true] at hO2
                          have hK67 : K9 < K6 := by
                            have e1 := congrArg List.length hr4
                            rw [List.length_drop] at e1
                            have := eK7 ()
                            have := hn2s ()
                            simp only [List.length_cons] at hlt2 this
                            omega
                          rw [← hr4] at hO2
                          replace HOE : Unit → elemN (c :: r) = some ((f, b), s.drop K6) := fun _ => by rw [HOE (), hO2]
                          clear hO2
                          have hfb : f.toNat < 256 := f.toNat_lt
                          go_wp2_with fail
                          go_loopw [12] (fun i wr => ∃ kk : Nat, f.toNat ≤ kk ∧ kk < 257 ∧ (kk = f.toNat ∨ kk ≤ b.toNat + 1) ∧ i = .int .i64 (kk : Int) ∧ Rd wr R s K6 0 ∧ Rw wr bB 145 (nodeC 0 (upto q f kk) nilS) ∧ Rw wr bA 145 Z ∧ Asd (· = R) w wr) (fun i _ => b.toNat + 1 - (intOf i).toNat)
                          case atStart => exact ⟨f.toNat, by omega, by have := f.toNat_lt; omega, .inl rfl, rfl, h, by rw [upto_start]; exact rB, rA, A⟩
                          case round =>
                            clear h rB rA A
                            obtain ⟨kk, hk0, hk1, hk2, rfl, h, rB, rA, A⟩ := hrel
                            have hbl := b.toNat_lt
                            by_cases hlt : kk ≤ b.toNat
                            · have hc := (rB.cell (1 + kk)).trans (nodeC_bit 0 (upto q f kk) nilS (by omega))
                              have hfz := rB.frozen (1 + kk)
                              go_wp2_with fail
                              go_roundw
                              case rel =>
                                refine ⟨kk + 1, by omega, by omega, .inr (by omega), by go_num, Rw.other h hBR.symm _ _, ?_, rA.other hBA _ _, A.setCell (p := ⟨bB, 1 + kk, none⟩) (.inr hbB) _⟩
                                have := rB.setCell (1 + kk) (.bool true)
                                rw [nodeC_putBit _ _ _ (by omega), upto_step q f hk0 (by omega)] at this
                                exact this
                              case measure => simp [intOf]; omega
                            · have hnot : ¬ ((kk : Int) ≤ (b.toNat : Int)) := by omega
                              obtain ⟨m', hm', e2⟩ := clsI_some (k := k) (q := q) h93 (HOE ()) hm
                              have he : upto q f kk = fun x => q x || (decide (f ≤ x) && decide (x ≤ b)) := by
                                rcases hk2 with rfl | hk2
                                · rw [upto_start, upto_void q (by rw [UInt8.lt_iff_toNat_lt]; omega)]
                                · obtain rfl : kk = b.toNat + 1 := by omega
                                  exact upto_end q f b
                              go_wp2_with fail
                              go_roundw
                              case rel => exact ⟨k + 1, upto q f kk, K6, 0, by go_num, h, rB, rA, A, .inl ⟨rfl, by omega, by omega, m', hm', by rw [← HOc (), e2, he]⟩⟩
                              case measure =>
                                rw [hL, h.left0]
                                omega
                · have h45n : ((y.toNat : Int) == 45) = false := u8_ne (n := 45) h45 (by decide)
                  have hO2 : OE = some ((f, f), s.drop K5) := by
                    rw [← HOE (), hr1]
                    cases r2 <;> simp [elemN, hg, h45]
                  clear hd hg hr1 hy0 hr2 hn2
                  go_wp2_with fail
                  refine (K6.out _ h).mono ?_
                  rintro e v18 ⟨rfl, hb⟩
                  replace h := h.stay hb
                  replace rA := rA.stay hb
                  replace rB := rB.stay hb
                  replace A := A.below hb
                  clear hb
                  clear K6
                  skip
                  go_upto_region 19 with fail
                  try simp only [List.append_eq, List.cons_append, List.nil_append]
                  refine region_class (fun w' => Below v18.heap.size v18 w' ∧ True) (by kernel_rfl) (by kernel_rfl) (⟨(Below.refl _ _).drew, trivial⟩) ?_
                  repeat
                    first
                    | go_big_quiet_skip
                    | (go_big_quiet_want
                       refine quiet_val ?_
                       apply Exists.intro
                       refine ⟨fun w' hw' => ?_, ?_⟩
                       · obtain ⟨_, _⟩ := hw'
                         go_simp
                         first | done | rfl | exact ⟨rfl, rfl⟩
                       simp only [Act.put, List.setIfInBounds_toArray, List.set_cons_zero, List.set_cons_succ]
                       go_big_quiet_on)
                    | (go_big_quiet_want
                       refine quiet_call ?_
                       apply Exists.intro
                       apply Exists.intro
                       refine ⟨fun w' => ?_, ?_⟩
                       · go_simp
                         first | done | rfl | exact ⟨rfl, rfl⟩
                       apply Exists.intro
                       refine ⟨fun w' hw' => ?_, ?_⟩
                       · first
                         | fail
                       simp only [Act.put, List.setIfInBounds_toArray, List.set_cons_zero, List.set_cons_succ]
                       go_big_quiet_on)
                  refine wpQuiet_nil ?_
                  intro w5 hw5
                  have hb5 := hw5.1
                  clear hw5
                  replace h := h.stay hb5
                  replace rA := rA.stay hb5
                  replace rB := rB.stay hb5
                  replace A := A.below hb5
                  clear hb5
                  replace HOE : Unit → elemN (c :: r) = some ((f, f), s.drop K5) := fun _ => by rw [HOE (), hO2]
                  clear hO2
                  have hfb : f.toNat < 256 := f.toNat_lt
                  go_wp2_with fail
                  go_loopw [12] (fun i wr => ∃ kk : Nat, f.toNat ≤ kk ∧ kk < 257 ∧ (kk = f.toNat ∨ kk ≤ f.toNat + 1) ∧ i = .int .i64 (kk : Int) ∧ Rd wr R s K5 0 ∧ Rw wr bB 145 (nodeC 0 (upto q f kk) nilS) ∧ Rw wr bA 145 Z ∧ Asd (· = R) w wr) (fun i _ => f.toNat + 1 - (intOf i).toNat)
                  case atStart => exact ⟨f.toNat, by omega, by have := f.toNat_lt; omega, .inl rfl, rfl, h, by rw [upto_start]; exact rB, rA, A⟩
                  case round =>
                    clear h rB rA A
                    obtain ⟨kk, hk0, hk1, hk2, rfl, h, rB, rA, A⟩ := hrel
                    have hbl := f.toNat_lt
                    by_cases hlt : kk ≤ f.toNat
                    · have hc := (rB.cell (1 + kk)).trans (nodeC_bit 0 (upto q f kk) nilS (by omega))
                      have hfz := rB.frozen (1 + kk)
                      go_wp2_with fail
                      go_roundw
                      case rel =>
                        refine ⟨kk + 1, by omega, by omega, .inr (by omega), by go_num, Rw.other h hBR.symm _ _, ?_, rA.other hBA _ _, A.setCell (p := ⟨bB, 1 + kk, none⟩) (.inr hbB) _⟩
                        have := rB.setCell (1 + kk) (.bool true)
                        rw [nodeC_putBit _ _ _ (by omega), upto_step q f hk0 (by omega)] at this
                        exact this
                      case measure => simp [intOf]; omega
                    · have hnot : ¬ ((kk : Int) ≤ (f.toNat : Int)) := by omega
                      obtain ⟨m', hm', e2⟩ := clsI_some (k := k) (q := q) h93 (HOE ()) hm
                      have he : upto q f kk = fun x => q x || (decide (f ≤ x) && decide (x ≤ f)) := by
                        rcases hk2 with rfl | hk2
                        · rw [upto_start, upto_void q (by rw [UInt8.lt_iff_toNat_lt]; omega)]
                        · obtain rfl : kk = f.toNat + 1 := by omega
                          exact upto_end q f f
                      go_wp2_with fail
                      go_roundw
                      case rel => exact ⟨k + 1, upto q f kk, K5, 0, by go_num, h, rB, rA, A, .inl ⟨rfl, by omega, by omega, m', hm', by rw [← HOc (), e2, he]⟩⟩
                      case measure =>
                        rw [hL, h.left0]
                        omega
theorem class_any (R K : Nat) (s : Bs) (w : World) (h : Rd w R s K 0) (hs : s.length ≤ 100) (hK : K ≤ s.length) :
    Calls Tryd.prog 117 #[.pointer (some ⟨R, 0, none⟩)] w fun e w' => ClassP R s (classN (s.drop K)) e w' ∧ Asd (· = R) w w' := by
  cases hl : s.drop K with
  | nil =>
    have := class_plain R K s [] w h hs hK hl (by simp)
    exact this
  | cons c l =>
    by_cases hc : c = 94
    · subst hc
      have := class_not R K s l w h hs hl
      rw [classN, if_pos rfl]
      exact this
    · have := class_plain R K s (c :: l) w h hs hK hl (by simpa using hc)
      rw [classN, if_neg hc]
      exact this
end Go.Proofs.YtknhkmlihbgjpaaDoor.Dn
