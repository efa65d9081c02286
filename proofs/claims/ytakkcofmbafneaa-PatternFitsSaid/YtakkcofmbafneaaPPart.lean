/- The reader: an atom and how often it is repeated. -/
import Derived.Test.YtakkcofmbafneaaPAtom
namespace Go.Proofs.Ytakkcofmbafneaa
open Go.ChangeShapes Go.WideShapes Go.RowKit

def partR : Res Re → Res Re
  | .er e => .er e
  | .ok x r => .ok (often x r).1 (often x r).2
theorem part_eq (n d : Nat) (s : Bx) : partN (n + 1) d s = partR (atomN n d s) := by
  rw [partN]
  cases atomN n d s <;> rfl
theorem rd_len {w : World} {R : Nat} {l : Bs} {S : List Stp} {V : Value} {F : List Value} (h : RdAt w R l S V F) : ∃ a c, V = .slice a S.length c := by
  obtain ⟨a, c, e, _⟩ := own_slice h.st.row
  exact ⟨a, c, e⟩
theorem last_get {S : List Stp} {s : Stp} {n : Nat} (h : S.length = n) : (S ++ [s])[n]? = some s := by subst h; simp
theorem lead_get {S : List Stp} {k x i : Nat} {s : Stp} (h : S[i]? = some s) (hb : s.free.length ≤ 1000) : ∃ t, (leadL S k x)[i]? = some t ∧ t.free.length ≤ 2000 := by
  rw [leadL_get]
  by_cases e : i = k
  · rw [if_pos e, ← e, h]; exact ⟨_, rfl, by simp; omega⟩
  · rw [if_neg e]; exact ⟨_, h, by omega⟩
theorem first_get {X Y : List Stp} {b : Nat} (h : X.length = b) (hy : Y ≠ []) (hf : Fb Y) : ∃ s, (X ++ Y)[b]? = some s ∧ s.free.length ≤ 1000 := by
  cases Y with
  | nil => exact absurd rfl hy
  | cons s Y => exact ⟨s, by subst h; simp, by have := hf s (by simp); omega⟩
theorem app_get {X Y : List Stp} {i : Nat} {s : Stp} (h : X[i]? = some s) : (X ++ Y)[i]? = some s := by
  rw [List.getElem?_append_left (List.getElem?_eq_some_iff.1 h).1]; exact h
theorem zero_build (w : World) : (Instr.build 64 #[]).run Try.prog w = .ok (.agg (setRow noSet).toArray) w := build_class _ zero_class w
theorem often_none {x : Re} {r : Bx} (h1 : ¬ r.head? = some 42) (h2 : ¬ r.head? = some 43) (h3 : ¬ r.head? = some 63) : often x r = (x, r) := by
  cases r with
  | nil => rfl
  | cons c r =>
    simp only [List.head?_cons, Option.some.injEq] at h1 h2 h3
    rw [often, if_neg h1, if_neg h2, if_neg h3]
set_option maxHeartbeats 6400000 in
set_option maxRecDepth 100000 in
theorem part_step (n : Nat) (HA : AtomC n) : PartC (n + 1) := fun R d c l X V F w D h hD hd hX hf hn => by
  rw [part_eq]
  have K := HA R d c l X V F w D h hD hd hX hf (by omega)
  have hgood := fun x r => (reads_good n).2.2.2 d (c :: l) x r
  obtain ⟨o, ho⟩ : ∃ o, atomN n d (c :: l) = o := ⟨_, rfl⟩
  rw [ho] at K hgood ⊢
  obtain ⟨a0, c0, rfl⟩ := rd_len h
  have hst := h.q.steps
  clear ho HA hD hd hn hf
  replace K := Lib.hid K
  have hX1 : X.length ≤ 300 := by omega
  have hXl : ((X.length : Nat) : Int) ≤ 300 := by omega
  cases o with
  | er er =>
    go_enter Try.func40, Try.ntmps40
    go_wp2_with fail
    refine K.out.mono ?_
    rintro e w1 ⟨rfl, hA⟩
    have hne := erV_ne er
    clear K hst h
    go_wp2_with fail
    go_ret
    exact ⟨rfl, hA⟩
  | ok x r =>
    obtain ⟨hat, hok, hlen⟩ := hgood x r rfl
    simp only [List.length_cons] at hX hlen
    have hfb : Fb (stR x X.length) := Fb.ofR hok (by omega)
    have hne := stR_ne x X.length
    have hfst := first_get (X := X) rfl hne hfb
    have hbl := stR_length x X.length
    go_enter Try.func40, Try.ntmps40
    go_wp2_with fail
    refine K.out.mono ?_
    rintro e w1 ⟨rfl, V1, F1, h1, g1⟩
    have hS1 : (X ++ stR x X.length).length = X.length + lenR x := by rw [List.length_append, hbl]
    clear K hst h hgood
    have KT1 := Lib.hid (take_any R 42 r V1 w1 h1.q 42 rfl)
    go_wp2_with fail
    refine KT1.out.mono ?_
    rintro e w2 ⟨rfl, q2, hA2⟩
    have h2 := h1.turn q2 hA2
    have g2 := g1.trans (Grow.turn hA2)
    clear KT1 h1 g1 q2 hA2
    by_cases h42 : r.head? = some 42
    · obtain ⟨r', rfl⟩ : ∃ r', r = 42 :: r' := by
        cases r with
        | nil => cases h42
        | cons y r' => exact ⟨r', by rw [List.head?_cons] at h42; injection h42 with h42; rw [h42]⟩
      rw [show nextIs 42 (42 :: r') = true by simp [nextIs]]
      rw [show dropIf 42 (42 :: r') = r' by simp [dropIf]] at h2
      simp only [List.length_cons] at hlen
      obtain ⟨s0, hs0, hs1⟩ := hfst
      obtain ⟨t4, ht4, ht5⟩ := lead_get (k := X.length + lenR x) (x := X.length) (app_get (Y := [⟨noSet, []⟩]) hs0) hs1
      have K3 := Lib.hid (addStep_any R noSet r' (X ++ stR x X.length) V1 F1 w2 h2 (by rw [hS1]; omega))
      go_wp2_with (refine wpList_exec (exec_empty (setRow noSet) zero_class rfl _) rfl ?_)
      refine K3.out.mono ?_
      rintro e w3 ⟨rfl, V3, F3, h3, g3⟩
      rw [hS1]
      have g4 := g2.trans g3
      have e3 := last_get (s := ⟨noSet, []⟩) hS1
      clear K3 g3 g2 h2
      have K4 := Lib.hid (lead_any R (X.length + lenR x) X.length r' _ V3 F3 w3 h3 _ e3 (by simp) (by rw [List.length_append, hS1, List.length_singleton]; omega))
      have hcast : ((X.length + lenR x : Nat) : Int) = (X.length : Int) + (lenR x : Int) := by omega
      rw [hcast] at K4 ⊢
      go_wp2_with fail
      refine K4.out.mono ?_
      rintro e w4 ⟨rfl, V4, F4, h4, g5⟩
      have g6 := g4.trans g5
      clear K4 g5 g4 h3
      have K5 := lead_any R X.length (X.length + lenR x + 1) r' _ V4 F4 w4 h4 _ ht4 ht5 (by rw [leadL_length, List.length_append, hS1, List.length_singleton]; omega)
      rw [show ((X.length + lenR x + 1 : Nat) : Int) = (X.length : Int) + (lenR x : Int) + 1 by omega] at K5
      have hsm : (X.length : Int) + (lenR x : Int) + 1 ≤ 1000 := by omega
      have hsm0 : (0 : Int) ≤ (lenR x : Int) := by omega
      replace K5 := Lib.hid K5
      go_wp2_with fail
      refine K5.out.mono ?_
      rintro e w5 ⟨rfl, V5, F5, h5, g7⟩
      have g8 := g6.trans g7
      rw [laid_star x rfl] at h5
      clear K5 g7 g6 h4
      go_wp2_with fail
      go_ret
      exact OutQ.of (o := .ok (.star x) r') (by simp [partR, often]) ⟨rfl, V5, F5, h5, g8⟩
    · rw [show nextIs 42 r = false by simp [nextIs, h42]]
      rw [drop_no h42] at h2
      have KT1 := Lib.hid (take_any R 43 r V1 w2 h2.q 43 rfl)
      go_wp2_with fail
      refine KT1.out.mono ?_
      rintro e w2 ⟨rfl, q2, hA2⟩
      replace h2 := h2.turn q2 hA2
      replace g2 := g2.trans (Grow.turn hA2)
      clear KT1 q2 hA2
      by_cases h43 : r.head? = some 43
      · obtain ⟨r', rfl⟩ : ∃ r', r = 43 :: r' := by
          cases r with
          | nil => cases h43
          | cons y r' => exact ⟨r', by rw [List.head?_cons] at h43; injection h43 with h43; rw [h43]⟩
        rw [show nextIs 43 (43 :: r') = true by simp [nextIs]]
        rw [show dropIf 43 (43 :: r') = r' by simp [dropIf]] at h2
        simp only [List.length_cons] at hlen
        obtain ⟨t4, ht4, ht5⟩ := lead_get (k := X.length + lenR x) (x := X.length) (last_get (s := ⟨noSet, []⟩) hS1) (by simp)
        have K3 := Lib.hid (addStep_any R noSet r' (X ++ stR x X.length) V1 F1 w2 h2 (by rw [hS1]; omega))
        go_wp2_with (refine wpList_exec (exec_empty (setRow noSet) zero_class rfl _) rfl ?_)
        refine K3.out.mono ?_
        rintro e w3 ⟨rfl, V3, F3, h3, g3⟩
        rw [hS1]
        have g4 := g2.trans g3
        have e3 := last_get (s := ⟨noSet, []⟩) hS1
        clear K3 g3 g2 h2
        have K4 := Lib.hid (lead_any R (X.length + lenR x) X.length r' _ V3 F3 w3 h3 _ e3 (by simp) (by rw [List.length_append, hS1, List.length_singleton]; omega))
        have hcast : ((X.length + lenR x : Nat) : Int) = (X.length : Int) + (lenR x : Int) := by omega
        rw [hcast] at K4 ⊢
        go_wp2_with fail
        refine K4.out.mono ?_
        rintro e w4 ⟨rfl, V4, F4, h4, g5⟩
        have g6 := g4.trans g5
        clear K4 g5 g4 h3
        have K5 := lead_any R (X.length + lenR x) (X.length + lenR x + 1) r' _ V4 F4 w4 h4 _ ht4 ht5 (by rw [leadL_length, List.length_append, hS1, List.length_singleton]; omega)
        rw [show ((X.length + lenR x + 1 : Nat) : Int) = (X.length : Int) + (lenR x : Int) + 1 by omega, hcast] at K5
        have hsm : (X.length : Int) + (lenR x : Int) + 1 ≤ 1000 := by omega
        have hsm0 : (0 : Int) ≤ (lenR x : Int) := by omega
        replace K5 := Lib.hid K5
        go_wp2_with fail
        refine K5.out.mono ?_
        rintro e w5 ⟨rfl, V5, F5, h5, g7⟩
        have g8 := g6.trans g7
        rw [laid_plus x rfl] at h5
        clear K5 g7 g6 h4
        go_wp2_with fail
        go_ret
        exact OutQ.of (o := .ok (.plus x) r') (by simp [partR, often]) ⟨rfl, V5, F5, h5, g8⟩
      · rw [show nextIs 43 r = false by simp [nextIs, h43]]
        rw [drop_no h43] at h2
        have KT1 := Lib.hid (take_any R 63 r V1 w2 h2.q 63 rfl)
        go_wp2_with fail
        refine KT1.out.mono ?_
        rintro e w2 ⟨rfl, q2, hA2⟩
        replace h2 := h2.turn q2 hA2
        replace g2 := g2.trans (Grow.turn hA2)
        clear KT1 q2 hA2
        by_cases h63 : r.head? = some 63
        · obtain ⟨r', rfl⟩ : ∃ r', r = 63 :: r' := by
            cases r with
            | nil => cases h63
            | cons y r' => exact ⟨r', by rw [List.head?_cons] at h63; injection h63 with h63; rw [h63]⟩
          rw [show nextIs 63 (63 :: r') = true by simp [nextIs]]
          rw [show dropIf 63 (63 :: r') = r' by simp [dropIf]] at h2
          simp only [List.length_cons] at hlen
          obtain ⟨s0, hs0, hs1⟩ := hfst
          have K5 := lead_any R X.length (X.length + lenR x) r' _ V1 F1 w2 h2 _ hs0 (by omega) (by rw [hS1]; omega)
          rw [show ((X.length + lenR x : Nat) : Int) = (X.length : Int) + (lenR x : Int) by omega] at K5
          replace K5 := Lib.hid K5
          obtain ⟨a1, c1, rfl⟩ := rd_len h2
          have c5 := h2.q.steps
          rw [hS1] at c5
          have hcast : ((X.length + lenR x : Nat) : Int) = (X.length : Int) + (lenR x : Int) := by omega
          go_wp2_with fail
          refine K5.out.mono ?_
          rintro e w5 ⟨rfl, V5, F5, h5, g7⟩
          have g8 := g2.trans g7
          rw [laid_opt x rfl] at h5
          clear K5 g7 g2 h2 c5
          go_wp2_with fail
          go_ret
          exact OutQ.of (o := .ok (.opt x) r') (by simp [partR, often]) ⟨rfl, V5, F5, h5, g8⟩
        · rw [show nextIs 63 r = false by simp [nextIs, h63]]
          rw [drop_no h63] at h2
          go_wp2_with fail
          go_ret
          exact OutQ.of (o := .ok x r) (by simp only [partR, often_none h42 h43 h63]) ⟨rfl, V1, F1, h2, g2⟩
end Go.Proofs.Ytakkcofmbafneaa
