/- The reader: alternatives. -/
import Derived.Test.YtakkcofmbafneaaPAltP
namespace Go.Proofs.Ytakkcofmbafneaa
open Go.ChangeShapes Go.WideShapes Go.RowKit

section
variable {ops : Array Oper} {rest : List Oper} {o : Oper} {a : Act} {w : World} {Q : Exit → Act → World → Prop}
/-- An int is laid into a row of its own. -/
theorem wpList_row_int (v : Value) (h1 : v.cells = #[v]) (x : Operand) (hg : o.guard = none) (ho : o.op = .buildSlice 63 1 #[(0, x)]) (hx : a.eval x = v)
    (h : ∀ Y w', Rw w' Y 3 [v] → Below w.heap.size w w' → wpList Try.prog ops Q rest (a.put o.dst (.slice (some ⟨Y, 0, none⟩) 1 1)) w') : wpList Try.prog ops Q (o :: rest) a w :=
  wpList_plain hg fun _ hK => wp_row_int v h1 x ho hx (hK _ _ (h _ _ (Rw.new w 3 [v]) ((Below.refl _ _).alloc (Nat.le_refl _) _)))
/-- An int is appended. -/
theorem wpList_own_int (s x : Operand) (hg : o.guard = none) (ho : o.op = .call { callee := .builtin .append, args := #[s, x], argTypes := #[63, 63] })
    (base : Nat) (v : Value) (n : Nat) (xs : List Value) (hs : a.eval s = v) (hown : w.ownsRow base 3 1 v n xs) (Y : Nat) (u : Value) (hx : a.eval x = .slice (some ⟨Y, 0, none⟩) 1 1) (hr : Rw w Y 3 [u]) (h1 : u.oneCell' = true) (hn : n ≤ 100000) (hbase : base ≤ w.heap.size)
    (h : ∀ v' w', w'.ownsRow base 3 1 v' (n + 1) (xs ++ [u]) → w.grownBy w' v.ownBlock → (v'.ownBlock = v.ownBlock ∨ v'.ownBlock = some w.heap.size) → wpList Try.prog ops Q rest (a.put o.dst v') w') : wpList Try.prog ops Q (o :: rest) a w := by
  obtain ⟨i0, hi, hz0, hz1, hz2⟩ := info_parts0 info_int
  exact wpList_plain hg fun _ hK => wp_own_at s x 63 ho base 3 i0 (.int .i64 0) 1 8 Try.underlying63 hi hz0 hz1 hz2 rfl (by decide) v n xs hs hown Y [u] hx rfl hr (fun t ht => by rw [List.mem_singleton.1 ht]; exact h1) (by unfold maxLen; omega) (by omega) hbase (fun v' w' a b c => hK _ _ (h v' w' a b c))
end
theorem own_pos {w : World} {base : Nat} {e : TypeId} {s n : Nat} {v : Value} {xs : List Value} (h : w.ownsRow base e s v n xs) (hn : 0 < n) : ∃ g cap, v = .slice (some ⟨g, 0, none⟩) n cap := by
  obtain ⟨m, rfl⟩ : ∃ m, n = m + 1 := ⟨n - 1, by omega⟩
  exact own_succ h
set_option maxHeartbeats 6400000 in
set_option maxRecDepth 100000 in
theorem alt_step (n : Nat) (HS : ∀ m, m ≤ n → SeqC m) : AltC (n + 1) := fun R d l X V F w D h hD hd hX hf hn => by
  obtain ⟨O, hO⟩ : ∃ O, altN (n + 1) d l = O := ⟨_, rfl⟩
  rw [hO]
  have HO : Unit → outA [] (altN (n + 1) d l) = O := fun _ => by rw [hO, outA_nil]
  have HS' : Unit → ∀ m, m ≤ n → SeqC m := fun _ => HS
  have HF : Unit → Fb X := fun _ => hf
  have HD : Unit → D = (d : Int) := fun _ => hD
  clear hO HS hf hD
  have K := Lib.hid (addStep_any R noSet l X V F w h (by omega))
  have hX0 : X.length ≤ 300 := by omega
  go_enter Try.func23, Try.ntmps23
  go_wp2_with (refine wpList_exec (exec_empty (setRow noSet) zero_class rfl _) rfl ?_)
  refine K.out.mono ?_
  rintro e w1 ⟨rfl, V1, F1, h1, g1⟩
  clear K
  go_upto_region 3 with fail
  go_loopw [6] (fun ev wr => ∃ m L s V' F', outA L (altN m d s) = O ∧ 4 * s.length + 4 ≤ m ∧ m ≤ n + 1 ∧ RdAt wr R s (altS X L) V' F' ∧ Grow R V F V' F' w wr ∧ EndsAt wr R w.heap.size V' F' ev (endL L (X.length + 1)) ∧ X.length + lenL L + s.length + 1 ≤ 300 ∧ ∀ q ∈ L, okS q) (fun _ wr => restLen wr R)
  case atStart => exact ⟨n + 1, [], l, V1, F1, HO (), hn, Nat.le_refl _, h1, g1, ⟨World.ownsRow_nil _ _ _ _, fun k e => by cases e⟩, by rw [lenL]; omega, fun q hq => by cases hq⟩
  case round =>
    obtain ⟨m, L, s, V2, F2, hO, hm, hm1, h2, g2, hE, hl, hok⟩ := hrel
    have HQ : Unit → outA L (altN m d s) = O := fun _ => hO
    have HOK : Unit → ∀ q ∈ L, okS q := fun _ => hok
    have hfb0 := altS_fb (HF ()) hok (by omega)
    clear hO HO h1 g1 hn h hok
    obtain ⟨m, rfl⟩ : ∃ k, m = k + 1 := ⟨m - 1, by omega⟩
    have hlen := h2.q.len
    have c2 := h2.q.steps
    obtain ⟨a2, c2', rfl⟩ := rd_len h2
    have hlL := len_le L
    have KL := lead_any R X.length (X.length + 1 + lenL L) s (altS X L) _ F2 wr h2 _ (altS_get X L) (by simp only [begL_length]; omega) (by rw [altS_len]; omega)
    have hSl := altS_len X L
    obtain ⟨N, hN⟩ : ∃ N, X.length + 1 + lenL L = N := ⟨_, rfl⟩
    rw [hN] at KL hSl
    rw [hSl] at c2 KL g2 hE
    have HSL : Unit → (altS X L).length = N := fun _ => hSl
    have HN : Unit → X.length + 1 + lenL L = N := fun _ => hN
    have hNi : N ≤ 301 := by omega
    clear hSl hN
    replace KL := Lib.hid KL
    have hfb1 : Fb (leadL (altS X L) X.length N) := by
      rw [altS, leadL_at _ rfl]
      rw [altS] at hfb0
      refine Fb.app hfb0.left fun t ht => ?_
      rcases List.mem_cons.1 ht with rfl | ht
      · simp only [List.length_append, begL_length, List.length_singleton]; omega
      · exact hfb0.right t (List.mem_cons_of_mem _ ht)
    have HB1 : Unit → Fb (leadL (altS X L) X.length N) := fun _ => hfb1
    have hS2 : (leadL (altS X L) X.length N).length = N := by rw [leadL_length]; exact HSL ()
    have HSM := HS' () m (by omega) R d s (leadL (altS X L) X.length N)
    rw [hS2] at HSM
    have hgood := fun q r => (reads_good m).2.1 d s q r
    obtain ⟨o, ho⟩ : ∃ o, seqN m d s = o := ⟨_, rfl⟩
    rw [ho] at HSM hgood
    have HM : Unit → seqN m d s = o := fun _ => ho
    have hN' := HN ()
    have KS := Lib.hid fun V F w h => HSM V F w D h (HD ()) hd (by omega) hfb1 (by omega)
    clear ho hfb0 hfb1 HSM hN'
    have HS2 : Unit → (leadL (altS X L) X.length N).length = N := fun _ => hS2
    clear hS2
    cases o with
    | er er =>
      have hON : O = .er er := by rw [← HQ ()]; exact alt_er (HM ()) L
      subst hON
      have hne := erV_ne er
      clear HQ hgood hlen hm h2
      go_wp2_with fail
      refine KL.out.mono ?_
      rintro e w3 ⟨rfl, V3, F3, h3, g3⟩
      have g4 := g2.trans g3
      clear KL g2 g3 c2
      go_wp2_with fail
      refine (KS.out _ _ _ h3).mono ?_
      rintro e w4 ⟨rfl, hA⟩
      clear KS
      go_wp2_with fail
      go_ret
      exact ⟨rfl, g4.andAsd hA⟩
    | ok q r =>
      obtain ⟨hokq, hlq⟩ := hgood q r rfl
      clear hgood h2
      obtain ⟨E, hEe⟩ : ∃ E, N + lenS q = E := ⟨_, rfl⟩
      have hEi : E ≤ 400 := by have := HN (); omega
      go_wp2_with fail
      refine KL.out.mono ?_
      rintro e w3 ⟨rfl, V3, F3, h3, g3⟩
      have g4 := g2.trans g3
      have hE3 := hE.grow g3
      clear KL g2 g3 c2 hE
      go_wp2_with fail
      refine (KS.out _ _ _ h3).mono ?_
      rintro e w4 ⟨rfl, V4, F4, h4, g5⟩
      have g6 := g4.trans g5
      have hE4 := hE3.grow g5
      clear KS g4 g5 hE3 h3
      have K6 := addStep_any R noSet r _ V4 F4 w4 h4 (by rw [List.length_append, HS2 (), stS_length]; omega)
      rw [show ((leadL (altS X L) X.length N ++ stS q N).length : Nat) = E by rw [List.length_append, HS2 (), stS_length]; exact hEe] at K6
      rw [show (leadL (altS X L) X.length N ++ stS q N) ++ [⟨noSet, []⟩] = altS X (L ++ [q]) by rw [← HN ()]; exact altS_more X L q] at K6
      replace K6 := Lib.hid K6
      obtain ⟨ae, ce, eqE, _⟩ := own_slice hE4.1
      subst eqE
      go_wp2_with (refine wpList_exec (exec_empty (setRow noSet) zero_class rfl _) rfl ?_)
      refine K6.out.mono ?_
      rintro e w5 ⟨rfl, V5, F5, h5, g7⟩
      have g8 := g6.trans g7
      have hE5 := hE4.grow g7
      clear K6 g6 g7 hE4 h4
      go_wp2_with (refine wpList_row_int (intV E) rfl _ rfl rfl rfl ?_)
      intro Y w6 rY hb6
      have h6 := h5.stay hb6
      have g9 := g8.trans (Grow.below hb6)
      have hE6 := hE5.stay hb6
      have hw6 := g9.asd.size
      have hR6 := Rw.lt h6.q
      have hel : (endL L (X.length + 1)).length ≤ 100000 := by rw [endL_length]; omega
      clear hE5 h5 g8 hb6
      go_wp2_with (refine wpList_own_int (.tmp 27) (.tmp 31) rfl rfl (R + 1) _ _ _ rfl hE6.1 Y (intV E) rfl rY rfl hel (by omega) ?_)
      intro v' w7 hO7 hg7 hl7
      obtain ⟨hE7, h7, hA7⟩ := hE6.snoc h6 hw6 hO7 hg7 hl7
      have g10 := g9.ends hE6 hA7
      rw [show endL L (X.length + 1) ++ [E] = endL (L ++ [q]) (X.length + 1) by rw [endL_snoc, HN (), hEe]] at hE7
      clear hO7 hg7 hl7 hE6 h6 hA7 g9 rY
      have hLq : lenL (L ++ [q]) = lenL L + lenS q + 1 := lenL_snoc L q
      have hN' := HN ()
      have hS7 := altS_len X (L ++ [q])
      rw [hLq] at hS7
      obtain ⟨M, hM⟩ : ∃ M, E + 1 = M := ⟨_, rfl⟩
      have hS7' : (altS X (L ++ [q])).length = M := by omega
      have HS7 : Unit → (altS X (L ++ [q])).length = M := fun _ => hS7'
      have hLq' : X.length + 1 + lenL (L ++ [q]) = M := by omega
      have HLq : Unit → X.length + 1 + lenL (L ++ [q]) = M := fun _ => hLq'
      have hMi : M ≤ 400 := by omega
      have hlr : X.length + lenL (L ++ [q]) + r.length ≤ 300 := by omega
      have hok7 : ∀ p ∈ L ++ [q], okS p := fun p hp => by
        rcases List.mem_append.1 hp with hp | hp
        · exact HOK () p hp
        · rw [List.mem_singleton.1 hp]; exact hokq
      have hlrs : r.length ≤ s.length := by omega
      have hl1 : X.length + lenL (L ++ [q]) + r.length + 1 ≤ 301 := by omega
      clear hN' hS7 hS7' hLq' hLq HSL HN hEe hM
      have K8 := take_any R 124 r V5 w7 h7.q 124 rfl
      by_cases h124 : r.head? = some 124
      · obtain ⟨r', rfl⟩ : ∃ r', r = 124 :: r' := by
          cases r with
          | nil => cases h124
          | cons y r' => exact ⟨r', by rw [List.head?_cons] at h124; injection h124 with h124; rw [h124]⟩
        rw [show nextIs 124 (124 :: r') = true by simp [nextIs], show dropIf 124 (124 :: r') = r' by simp [dropIf]] at K8
        have hON : Unit → outA (L ++ [q]) (altN m d r') = O := fun _ => by rw [← HQ ()]; exact (alt_more (HM ()) L).symm
        simp only [List.length_cons] at hlrs hlr
        replace K8 := Lib.hid K8
        clear HQ HM
        go_wp2_with fail
        refine K8.out.mono ?_
        rintro e w8 ⟨rfl, q8, hA8⟩
        have h8 := h7.turn q8 hA8
        have g11 := g10.trans (Grow.turn hA8)
        have hE8 := hE7.grow (Grow.turn (V := V5) (F := F5) hA8)
        have hl8 := q8.len
        clear K8 h7 g10 hE7 q8 hA8
        go_wp2_with fail
        go_roundw
        case rel => exact ⟨m, L ++ [q], r', V5, F5, hON (), by omega, by omega, h8, g11, hE8, by omega, hok7⟩
        case measure => rw [hl8, hlen]; omega
      · rw [show nextIs 124 r = false by simp [nextIs, h124], drop_no h124] at K8
        have hON : O = .ok (preA L (.one q)) r := by rw [← HQ ()]; exact alt_one (HM ()) h124 L
        subst hON
        replace K8 := Lib.hid K8
        clear HQ HM hlen hm hm1 hlrs
        go_wp2_with fail
        refine K8.out.mono ?_
        rintro e w8 ⟨rfl, q8, hA8⟩
        have h8 := h7.turn q8 hA8
        have g11 := g10.trans (Grow.turn hA8)
        have hE8 := hE7.grow (Grow.turn (V := V5) (F := F5) hA8)
        clear K8 h7 g10 hE7 q8 hA8
        have hes : (endL (L ++ [q]) (X.length + 1)).length = L.length + 1 := by rw [endL_length, List.length_append]; rfl
        have hmem : Unit → ∀ e, e ∈ endL (L ++ [q]) (X.length + 1) → e < M := fun _ e he => by have := (endL_mem he).2; have := HLq (); omega
        have hgrp : Unit → foldE (altS X (L ++ [q])) M (endL (L ++ [q]) (X.length + 1)) = X ++ stR (.grp (preA L (.one q))) X.length := fun _ => by rw [← HLq ()]; exact foldE_group X L q
        have hfr : Unit → Fb (altS X (L ++ [q])) := fun _ => altS_fb (HF ()) hok7 (by have := HLq (); omega)
        obtain ⟨es, ees⟩ : ∃ es, endL (L ++ [q]) (X.length + 1) = es := ⟨_, rfl⟩
        rw [ees] at hE8 hes hmem hgrp
        obtain ⟨T, hT⟩ : ∃ T, altS X (L ++ [q]) = T := ⟨_, rfl⟩
        rw [hT] at h8 hgrp hfr HS7
        obtain ⟨g8, cap8, rfl⟩ := own_pos hE8.1 (by omega)
        have hesi : es.length ≤ 400 := by omega
        clear ees hT HLq hok7 hes
        go_upto_region 10 with fail
        go_loopw [38] (fun i wr => ∃ (k : Nat) (V' : Value) (F' : List Value), k ≤ es.length ∧ i = .int .i64 (k : Int) ∧ RdAt wr R r (foldE T M (es.take k)) V' F' ∧ Grow R V F V' F' w wr ∧ EndsAt wr R w.heap.size V' F' (.slice (some ⟨g8, 0, none⟩) es.length cap8) es) (fun i _ => es.length - (intOf i).toNat)
        case atStart => exact ⟨0, V5, F5, Nat.zero_le _, rfl, h8, g11, hE8⟩
        case round =>
          obtain ⟨k, V9, F9, hk, rfl, h9, g12, hE9⟩ := hrel
          clear h8 g11 hE8
          by_cases hlt : k < es.length
          · have hki : (k : Int) < (es.length : Int) := by omega
            obtain ⟨e, he⟩ : ∃ e, es[k]? = some e := ⟨_, List.getElem?_eq_getElem hlt⟩
            have hc := hE9.1.cellAt k (by omega)
            rw [List.getElem?_map, he] at hc
            change _ = some (Value.int .i64 (e : Int)) at hc
            have hS9 : (foldE T M (es.take k)).length = M := by rw [foldE_len]; exact HS7 ()
            have heM := hmem () e (List.mem_of_getElem? he)
            obtain ⟨t, ht⟩ : ∃ t, (foldE T M (es.take k))[e]? = some t := ⟨_, List.getElem?_eq_getElem (by rw [hS9]; exact heM)⟩
            have htf := foldE_free (E := M) (es.take k) (hfr ()) t (List.mem_of_getElem? ht)
            rw [List.length_take] at htf
            have K9 := Lib.hid (lead_any R e M r _ V9 F9 wr h9 t ht (by omega) (by omega))
            obtain ⟨a9, c9, eV9⟩ := rd_len h9
            rw [hS9] at eV9
            subst eV9
            have cs9 := h9.q.steps
            have hTk : foldE T M (es.take (k + 1)) = leadL (foldE T M (es.take k)) e M := by rw [take_more he, foldE_snoc]
            have HTk : Unit → _ := fun _ => hTk
            clear hTk ht htf h9 hS9 he heM
            go_wp2_with fail
            refine K9.out.mono ?_
            rintro e' w10 ⟨rfl, V10, F10, h10, g13⟩
            rw [← HTk ()] at h10
            have hE10 := hE9.grow g13
            have g14 := g12.trans g13
            clear K9 cs9 hc g12 g13 hE9
            go_wp2_with fail
            go_roundw
            case rel => exact ⟨k + 1, V10, F10, by omega, by go_num, h10, g14, hE10⟩
            case measure => simp [intOf]; omega
          · have hke : k = es.length := by omega
            rw [hke, List.take_length, hgrp ()] at h9
            have hnot : ¬ ((k : Int) < (es.length : Int)) := by omega
            clear hE9 hke
            go_wp2_with fail
            go_ret
            exact ⟨rfl, V9, F9, h9, g12⟩
end Go.Proofs.Ytakkcofmbafneaa
