/- SealChain: the statement's own function returns true, of whatever key and parts. -/
import Derived.Test.YtidiallphmocdaaDoorSVals
namespace Go.Proofs.YtidiallphmocdaaDoor
open Go.ChangeShapes Go.WideShapes Go.RowKit

/-- The first parts, each cut at 80 bytes, as they are told in memory. -/
def CutAt (w : World) (ls : List (List Nat)) (n : Nat) (vs : List Value) : Prop :=
  vs.length = n ∧ n ≤ ls.length ∧ n ≤ 6 ∧ (∀ x ∈ vs, x.oneCell' = true) ∧ ∀ (j : Nat) p, j < n → ls[j]? = some p → ∃ u, vs[j]? = some u ∧ BytesAt w u (p.take 80)
theorem CutAt.next {w : World} {ls : List (List Nat)} {n : Nat} {vs : List Value} (h : CutAt w ls n vs) (h6 : n < 6) {p : List Nat} (hp : ls[n]? = some p) {u : Value} (hu : BytesAt w u (p.take 80)) : CutAt w ls (n + 1) (vs ++ [u]) := by
  obtain ⟨h1, h2, h3, h4, h5⟩ := h
  have hn := (List.getElem?_eq_some_iff.1 hp).1
  refine ⟨by simp [h1], by omega, by omega, fun x hx => ?_, fun j q hj hq => ?_⟩
  · rcases List.mem_append.1 hx with hx | hx
    · exact h4 x hx
    · rw [List.mem_singleton.1 hx]
      obtain ⟨a, cap, rfl, _⟩ := hu
      rfl
  · rcases Nat.lt_or_eq_of_le (Nat.le_of_lt_succ hj) with h | rfl
    · obtain ⟨u', h7, h8⟩ := h5 j q h hq
      exact ⟨u', by rw [List.getElem?_append_left (by omega)]; exact h7, h8⟩
    · rw [hp] at hq
      obtain rfl := Option.some.inj hq
      exact ⟨u, by rw [List.getElem?_append_right (by omega), h1, Nat.sub_self]; rfl, hu⟩
def cutL (ls : List (List Nat)) (n : Nat) : List (List Nat) := (ls.take n).map (·.take 80)
theorem cutL_len {ls : List (List Nat)} {n : Nat} (h : n ≤ ls.length) : (cutL ls n).length = n := by simp [cutL]; omega
theorem cutL_at {ls : List (List Nat)} {n j : Nat} {p : List Nat} (h : (cutL ls n)[j]? = some p) : ∃ q, j < n ∧ ls[j]? = some q ∧ p = q.take 80 := by
  unfold cutL at h
  rw [List.getElem?_map] at h
  obtain ⟨q, h1, rfl⟩ := Option.map_eq_some_iff.1 h
  rw [List.getElem?_take] at h1
  split at h1
  · exact ⟨q, by assumption, h1, rfl⟩
  · cases h1
theorem cutL_u {ls : List (List Nat)} (h : ∀ p ∈ ls, (∀ x ∈ p, U8 x)) (n : Nat) : ∀ p ∈ cutL ls n, (∀ x ∈ p, U8 x) ∧ p.length ≤ 80 := fun p hp => by
  unfold cutL at hp
  obtain ⟨q, hq, rfl⟩ := List.mem_map.1 hp
  exact ⟨u8_take (h q (List.mem_of_mem_take hq)) 80, by simp; omega⟩
theorem CutAt.parts {w w' : World} {ls : List (List Nat)} {n : Nat} {vs : List Value} {v : Value} (h : CutAt w ls n vs) (hv : ValsAt w' v vs) (hb : Below w.heap.size w w') : PartsAt w' v (cutL ls n) :=
  parts_of_vals hv (by rw [h.1, cutL_len h.2.1]) fun j p hp => by
    obtain ⟨q, hj, hq, rfl⟩ := cutL_at hp
    obtain ⟨u, h1, h2⟩ := h.2.2.2.2 j q hj hq
    exact ⟨u, h1, h2.keep hb⟩

theorem cls_grown {w w' : World} {row : Option Nat} {g o : Nat} {xs : List Value} (h : Cls w g o xs) (hg : w.grownBy w' row) (hne : some g ≠ row) : Cls w' g o xs := fun j v hv => hg.cell (h j v hv) hne
theorem u8_x : ∀ x ∈ [120], U8 x := fun x hx => by rw [List.mem_singleton.1 hx]; exact (show 120 < 256 by omega)
set_option maxRecDepth 100000 in
set_option maxHeartbeats 6400000 in
theorem chainLaw_any (v l : Value) (k : List Nat) (ls : List (List Nat)) (w : World) (ht : Tabs w) (hv : BytesAt w v k) (uk : ∀ x ∈ k, U8 x) (hlk : k.length ≤ 9223372036854775807) (hls : PartsAt w l ls) (ull : ∀ p ∈ ls, (∀ x ∈ p, U8 x) ∧ p.length ≤ 9223372036854775807) (hln : ls.length ≤ 9223372036854775807) :
    Calls Tryd.prog 11 #[v, l] w fun e w' => e = .returned (.bool true) ∧ Below w.heap.size w w' := by
  obtain ⟨al, cl, hle, hkl⟩ := id hls
  subst hle
  have Hkl : Unit → ∀ j p, ls[j]? = some p → ∃ g o u, al = some ⟨g, o, none⟩ ∧ w.cell? ⟨g, o + j, none⟩ = some u ∧ BytesAt w u p := fun _ => hkl
  clear hkl hls
  go_enter Tryd.func11, Tryd.ntmps11
  go_wp2_with fail
  refine (slives_any _ ht).mono ?_
  rintro e w1 ⟨rfl, hB⟩
  go_wp2_with fail
  refine (searly_any _ k _ (hv.keep hB) hlk).mono ?_
  rintro e w2 ⟨⟨v1, rfl, hv1⟩, rfl⟩
  have uk' := u8_take uk 200
  have hl1 : (k.take 200).length ≤ 200 := by simp; omega
  generalize k.take 200 = c at *
  clear hv uk hlk
  go_upto_region 6 with fail
  go_loopw [5, 6] (fun vo i wr => ∃ (j : Nat) (vs : List Value), i = .int .i64 (j : Int) ∧ CutAt w2 ls j vs ∧ wr.ownsRow w2.heap.size 22 1 vo j vs ∧ Below w2.heap.size w2 wr) (fun _ i _ => 6 - (intOf i).toNat)
  case atStart => exact ⟨0, [], rfl, ⟨rfl, by omega, by omega, by simp, fun j p hj => by omega⟩, World.ownsRow_nil _ _ _ _, Below.refl _ _⟩
  case round =>
    obtain ⟨j, vs, rfl, hC, hO, hb⟩ := hrel
    have h6 := hC.2.2.1
    by_cases hlt : j < ls.length ∧ j < 6
    · obtain ⟨p, hp⟩ : ∃ p, ls[j]? = some p := ⟨_, List.getElem?_eq_getElem hlt.1⟩
      obtain ⟨gp, op, up, rfl, hcp, hup⟩ := Hkl () j p hp
      obtain ⟨ap, cp, hupe, _, _⟩ := id hup
      subst hupe
      obtain ⟨M, hM⟩ : ∃ M, M = min p.length 80 := ⟨_, rfl⟩
      have hif : (if (80 : Int) < (p.length : Int) then 80 else (p.length : Int)) = (M : Int) := by split <;> omega
      obtain ⟨us, hsl, hus⟩ := hup.first M (by omega) (M : Int) rfl
      have Hup : Unit → BytesAt w2 us (p.take 80) := fun _ => by
        have : p.take M = p.take 80 := by
          rcases Nat.lt_or_ge p.length 80 with h | h
          · rw [List.take_of_length_le (by omega), List.take_of_length_le (by omega)]
          · rw [show M = 80 by omega]
        rw [← this]; exact hus.keep hB
      obtain ⟨aq, cq, huse, _, _⟩ := id hus
      clear hM
      have hj1 : (j : Int) < (ls.length : Int) := by omega
      have hj6 : (j : Int) < 6 := by omega
      have hBw := hB.trans (hb.mono hB.size)
      have hlw := World.block_lt_of_cell? w _ hcp
      have hcS : ∀ w', Below w.heap.size w w' → w'.cell? ⟨gp, op + j, none⟩ = some (.slice ap p.length cp) := fun w' h => by rw [h.cell hlw]; exact hcp
      have HC : Unit → CutAt w2 ls (j + 1) (vs ++ [us]) := fun _ => hC.next hlt.2 hp (Hup ())
      have hu1 : us.oneCell' = true := by rw [huse]; rfl
      subst huse
      generalize (p.take M).length = ms at *
      have hvl := hC.1
      have hSz : w2.heap.size ≤ wr.heap.size := hb.size
      go_upto_region 8 with fail
      refine wp_region_held (S := fun w' => Below w.heap.size w w') (by kernel_rfl) ?_
      have hT : Below wr.heap.size wr { wr with drawn := wr.drawn + 1 } := (Below.refl _ wr).drew
      generalize { wr with drawn := wr.drawn + 1 } = W8 at *
      have hS := hBw.trans (hT.mono hBw.size)
      refine held_val 0 rfl (by kernel_rfl) (by kernel_rfl) (by kernel_rfl) (fun _ _ _ _ h => h) (by rfl) hS ?_
      apply Exists.intro
      refine ⟨fun w' hw' => ?_, ?_⟩
      · skip
        go_simp
        first | done | rfl | exact ⟨rfl, rfl⟩
      simp only [Act.put, List.setIfInBounds_toArray, List.set_cons_zero, List.set_cons_succ]
      refine held_val 1 rfl (by kernel_rfl) (by kernel_rfl) (by kernel_rfl) (fun _ _ _ _ h => h) (by rfl) hS ?_
      apply Exists.intro
      refine ⟨fun w' hw' => ?_, ?_⟩
      · skip
        go_simp
        first | done | rfl | exact ⟨rfl, rfl⟩
      simp only [Act.put, List.setIfInBounds_toArray, List.set_cons_zero, List.set_cons_succ]
      refine held_val 2 rfl (by kernel_rfl) (by kernel_rfl) (by kernel_rfl) (fun _ _ _ _ h => h) (by rfl) hS ?_
      apply Exists.intro
      refine ⟨fun w' hw' => ?_, ?_⟩
      · skip
        go_simp
        first | done | rfl | exact ⟨rfl, rfl⟩
      simp only [Act.put, List.setIfInBounds_toArray, List.set_cons_zero, List.set_cons_succ]
      refine held_val 3 rfl (by kernel_rfl) (by kernel_rfl) (by kernel_rfl) (fun _ _ _ _ h => h) (by rfl) hS ?_
      apply Exists.intro
      refine ⟨fun w' hw' => ?_, ?_⟩
      · skip
        go_simp
        first | done | rfl | exact ⟨rfl, rfl⟩
      simp only [Act.put, List.setIfInBounds_toArray, List.set_cons_zero, List.set_cons_succ]
      refine held_val 4 rfl (by kernel_rfl) (by kernel_rfl) (by kernel_rfl) (fun _ _ _ _ h => h) (by rfl) hS ?_
      apply Exists.intro
      refine ⟨fun w' hw' => ?_, ?_⟩
      · have e1 := hcS w' hw'
        go_simp
        first | done | rfl | exact ⟨rfl, rfl⟩
      simp only [Act.put, List.setIfInBounds_toArray, List.set_cons_zero, List.set_cons_succ]
      refine held_val 5 rfl (by kernel_rfl) (by kernel_rfl) (by kernel_rfl) (fun _ _ _ _ h => h) (by rfl) hS ?_
      apply Exists.intro
      refine ⟨fun w' hw' => ?_, ?_⟩
      · skip
        go_simp
        first | done | rfl | exact ⟨rfl, rfl⟩
      simp only [Act.put, List.setIfInBounds_toArray, List.set_cons_zero, List.set_cons_succ]
      refine held_val 6 rfl (by kernel_rfl) (by kernel_rfl) (by kernel_rfl) (fun _ _ _ _ h => h) (by rfl) hS ?_
      apply Exists.intro
      refine ⟨fun w' hw' => ?_, ?_⟩
      · skip
        go_simp
        first | done | rfl | exact ⟨rfl, rfl⟩
      simp only [Act.put, List.setIfInBounds_toArray, List.set_cons_zero, List.set_cons_succ]
      refine held_val 7 rfl (by kernel_rfl) (by kernel_rfl) (by kernel_rfl) (fun _ _ _ _ h => h) (by rfl) hS ?_
      apply Exists.intro
      refine ⟨fun w' hw' => ?_, ?_⟩
      · skip
        go_simp
        first | done | rfl | exact ⟨rfl, rfl⟩
      simp only [Act.put, List.setIfInBounds_toArray, List.set_cons_zero, List.set_cons_succ]
      refine held_val 8 rfl (by kernel_rfl) (by kernel_rfl) (by kernel_rfl) (fun _ _ _ _ h => h) (by rfl) hS ?_
      apply Exists.intro
      refine ⟨fun w' hw' => ?_, ?_⟩
      · have e1 := hcS w' hw'
        go_simp
        first | done | rfl | exact ⟨rfl, rfl⟩
      simp only [Act.put, List.setIfInBounds_toArray, List.set_cons_zero, List.set_cons_succ]
      refine held_val 9 rfl (by kernel_rfl) (by kernel_rfl) (by kernel_rfl) (fun _ _ _ _ h => h) (by rfl) hS ?_
      apply Exists.intro
      refine ⟨fun w' hw' => ?_, ?_⟩
      · skip
        go_simp
        first | done | rfl | exact ⟨rfl, rfl⟩
      simp only [Act.put, List.setIfInBounds_toArray, List.set_cons_zero, List.set_cons_succ]
      refine held_val 10 rfl (by kernel_rfl) (by kernel_rfl) (by kernel_rfl) (fun _ _ _ _ h => h) (by rfl) hS ?_
      apply Exists.intro
      refine ⟨fun w' hw' => ?_, ?_⟩
      · skip
        go_simp
        first | done | rfl | exact ⟨rfl, rfl⟩
      simp only [Act.put, List.setIfInBounds_toArray, List.set_cons_zero, List.set_cons_succ]
      clear hif
      refine held_val 11 rfl (by kernel_rfl) (by kernel_rfl) (by kernel_rfl) (fun _ _ _ _ h => h) (by rfl) hS ?_
      apply Exists.intro
      refine ⟨fun w' hw' => ?_, ?_⟩
      · have e1 := hsl w'
        go_simp
        first | done | rfl | exact ⟨rfl, rfl⟩
      simp only [Act.put, List.setIfInBounds_toArray, List.set_cons_zero, List.set_cons_succ]
      refine held_one 12 (by kernel_rfl) rfl (by rfl) ?_
      unfold Oper.wp
      go_simp
      have hb8 : Below W8.heap.size W8 (W8.alloc (.cells #[.slice aq ms cq] 22)) := (Below.refl _ W8).alloc (Nat.le_refl _) _
      refine ⟨hS.trans (hb8.mono hS.size), ?_⟩
      have hO8 := own_below (own_below hO hT) hb8
      have hv8 := vals_one W8 (.slice aq ms cq) hu1
      have hT8 := hT.trans (hb8.mono hT.size)
      generalize W8.alloc (.cells #[.slice aq ms cq] 22) = W9 at *
      have hsz9 : w2.heap.size ≤ W9.heap.size := Nat.le_trans hSz hT8.size
      refine held_one 13 (by kernel_rfl) rfl (by rfl) ?_
      refine wp_own_vals w2.heap.size _ _ j vs [.slice aq ms cq] hvl hO8 hv8 (by simp only [List.length_singleton]; omega) hsz9 _ _ rfl rfl rfl ?_
      intro v10 w10 h10 g10
      have hb10 := below_appY (hb.trans (hT8.mono hSz)) hO8 (Nat.le_refl _) hsz9 g10
      refine ⟨hB.trans (hb10.mono hB.size), ?_⟩
      simp only [Act.put, List.setIfInBounds_toArray, List.set_cons_zero, List.set_cons_succ]
      replace hS := hB.trans (hb10.mono hB.size)
      clear hO8 hv8 hT8 g10 hsz9 hT hb8 hsl hcS
      refine held_val 14 rfl (by kernel_rfl) (by kernel_rfl) (by kernel_rfl) (fun _ _ _ _ h => h) (by rfl) hS ?_
      apply Exists.intro
      refine ⟨fun w' hw' => ?_, ?_⟩
      · skip
        go_simp
        first | done | rfl | exact ⟨rfl, rfl⟩
      simp only [Act.put, List.setIfInBounds_toArray, List.set_cons_zero, List.set_cons_succ]
      refine wpAnyH_done (by kernel_rfl) ?_ _
      go_wp2_with fail
      go_roundw
      case rel => exact ⟨j + 1, vs ++ [.slice aq ms cq], by simp, HC (), h10, hb10⟩
      case measure => simp [intOf]; omega
    · have hV := vals_of_own hO hC.1 hC.2.2.2.1
      have hP := hC.parts hV hb
      have uL := cutL_u (fun p hp => (ull p hp).1) j
      have lL := cutL_len hC.2.1
      have hBr := hB.trans (hb.mono hB.size)
      have hv1r := hv1.keep hb
      have hvl := hC.1
      have hxx := hC.2.2.2.2
      have hkp : ∀ w', Below w2.heap.size w2 w' → ∀ (q : Nat) p, (cutL ls j)[q]? = some p → ∃ u, vs[q]? = some u ∧ BytesAt w' u p := fun w' h q p hp => by
        obtain ⟨p', hq, hp', rfl⟩ := cutL_at hp
        obtain ⟨u, h1, h2⟩ := hxx q p' hq hp'
        exact ⟨u, h1, h2.keep h⟩
      generalize cutL ls j = L at *
      have hvo := hC.2.2.2.1
      have hex : (¬ (j : Int) < (ls.length : Int)) ∨ ((j : Int) < (ls.length : Int) ∧ ¬ (j : Int) < 6) := by omega
      clear hO hC hlt hxx
      rcases hex with hex | ⟨hex, hex2⟩
      all_goals (
        go_upto_region 9 with fail
        have ull1 : ∀ p ∈ L, (∀ x ∈ p, U8 x) ∧ p.length ≤ 1000 := fun p hp => ⟨(uL p hp).1, by have := (uL p hp).2; omega⟩
        have ull2 : ∀ p ∈ L, (∀ x ∈ p, U8 x) ∧ p.length ≤ 800 := fun p hp => ⟨(uL p hp).1, by have := (uL p hp).2; omega⟩
        have K1 := Lib.hid (chain_any _ _ c L wr (ht.keep hBr) hv1r uk' (by omega) hP ull1 (by omega))
        have hSl := chainN_len c L
        have hSu := chainN_u c L
        have HX : Unit → chainN c (L ++ [[120]]) = sealN c (chainN c L ++ [120]) := fun _ => chainN_snoc c L [120]
        have K2 := Lib.hid (fun w' (h : Below wr.heap.size wr w') => rchain_any _ _ c L w' (hv1r.keep h) uk' (by omega) (hP.keep h) ull2 (by omega))
        generalize chainN c L = S at *
        have hs : (S.map v8).length = 32 := by rw [List.length_map, hSl]
        have ho := one8 S
        go_wp2_with fail
        refine (K1.out).mono ?_
        rintro e w4 ⟨rfl, hb4⟩
        clear K1
        go_upto_region 10 with (refine store_arr w4.heap.size 25 ((zs 32).map v8) (Rw.new w4 25 ((zs 32).map v8)) 32 rfl 25 (by kernel_rfl) _ hs ho _ _ rfl rfl rfl rfl ?_)
        rw [World.setRow_alloc_new]
        have r0 := Rw.new w4 25 (S.map v8)
        replace hb4 := hb4.alloc hb4.size (.cells (S.map v8).toArray 25)
        generalize w4.alloc (.cells (S.map v8).toArray 25) = W4 at *
        generalize w4.heap.size = D0 at *
        generalize hSA : (S.map v8).toArray = SA at *
        have HSA : Unit → (S.map v8).toArray = SA := fun _ => hSA
        clear hSA ho
        simp only [Act.put]
        have hc0 : Cls W4 D0 0 (S.map v8) := r0.cls 0 _ (fun j v hv => by rw [Nat.zero_add]; exact hv)
        have hs0 : ∀ w', Below W4.heap.size W4 w' → Cls w' D0 0 (S.map v8) := fun w' h => hc0.keep h
        have hneq : ∀ w, (binOp .neq 25 (.agg SA) (.agg SA)).run Tryd.prog w = .ok (.bool false) w := fun w => by rw [← HSA ()]; exact (same_arr S hSl w).2
        refine wp_region_held (S := fun w' => Below W4.heap.size W4 w') (by kernel_rfl) ?_
        have hS : Below W4.heap.size W4 { W4 with drawn := W4.drawn + 1 } := (Below.refl _ W4).drew
        generalize { W4 with drawn := W4.drawn + 1 } = W5 at *
        refine held_load 0 rfl (by kernel_rfl) (by kernel_rfl) (by kernel_rfl) (fun _ _ _ _ h => h) (by rfl) hS D0 0 SA _ (HSA ()) 32 hs 25 5 (by kernel_rfl) (by kernel_rfl) hs0 _ rfl rfl ?_
        simp only [Act.put, List.setIfInBounds_toArray, List.set_cons_zero, List.set_cons_succ]
        refine held_val 1 rfl (by kernel_rfl) (by kernel_rfl) (by kernel_rfl) (fun _ _ _ _ h => h) (by rfl) hS ?_
        apply Exists.intro
        refine ⟨fun w' hw' => ?_, ?_⟩
        · skip
          go_simp
          first | done | rfl | exact ⟨rfl, rfl⟩
        simp only [Act.put, List.setIfInBounds_toArray, List.set_cons_zero, List.set_cons_succ]
        refine held_val 2 rfl (by kernel_rfl) (by kernel_rfl) (by kernel_rfl) (fun _ _ _ _ h => h) (by rfl) hS ?_
        apply Exists.intro
        refine ⟨fun w' hw' => ?_, ?_⟩
        · skip
          go_simp
          first | done | rfl | exact ⟨rfl, rfl⟩
        simp only [Act.put, List.setIfInBounds_toArray, List.set_cons_zero, List.set_cons_succ]
        refine held_call 3 (by kernel_rfl) rfl (by rfl) ?_
        apply Exists.intro
        apply Exists.intro
        refine ⟨?_, ?_⟩
        · go_simp
          first | done | rfl | exact ⟨rfl, rfl⟩
        refine (K2.out _ (hb4.trans (hS.mono hb4.size))).mono ?_
        rintro e w6 ⟨rfl, hb6⟩
        replace hS := hS.trans (hb6.mono hS.size)
        refine ⟨_, rfl, hS, ?_⟩
        simp only [Act.put, List.setIfInBounds_toArray, List.set_cons_zero, List.set_cons_succ]
        refine held_val 4 rfl (by kernel_rfl) (by kernel_rfl) (by kernel_rfl) (fun _ _ _ _ h => h) (by rfl) hS ?_
        apply Exists.intro
        refine ⟨fun w' hw' => ?_, ?_⟩
        · skip
          go_simp
          first | done | rfl | exact ⟨rfl, rfl⟩
        simp only [Act.put, List.setIfInBounds_toArray, List.set_cons_zero, List.set_cons_succ]
        refine wpAnyH_done (by kernel_rfl) ?_ _
        replace hb4 := hb4.trans (hS.mono hb4.size)
        replace r0 := r0.keep hS
        clear K2 hb6 hS hs0 hc0 hneq hs
        replace hV := hV.keep hb4
        replace hv1r := hv1r.keep hb4
        replace hb := hb.trans (hb4.mono hb.size)
        replace hBr := hBr.trans (hb4.mono hBr.size)
        clear hP hb4 hv1
        go_wp2_with (at_builtin; refine list_own_vals w6.heap.size (.slice none 0 0) _ 0 [] vs rfl (World.ownsRow_nil _ _ _ _) hV (by omega) (Nat.le_refl _) _ _ rfl rfl rfl rfl ?_)
        intro v7 w7 h7 g7
        have hb7 := below_appY (Below.refl w6.heap.size w6) (World.ownsRow_nil w6 w6.heap.size 22 1) (Nat.le_refl _) (Nat.le_refl _) g7
        clear g7
        replace h7 : w7.ownsRow w6.heap.size 22 1 v7 j vs := by simpa [hvl] using h7
        have hcv := Lib.run_convert_bytes_const (P := Tryd.prog) w7 22 5 #[.int .u8 120] 1 1 (by kernel_rfl) (by kernel_rfl)
        have hx0 := fresh_const w7 [120] (1, 2)
        have hx1 := vals_one (w7.alloc (.cells #[.int .u8 120] 5 (1, 2))) (.slice (some ⟨w7.heap.size, 0, none⟩) 1 1) rfl
        have hb8 : Below w7.heap.size w7 ((w7.alloc (.cells #[.int .u8 120] 5 (1, 2))).alloc (.cells #[.slice (some ⟨w7.heap.size, 0, none⟩) 1 1] 22)) := ((Below.refl _ w7).alloc (Nat.le_refl _) _).alloc (by simp) _
        have hx2 : Cls ((w7.alloc (.cells #[.int .u8 120] 5 (1, 2))).alloc (.cells #[.slice (some ⟨w7.heap.size, 0, none⟩) 1 1] 22)) w7.heap.size 0 ([120].map v8) := hx0.keep ((Below.refl _ _).alloc (Nat.le_refl _) _)
        rw [World.size_alloc] at hx1
        have h7' := own_below h7 hb8
        have hs8 : w6.heap.size ≤ ((w7.alloc (.cells #[.int .u8 120] 5 (1, 2))).alloc (.cells #[.slice (some ⟨w7.heap.size, 0, none⟩) 1 1] 22)).heap.size := Nat.le_trans hb7.size hb8.size
        clear hx0
        go_wp2_with (at_builtin; refine list_own_vals w6.heap.size v7 _ j vs [.slice (some ⟨w7.heap.size, 0, none⟩) 1 1] hvl h7' hx1 (by simp only [List.length_singleton]; omega) hs8 _ _ rfl rfl rfl rfl ?_)
        intro v8' w8 h8 g8
        clear hcv
        replace h8 : w8.ownsRow w6.heap.size 22 1 v8' (j + 1) (vs ++ [.slice (some ⟨w7.heap.size, 0, none⟩) 1 1]) := h8
        have hb9 := below_appY (hb7.trans (hb8.mono hb7.size)) h7' (Nat.le_refl _) hs8 g8
        replace hx2 := cls_grown hx2 g8 (fun e => by have := (h7.lt _ e.symm).2; omega)
        have hV8 := vals_of_own h8 (by rw [List.length_append, hvl]; rfl) (fun x hx => by
          rcases List.mem_append.1 hx with h | h
          · exact hvo x h
          · rw [List.mem_singleton.1 h]; rfl)
        have hb28 := hb.trans (hb9.mono hb.size)
        have hlv : L.length = vs.length := by omega
        have hP8 : PartsAt w8 v8' (L ++ [[120]]) := parts_of_vals hV8 (by rw [List.length_append, List.length_append, hlv]; rfl) (fun q p hp => by
          rcases Nat.lt_or_ge q L.length with hq | hq
          · rw [List.getElem?_append_left hq] at hp
            obtain ⟨u, h1, h2⟩ := hkp w8 hb28 q p hp
            exact ⟨u, by rw [List.getElem?_append_left (by omega)]; exact h1, h2⟩
          · rw [List.getElem?_append_right hq] at hp
            rw [List.getElem?_append_right (by omega), ← hlv]
            rcases hq0 : q - L.length with _ | q'
            · rw [hq0] at hp
              obtain rfl := Option.some.inj hp
              exact ⟨_, rfl, _, 1, rfl, Nat.le_refl _, fun _ => ⟨_, 0, rfl, hx2⟩⟩
            · rw [hq0] at hp; simp at hp)
        have ull3 : ∀ p ∈ L ++ [[120]], (∀ x ∈ p, U8 x) ∧ p.length ≤ 1000 := fun p hp => by
          rcases List.mem_append.1 hp with h | h
          · exact ull1 p h
          · rw [List.mem_singleton.1 h]; exact ⟨u8_x, by simp⟩
        replace hv1r := hv1r.keep hb9
        replace r0 := r0.keep hb9
        replace hBr := hBr.trans (hb9.mono hBr.size)
        have K1 := Lib.hid (chain_any _ _ c (L ++ [[120]]) w8 (ht.keep hBr) hv1r uk' (by omega) hP8 ull3 (by rw [List.length_append]; simp only [List.length_singleton]; omega))
        rw [HX ()] at K1
        have hTl := sealN_len c (S ++ [120])
        have KT := Lib.hid (fun w' u (h : Below w8.heap.size w8 w') (hu : BytesAt w' u (S ++ [120])) => seal_any _ _ c (S ++ [120]) w' ((ht.keep hBr).keep h) (hv1r.keep h) hu uk' (u8_app hSu u8_x) (by omega) (by rw [List.length_append, hSl]; simp))
        generalize sealN c (S ++ [120]) = T at *
        clear HX hP8 hV8 h8 g8 h7 h7' hx1 hx2 hb8 hb7 hs8 hkp hvo hV hb28 hb9 ull1 ull2 ull3 uL hb hlv lL hvl
        have hs : (T.map v8).length = 32 := by rw [List.length_map, hTl]
        have ho := one8 T
        go_wp2_with fail
        refine (K1.out).mono ?_
        rintro e w10 ⟨rfl, hb10⟩
        clear K1
        go_upto_region 13 with (refine store_arr w10.heap.size 25 ((zs 32).map v8) (Rw.new w10 25 ((zs 32).map v8)) 32 rfl 25 (by kernel_rfl) _ hs ho _ _ rfl rfl rfl rfl ?_)
        rw [World.setRow_alloc_new]
        have r1 := Rw.new w10 25 (T.map v8)
        replace hb10 := hb10.alloc hb10.size (.cells (T.map v8).toArray 25)
        replace r0 := r0.keep hb10
        generalize w10.alloc (.cells (T.map v8).toArray 25) = W10 at *
        generalize w10.heap.size = D1 at *
        generalize hTA : (T.map v8).toArray = TA at *
        have HTA : Unit → (T.map v8).toArray = TA := fun _ => hTA
        clear hTA ho
        simp only [Act.put]
        have hc1 : Cls W10 D1 0 (T.map v8) := r1.cls 0 _ (fun j v hv => by rw [Nat.zero_add]; exact hv)
        have hs1 : ∀ w', Below W10.heap.size W10 w' → Cls w' D1 0 (T.map v8) := fun w' h => hc1.keep h
        have hca0 := cut_all (P := Tryd.prog) 25 5 32 D0 (by kernel_rfl) (by kernel_rfl)
        have hby0 := r0.bytes 32 (by omega)
        rw [hSl] at hby0
        have heq1 : ∀ w, (binOp .eql 25 (.agg TA) (.agg TA)).run Tryd.prog w = .ok (.bool true) w := fun w => by rw [← HTA ()]; exact (same_arr T hTl w).1
        have hB10 := hBr.trans (hb10.mono hBr.size)
        have htW := ht.keep hB10
        have hv10 := hv1r.keep hb10
        have KC := Lib.hid (fun w' (h : Below W10.heap.size W10 w') => chain_any _ (.slice none 0 0) c [] w' (htW.keep h) (hv10.keep h) uk' (by omega) ⟨none, 0, rfl, fun j p hp => by simp at hp⟩ (fun p hp => by simp at hp) (by simp))
        rw [chainN_nil] at KC
        have KS := Lib.hid (fun w' (h : Below W10.heap.size W10 w') => seal_any _ (.slice none 0 0) c [] w' (htW.keep h) (hv10.keep h) ⟨none, 0, rfl, Nat.le_refl _, fun h => absurd rfl h⟩ uk' (fun x hx => by simp at hx) (by omega) (by simp))
        have heq2 : ∀ w, _ := fun w => (same_arr (sealN c []) (sealN_len c []) w).1
        generalize ((sealN c []).map v8).toArray = E at *
        clear r0 r1 hc1
        refine wp_region_held (S := fun w' => Below W10.heap.size W10 w') (by kernel_rfl) ?_
        have hS : Below W10.heap.size W10 { W10 with drawn := W10.drawn + 1 } := (Below.refl _ W10).drew
        generalize { W10 with drawn := W10.drawn + 1 } = W11 at *
        refine held_load 0 rfl (by kernel_rfl) (by kernel_rfl) (by kernel_rfl) (fun _ _ _ _ h => h) (by rfl) hS D1 0 TA _ (HTA ()) 32 hs 25 5 (by kernel_rfl) (by kernel_rfl) hs1 _ rfl rfl ?_
        simp only [Act.put, List.setIfInBounds_toArray, List.set_cons_zero, List.set_cons_succ]
        refine held_val 1 rfl (by kernel_rfl) (by kernel_rfl) (by kernel_rfl) (fun _ _ _ _ h => h) (by rfl) hS ?_
        apply Exists.intro
        refine ⟨fun w' hw' => ?_, ?_⟩
        · skip
          go_simp
          first | done | rfl | exact ⟨rfl, rfl⟩
        simp only [Act.put, List.setIfInBounds_toArray, List.set_cons_zero, List.set_cons_succ]
        refine held_val 2 rfl (by kernel_rfl) (by kernel_rfl) (by kernel_rfl) (fun _ _ _ _ h => h) (by rfl) hS ?_
        apply Exists.intro
        refine ⟨fun w' hw' => ?_, ?_⟩
        · skip
          go_simp
          first | done | rfl | exact ⟨rfl, rfl⟩
        simp only [Act.put, List.setIfInBounds_toArray, List.set_cons_zero, List.set_cons_succ]
        have hsz := hS.size
        have hb0S := hby0.keep hS
        have hl1S : ([] : List Nat).length + S.length ≤ 100000 := by rw [hSl]; decide
        refine held_two 3 4 (by kernel_rfl) rfl rfl (by rfl) (by rfl) ?_ ?_
        refine wp_own_bytes W11.heap.size (.slice none 0 0) _ [] S (World.ownsRow_nil _ _ _ _) hb0S hl1S (Nat.le_refl _) _ _ rfl rfl rfl ?_
        intro v3 w3 h3 g3
        have hb3 := below_app (Below.refl W11.heap.size W11) (World.ownsRow_nil W11 W11.heap.size 5 1) (Nat.le_refl _) (Nat.le_refl _) g3
        clear g3
        refine ⟨hS.trans (hb3.mono hsz), ?_⟩
        simp only [Act.put, List.setIfInBounds_toArray, List.set_cons_zero, List.set_cons_succ]
        refine held_one 4 (by kernel_rfl) rfl (by rfl) ?_
        unfold Oper.wp
        go_simp
        have hbx : Below w3.heap.size w3 (w3.alloc (.cells #[.int .u8 120] 5)) := (Below.refl _ w3).alloc (Nat.le_refl _) _
        have hbz := hb3.trans (hbx.mono hb3.size)
        have hxS := hS.trans (hbz.mono hsz)
        refine ⟨hxS, ?_⟩
        have hx : BytesAt (w3.alloc (.cells #[.int .u8 120] 5)) (.slice (some ⟨w3.heap.size, 0, none⟩) 1 1) [120] := ⟨_, 1, rfl, Nat.le_refl _, fun _ => ⟨_, 0, rfl, fresh_const w3 [120] _⟩⟩
        have h3' := own_below h3 hbx
        have hszB := hbz.size
        clear h3 hbx hbz hb3
        generalize w3.alloc (.cells #[.int .u8 120] 5) = W13 at *
        generalize w3.heap.size = gx at *
        rotate_left
        unfold Oper.wp
        go_simp
        have hbx : Below W11.heap.size W11 (W11.alloc (.cells #[.int .u8 120] 5)) := (Below.refl _ W11).alloc (Nat.le_refl _) _
        have hxS := hS.trans (hbx.mono hsz)
        refine ⟨hxS, ?_⟩
        have hx : BytesAt (W11.alloc (.cells #[.int .u8 120] 5)) (.slice (some ⟨W11.heap.size, 0, none⟩) 1 1) [120] := ⟨_, 1, rfl, Nat.le_refl _, fun _ => ⟨_, 0, rfl, fresh_const W11 [120] _⟩⟩
        replace hb0S := hb0S.keep hbx
        have hsz2 : W11.heap.size ≤ (W11.alloc (.cells #[.int .u8 120] 5)).heap.size := hbx.size
        clear hbx
        generalize W11.alloc (.cells #[.int .u8 120] 5) = W12 at *
        refine held_one 3 (by kernel_rfl) rfl (by rfl) ?_
        refine wp_own_bytes W11.heap.size (.slice none 0 0) _ [] S (World.ownsRow_nil _ _ _ _) hb0S hl1S hsz2 _ _ rfl rfl rfl ?_
        intro v3 W13 h3' g3
        have hb3 := below_app (Below.refl W12.heap.size W12) (World.ownsRow_nil W12 W12.heap.size 5 1) (Nat.le_refl _) (Nat.le_refl _) g3
        clear g3
        replace hxS := hxS.trans (hb3.mono hxS.size)
        refine ⟨hxS, ?_⟩
        simp only [Act.put, List.setIfInBounds_toArray, List.set_cons_zero, List.set_cons_succ]
        replace hx := hx.keep hb3
        have hszB : W11.heap.size ≤ W13.heap.size := Nat.le_trans hsz2 hb3.size
        clear hb3 hsz2
        all_goals (
          replace hS := hxS
          refine held_one 5 (by kernel_rfl) rfl (by rfl) ?_
          refine wp_own_bytes W11.heap.size v3 _ ([] ++ S) [120] h3' hx (by rw [List.nil_append, hSl]; decide) hszB _ _ rfl rfl rfl ?_
          intro v5 w5 h5 g5
          have hb5 := below_app hxS h3' hsz (Nat.le_trans hsz hszB) g5
          refine ⟨hb5, ?_⟩
          simp only [Act.put, List.setIfInBounds_toArray, List.set_cons_zero, List.set_cons_succ]
          rw [List.nil_append] at h5
          have hy := bytes_of_own h5
          replace hS := hb5
          clear hb5 h5 g5 h3' hx hxS hszB
          refine held_call 6 (by kernel_rfl) rfl (by rfl) ?_
          apply Exists.intro
          apply Exists.intro
          refine ⟨?_, ?_⟩
          · go_simp
            first | done | rfl | exact ⟨rfl, rfl⟩
          refine (KT.out _ _ (hb10.trans (hS.mono hb10.size)) hy).mono ?_
          rintro e w6' ⟨rfl, hb6⟩
          replace hS := hS.trans (hb6.mono hS.size)
          refine ⟨_, rfl, hS, ?_⟩
          simp only [Act.put, List.setIfInBounds_toArray, List.set_cons_zero, List.set_cons_succ]
          refine held_val 7 rfl (by kernel_rfl) (by kernel_rfl) (by kernel_rfl) (fun _ _ _ _ h => h) (by rfl) hS ?_
          apply Exists.intro
          refine ⟨fun w' hw' => ?_, ?_⟩
          · skip
            go_simp
            first | done | rfl | exact ⟨rfl, rfl⟩
          simp only [Act.put, List.setIfInBounds_toArray, List.set_cons_zero, List.set_cons_succ]
          refine held_val 8 rfl (by kernel_rfl) (by kernel_rfl) (by kernel_rfl) (fun _ _ _ _ h => h) (by rfl) hS ?_
          apply Exists.intro
          refine ⟨fun w' hw' => ?_, ?_⟩
          · skip
            go_simp
            first | done | rfl | exact ⟨rfl, rfl⟩
          simp only [Act.put, List.setIfInBounds_toArray, List.set_cons_zero, List.set_cons_succ]
          refine held_val 9 rfl (by kernel_rfl) (by kernel_rfl) (by kernel_rfl) (fun _ _ _ _ h => h) (by rfl) hS ?_
          apply Exists.intro
          refine ⟨fun w' hw' => ?_, ?_⟩
          · skip
            go_simp
            first | done | rfl | exact ⟨rfl, rfl⟩
          simp only [Act.put, List.setIfInBounds_toArray, List.set_cons_zero, List.set_cons_succ]
          refine held_val 11 rfl (by kernel_rfl) (by kernel_rfl) (by kernel_rfl) (fun _ _ _ _ h => h) (by rfl) hS ?_
          apply Exists.intro
          refine ⟨fun w' hw' => ?_, ?_⟩
          · skip
            go_simp
            first | done | rfl | exact ⟨rfl, rfl⟩
          simp only [Act.put, List.setIfInBounds_toArray, List.set_cons_zero, List.set_cons_succ]
          refine held_call 10 (by kernel_rfl) rfl (by rfl) ?_
          apply Exists.intro
          apply Exists.intro
          refine ⟨?_, ?_⟩
          · go_simp
            first | done | rfl | exact ⟨rfl, rfl⟩
          refine (KC.out _ hS).mono ?_
          rintro e w7' ⟨rfl, hb7'⟩
          replace hS := hS.trans (hb7'.mono hS.size)
          refine ⟨_, rfl, hS, ?_⟩
          simp only [Act.put, List.setIfInBounds_toArray, List.set_cons_zero, List.set_cons_succ]
          refine held_call 12 (by kernel_rfl) rfl (by rfl) ?_
          apply Exists.intro
          apply Exists.intro
          refine ⟨?_, ?_⟩
          · go_simp
            first | done | rfl | exact ⟨rfl, rfl⟩
          refine (KS.out _ hS).mono ?_
          rintro e w8' ⟨rfl, hb8'⟩
          replace hS := hS.trans (hb8'.mono hS.size)
          refine ⟨_, rfl, hS, ?_⟩
          simp only [Act.put, List.setIfInBounds_toArray, List.set_cons_zero, List.set_cons_succ]
          refine held_val 13 rfl (by kernel_rfl) (by kernel_rfl) (by kernel_rfl) (fun _ _ _ _ h => h) (by rfl) hS ?_
          apply Exists.intro
          refine ⟨fun w' hw' => ?_, ?_⟩
          · skip
            go_simp
            first | done | rfl | exact ⟨rfl, rfl⟩
          simp only [Act.put, List.setIfInBounds_toArray, List.set_cons_zero, List.set_cons_succ]
          refine held_val 14 rfl (by kernel_rfl) (by kernel_rfl) (by kernel_rfl) (fun _ _ _ _ h => h) (by rfl) hS ?_
          apply Exists.intro
          refine ⟨fun w' hw' => ?_, ?_⟩
          · skip
            go_simp
            first | done | rfl | exact ⟨rfl, rfl⟩
          simp only [Act.put, List.setIfInBounds_toArray, List.set_cons_zero, List.set_cons_succ]
          refine held_val 15 rfl (by kernel_rfl) (by kernel_rfl) (by kernel_rfl) (fun _ _ _ _ h => h) (by rfl) hS ?_
          apply Exists.intro
          refine ⟨fun w' hw' => ?_, ?_⟩
          · skip
            go_simp
            first | done | rfl | exact ⟨rfl, rfl⟩
          simp only [Act.put, List.setIfInBounds_toArray, List.set_cons_zero, List.set_cons_succ]
          refine wpAnyH_done (by kernel_rfl) ?_ _
          go_wp2_with fail
          go_ret
          exact ⟨rfl, hB10.trans (hS.mono hB10.size)⟩))
end Go.Proofs.YtidiallphmocdaaDoor
