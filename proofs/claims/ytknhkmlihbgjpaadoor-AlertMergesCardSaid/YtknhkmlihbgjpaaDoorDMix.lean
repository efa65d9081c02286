/- What a block makes of the eight words. -/
import Derived.Test.YtknhkmlihbgjpaaDoorDSched
import Derived.Deep.CutRange
namespace Go.Proofs.YtknhkmlihbgjpaaDoor.Dg
open Go.ChangeShapes Go.WideShapes Go.RowKit

def oneN (l : List Nat) (k p : Nat) : Nat := ((((l[7]?.getD 0 + tnN (l[4]?.getD 0) 6 11 25) % 4294967296 + chN (l[4]?.getD 0) (l[5]?.getD 0) (l[6]?.getD 0)) % 4294967296 + k) % 4294967296 + p) % 4294967296
def twoN (l : List Nat) : Nat := (tnN (l[0]?.getD 0) 2 13 22 + mjN (l[0]?.getD 0) (l[1]?.getD 0) (l[2]?.getD 0)) % 4294967296
/-- A round, with a key and a word of the block. -/
def rd (k p : Nat) (l : List Nat) : List Nat := [(oneN l k p + twoN l) % 4294967296, l[0]?.getD 0, l[1]?.getD 0, l[2]?.getD 0, (l[3]?.getD 0 + oneN l k p) % 4294967296, l[4]?.getD 0, l[5]?.getD 0, l[6]?.getD 0]
def rds (ws plan : List Nat) : Nat → List Nat
  | 0 => ws
  | i + 1 => rd (keyL[i]?.getD 0) (plan[i]?.getD 0) (rds ws plan i)
theorem rds_len {ws plan : List Nat} (h : ws.length = 8) (i : Nat) : (rds ws plan i).length = 8 := by
  cases i with
  | zero => exact h
  | succ i => rfl

theorem rw_below {w w' : World} {B g : Nat} {t : TypeId} {cs : List Value} (h : Rw w g t cs) (hg : g < B) (hb : Below B w w') : Rw w' g t cs := by unfold Rw at *; rw [hb.block g hg]; exact h
theorem list8 {l : List Nat} (h : l.length = 8) : ∃ a b c d e f g i, l = [a, b, c, d, e, f, g, i] := by
  match l, h with
  | [a, b, c, d, e, f, g, i], _ => exact ⟨a, b, c, d, e, f, g, i, rfl⟩
theorem rds_u {ws plan : List Nat} (h : ∀ x ∈ ws, U32 x) (i : Nat) : ∀ x ∈ rds ws plan i, U32 x := by
  induction i with
  | zero => exact h
  | succ i ih =>
    intro x hx
    simp only [rds, rd, List.mem_cons, List.not_mem_nil, or_false] at hx
    rcases hx with rfl | rfl | rfl | rfl | rfl | rfl | rfl | rfl
    · exact U32.mod _
    · exact u32_get ih _
    · exact u32_get ih _
    · exact u32_get ih _
    · exact U32.mod _
    · exact u32_get ih _
    · exact u32_get ih _
    · exact u32_get ih _
/-- Words to which others are added, the first k of them. -/
def ad8 (ws vs : List Nat) : Nat → List Nat
  | 0 => ws
  | k + 1 => (ad8 ws vs k).set k (((ad8 ws vs k)[k]?.getD 0 + vs[k]?.getD 0) % 4294967296)
theorem ad8_len {ws vs : List Nat} (h : ws.length = 8) (k : Nat) : (ad8 ws vs k).length = 8 := by
  induction k with
  | zero => exact h
  | succ k ih => simp [ad8, ih]
theorem ad8_u {ws vs : List Nat} (h : ∀ x ∈ ws, U32 x) (k : Nat) : ∀ x ∈ ad8 ws vs k, U32 x := by
  induction k with
  | zero => exact h
  | succ k ih => exact u32_set ih (U32.mod _) _
/-- What a block makes of eight words. -/
def mixN (ws bl : List Nat) : List Nat := ad8 ws (rds ws (s2 bl 48) 64) 8
theorem mixN_len {ws bl : List Nat} (h : ws.length = 8) : (mixN ws bl).length = 8 := ad8_len h 8
theorem mixN_u {ws bl : List Nat} (h : ∀ x ∈ ws, U32 x) : ∀ x ∈ mixN ws bl, U32 x := ad8_u h 8
/-- Two words that are read, and nothing but draws since W. -/
def C2 (W : World) (g v k a b : Nat) (w : World) : Prop := Drew W w ∧ w.cell? ⟨g, k, none⟩ = some (.int .u32 (a : Int)) ∧ w.cell? ⟨v, k, none⟩ = some (.int .u32 (b : Int))
/-- What a round reads, and nothing but draws since W. -/
def C8 (W : World) (v p k a b c e f g i q : Nat) (w : World) : Prop := Drew W w ∧ w.cell? ⟨v, 0, none⟩ = some (.int .u32 (a : Int)) ∧ w.cell? ⟨v, 1, none⟩ = some (.int .u32 (b : Int)) ∧ w.cell? ⟨v, 2, none⟩ = some (.int .u32 (c : Int)) ∧
  w.cell? ⟨v, 4, none⟩ = some (.int .u32 (e : Int)) ∧ w.cell? ⟨v, 5, none⟩ = some (.int .u32 (f : Int)) ∧ w.cell? ⟨v, 6, none⟩ = some (.int .u32 (g : Int)) ∧ w.cell? ⟨v, 7, none⟩ = some (.int .u32 (i : Int)) ∧ w.cell? ⟨p, k, none⟩ = some (.int .u32 (q : Int))
theorem C8.drew {W w w' : World} {v p k a b c e f g i q : Nat} (h : C8 W v p k a b c e f g i q w) (hd : Drew w w') : C8 W v p k a b c e f g i q w' := by
  obtain ⟨h0, h1⟩ := h
  refine ⟨h0.trans hd, ?_⟩
  rw [hd.cell, hd.cell, hd.cell, hd.cell, hd.cell, hd.cell, hd.cell, hd.cell]
  exact h1
theorem turned_6 (x : Nat) (hx : U32 x) (w : World) : Calls Tryd.prog 108 #[.int .u32 (x : Int), .int .i64 6, .int .i64 11, .int .i64 25] w fun e w' => e = .returned (.int .u32 (tnN x 6 11 25 : Int)) ∧ w' = w :=
  turned_any x 6 11 25 (by omega) (by omega) (by omega) (by omega) (by omega) (by omega) hx w
theorem turned_2 (x : Nat) (hx : U32 x) (w : World) : Calls Tryd.prog 108 #[.int .u32 (x : Int), .int .i64 2, .int .i64 13, .int .i64 22] w fun e w' => e = .returned (.int .u32 (tnN x 2 13 22 : Int)) ∧ w' = w :=
  turned_any x 2 13 22 (by omega) (by omega) (by omega) (by omega) (by omega) (by omega) hx w

set_option maxHeartbeats 1600000 in
set_option maxRecDepth 100000 in
theorem mix_any (ws bl : List Nat) (hw : ws.length = 8) (hl : bl.length = 64) (uw : ∀ x ∈ ws, U32 x) (hb : ∀ x ∈ bl, U8 x) (w : World) (ht : Tabs w) :
    Calls Tryd.prog 96 #[.agg (ws.map v32).toArray, .agg (bl.map v8).toArray] w fun e w' => e = .returned (.agg ((mixN ws bl).map v32).toArray) ∧ Below w.heap.size w w' := by
  go_enter Tryd.func96, Tryd.ntmps96
  go_upto_region 1 with fail
  have r0 := ((Rw.new w 115 (ws.map v32)).past (.cells (bl.map v8).toArray 148)).past (.cells ((List.replicate 8 0).map v32).toArray 115)
  have r1 := (Rw.new (w.alloc (.cells (ws.map v32).toArray 115)) 148 (bl.map v8)).past (.cells ((List.replicate 8 0).map v32).toArray 115)
  have r2 := Rw.new ((w.alloc (.cells (ws.map v32).toArray 115)).alloc (.cells (bl.map v8).toArray 148)) 115 ((List.replicate 8 0).map v32)
  have hB := (((Below.refl _ w).alloc (Nat.le_refl _) (.cells (ws.map v32).toArray 115)).alloc (by simp) (.cells (bl.map v8).toArray 148)).alloc (by simp; omega) (.cells ((List.replicate 8 0).map v32).toArray 115)
  simp only [World.size_alloc] at r1 r2
  change Code.wp _ _ _ _ (((w.alloc (.cells (ws.map v32).toArray 115)).alloc (.cells (bl.map v8).toArray 148)).alloc (.cells ((List.replicate 8 0).map v32).toArray 115))
  generalize ((w.alloc (.cells (ws.map v32).toArray 115)).alloc (.cells (bl.map v8).toArray 148)).alloc (.cells ((List.replicate 8 0).map v32).toArray 115) = W at *
  generalize hZ : (List.replicate 8 0).map v32 = Z at r2
  have HZ := Lib.hid hZ
  clear hZ
  have hl8 : (bl.map v8).length = 64 := by rw [List.length_map, hl]
  have hl32 : (ws.map v32).length = 8 := by rw [List.length_map, hw]
  replace ht := ht.keep hB
  go_wp2_with (refine load_arr _ _ _ r1 64 hl8 148 5 (by kernel_rfl) (by kernel_rfl) _ rfl rfl rfl ?_)
  refine (schedule_any bl hl hb _).mono ?_
  rintro e w1 ⟨rfl, hb1⟩
  have hzp := (r2.keep hb1).lt
  replace r0 := (r0.keep hb1).past (.cells ((s2 bl 48).map v32).toArray 117)
  replace r2 := (r2.keep hb1).past (.cells ((s2 bl 48).map v32).toArray 117)
  have r3 := Rw.new w1 117 ((s2 bl 48).map v32)
  replace ht := (ht.keep hb1).keep ((Below.refl _ _).alloc (Nat.le_refl _) (.cells ((s2 bl 48).map v32).toArray 117))
  replace hB := hB.trans (hb1.mono hB.size)
  replace hB := hB.alloc hB.size (.cells ((s2 bl 48).map v32).toArray 117)
  have hs : ((s2 bl 48).map v32).length = 64 := by rw [List.length_map, s2_len]
  have ho := one32 (s2 bl 48)
  have up := s2_u hb 48
  clear r1 hb1
  go_upto_region 2 with (refine store_arr w1.heap.size 117 ((List.replicate 64 0).map v32) (Rw.new w1 117 ((List.replicate 64 0).map v32)) 64 rfl 117 (by kernel_rfl) _ hs ho _ _ rfl rfl rfl rfl ?_)
  rw [World.setRow_alloc_new]
  generalize hp : w1.heap.size = p at *
  have hpW : p < (w1.alloc (.cells ((s2 bl 48).map v32).toArray 117)).heap.size := by simp [hp]
  clear hp
  generalize w1.alloc (.cells ((s2 bl 48).map v32).toArray 117) = W2 at *
  have oo := one32 ws
  go_upto_region 3 with (first
    | (refine load_arr _ _ _ r0 8 hl32 115 23 (by kernel_rfl) (by kernel_rfl) _ rfl rfl rfl ?_)
    | (refine store_arr W2.heap.size 115 ((List.replicate 8 0).map v32) (Rw.new W2 115 ((List.replicate 8 0).map v32)) 8 rfl 115 (by kernel_rfl) _ hl32 oo _ _ rfl rfl rfl rfl ?_))
  rw [World.setRow_alloc_new]
  replace r0 := r0.past (.cells (ws.map v32).toArray 115)
  replace r2 := r2.past (.cells (ws.map v32).toArray 115)
  replace r3 := r3.past (.cells (ws.map v32).toArray 115)
  have r4 := Rw.new W2 115 (ws.map v32)
  replace ht := ht.keep ((Below.refl _ _).alloc (Nat.le_refl _) (.cells (ws.map v32).toArray 115))
  replace hB := hB.alloc hB.size (.cells (ws.map v32).toArray 115)
  generalize hv : W2.heap.size = v at *
  clear hv
  generalize W2.alloc (.cells (ws.map v32).toArray 115) = W3 at *
  have hk64 : (keyL.map v32).length = 64 := rfl
  go_upto_region 4 with (refine load_at _ 0 _ ht.2 64 hk64 117 (.array 64 23) (by kernel_rfl) rfl (by kernel_rfl) _ rfl rfl rfl ?_)
  have hpl : (s2 bl 48).length = 64 := s2_len bl 48
  generalize hpn : s2 bl 48 = plan at *
  have Hpn := Lib.hid hpn
  clear hpn hl8 oo ho
  go_loopw [16] (fun i wr => ∃ k : Nat, k ≤ 64 ∧ i = .int .i64 (k : Int) ∧ Rw wr w.heap.size 115 (ws.map v32) ∧ Rw wr (w.heap.size + 1 + 1) 115 Z ∧ Rw wr p 117 (plan.map v32) ∧ Rw wr v 115 ((rds ws plan k).map v32) ∧ Below w.heap.size w wr) (fun i _ => 64 - (intOf i).toNat)
  case atStart => exact ⟨0, by omega, rfl, r0, r2, r3, r4, hB⟩
  case round =>
    clear r0 r2 r3 r4 hB ht
    obtain ⟨k, hk, rfl, q0, q2, q3, q4, qB⟩ := hrel
    by_cases hlt : k < 64
    · obtain ⟨q, hq⟩ : ∃ q, plan[k]? = some q := ⟨_, List.getElem?_eq_getElem (by omega)⟩
      obtain ⟨y, hy⟩ : ∃ y, keyL[k]? = some y := ⟨_, List.getElem?_eq_getElem (by simpa [keyL] using hlt)⟩
      have hur := rds_u (plan := plan) uw k
      obtain ⟨a, b, c, d, e, f, g, i, hr⟩ := list8 (rds_len (plan := plan) hw k)
      rw [hr] at q4 hur
      have Hrd := Lib.hid (show rds ws plan (k + 1) = rd y q [a, b, c, d, e, f, g, i] by rw [rds, hr, hq, hy]; rfl)
      clear hr
      simp only [List.mem_cons, List.not_mem_nil, or_false, forall_eq_or_imp, forall_eq] at hur
      obtain ⟨ua, ub, uc, ud, ue, uf, ug, ui⟩ := hur
      have hpk := (q3.cell k).trans (at32 hq)
      have z0 := q4.cell 0
      have z1 := q4.cell 1
      have z2 := q4.cell 2
      have z4 := q4.cell 4
      have z5 := q4.cell 5
      have z6 := q4.cell 6
      have z7 := q4.cell 7
      simp only [List.map_cons, List.map_nil, List.getElem?_cons_zero, List.getElem?_cons_succ, v32] at z0 z1 z2 z4 z5 z6 z7
      have hkl : (k : Int) < 64 := by omega
      have Kt6 := Lib.hid (turned_6 e ue)
      have Kch := Lib.hid (choice_any e f g ue uf ug)
      have Kt2 := Lib.hid (turned_2 a ua)
      have Kmj := Lib.hid (majority_any a b c ua ub uc)
      have hix := idx_arr (P := Tryd.prog) 117 23 64 .u32 (keyL.map v32) k (.int .u32 (y : Int)) (by kernel_rfl) (by kernel_rfl) (by kernel_rfl) hlt (at32 hy)
      clear ua ub uc ud ue uf ug ui hq hy
      go_upto_region 6 with fail
      clear hix
      try simp only [List.append_eq, List.cons_append, List.nil_append]
      refine region_class (fun w' => C8 wr v p k a b c e f g i q w') (by kernel_rfl) (by kernel_rfl) (⟨⟨_, rfl⟩, z0, z1, z2, z4, z5, z6, z7, hpk⟩) ?_
      repeat
        first
        | go_big_quiet_skip
        | (go_big_quiet_want
           refine quiet_val ?_
           apply Exists.intro
           refine ⟨fun w' hw' => ?_, ?_⟩
           · obtain ⟨_, e0, e1, e2, e4, e5, e6, e7, ep⟩ := hw'
             go_simp
             first | done | rfl | exact ⟨rfl, rfl⟩
           simp only [Act.put, List.setIfInBounds_toArray, List.set_cons_zero, List.set_cons_succ]
           go_big_quiet_on)
        | (go_big_quiet_want
           refine quiet_call ?_
           apply Exists.intro
           apply Exists.intro
           refine ⟨fun w' => ?_, ?_⟩
           · go_simp
             first | done | rfl | exact ⟨rfl, rfl⟩
           apply Exists.intro
           refine ⟨fun w' hw' => ?_, ?_⟩
           · first
             | (with_reducible refine (Kt6.out _).mono ?_); (rintro e w2 ⟨rfl, rfl⟩; exact ⟨rfl, hw'⟩)
             | (with_reducible refine (Kch.out _).mono ?_); (rintro e w2 ⟨rfl, rfl⟩; exact ⟨rfl, hw'⟩)
           simp only [Act.put, List.setIfInBounds_toArray, List.set_cons_zero, List.set_cons_succ]
           go_big_quiet_on)
      refine wpQuiet_nil ?_
      intro w5 hw5
      rw [show IntKind.u32.wrap (IntKind.u32.wrap (IntKind.u32.wrap (IntKind.u32.wrap ((i : Int) + (tnN e 6 11 25 : Int)) + (chN e f g : Int)) + (y : Int)) + (q : Int)) = (oneN [a, b, c, d, e, f, g, i] y q : Int) by rw [IntKind.wrap_u32', IntKind.wrap_u32', IntKind.wrap_u32', IntKind.wrap_u32']; simp only [oneN, List.getElem?_cons_zero, List.getElem?_cons_succ, Option.getD_some]; omega]
      clear z0 z1 z2 z4 z5 z6 z7 hpk Kt6 Kch
      obtain ⟨hdr, z0, z1, z2, z4, z5, z6, z7, hpk⟩ := hw5
      replace q0 := q0.drew hdr
      replace q2 := q2.drew hdr
      replace q3 := q3.drew hdr
      replace q4 := q4.drew hdr
      replace qB := qB.trans (hdr.below.mono qB.size)
      clear hdr
      go_upto_region 7 with fail
      try simp only [List.append_eq, List.cons_append, List.nil_append]
      refine region_class (fun w' => C8 w5 v p k a b c e f g i q w') (by kernel_rfl) (by kernel_rfl) (⟨⟨_, rfl⟩, z0, z1, z2, z4, z5, z6, z7, hpk⟩) ?_
      repeat
        first
        | go_big_quiet_skip
        | (go_big_quiet_want
           refine quiet_val ?_
           apply Exists.intro
           refine ⟨fun w' hw' => ?_, ?_⟩
           · obtain ⟨_, e0, e1, e2, e4, e5, e6, e7, ep⟩ := hw'
             go_simp
             first | done | rfl | exact ⟨rfl, rfl⟩
           simp only [Act.put, List.setIfInBounds_toArray, List.set_cons_zero, List.set_cons_succ]
           go_big_quiet_on)
        | (go_big_quiet_want
           refine quiet_call ?_
           apply Exists.intro
           apply Exists.intro
           refine ⟨fun w' => ?_, ?_⟩
           · go_simp
             first | done | rfl | exact ⟨rfl, rfl⟩
           apply Exists.intro
           refine ⟨fun w' hw' => ?_, ?_⟩
           · first
             | (with_reducible refine (Kt2.out _).mono ?_); (rintro e w2 ⟨rfl, rfl⟩; exact ⟨rfl, hw'⟩)
             | (with_reducible refine (Kmj.out _).mono ?_); (rintro e w2 ⟨rfl, rfl⟩; exact ⟨rfl, hw'⟩)
           simp only [Act.put, List.setIfInBounds_toArray, List.set_cons_zero, List.set_cons_succ]
           go_big_quiet_on)
      refine wpQuiet_nil ?_
      intro w5 hw5
      rw [show IntKind.u32.wrap ((tnN a 2 13 22 : Int) + (mjN a b c : Int)) = (twoN [a, b, c, d, e, f, g, i] : Int) by rw [IntKind.wrap_u32']; simp only [twoN, List.getElem?_cons_zero, List.getElem?_cons_succ, Option.getD_some]; omega]
      clear z0 z1 z2 z4 z5 z6 z7 hpk Kt2 Kmj
      obtain ⟨hdr, _⟩ := hw5
      replace q0 := q0.drew hdr
      replace q2 := q2.drew hdr
      replace q3 := q3.drew hdr
      replace q4 := q4.drew hdr
      replace qB := qB.trans (hdr.below.mono qB.size)
      clear hdr
      go_upto_region 8 with fail
      refine region_loose (fun _ w' => Drew w5 w') 2 2 1 #[true, true, false] rfl (by kernel_rfl) (by kernel_rfl) (by kernel_rfl) (⟨_, rfl⟩) ?_
      simp only [List.take_succ_cons, List.take_zero]
      repeat
        first
        | (refine loose_val (by decide) rfl ?_
           apply Exists.intro
           refine ⟨fun L' w' hw' => ?_, ?_⟩
           · obtain ⟨dr, rfl⟩ := hw'
             go_simp
             first | done | rfl | exact ⟨rfl, rfl⟩
           simp only [Act.put, List.setIfInBounds_toArray, List.set_cons_zero, List.set_cons_succ])
        | (refine loose_call (by decide) rfl ?_
           apply Exists.intro
           apply Exists.intro
           refine ⟨fun w' => ?_, ?_⟩
           · go_simp
             first | done | rfl | exact ⟨rfl, rfl⟩
           apply Exists.intro
           refine ⟨fun L' w' hw' => ?_, ?_⟩
           · first
             | fail
           simp only [Act.put, List.setIfInBounds_toArray, List.set_cons_zero, List.set_cons_succ])
        | (refine loose_new (by decide) rfl (fun L' w' hw' => ?_) (fun v => ?_)
           · fail
           simp only [Act.put, List.setIfInBounds_toArray, List.set_cons_zero, List.set_cons_succ])
      intro w5 hw5
      refine wpAny_ready (rs := [2]) (by kernel_rfl) (by simp) ?_
      refine AllReady.cons rfl (fun K hK => ?_) AllReady.nil
      replace q0 := q0.drew hw5
      replace q2 := q2.drew hw5
      replace q3 := q3.drew hw5
      replace q4 := q4.drew hw5
      replace qB := qB.trans (hw5.below.mono qB.size)
      clear hw5
      refine step_copy_splice rfl (.tmp 51) (.tmp 52) 169 169 rfl 23 (by kernel_rfl) (by kernel_rfl) (some ⟨v, 1, none⟩) (some ⟨v, 0, none⟩) 7 7 7 8 rfl rfl v 1 _ _ q4 ([a, b, c, d, e, f, g].map v32) rfl ?_ (by simp) (one32 _) v w5 (Below.refl _ _) (Nat.le_refl _) ?_
      · intro _
        refine ⟨rfl, _, rfl, fun j x hx => ?_⟩
        rw [add_off, q4.cell]
        rw [show [a, b, c, d, e, f, g, i].map v32 = [a, b, c, d, e, f, g].map v32 ++ [v32 i] from rfl, List.getElem?_append_left (List.getElem?_eq_some_iff.1 hx).1]
        exact hx
      intro w6 Hg6 hb6
      have q4' : Rw w6 v 115 ([a, a, b, c, d, e, f, g].map v32) := Hg6.out
      replace q0 := rw_below q0 (by omega) hb6
      replace q2 := rw_below q2 (by omega) hb6
      replace q3 := rw_below q3 (by omega) hb6
      replace qB := qB.trans (hb6.mono (by omega))
      clear hb6 Hg6 q4
      refine hK _ _ ?_
      clear hK K
      refine wpAny_done (by kernel_rfl) ?_ _
      have z4 := q4'.cell 4
      have y4 := q4'.frozen 4
      simp only [List.map_cons, List.map_nil, List.getElem?_cons_zero, List.getElem?_cons_succ, v32] at z4
      go_upto_region 10 with fail
      clear z4 y4
      generalize hX : Value.int .u32 (((d : Int) + (oneN [a, b, c, d, e, f, g, i] y q : Int)) % 4294967296) = X
      have HX := Lib.hid hX
      clear hX
      replace q0 := q0.other (k := v) (by omega) 4 X
      replace q2 := q2.other (k := v) (by omega) 4 X
      replace q3 := q3.other (k := v) (by omega) 4 X
      replace q4' := q4'.setCell 4 X
      replace qB := qB.setCell (p := ⟨v, 4, none⟩) (by simp; omega) X
      generalize w6.setCell ⟨v, 4, none⟩ X = w7 at *
      have z0 := q4'.cell 0
      have y0 := q4'.frozen 0
      simp only [List.map_cons, List.map_nil, List.set_cons_succ, List.set_cons_zero, List.getElem?_cons_zero, v32] at z0
      go_wp2_with fail
      go_roundw
      case rel =>
        refine ⟨k + 1, by omega, by go_num, q0.other (by omega) _ _, q2.other (by omega) _ _, q3.other (by omega) _ _, ?_, qB.setCell (p := ⟨v, 0, none⟩) (by simp; omega) _⟩
        have := q4'.setCell 0 (Value.int .u32 (((oneN [a, b, c, d, e, f, g, i] y q : Int) + (twoN [a, b, c, d, e, f, g, i] : Int)) % 4294967296))
        rw [Hrd.out]
        rw [← HX.out] at this
        exact this
      case measure => simp [intOf]; omega
    · obtain rfl : k = 64 := by omega
      have hvl : (rds ws plan 64).length = 8 := rds_len hw 64
      have Hmx := Lib.hid (show mixN ws bl = ad8 ws (rds ws plan 64) 8 by unfold mixN; rw [Hpn.out])
      generalize rds ws plan 64 = vs at *
      clear q3 hk hlt Hpn
      go_upto_region 13 with fail
      simp only [Int.cast_ofNat_Int]
      go_loopw [64] (fun i wr => ∃ k : Nat, k ≤ 8 ∧ i = .int .i64 (k : Int) ∧ Rw wr w.heap.size 115 ((ad8 ws vs k).map v32) ∧ Rw wr (w.heap.size + 1 + 1) 115 Z ∧ Rw wr v 115 (vs.map v32) ∧ Below w.heap.size w wr) (fun i _ => 8 - (intOf i).toNat)
      case atStart => exact ⟨0, by omega, rfl, q0, q2, q4, qB⟩
      case round =>
        clear q0 q2 q4 qB
        obtain ⟨k, hk, rfl, q0, q2, q4, qB⟩ := hrel
        by_cases hlt : k < 8
        · have hkl : (k : Int) < 8 := by omega
          obtain ⟨a, ha⟩ : ∃ a, (ad8 ws vs k)[k]? = some a := ⟨_, List.getElem?_eq_getElem (by rw [ad8_len hw]; omega)⟩
          obtain ⟨b, hb'⟩ : ∃ b, vs[k]? = some b := ⟨_, List.getElem?_eq_getElem (by omega)⟩
          have Hnx := Lib.hid (show ad8 ws vs (k + 1) = (ad8 ws vs k).set k ((a + b) % 4294967296) by rw [ad8, ha, hb']; rfl)
          have z0 := (q0.cell k).trans (at32 ha)
          have z1 := (q4.cell k).trans (at32 hb')
          have y0 := q0.frozen k
          clear ha hb'
          go_upto_region 15 with fail
          refine region_loose (fun _ w' => C2 wr w.heap.size v k a b w') 7 7 2 #[true, true, true, true, true, true, true, false, false] rfl (by kernel_rfl) (by kernel_rfl) (by kernel_rfl) (⟨⟨_, rfl⟩, z0, z1⟩) ?_
          simp only [List.take_succ_cons, List.take_zero]
          repeat
            first
            | (refine loose_val (by decide) rfl ?_
               apply Exists.intro
               refine ⟨fun L' w' hw' => ?_, ?_⟩
               · obtain ⟨_, e0, e1⟩ := hw'
                 go_simp
                 first | done | rfl | exact ⟨rfl, rfl⟩
               simp only [Act.put, List.setIfInBounds_toArray, List.set_cons_zero, List.set_cons_succ])
            | (refine loose_call (by decide) rfl ?_
               apply Exists.intro
               apply Exists.intro
               refine ⟨fun w' => ?_, ?_⟩
               · go_simp
                 first | done | rfl | exact ⟨rfl, rfl⟩
               apply Exists.intro
               refine ⟨fun L' w' hw' => ?_, ?_⟩
               · first
                 | fail
               simp only [Act.put, List.setIfInBounds_toArray, List.set_cons_zero, List.set_cons_succ])
            | (refine loose_new (by decide) rfl (fun L' w' hw' => ?_) (fun v => ?_)
               · fail
               simp only [Act.put, List.setIfInBounds_toArray, List.set_cons_zero, List.set_cons_succ])
          intro w5 hw5
          obtain ⟨hdr, _⟩ := hw5
          replace q0 := q0.drew hdr
          replace q2 := q2.drew hdr
          replace q4 := q4.drew hdr
          replace qB := qB.trans (hdr.below.mono qB.size)
          rw [← hdr.cell] at z0
          rw [← hdr.frozen] at y0
          clear z1 hdr
          refine wpAny_ready (rs := [7]) (by kernel_rfl) (by simp) ?_
          refine AllReady.cons rfl (fun K hK => ?_) AllReady.nil
          go_simp
          refine hK _ _ ?_
          clear hK K
          refine wpAny_ready (rs := [8]) (by kernel_rfl) (by simp) ?_
          refine AllReady.cons rfl (fun K hK => ?_) AllReady.nil
          go_simp
          refine hK _ _ ?_
          clear hK K
          refine wpAny_done (by kernel_rfl) ?_ _
          clear z0 y0
          go_wp2_with fail
          go_roundw
          case rel =>
            refine ⟨k + 1, by omega, by go_num, ?_, q2.other (by omega) _ _, q4.other (by omega) _ _, qB.setCell (p := ⟨w.heap.size, k, none⟩) (by simp) _⟩
            have := q0.setCell k (v32 ((a + b) % 4294967296))
            rw [← List.map_set, ← Hnx.out] at this
            exact this
          case measure => simp [intOf]; omega
        · obtain rfl : k = 8 := by omega
          have hz : Z.length = 8 := by rw [← HZ.out]; rfl
          have hs : ((ad8 ws vs 8).map v32).length = 8 := by rw [List.length_map, ad8_len hw]
          have h1 := one32 (ad8 ws vs 8)
          generalize hcs : (ad8 ws vs 8).map v32 = cs at *
          have Hcs := Lib.hid hcs
          clear hcs hk hlt
          go_wp2_with (first
            | (refine load_arr _ _ _ q0 8 hs 115 23 (by kernel_rfl) (by kernel_rfl) _ rfl rfl rfl ?_)
            | (refine store_arr _ _ _ q2 8 hz 115 (by kernel_rfl) cs hs h1 _ _ rfl rfl rfl rfl ?_))
          refine ret_arr (w.heap.size + 1 + 1) 115 cs (q2.row cs) 8 hs 23 (by kernel_rfl) (by kernel_rfl) (by rfl) rfl rfl ?_
          exact ⟨by rw [Hmx.out, Hcs.out], below_setRow qB (by omega) _⟩
end Go.Proofs.YtknhkmlihbgjpaaDoor.Dg
