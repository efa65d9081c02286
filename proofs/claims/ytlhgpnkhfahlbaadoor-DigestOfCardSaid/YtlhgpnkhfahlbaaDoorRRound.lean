/- The document's own round of 64 bytes: what it makes of eight words. -/
import Derived.Test.YtlhgpnkhfahlbaaDoorRTurn
import Derived.Deep.DeepCutAuto
namespace Go.Proofs.YtlhgpnkhfahlbaaDoor
open Go.ChangeShapes Go.WideShapes Go.RowKit

theorem turn_2 (x : Nat) (hx : U32 x) (w : World) : Calls Tryd.prog 33 #[.int .u32 (x : Int), .int .i64 2] w fun e w' => e = .returned (.int .u32 (rrN x 2 : Int)) ∧ w' = w := turn_any x 2 (by omega) hx w
theorem turn_6 (x : Nat) (hx : U32 x) (w : World) : Calls Tryd.prog 33 #[.int .u32 (x : Int), .int .i64 6] w fun e w' => e = .returned (.int .u32 (rrN x 6 : Int)) ∧ w' = w := turn_any x 6 (by omega) hx w
theorem turn_7 (x : Nat) (hx : U32 x) (w : World) : Calls Tryd.prog 33 #[.int .u32 (x : Int), .int .i64 7] w fun e w' => e = .returned (.int .u32 (rrN x 7 : Int)) ∧ w' = w := turn_any x 7 (by omega) hx w
theorem turn_11 (x : Nat) (hx : U32 x) (w : World) : Calls Tryd.prog 33 #[.int .u32 (x : Int), .int .i64 11] w fun e w' => e = .returned (.int .u32 (rrN x 11 : Int)) ∧ w' = w := turn_any x 11 (by omega) hx w
theorem turn_13 (x : Nat) (hx : U32 x) (w : World) : Calls Tryd.prog 33 #[.int .u32 (x : Int), .int .i64 13] w fun e w' => e = .returned (.int .u32 (rrN x 13 : Int)) ∧ w' = w := turn_any x 13 (by omega) hx w
theorem turn_17 (x : Nat) (hx : U32 x) (w : World) : Calls Tryd.prog 33 #[.int .u32 (x : Int), .int .i64 17] w fun e w' => e = .returned (.int .u32 (rrN x 17 : Int)) ∧ w' = w := turn_any x 17 (by omega) hx w
theorem turn_18 (x : Nat) (hx : U32 x) (w : World) : Calls Tryd.prog 33 #[.int .u32 (x : Int), .int .i64 18] w fun e w' => e = .returned (.int .u32 (rrN x 18 : Int)) ∧ w' = w := turn_any x 18 (by omega) hx w
theorem turn_19 (x : Nat) (hx : U32 x) (w : World) : Calls Tryd.prog 33 #[.int .u32 (x : Int), .int .i64 19] w fun e w' => e = .returned (.int .u32 (rrN x 19 : Int)) ∧ w' = w := turn_any x 19 (by omega) hx w
theorem turn_22 (x : Nat) (hx : U32 x) (w : World) : Calls Tryd.prog 33 #[.int .u32 (x : Int), .int .i64 22] w fun e w' => e = .returned (.int .u32 (rrN x 22 : Int)) ∧ w' = w := turn_any x 22 (by omega) hx w
theorem turn_25 (x : Nat) (hx : U32 x) (w : World) : Calls Tryd.prog 33 #[.int .u32 (x : Int), .int .i64 25] w fun e w' => e = .returned (.int .u32 (rrN x 25 : Int)) ∧ w' = w := turn_any x 25 (by omega) hx w
theorem s1_zero (bl : List Nat) (k j : Nat) (hk : k ≤ j) (hj : j < 64) : (s1 bl k)[j]? = some 0 := by
  induction k with
  | zero => rw [s1, List.getElem?_replicate, if_pos hj]
  | succ k ih => rw [s1, List.getElem?_set_ne (by omega)]; exact ih (by omega)
/-- The number of t bytes, the highest first. -/
def pwd (l : List Nat) (j : Nat) : Nat → Nat
  | 0 => 0
  | t + 1 => pwd l j t * 256 + l[j + t]?.getD 0
theorem pwd_lt {l : List Nat} (h : ∀ x ∈ l, U8 x) (j : Nat) (t : Nat) (ht : t ≤ 4) : pwd l j t < 256 ^ t ∧ pwd l j t < 4294967296 := by
  have key : ∀ t, pwd l j t < 256 ^ t := by
    intro t
    induction t with
    | zero => simp [pwd]
    | succ t ih =>
      have := u8_get h (j + t)
      unfold U8 at this
      rw [pwd, Nat.pow_succ]; omega
  refine ⟨key t, Nat.lt_of_lt_of_le (key t) ?_⟩
  exact Nat.le_trans (Nat.pow_le_pow_right (by omega) ht) (by decide)
theorem pwd4 (l : List Nat) (j : Nat) : pwd l j 4 = wd (l[j]?.getD 0) (l[j + 1]?.getD 0) (l[j + 2]?.getD 0) (l[j + 3]?.getD 0) := by simp only [pwd, wd, Nat.add_zero]; omega
/-- The words, k of them laid and t bytes of the next. -/
def sp (bl : List Nat) (k t : Nat) : List Nat := (s1 bl k).set k (pwd bl (4 * k) t)
theorem sp_zero (bl : List Nat) (k : Nat) (hk : k < 64) : sp bl k 0 = s1 bl k := by
  unfold sp
  rw [pwd]
  apply List.ext_getElem?
  intro i
  by_cases h : k = i
  · subst h; rw [List.getElem?_set_self (by rw [s1_len]; exact hk), s1_zero bl k k (Nat.le_refl _) hk]
  · rw [List.getElem?_set_ne h]
theorem sp_four (bl : List Nat) (k : Nat) : sp bl k 4 = s1 bl (k + 1) := by unfold sp; rw [pwd4]; rfl
theorem sp_len (bl : List Nat) (k t : Nat) : (sp bl k t).length = 64 := by unfold sp; rw [List.length_set, s1_len]
theorem sp_at (bl : List Nat) (k t : Nat) (hk : k < 64) : (sp bl k t)[k]? = some (pwd bl (4 * k) t) := by unfold sp; rw [List.getElem?_set_self (by rw [s1_len]; exact hk)]
theorem sp_next (bl : List Nat) (k t : Nat) : sp bl k (t + 1) = (sp bl k t).set k (pwd bl (4 * k) t * 256 + bl[4 * k + t]?.getD 0) := by unfold sp; rw [List.set_set]; rfl

theorem not_xor {x : Nat} (h : U32 x) : 4294967295 - x = 4294967295 ^^^ x := by
  unfold U32 at h
  apply Nat.eq_of_testBit_eq
  intro i
  have h1 := Nat.testBit_two_pow_sub_succ (x := x) (n := 32) (by omega) i
  rw [show 2 ^ 32 - (x + 1) = 4294967295 - x by omega] at h1
  rw [h1, Nat.testBit_xor, show (4294967295 : Nat) = 2 ^ 32 - 1 by decide, Nat.testBit_two_pow_sub_one]
  by_cases hi : i < 32
  · simp [hi]
  · have : x.testBit i = false := Nat.testBit_lt_two_pow (Nat.lt_of_lt_of_le h (by have := Nat.pow_le_pow_right (n := 2) (by omega) (show 32 ≤ i by omega); omega))
    simp [hi, this]
/-- What a round reads, and nothing but draws since W. -/
def C9 (W : World) (v p q k a b c d e f g i y z : Nat) (w : World) : Prop := Drew W w ∧ (w.cell? ⟨v, 0, none⟩ = some (.int .u32 (a : Int)) ∧ w.cell? ⟨v, 1, none⟩ = some (.int .u32 (b : Int)) ∧ w.cell? ⟨v, 2, none⟩ = some (.int .u32 (c : Int)) ∧ w.cell? ⟨v, 3, none⟩ = some (.int .u32 (d : Int)) ∧
  w.cell? ⟨v, 4, none⟩ = some (.int .u32 (e : Int)) ∧ w.cell? ⟨v, 5, none⟩ = some (.int .u32 (f : Int)) ∧ w.cell? ⟨v, 6, none⟩ = some (.int .u32 (g : Int)) ∧ w.cell? ⟨v, 7, none⟩ = some (.int .u32 (i : Int)) ∧ w.cell? ⟨p, k, none⟩ = some (.int .u32 (y : Int)) ∧ w.cell? ⟨q, k, none⟩ = some (.int .u32 (z : Int)))
theorem list8_len (a b c d e f g i : Nat) : ([a, b, c, d, e, f, g, i].map v32).length = 8 := rfl
theorem ad8_comm {ws vs : List Nat} (h : ws.length = 8) (k : vs.length = 8) : ad8 vs ws 8 = ad8 ws vs 8 := by
  obtain ⟨a, b, c, d, e, f, g, i, rfl⟩ := list8 h
  obtain ⟨a', b', c', d', e', f', g', i', rfl⟩ := list8 k
  simp [ad8, Nat.add_comm]
/-- What lies in memory: the words, the keys, the result, the words of the rounds, the bytes. -/
def Rd (w : World) (N g o : Nat) (ws bl : List Nat) (Z : List Value) (pl : List Nat) (wr : World) : Prop :=
  Rw wr N 46 (ws.map v32) ∧ Rw wr (N + 1) 48 (keyL.map v32) ∧ Rw wr (N + 1 + 1) 46 Z ∧ Rw wr (N + 1 + 1 + 1) 48 (pl.map v32) ∧ Cls wr g o (bl.map v8) ∧ Below N w wr
theorem Rd.drew {w wr w' : World} {N g o : Nat} {ws bl pl : List Nat} {Z : List Value} (h : Rd w N g o ws bl Z pl wr) (hd : Drew wr w') (hN : N ≤ wr.heap.size) : Rd w N g o ws bl Z pl w' :=
  ⟨h.1.drew hd, h.2.1.drew hd, h.2.2.1.drew hd, h.2.2.2.1.drew hd, fun j v hv => by rw [hd.cell]; exact h.2.2.2.2.1 j v hv, h.2.2.2.2.2.trans (hd.below.mono hN)⟩
theorem Rd.set {w wr : World} {N g o : Nat} {ws bl pl : List Nat} {Z : List Value} (h : Rd w N g o ws bl Z pl wr) (hg : g < N) (i x : Nat) : Rd w N g o ws bl Z (pl.set i x) (wr.setCell ⟨N + 1 + 1 + 1, i, none⟩ (v32 x)) := by
  refine ⟨h.1.other (by omega) _ _, h.2.1.other (by omega) _ _, h.2.2.1.other (by omega) _ _, by rw [List.map_set]; exact h.2.2.2.1.setCell i (v32 x), fun j v hv => ?_, h.2.2.2.2.2.setCell (p := ⟨N + 1 + 1 + 1, i, none⟩) (by simp; omega) _⟩
  rw [World.cell?_setCell_other _ _ _ _ (by intro e; injection e; omega)]
  exact h.2.2.2.2.1 j v hv
theorem Rd.lt {w wr : World} {N g o : Nat} {ws bl pl : List Nat} {Z : List Value} (h : Rd w N g o ws bl Z pl wr) : N ≤ wr.heap.size := Nat.le_of_lt h.1.lt

set_option maxRecDepth 100000 in
set_option maxHeartbeats 3200000 in
theorem round_any (ws bl : List Nat) (hw : ws.length = 8) (hl : bl.length = 64) (uw : ∀ x ∈ ws, U32 x) (ub : ∀ x ∈ bl, U8 x) (g o cap : Nat) (w : World) (hg : Cls w g o (bl.map v8)) :
    Calls Tryd.prog 25 #[.agg (ws.map v32).toArray, .agg (keyL.map v32).toArray, .slice (some ⟨g, o, none⟩) 64 cap] w fun e w' => e = .returned (.agg ((mixN ws bl).map v32).toArray) ∧ Below w.heap.size w w' := by
  have hgN : g < w.heap.size := hg.lt (by intro e; rw [e] at hl; simp at hl)
  go_enter Tryd.func25, Tryd.ntmps25
  go_upto_region 2 with fail
  have r0 := (((Rw.new w 46 (ws.map v32)).past (.cells (keyL.map v32).toArray 48)).past (.cells ((List.replicate 8 0).map v32).toArray 46)).past (.cells ((List.replicate 64 0).map v32).toArray 48)
  have r1 := ((Rw.new (w.alloc (.cells (ws.map v32).toArray 46)) 48 (keyL.map v32)).past (.cells ((List.replicate 8 0).map v32).toArray 46)).past (.cells ((List.replicate 64 0).map v32).toArray 48)
  have r2 := (Rw.new ((w.alloc (.cells (ws.map v32).toArray 46)).alloc (.cells (keyL.map v32).toArray 48)) 46 ((List.replicate 8 0).map v32)).past (.cells ((List.replicate 64 0).map v32).toArray 48)
  have r3 := Rw.new (((w.alloc (.cells (ws.map v32).toArray 46)).alloc (.cells (keyL.map v32).toArray 48)).alloc (.cells ((List.replicate 8 0).map v32).toArray 46)) 48 ((List.replicate 64 0).map v32)
  have hB := ((((Below.refl _ w).alloc (Nat.le_refl _) (.cells (ws.map v32).toArray 46)).alloc (by simp) (.cells (keyL.map v32).toArray 48)).alloc (by simp; omega) (.cells ((List.replicate 8 0).map v32).toArray 46)).alloc (by simp; omega) (.cells ((List.replicate 64 0).map v32).toArray 48)
  simp only [World.size_alloc] at r1 r2 r3
  change Code.wp _ _ _ _ ((((w.alloc (.cells (ws.map v32).toArray 46)).alloc (.cells (keyL.map v32).toArray 48)).alloc (.cells ((List.replicate 8 0).map v32).toArray 46)).alloc (.cells ((List.replicate 64 0).map v32).toArray 48))
  generalize (((w.alloc (.cells (ws.map v32).toArray 46)).alloc (.cells (keyL.map v32).toArray 48)).alloc (.cells ((List.replicate 8 0).map v32).toArray 46)).alloc (.cells ((List.replicate 64 0).map v32).toArray 48) = W at *
  generalize hZ : (List.replicate 8 0).map v32 = Z at r2
  have HZ : Unit → Z.length = 8 := fun _ => by rw [← hZ]; rfl
  clear hZ
  have hR : Rd w w.heap.size g o ws bl Z (s1 bl 0) W := ⟨r0, r1, r2, r3, hg.keep hB, hB⟩
  clear r0 r1 r2 r3 hB hg
  generalize hN : w.heap.size = N at *
  have HN : Unit → w.heap.size = N := fun _ => hN
  clear hN
  generalize hK : (keyL.map v32).toArray = KK
  go_upto_region 3 with fail
  go_loopw [8] (fun i wr => ∃ k : Nat, k ≤ 16 ∧ i = .int .i64 (k : Int) ∧ Rd w N g o ws bl Z (s1 bl k) wr) (fun i _ => 16 - (intOf i).toNat)
  case atStart => exact ⟨0, by omega, rfl, hR⟩
  case round =>
    clear hR
    obtain ⟨k, hk, rfl, hR⟩ := hrel
    by_cases hlt : k < 16
    · go_upto_region 6 with fail
      try simp only [show ((k : Int) < 16) = True from eq_true (by omega), decide_true]
      go_loopw [9] (fun j wi => ∃ t : Nat, t ≤ 4 ∧ j = .int .i64 (t : Int) ∧ Rd w N g o ws bl Z (sp bl k t) wi) (fun j _ => 4 - (intOf j).toNat)
      case atStart => exact ⟨0, by omega, rfl, by rw [sp_zero bl k (by omega)]; exact hR⟩
      case round =>
        clear hR
        obtain ⟨t, ht, rfl, hR⟩ := hrel
        by_cases hlt2 : t < 4
        · obtain ⟨x, hx⟩ : ∃ x, bl[4 * k + t]? = some x := ⟨_, List.getElem?_eq_getElem (by omega)⟩
          have ux : x < 256 := ub x (List.mem_of_getElem? hx)
          have Hnx : Unit → sp bl k (t + 1) = (sp bl k t).set k (pwd bl (4 * k) t * 256 + x) := fun _ => by rw [sp_next, hx]; rfl
          have hp3 : pwd bl (4 * k) t < 16777216 := Nat.lt_of_lt_of_le (pwd_lt ub (4 * k) t (by omega)).1 (Nat.le_trans (Nat.pow_le_pow_right (by omega) (show t ≤ 3 by omega)) (by decide))
          have z0 := (hR.2.2.2.1.cell k).trans (at32 (sp_at bl k t (by omega)))
          have y0 := hR.2.2.2.1.frozen k
          have z1 : wr.cell? ⟨g, o + (4 * k + t), none⟩ = some (.int .u8 (x : Int)) := hR.2.2.2.2.1 (4 * k + t) (v8 x) (by simp [hx])
          generalize pwd bl (4 * k) t = P0 at *
          obtain ⟨j, hj⟩ : ∃ j, j = 4 * k + t := ⟨_, rfl⟩
          rw [← hj] at z1
          have hjl : (j : Int) < 64 := by omega
          have hjn : j < 64 := by omega
          have x1 : IntKind.i64.wrap (4 * (k : Int)) = 4 * (k : Int) := by simp [IntKind.wrap, IntKind.bits, IntKind.signed]; omega
          have x2 : IntKind.i64.wrap (4 * (k : Int) + (t : Int)) = (j : Int) := by rw [show 4 * (k : Int) + (t : Int) = (j : Int) by omega]; simp [IntKind.wrap, IntKind.bits, IntKind.signed]; omega
          have x3 : IntKind.u32.wrap (x : Int) = (x : Int) := by rw [IntKind.wrap_u32']; omega
          have x4 : IntKind.u32.wrap ((P0 : Int) * 256) = (P0 : Int) * 256 := by rw [IntKind.wrap_u32']; omega
          have x5 : IntKind.u32.wrap ((P0 : Int) * 256 + (x : Int)) = ((P0 * 256 + x : Nat) : Int) := by rw [IntKind.wrap_u32']; omega
          obtain ⟨P1, hP1⟩ : ∃ P1, P1 = P0 * 256 + x := ⟨_, rfl⟩
          rw [← hP1] at x5 Hnx
          have hkl : (k : Int) < 64 := by omega
          clear hj hP1 hx
          go_upto_region 8 with fail
          refine region_loose (fun _ w' => Drew wr w' ∧ w'.cell? ⟨N + 1 + 1 + 1, k, none⟩ = some (.int .u32 (P0 : Int)) ∧ w'.cell? ⟨g, o + j, none⟩ = some (.int .u8 (x : Int))) 14 14 2 #[true, true, true, true, true, true, true, true, true, true, true, true, true, true, false, false] rfl (by kernel_rfl) (by kernel_rfl) (by kernel_rfl) (⟨⟨_, rfl⟩, z0, z1⟩) ?_
          simp only [List.take_succ_cons, List.take_zero]
          repeat
            first
            | (refine loose_val (by decide) rfl ?_
               apply Exists.intro
               refine ⟨fun L' w' hw' => ?_, ?_⟩
               · obtain ⟨_, e0, e1⟩ := hw'
                 go_simp
                 first | done | rfl | exact ⟨rfl, rfl⟩
               simp only [Act.put, List.setIfInBounds_toArray, List.set_cons_zero, List.set_cons_succ])
            | (refine loose_call (by decide) rfl ?_
               apply Exists.intro
               apply Exists.intro
               refine ⟨fun w' => ?_, ?_⟩
               · go_simp
                 first | done | rfl | exact ⟨rfl, rfl⟩
               apply Exists.intro
               refine ⟨fun L' w' hw' => ?_, ?_⟩
               · first
                 | fail
               simp only [Act.put, List.setIfInBounds_toArray, List.set_cons_zero, List.set_cons_succ])
            | (refine loose_new (by decide) rfl (fun L' w' hw' => ?_) (fun v => ?_)
               · fail
               simp only [Act.put, List.setIfInBounds_toArray, List.set_cons_zero, List.set_cons_succ])
          intro w5 hw5
          obtain ⟨hdr, _⟩ := hw5
          replace hR := (hR.drew hdr hR.lt).set hgN k P1
          rw [← hdr.cell] at z0
          rw [← hdr.frozen] at y0
          rw [← Hnx ()] at hR
          clear hdr z1 x1 x2 x3 x4 x5
          refine wpAny_ready (rs := [14]) (by kernel_rfl) (by simp) ?_
          refine AllReady.cons rfl (fun K hK => ?_) AllReady.nil
          go_simp
          refine hK _ _ ?_
          clear hK K
          refine wpAny_ready (rs := [15]) (by kernel_rfl) (by simp) ?_
          refine AllReady.cons rfl (fun K hK => ?_) AllReady.nil
          go_simp
          refine hK _ _ ?_
          clear hK K
          refine wpAny_done (by kernel_rfl) ?_ _
          clear z0 y0
          go_wp2_with fail
          go_roundw
          case rel => exact ⟨t + 1, by omega, by go_num, hR⟩
          case measure => simp [intOf]; omega
        · obtain rfl : t = 4 := by omega
          rw [sp_four] at hR
          go_wp2_with fail
          go_roundw
          case rel => exact ⟨k + 1, by omega, by go_num, hR⟩
          case measure => simp [intOf]; omega
    · obtain rfl : k = 16 := by omega
      change Rd w N g o ws bl Z (s2 bl 0) wr at hR
      clear hk hlt
      try simp only [Int.cast_ofNat_Int]
      go_upto_region 10 with fail
      try simp only [Int.cast_ofNat_Int]
      go_loopw [10] (fun i wr => ∃ k j : Nat, k ≤ 48 ∧ Hid (j = k + 16) ∧ i = .int .i64 (j : Int) ∧ Rd w N g o ws bl Z (s2 bl k) wr) (fun i _ => 64 - (intOf i).toNat)
      case atStart => exact ⟨0, 16, by omega, rfl, rfl, hR⟩
      case round =>
        clear hR
        obtain ⟨k, i, hk, Hi, rfl, hR⟩ := hrel
        have hi := Hi.out
        by_cases hlt : k < 48
        · have hil : (i : Int) < 64 := by omega
          obtain ⟨a, ha⟩ : ∃ a, (s2 bl k)[k]? = some a := ⟨_, List.getElem?_eq_getElem (by rw [s2_len]; omega)⟩
          obtain ⟨b, hb'⟩ : ∃ b, (s2 bl k)[k + 1]? = some b := ⟨_, List.getElem?_eq_getElem (by rw [s2_len]; omega)⟩
          obtain ⟨c, hc⟩ : ∃ c, (s2 bl k)[k + 9]? = some c := ⟨_, List.getElem?_eq_getElem (by rw [s2_len]; omega)⟩
          obtain ⟨d, hd⟩ : ∃ d, (s2 bl k)[k + 14]? = some d := ⟨_, List.getElem?_eq_getElem (by rw [s2_len]; omega)⟩
          obtain ⟨y, hy⟩ : ∃ y, (s2 bl k)[i]? = some y := ⟨_, List.getElem?_eq_getElem (by rw [s2_len]; omega)⟩
          have ubb := s2_u ub k b (List.mem_of_getElem? hb')
          have ud := s2_u ub k d (List.mem_of_getElem? hd)
          have Hnx : Unit → nx (s2 bl k) k = (((a + shN b 7 18 3) % 4294967296 + c) % 4294967296 + shN d 17 19 10) % 4294967296 := fun _ => by unfold nx; rw [ha, hb', hc, hd]; rfl
          have K7 := Lib.hid (turn_7 b ubb)
          have K18 := Lib.hid (turn_18 b ubb)
          have K17 := Lib.hid (turn_17 d ud)
          have K19 := Lib.hid (turn_19 d ud)
          have xb1 := b_xor (rrN_u ubb (a := 7)) (rrN_u ubb (a := 18))
          have xb2 : bits .xor .u32 ((rrN b 7 ^^^ rrN b 18 : Nat) : Int) ((b / 8 : Nat) : Int) = (shN b 7 18 3 : Int) := b_xor ((rrN_u ubb).xor (rrN_u ubb)) (ubb.div 8)
          have xd1 := b_xor (rrN_u ud (a := 17)) (rrN_u ud (a := 19))
          have xd2 : bits .xor .u32 ((rrN d 17 ^^^ rrN d 19 : Nat) : Int) ((d / 1024 : Nat) : Int) = (shN d 17 19 10 : Int) := b_xor ((rrN_u ud).xor (rrN_u ud)) (ud.div 1024)
          obtain ⟨b8, hb8⟩ : ∃ b8, b8 = b / 8 := ⟨_, rfl⟩
          obtain ⟨d8, hd8⟩ : ∃ d8, d8 = d / 1024 := ⟨_, rfl⟩
          rw [← hb8] at xb2
          rw [← hd8] at xd2
          have q1 : (b : Int).tdiv 8 = (b8 : Int) := by rw [hb8]; rfl
          have q2 : (d : Int).tdiv 1024 = (d8 : Int) := by rw [hd8]; rfl
          have q1' : IntKind.u32.wrap (b8 : Int) = (b8 : Int) := by unfold U32 at ubb; rw [IntKind.wrap_u32']; omega
          have q2' : IntKind.u32.wrap (d8 : Int) = (d8 : Int) := by unfold U32 at ud; rw [IntKind.wrap_u32']; omega
          obtain ⟨k1, hk1⟩ : ∃ k1, k1 = k + 1 := ⟨_, rfl⟩
          obtain ⟨k9, hk9⟩ : ∃ k9, k9 = k + 9 := ⟨_, rfl⟩
          obtain ⟨k14, hk14⟩ : ∃ k14, k14 = k + 14 := ⟨_, rfl⟩
          have x0 : IntKind.i64.wrap ((i : Int) - 16) = (k : Int) := by rw [show (i : Int) - 16 = (k : Int) by omega]; simp [IntKind.wrap, IntKind.bits, IntKind.signed]; omega
          have x1 : IntKind.i64.wrap ((i : Int) - 15) = (k1 : Int) := by rw [show (i : Int) - 15 = (k1 : Int) by omega]; simp [IntKind.wrap, IntKind.bits, IntKind.signed]; omega
          have x9 : IntKind.i64.wrap ((i : Int) - 7) = (k9 : Int) := by rw [show (i : Int) - 7 = (k9 : Int) by omega]; simp [IntKind.wrap, IntKind.bits, IntKind.signed]; omega
          have x14 : IntKind.i64.wrap ((i : Int) - 2) = (k14 : Int) := by rw [show (i : Int) - 2 = (k14 : Int) by omega]; simp [IntKind.wrap, IntKind.bits, IntKind.signed]; omega
          have y0 : (k : Int) < 64 := by omega
          have y1 : (k1 : Int) < 64 := by omega
          have y9 : (k9 : Int) < 64 := by omega
          have y14 : (k14 : Int) < 64 := by omega
          have hca := (hR.2.2.2.1.cell k).trans (at32 ha)
          have hcb := (hR.2.2.2.1.cell (k + 1)).trans (at32 hb')
          have hcc := (hR.2.2.2.1.cell (k + 9)).trans (at32 hc)
          have hcd := (hR.2.2.2.1.cell (k + 14)).trans (at32 hd)
          have hcy := (hR.2.2.2.1.cell i).trans (at32 hy)
          rw [← hk1] at hcb
          rw [← hk9] at hcc
          rw [← hk14] at hcd
          have hfy := hR.2.2.2.1.frozen i
          clear ha hb' hc hd hy ubb ud hk1 hk9 hk14 hi hb8 hd8
          go_upto_region 12 with fail
          try simp only [List.append_eq, List.cons_append, List.nil_append]
          refine region_class (fun w' => C4 wr (N + 1 + 1 + 1) k k1 k9 k14 a b c d w') (by kernel_rfl) (by kernel_rfl) (⟨⟨_, rfl⟩, hca, hcb, hcc, hcd⟩) ?_
          repeat
            first
            | go_big_quiet_skip
            | (go_big_quiet_want
               refine quiet_val ?_
               apply Exists.intro
               refine ⟨fun w' hw' => ?_, ?_⟩
               · obtain ⟨_, e0, e1, e9, e14⟩ := hw'
                 go_simp
                 first | done | rfl | exact ⟨rfl, rfl⟩
               simp only [Act.put, List.setIfInBounds_toArray, List.set_cons_zero, List.set_cons_succ]
               go_big_quiet_on)
            | (go_big_quiet_want
               refine quiet_call ?_
               apply Exists.intro
               apply Exists.intro
               refine ⟨fun w' => ?_, ?_⟩
               · go_simp
                 first | done | rfl | exact ⟨rfl, rfl⟩
               apply Exists.intro
               refine ⟨fun w' hw' => ?_, ?_⟩
               · first
                 | (with_reducible refine (K7.out _).mono ?_); (rintro e w2 ⟨rfl, rfl⟩; exact ⟨rfl, hw'⟩)
                 | (with_reducible refine (K18.out _).mono ?_); (rintro e w2 ⟨rfl, rfl⟩; exact ⟨rfl, hw'⟩)
               simp only [Act.put, List.setIfInBounds_toArray, List.set_cons_zero, List.set_cons_succ]
               go_big_quiet_on)
          refine wpQuiet_nil ?_
          intro w5 hw5
          obtain ⟨hdr, p0, p1, p9, p14⟩ := hw5
          replace hR := hR.drew hdr hR.lt
          rw [← hdr.cell] at hcy
          rw [← hdr.frozen] at hfy
          clear hdr hca hcb hcc hcd K7 K18 xb1 xb2 q1 q1'
          obtain ⟨hca, hcb, hcc, hcd⟩ : _ ∧ _ ∧ _ ∧ _ := ⟨p0, p1, p9, p14⟩
          clear p0 p1 p9 p14
          go_upto_region 13 with fail
          try simp only [List.append_eq, List.cons_append, List.nil_append]
          refine region_class (fun w' => C4 w5 (N + 1 + 1 + 1) k k1 k9 k14 a b c d w') (by kernel_rfl) (by kernel_rfl) (⟨⟨_, rfl⟩, hca, hcb, hcc, hcd⟩) ?_
          repeat
            first
            | go_big_quiet_skip
            | (go_big_quiet_want
               refine quiet_val ?_
               apply Exists.intro
               refine ⟨fun w' hw' => ?_, ?_⟩
               · obtain ⟨_, e0, e1, e9, e14⟩ := hw'
                 go_simp
                 first | done | rfl | exact ⟨rfl, rfl⟩
               simp only [Act.put, List.setIfInBounds_toArray, List.set_cons_zero, List.set_cons_succ]
               go_big_quiet_on)
            | (go_big_quiet_want
               refine quiet_call ?_
               apply Exists.intro
               apply Exists.intro
               refine ⟨fun w' => ?_, ?_⟩
               · go_simp
                 first | done | rfl | exact ⟨rfl, rfl⟩
               apply Exists.intro
               refine ⟨fun w' hw' => ?_, ?_⟩
               · first
                 | (with_reducible refine (K17.out _).mono ?_); (rintro e w2 ⟨rfl, rfl⟩; exact ⟨rfl, hw'⟩)
                 | (with_reducible refine (K19.out _).mono ?_); (rintro e w2 ⟨rfl, rfl⟩; exact ⟨rfl, hw'⟩)
               simp only [Act.put, List.setIfInBounds_toArray, List.set_cons_zero, List.set_cons_succ]
               go_big_quiet_on)
          refine wpQuiet_nil ?_
          intro w5 hw5
          obtain ⟨hdr, p0, p1, p9, p14⟩ := hw5
          replace hR := hR.drew hdr hR.lt
          rw [← hdr.cell] at hcy
          rw [← hdr.frozen] at hfy
          clear hdr hca hcb hcc hcd K17 K19 xd1 xd2 q2 q2'
          obtain ⟨hca, hcb, hcc, hcd⟩ : _ ∧ _ ∧ _ ∧ _ := ⟨p0, p1, p9, p14⟩
          clear p0 p1 p9 p14
          go_upto_region 14 with fail
          refine region_loose (fun _ w' => C4 w5 (N + 1 + 1 + 1) k k1 k9 k14 a b c d w') 14 14 2 #[true, true, true, true, true, true, true, true, true, true, true, true, true, true, false, false] rfl (by kernel_rfl) (by kernel_rfl) (by kernel_rfl) (⟨⟨_, rfl⟩, hca, hcb, hcc, hcd⟩) ?_
          simp only [List.take_succ_cons, List.take_zero]
          repeat
            first
            | (refine loose_val (by decide) rfl ?_
               apply Exists.intro
               refine ⟨fun L' w' hw' => ?_, ?_⟩
               · obtain ⟨_, e0, e1, e9, e14⟩ := hw'
                 go_simp
                 first | done | rfl | exact ⟨rfl, rfl⟩
               simp only [Act.put, List.setIfInBounds_toArray, List.set_cons_zero, List.set_cons_succ])
            | (refine loose_call (by decide) rfl ?_
               apply Exists.intro
               apply Exists.intro
               refine ⟨fun w' => ?_, ?_⟩
               · go_simp
                 first | done | rfl | exact ⟨rfl, rfl⟩
               apply Exists.intro
               refine ⟨fun L' w' hw' => ?_, ?_⟩
               · first
                 | fail
               simp only [Act.put, List.setIfInBounds_toArray, List.set_cons_zero, List.set_cons_succ])
            | (refine loose_new (by decide) rfl (fun L' w' hw' => ?_) (fun v => ?_)
               · fail
               simp only [Act.put, List.setIfInBounds_toArray, List.set_cons_zero, List.set_cons_succ])
          intro w5 hw5
          rw [show IntKind.u32.wrap (IntKind.u32.wrap (IntKind.u32.wrap ((a : Int) + (shN b 7 18 3 : Int)) + (c : Int)) + (shN d 17 19 10 : Int)) = (nx (s2 bl k) k : Int) by rw [Hnx (), IntKind.wrap_u32', IntKind.wrap_u32', IntKind.wrap_u32']; omega]
          obtain ⟨hdr, _⟩ := hw5
          replace hR := (hR.drew hdr hR.lt).set hgN i (nx (s2 bl k) k)
          rw [← hdr.cell] at hcy
          rw [← hdr.frozen] at hfy
          rw [show (s2 bl k).set i (nx (s2 bl k) k) = s2 bl (k + 1) by rw [Hi.out]; rfl] at hR
          clear hdr hca hcb hcc hcd x0 x1 x9 x14 y0 y1 y9 y14 Hnx
          refine wpAny_ready (rs := [14]) (by kernel_rfl) (by simp) ?_
          refine AllReady.cons rfl (fun K hK => ?_) AllReady.nil
          go_simp
          refine hK _ _ ?_
          clear hK K
          refine wpAny_ready (rs := [15]) (by kernel_rfl) (by simp) ?_
          refine AllReady.cons rfl (fun K hK => ?_) AllReady.nil
          go_simp
          refine hK _ _ ?_
          clear hK K
          refine wpAny_done (by kernel_rfl) ?_ _
          clear hcy hfy
          go_wp2_with fail
          go_roundw
          case rel => exact ⟨k + 1, i + 1, by omega, by have := Hi.out; exact (show i + 1 = k + 1 + 16 by omega), by go_num, hR⟩
          case measure => simp [intOf]; omega
        · obtain rfl : k = 48 := by omega
          obtain rfl : i = 64 := hi
          clear Hi hk hlt
          try simp only [Int.cast_ofNat_Int]
          have oo := one32 ws
          have hl32 : (ws.map v32).length = 8 := by rw [List.length_map, hw]
          obtain ⟨r0, r1, r2, r3, r4, hB⟩ := hR
          clear r4
          go_upto_region 15 with fail
          try simp only [Int.cast_ofNat_Int]
          go_upto_region 16 with (first
            | (refine load_arr _ _ _ r0 8 hl32 46 45 (by kernel_rfl) (by kernel_rfl) _ rfl rfl rfl ?_)
            | (refine store_arr wr.heap.size 46 ((List.replicate 8 0).map v32) (Rw.new wr 46 ((List.replicate 8 0).map v32)) 8 rfl 46 (by kernel_rfl) _ hl32 oo _ _ rfl rfl rfl rfl ?_))
          rw [World.setRow_alloc_new]
          have q0 := r0.past (.cells (ws.map v32).toArray 46)
          have q1 := r1.past (.cells (ws.map v32).toArray 46)
          have q2 := r2.past (.cells (ws.map v32).toArray 46)
          have q3 := r3.past (.cells (ws.map v32).toArray 46)
          have q4 := Rw.new wr 46 (ws.map v32)
          replace hB := hB.alloc (Nat.le_of_lt r0.lt) (.cells (ws.map v32).toArray 46)
          have hV := r3.lt
          clear r0 r1 r2 r3 oo
          generalize wr.alloc (.cells (ws.map v32).toArray 46) = W9 at *
          generalize wr.heap.size = V at *
          have hpl : (s2 bl 48).length = 64 := s2_len bl 48
          have upl := s2_u ub 48
          have Hmx : Unit → mixN ws bl = ad8 ws (rds ws (s2 bl 48) 64) 8 := fun _ => rfl
          generalize s2 bl 48 = plan at *
          simp only [Act.put]
          go_upto_region 17 with fail
          go_loopw [14] (fun i wr => ∃ k : Nat, k ≤ 64 ∧ i = .int .i64 (k : Int) ∧ Rw wr N 46 (ws.map v32) ∧ Rw wr (N + 1) 48 (keyL.map v32) ∧ Rw wr (N + 1 + 1) 46 Z ∧ Rw wr (N + 1 + 1 + 1) 48 (plan.map v32) ∧ Rw wr V 46 ((rds ws plan k).map v32) ∧ Below N w wr) (fun i _ => 64 - (intOf i).toNat)
          case atStart => exact ⟨0, by omega, rfl, q0, q1, q2, q3, q4, hB⟩
          case round =>
            clear q0 q1 q2 q3 q4 hB
            obtain ⟨k, hk, rfl, q0, q1, q2, q3, q4, hB⟩ := hrel
            by_cases hlt : k < 64
            · obtain ⟨z, hz⟩ : ∃ z, plan[k]? = some z := ⟨_, List.getElem?_eq_getElem (by omega)⟩
              obtain ⟨y, hy⟩ : ∃ y, keyL[k]? = some y := ⟨_, List.getElem?_eq_getElem (by simpa [keyL] using hlt)⟩
              have hur := rds_u (plan := plan) uw k
              obtain ⟨a, b, c, d, e, f, g', i, hr⟩ := list8 (rds_len (plan := plan) hw k)
              rw [hr] at q4 hur
              have Hrd : Unit → rds ws plan (k + 1) = rd y z [a, b, c, d, e, f, g', i] := fun _ => by rw [rds, hr, hz, hy]; rfl
              clear hr
              simp only [List.mem_cons, List.not_mem_nil, or_false, forall_eq_or_imp, forall_eq] at hur
              obtain ⟨ua, ubb, uc, ud, ue, uf, ug, ui⟩ := hur
              have hz' := (q3.cell k).trans (at32 hz)
              have hy' := (q1.cell k).trans (at32 hy)
              have z0 := q4.cell 0
              have z1 := q4.cell 1
              have z2 := q4.cell 2
              have z3 := q4.cell 3
              have z4 := q4.cell 4
              have z5 := q4.cell 5
              have z6 := q4.cell 6
              have z7 := q4.cell 7
              simp only [List.map_cons, List.map_nil, List.getElem?_cons_zero, List.getElem?_cons_succ, v32] at z0 z1 z2 z3 z4 z5 z6 z7
              have hkl : (k : Int) < 64 := by omega
              have K6 := Lib.hid (turn_6 e ue)
              have K11 := Lib.hid (turn_11 e ue)
              have K25 := Lib.hid (turn_25 e ue)
              have K2 := Lib.hid (turn_2 a ua)
              have K13 := Lib.hid (turn_13 a ua)
              have K22 := Lib.hid (turn_22 a ua)
              have e1 := b_xor (rrN_u ue (a := 6)) (rrN_u ue (a := 11))
              have e2 : bits .xor .u32 ((rrN e 6 ^^^ rrN e 11 : Nat) : Int) (rrN e 25 : Int) = (tnN e 6 11 25 : Int) := b_xor ((rrN_u ue).xor (rrN_u ue)) (rrN_u ue)
              have a1 := b_xor (rrN_u ua (a := 2)) (rrN_u ua (a := 13))
              have a2 : bits .xor .u32 ((rrN a 2 ^^^ rrN a 13 : Nat) : Int) (rrN a 22 : Int) = (tnN a 2 13 22 : Int) := b_xor ((rrN_u ua).xor (rrN_u ua)) (rrN_u ua)
              have c1 := b_and ue uf
              have c2 : bits .and .u32 (4294967295 - (e : Int)) (g' : Int) = (((4294967295 ^^^ e) &&& g' : Nat) : Int) := by
                rw [show (4294967295 : Int) - (e : Int) = ((4294967295 ^^^ e : Nat) : Int) by rw [← not_xor ue]; unfold U32 at ue; omega]
                exact b_and (m32.xor ue) ug
              have c0 : IntKind.u32.wrap (4294967295 - (e : Int)) = 4294967295 - (e : Int) := by unfold U32 at ue; rw [IntKind.wrap_u32']; omega
              have c3 : bits .xor .u32 ((e &&& f : Nat) : Int) (((4294967295 ^^^ e) &&& g' : Nat) : Int) = (chN e f g' : Int) := b_xor ue.and (m32.xor ue).and
              have m1 := b_and ua ubb
              have m2 := b_and ua uc
              have m3 := b_and ubb uc
              have m4 := b_xor (ua.and (b := b)) (ua.and (b := c))
              have m5 : bits .xor .u32 (((a &&& b) ^^^ (a &&& c) : Nat) : Int) ((b &&& c : Nat) : Int) = (mjN a b c : Int) := b_xor (ua.and.xor ua.and) ubb.and
              clear hz hy
              have hue : (e : Int) ≤ 4294967295 := by unfold U32 at ue; omega
              clear ua ubb uc ud ue uf ug ui
              go_upto_region 19 with fail
              try simp only [List.append_eq, List.cons_append, List.nil_append]
              refine region_class (fun w' => C9 wr V (N + 1) (N + 1 + 1 + 1) k a b c d e f g' i y z w') (by kernel_rfl) (by kernel_rfl) (⟨⟨_, rfl⟩, z0, z1, z2, z3, z4, z5, z6, z7, hy', hz'⟩) ?_
              repeat
                first
                | go_big_quiet_skip
                | (go_big_quiet_want
                   refine quiet_val ?_
                   apply Exists.intro
                   refine ⟨fun w' hw' => ?_, ?_⟩
                   · obtain ⟨_, t0, t1, t2, t3, t4, t5, t6, t7, ty, tz⟩ := hw'
                     go_simp
                     first | done | rfl | exact ⟨rfl, rfl⟩
                   simp only [Act.put, List.setIfInBounds_toArray, List.set_cons_zero, List.set_cons_succ]
                   go_big_quiet_on)
                | (go_big_quiet_want
                   refine quiet_call ?_
                   apply Exists.intro
                   apply Exists.intro
                   refine ⟨fun w' => ?_, ?_⟩
                   · go_simp
                     first | done | rfl | exact ⟨rfl, rfl⟩
                   apply Exists.intro
                   refine ⟨fun w' hw' => ?_, ?_⟩
                   · first
                     | (with_reducible refine (K6.out _).mono ?_); (rintro e w2 ⟨rfl, rfl⟩; exact ⟨rfl, hw'⟩)
                     | (with_reducible refine (K11.out _).mono ?_); (rintro e w2 ⟨rfl, rfl⟩; exact ⟨rfl, hw'⟩)
                     | (with_reducible refine (K25.out _).mono ?_); (rintro e w2 ⟨rfl, rfl⟩; exact ⟨rfl, hw'⟩)
                   simp only [Act.put, List.setIfInBounds_toArray, List.set_cons_zero, List.set_cons_succ]
                   go_big_quiet_on)
              refine wpQuiet_nil ?_
              intro w5 hw5
              clear z0 z1 z2 z3 z4 z5 z6 z7 hy' hz' K6 K11 K25 e1 e2
              obtain ⟨hdr, z0, z1, z2, z3, z4, z5, z6, z7, hy', hz'⟩ := hw5
              replace q0 := q0.drew hdr
              replace q1 := q1.drew hdr
              replace q2 := q2.drew hdr
              replace q3 := q3.drew hdr
              replace q4 := q4.drew hdr
              replace hB := hB.trans (hdr.below.mono (by have := q0.lt; rw [hdr.heap] at this; omega))
              clear hdr
              go_upto_region 21 with fail
              clear c0 c1 c2 c3 hue
              try simp only [List.append_eq, List.cons_append, List.nil_append]
              refine region_class (fun w' => C9 w5 V (N + 1) (N + 1 + 1 + 1) k a b c d e f g' i y z w') (by kernel_rfl) (by kernel_rfl) (⟨⟨_, rfl⟩, z0, z1, z2, z3, z4, z5, z6, z7, hy', hz'⟩) ?_
              repeat
                first
                | go_big_quiet_skip
                | (go_big_quiet_want
                   refine quiet_val ?_
                   apply Exists.intro
                   refine ⟨fun w' hw' => ?_, ?_⟩
                   · obtain ⟨_, t0, t1, t2, t3, t4, t5, t6, t7, ty, tz⟩ := hw'
                     go_simp
                     first | done | rfl | exact ⟨rfl, rfl⟩
                   simp only [Act.put, List.setIfInBounds_toArray, List.set_cons_zero, List.set_cons_succ]
                   go_big_quiet_on)
                | (go_big_quiet_want
                   refine quiet_call ?_
                   apply Exists.intro
                   apply Exists.intro
                   refine ⟨fun w' => ?_, ?_⟩
                   · go_simp
                     first | done | rfl | exact ⟨rfl, rfl⟩
                   apply Exists.intro
                   refine ⟨fun w' hw' => ?_, ?_⟩
                   · first
                     | fail
                   simp only [Act.put, List.setIfInBounds_toArray, List.set_cons_zero, List.set_cons_succ]
                   go_big_quiet_on)
              refine wpQuiet_nil ?_
              intro w5 hw5
              rw [show IntKind.u32.wrap (IntKind.u32.wrap (IntKind.u32.wrap (IntKind.u32.wrap ((i : Int) + (tnN e 6 11 25 : Int)) + (chN e f g' : Int)) + (y : Int)) + (z : Int)) = (oneN [a, b, c, d, e, f, g', i] y z : Int) by rw [IntKind.wrap_u32', IntKind.wrap_u32', IntKind.wrap_u32', IntKind.wrap_u32']; simp only [oneN, List.getElem?_cons_zero, List.getElem?_cons_succ, Option.getD_some]; omega]
              clear z0 z1 z2 z3 z4 z5 z6 z7 hy' hz'
              obtain ⟨hdr, z0, z1, z2, z3, z4, z5, z6, z7, hy', hz'⟩ := hw5
              replace q0 := q0.drew hdr
              replace q1 := q1.drew hdr
              replace q2 := q2.drew hdr
              replace q3 := q3.drew hdr
              replace q4 := q4.drew hdr
              replace hB := hB.trans (hdr.below.mono (by have := q0.lt; rw [hdr.heap] at this; omega))
              clear hdr
              go_upto_region 22 with fail
              try simp only [List.append_eq, List.cons_append, List.nil_append]
              refine region_class (fun w' => C9 w5 V (N + 1) (N + 1 + 1 + 1) k a b c d e f g' i y z w') (by kernel_rfl) (by kernel_rfl) (⟨⟨_, rfl⟩, z0, z1, z2, z3, z4, z5, z6, z7, hy', hz'⟩) ?_
              repeat
                first
                | go_big_quiet_skip
                | (go_big_quiet_want
                   refine quiet_val ?_
                   apply Exists.intro
                   refine ⟨fun w' hw' => ?_, ?_⟩
                   · obtain ⟨_, t0, t1, t2, t3, t4, t5, t6, t7, ty, tz⟩ := hw'
                     go_simp
                     first | done | rfl | exact ⟨rfl, rfl⟩
                   simp only [Act.put, List.setIfInBounds_toArray, List.set_cons_zero, List.set_cons_succ]
                   go_big_quiet_on)
                | (go_big_quiet_want
                   refine quiet_call ?_
                   apply Exists.intro
                   apply Exists.intro
                   refine ⟨fun w' => ?_, ?_⟩
                   · go_simp
                     first | done | rfl | exact ⟨rfl, rfl⟩
                   apply Exists.intro
                   refine ⟨fun w' hw' => ?_, ?_⟩
                   · first
                     | (with_reducible refine (K2.out _).mono ?_); (rintro e w2 ⟨rfl, rfl⟩; exact ⟨rfl, hw'⟩)
                     | (with_reducible refine (K13.out _).mono ?_); (rintro e w2 ⟨rfl, rfl⟩; exact ⟨rfl, hw'⟩)
                     | (with_reducible refine (K22.out _).mono ?_); (rintro e w2 ⟨rfl, rfl⟩; exact ⟨rfl, hw'⟩)
                   simp only [Act.put, List.setIfInBounds_toArray, List.set_cons_zero, List.set_cons_succ]
                   go_big_quiet_on)
              refine wpQuiet_nil ?_
              intro w5 hw5
              clear z0 z1 z2 z3 z4 z5 z6 z7 hy' hz' K2 K13 K22 a1 a2
              obtain ⟨hdr, z0, z1, z2, z3, z4, z5, z6, z7, hy', hz'⟩ := hw5
              replace q0 := q0.drew hdr
              replace q1 := q1.drew hdr
              replace q2 := q2.drew hdr
              replace q3 := q3.drew hdr
              replace q4 := q4.drew hdr
              replace hB := hB.trans (hdr.below.mono (by have := q0.lt; rw [hdr.heap] at this; omega))
              clear hdr
              go_upto_region 24 with fail
              clear m1 m2 m3 m4 m5 hy' hz'
              have Hrd2 : Unit → (rds ws plan (k + 1)).map v32 = [Value.int .u32 ((((oneN [a, b, c, d, e, f, g', i] y z : Int) + (tnN a 2 13 22 : Int)) % 4294967296 + (mjN a b c : Int)) % 4294967296), v32 a, v32 b, v32 c, Value.int .u32 (((d : Int) + (oneN [a, b, c, d, e, f, g', i] y z : Int)) % 4294967296), v32 e, v32 f, v32 g'] := fun _ => by
                rw [Hrd ()]
                have h9 : (((oneN [a, b, c, d, e, f, g', i] y z : Int) + (tnN a 2 13 22 : Int)) % 4294967296 + (mjN a b c : Int)) % 4294967296 = (((oneN [a, b, c, d, e, f, g', i] y z + twoN [a, b, c, d, e, f, g', i]) % 4294967296 : Nat) : Int) := by
                  simp only [twoN, List.getElem?_cons_zero, List.getElem?_cons_succ, Option.getD_some]
                  omega
                rw [h9]
                rfl
              have Hone : Unit → ∀ v ∈ (rds ws plan (k + 1)).map v32, v.oneCell' = true := fun _ => one32 _
              have Hl8 : Unit → ((rds ws plan (k + 1)).map v32).length = 8 := fun _ => by rw [List.length_map, rds_len hw]
              generalize oneN [a, b, c, d, e, f, g', i] y z = T1 at *
              generalize tnN a 2 13 22 = T2 at *
              generalize mjN a b c = T3 at *
              have q4l : ([a, b, c, d, e, f, g', i].map v32).length = 8 := rfl
              go_wp2_with (first
                | (refine build_arr [Value.int .u32 ((((T1 : Int) + (T2 : Int)) % 4294967296 + (T3 : Int)) % 4294967296), v32 a, v32 b, v32 c, Value.int .u32 (((d : Int) + (T1 : Int)) % 4294967296), v32 e, v32 f, v32 g'] 46 _ rfl rfl (by kernel_rfl) ?_)
                | (refine store_arr _ _ _ q4 8 q4l 46 (by kernel_rfl) [Value.int .u32 ((((T1 : Int) + (T2 : Int)) % 4294967296 + (T3 : Int)) % 4294967296), v32 a, v32 b, v32 c, Value.int .u32 (((d : Int) + (T1 : Int)) % 4294967296), v32 e, v32 f, v32 g'] rfl (by rw [← Hrd2 ()]; exact Hone ()) _ _ rfl rfl rfl rfl ?_))
              refine ⟨⟨k + 1, by omega, by go_num, q0.rowOther (by omega) _, q1.rowOther (by omega) _, q2.rowOther (by omega) _, q3.rowOther (by omega) _, ?_, below_setRow hB (by omega) _⟩, by simp [intOf]; omega⟩
              rw [Hrd2 (), show (((T1 : Int) + (T2 : Int)) % 4294967296 + (T3 : Int)) % 4294967296 = ((T1 : Int) + (T2 : Int) + (T3 : Int)) % 4294967296 by omega]
              exact q4.row [Value.int .u32 (((T1 : Int) + (T2 : Int) + (T3 : Int)) % 4294967296), v32 a, v32 b, v32 c, Value.int .u32 (((d : Int) + (T1 : Int)) % 4294967296), v32 e, v32 f, v32 g']
            · obtain rfl : k = 64 := by omega
              clear q1 q3 hk hlt
              try simp only [Int.cast_ofNat_Int]
              have hvl : (rds ws plan 64).length = 8 := rds_len hw 64
              generalize rds ws plan 64 = vs at *
              have Hmix : Unit → mixN ws bl = ad8 vs ws 8 := fun _ => by rw [Hmx (), ad8_comm hw hvl]
              go_upto_region 26 with fail
              try simp only [Int.cast_ofNat_Int]
              go_loopw [20] (fun i wr => ∃ k : Nat, k ≤ 8 ∧ i = .int .i64 (k : Int) ∧ Rw wr N 46 (ws.map v32) ∧ Rw wr (N + 1 + 1) 46 Z ∧ Rw wr V 46 ((ad8 vs ws k).map v32) ∧ Below N w wr) (fun i _ => 8 - (intOf i).toNat)
              case atStart => exact ⟨0, by omega, rfl, q0, q2, q4, hB⟩
              case round =>
                clear q0 q2 q4 hB
                obtain ⟨k, hk, rfl, q0, q2, q4, hB⟩ := hrel
                by_cases hlt : k < 8
                · have hkl : (k : Int) < 8 := by omega
                  obtain ⟨a, ha⟩ : ∃ a, (ad8 vs ws k)[k]? = some a := ⟨_, List.getElem?_eq_getElem (by rw [ad8_len hvl]; omega)⟩
                  obtain ⟨b, hb'⟩ : ∃ b, ws[k]? = some b := ⟨_, List.getElem?_eq_getElem (by omega)⟩
                  have Hnx : Unit → ad8 vs ws (k + 1) = (ad8 vs ws k).set k ((a + b) % 4294967296) := fun _ => by rw [ad8, ha, hb']; rfl
                  have z0 := (q4.cell k).trans (at32 ha)
                  have z1 := (q0.cell k).trans (at32 hb')
                  have y0 := q4.frozen k
                  clear ha hb'
                  go_upto_region 28 with fail
                  refine region_loose (fun _ w' => C2 wr V N k a b w') 7 7 2 #[true, true, true, true, true, true, true, false, false] rfl (by kernel_rfl) (by kernel_rfl) (by kernel_rfl) (⟨⟨_, rfl⟩, z0, z1⟩) ?_
                  simp only [List.take_succ_cons, List.take_zero]
                  repeat
                    first
                    | (refine loose_val (by decide) rfl ?_
                       apply Exists.intro
                       refine ⟨fun L' w' hw' => ?_, ?_⟩
                       · obtain ⟨_, e0, e1⟩ := hw'
                         go_simp
                         first | done | rfl | exact ⟨rfl, rfl⟩
                       simp only [Act.put, List.setIfInBounds_toArray, List.set_cons_zero, List.set_cons_succ])
                    | (refine loose_call (by decide) rfl ?_
                       apply Exists.intro
                       apply Exists.intro
                       refine ⟨fun w' => ?_, ?_⟩
                       · go_simp
                         first | done | rfl | exact ⟨rfl, rfl⟩
                       apply Exists.intro
                       refine ⟨fun L' w' hw' => ?_, ?_⟩
                       · first
                         | fail
                       simp only [Act.put, List.setIfInBounds_toArray, List.set_cons_zero, List.set_cons_succ])
                    | (refine loose_new (by decide) rfl (fun L' w' hw' => ?_) (fun v => ?_)
                       · fail
                       simp only [Act.put, List.setIfInBounds_toArray, List.set_cons_zero, List.set_cons_succ])
                  intro w5 hw5
                  obtain ⟨hdr, _⟩ := hw5
                  replace q0 := q0.drew hdr
                  replace q2 := q2.drew hdr
                  replace q4 := q4.drew hdr
                  replace hB := hB.trans (hdr.below.mono (by have := q0.lt; rw [hdr.heap] at this; omega))
                  rw [← hdr.cell] at z0
                  rw [← hdr.frozen] at y0
                  clear z1 hdr
                  refine wpAny_ready (rs := [7]) (by kernel_rfl) (by simp) ?_
                  refine AllReady.cons rfl (fun K hK => ?_) AllReady.nil
                  go_simp
                  refine hK _ _ ?_
                  clear hK K
                  refine wpAny_ready (rs := [8]) (by kernel_rfl) (by simp) ?_
                  refine AllReady.cons rfl (fun K hK => ?_) AllReady.nil
                  go_simp
                  refine hK _ _ ?_
                  clear hK K
                  refine wpAny_done (by kernel_rfl) ?_ _
                  clear z0 y0
                  go_wp2_with fail
                  go_roundw
                  case rel =>
                    refine ⟨k + 1, by omega, by go_num, q0.other (by omega) _ _, q2.other (by omega) _ _, ?_, hB.setCell (p := ⟨V, k, none⟩) (by simp; omega) _⟩
                    have := q4.setCell k (v32 ((a + b) % 4294967296))
                    rw [← List.map_set, ← Hnx ()] at this
                    exact this
                  case measure => simp [intOf]; omega
                · obtain rfl : k = 8 := by omega
                  have hs : ((ad8 vs ws 8).map v32).length = 8 := by rw [List.length_map, ad8_len hvl]
                  have h1 := one32 (ad8 vs ws 8)
                  have hzl := HZ ()
                  generalize hcs : (ad8 vs ws 8).map v32 = cs at *
                  have Hcs : Unit → (ad8 vs ws 8).map v32 = cs := fun _ => hcs
                  clear hcs hk hlt
                  go_wp2_with (first
                    | (refine load_arr _ _ _ q4 8 hs 46 45 (by kernel_rfl) (by kernel_rfl) _ rfl rfl rfl ?_)
                    | (refine store_arr _ _ _ q2 8 hzl 46 (by kernel_rfl) cs hs h1 _ _ rfl rfl rfl rfl ?_))
                  refine ret_arr (N + 1 + 1) 46 cs (q2.row cs) 8 hs 45 (by kernel_rfl) (by kernel_rfl) (by rfl) rfl rfl ?_
                  exact ⟨by rw [Hmix (), Hcs ()], by rw [HN ()]; exact below_setRow hB (by omega) _⟩
end Go.Proofs.YtlhgpnkhfahlbaaDoor
