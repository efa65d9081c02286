/- The words of the rounds, for a block of 64 bytes. -/
import Derived.Test.YtknhkmlihbgjpaaDoorDRow
import Derived.Test.YtknhkmlihbgjpaaDoorDLoose
namespace Go.Proofs.YtknhkmlihbgjpaaDoor.Dg
open Go.ChangeShapes Go.WideShapes Go.RowKit

/-- The words of a block, the first k of them laid. -/
def s1 (bl : List Nat) : Nat → List Nat
  | 0 => List.replicate 64 0
  | k + 1 => (s1 bl k).set k (wd (bl[4 * k]?.getD 0) (bl[4 * k + 1]?.getD 0) (bl[4 * k + 2]?.getD 0) (bl[4 * k + 3]?.getD 0))
theorem s1_len (bl : List Nat) (k : Nat) : (s1 bl k).length = 64 := by induction k with
  | zero => simp [s1]
  | succ k ih => simp [s1, ih]
theorem s1_u {bl : List Nat} (hb : ∀ x ∈ bl, U8 x) (k : Nat) : ∀ x ∈ s1 bl k, U32 x := by induction k with
  | zero => intro x hx; simp [s1] at hx; subst hx; exact (show 0 < 4294967296 by omega)
  | succ k ih => exact u32_set ih (wd_u (u8_get hb _) (u8_get hb _) (u8_get hb _) (u8_get hb _)) k

/-- The next word of the rounds, of those before it. -/
def nx (v : List Nat) (k : Nat) : Nat := (((v[k]?.getD 0 + shN (v[k + 1]?.getD 0) 7 18 3) % 4294967296 + v[k + 9]?.getD 0) % 4294967296 + shN (v[k + 14]?.getD 0) 17 19 10) % 4294967296
/-- The words of the rounds, 16 and k of them laid. -/
def s2 (bl : List Nat) : Nat → List Nat
  | 0 => s1 bl 16
  | k + 1 => (s2 bl k).set (k + 16) (nx (s2 bl k) k)
theorem s2_len (bl : List Nat) (k : Nat) : (s2 bl k).length = 64 := by induction k with
  | zero => simp [s2, s1_len]
  | succ k ih => simp [s2, ih]
theorem s2_u {bl : List Nat} (hb : ∀ x ∈ bl, U8 x) (k : Nat) : ∀ x ∈ s2 bl k, U32 x := by induction k with
  | zero => exact s1_u hb 16
  | succ k ih => exact u32_set ih (U32.mod _) _

theorem shifted_7 (x : Nat) (hx : U32 x) (w : World) : Calls Tryd.prog 114 #[.int .u32 (x : Int), .int .i64 7, .int .i64 18, .int .i64 3] w fun e w' => e = .returned (.int .u32 (shN x 7 18 3 : Int)) ∧ Drew w w' :=
  shifted_any x 7 18 3 (by omega) (by omega) (by omega) (by omega) (by omega) hx w
theorem shifted_17 (x : Nat) (hx : U32 x) (w : World) : Calls Tryd.prog 114 #[.int .u32 (x : Int), .int .i64 17, .int .i64 19, .int .i64 10] w fun e w' => e = .returned (.int .u32 (shN x 17 19 10 : Int)) ∧ Drew w w' :=
  shifted_any x 17 19 10 (by omega) (by omega) (by omega) (by omega) (by omega) hx w
/-- Four words that are read, and nothing but draws since W. -/
def C4 (W : World) (g k k1 k9 k14 a b c d : Nat) (w : World) : Prop := Drew W w ∧ w.cell? ⟨g, k, none⟩ = some (.int .u32 (a : Int)) ∧ w.cell? ⟨g, k1, none⟩ = some (.int .u32 (b : Int)) ∧ w.cell? ⟨g, k9, none⟩ = some (.int .u32 (c : Int)) ∧ w.cell? ⟨g, k14, none⟩ = some (.int .u32 (d : Int))
theorem C4.drew {W w w' : World} {g k k1 k9 k14 a b c d : Nat} (h : C4 W g k k1 k9 k14 a b c d w) (hd : Drew w w') : C4 W g k k1 k9 k14 a b c d w' := by
  obtain ⟨h0, h1⟩ := h
  refine ⟨h0.trans hd, ?_⟩
  rw [hd.cell, hd.cell, hd.cell, hd.cell]
  exact h1

set_option maxHeartbeats 1600000 in
theorem schedule_any (bl : List Nat) (hl : bl.length = 64) (hb : ∀ x ∈ bl, U8 x) (w : World) :
    Calls Tryd.prog 107 #[.agg (bl.map v8).toArray] w fun e w' => e = .returned (.agg ((s2 bl 48).map v32).toArray) ∧ Below w.heap.size w w' := by
  go_enter Tryd.func107, Tryd.ntmps107
  go_wp2_with fail
  have r0 := ((Rw.new w 148 (bl.map v8)).past (.cells ((List.replicate 64 0).map v32).toArray 117)).past (.cells ((List.replicate 64 0).map v32).toArray 117)
  have r1 := (Rw.new (w.alloc (.cells (bl.map v8).toArray 148)) 117 ((List.replicate 64 0).map v32)).past (.cells ((List.replicate 64 0).map v32).toArray 117)
  have r2 := Rw.new ((w.alloc (.cells (bl.map v8).toArray 148)).alloc (.cells ((List.replicate 64 0).map v32).toArray 117)) 117 ((List.replicate 64 0).map v32)
  have hB := (((Below.refl _ w).alloc (Nat.le_refl _) (.cells (bl.map v8).toArray 148)).alloc (by simp) (.cells ((List.replicate 64 0).map v32).toArray 117)).alloc (by simp; omega) (.cells ((List.replicate 64 0).map v32).toArray 117)
  simp only [World.size_alloc] at r1 r2
  change Code.wp _ _ _ _ (((w.alloc (.cells (bl.map v8).toArray 148)).alloc (.cells ((List.replicate 64 0).map v32).toArray 117)).alloc (.cells ((List.replicate 64 0).map v32).toArray 117))
  generalize ((w.alloc (.cells (bl.map v8).toArray 148)).alloc (.cells ((List.replicate 64 0).map v32).toArray 117)).alloc (.cells ((List.replicate 64 0).map v32).toArray 117) = W at *
  generalize hZ : (List.replicate 64 0).map v32 = Z at r1
  have HZ := Lib.hid hZ
  clear hZ
  go_loopw [6] (fun i wr => ∃ k : Nat, k ≤ 16 ∧ i = .int .i64 (k : Int) ∧ Rw wr w.heap.size 148 (bl.map v8) ∧ Rw wr (w.heap.size + 1) 117 Z ∧ Rw wr (w.heap.size + 1 + 1) 117 ((s1 bl k).map v32) ∧ Below w.heap.size w wr) (fun i _ => 16 - (intOf i).toNat)
  case atStart => exact ⟨0, by omega, rfl, r0, r1, r2, hB⟩
  case round =>
    obtain ⟨k, hk, rfl, q0, q1, q2, qB⟩ := hrel
    by_cases hlt : k < 16
    · have hcut := cut_from (P := Tryd.prog) 148 5 64 w.heap.size (4 * k) (4 * (k : Int)) (by omega) (by omega) (by kernel_rfl) (by kernel_rfl)
      go_wp2_with fail
      clear hcut
      refine (word_any _ _ _ _ (by omega) _ _ _ _ (u8_get hb _) (u8_get hb _) (u8_get hb _) (u8_get hb _) _ (q0.four (4 * k) (by omega))).mono ?_
      rintro e w1 ⟨rfl, hd⟩
      replace q0 := q0.drew hd
      replace q1 := q1.drew hd
      replace q2 := q2.drew hd
      replace qB := qB.trans (hd.below.mono qB.size)
      obtain ⟨y, hy⟩ : ∃ y, (s1 bl k)[k]? = some y := ⟨_, List.getElem?_eq_getElem (by rw [s1_len]; omega)⟩
      have hc := (q2.cell k).trans (at32 hy)
      have hf := q2.frozen k
      clear hy
      go_wp2_with fail
      go_roundw
      case rel =>
        refine ⟨k + 1, by omega, by go_num, q0.other (by omega) _ _, q1.other (by omega) _ _, ?_, qB.setCell (p := ⟨w.heap.size + 1 + 1, k, none⟩) (by simp; omega) _⟩
        have := q2.setCell k (v32 (wd (bl[4 * k]?.getD 0) (bl[4 * k + 1]?.getD 0) (bl[4 * k + 2]?.getD 0) (bl[4 * k + 3]?.getD 0)))
        rw [← List.map_set] at this
        exact this
      case measure => simp [intOf]; omega
    · obtain rfl : k = 16 := by omega
      have hnot : ¬ (((16 : Nat) : Int) < 16) := by omega
      go_wp2_with fail
      clear r0 r1 r2 hB hk hlt hnot
      go_loopw [5] (fun i wr => ∃ k j : Nat, k ≤ 48 ∧ Hid (j = k + 16) ∧ i = .int .i64 (j : Int) ∧ Rw wr w.heap.size 148 (bl.map v8) ∧ Rw wr (w.heap.size + 1) 117 Z ∧ Rw wr (w.heap.size + 1 + 1) 117 ((s2 bl k).map v32) ∧ Below w.heap.size w wr) (fun i _ => 64 - (intOf i).toNat)
      case atStart => exact ⟨0, 16, by omega, rfl, rfl, q0, q1, q2, qB⟩
      case round =>
        clear q0 q1 q2 qB
        obtain ⟨k, i, hk, Hi, rfl, q0, q1, q2, qB⟩ := hrel
        have hi := Hi.out
        by_cases hlt : k < 48
        · have hil : (i : Int) < 64 := by omega
          obtain ⟨a, ha⟩ : ∃ a, (s2 bl k)[k]? = some a := ⟨_, List.getElem?_eq_getElem (by rw [s2_len]; omega)⟩
          obtain ⟨b, hb'⟩ : ∃ b, (s2 bl k)[k + 1]? = some b := ⟨_, List.getElem?_eq_getElem (by rw [s2_len]; omega)⟩
          obtain ⟨c, hc⟩ : ∃ c, (s2 bl k)[k + 9]? = some c := ⟨_, List.getElem?_eq_getElem (by rw [s2_len]; omega)⟩
          obtain ⟨d, hd⟩ : ∃ d, (s2 bl k)[k + 14]? = some d := ⟨_, List.getElem?_eq_getElem (by rw [s2_len]; omega)⟩
          obtain ⟨y, hy⟩ : ∃ y, (s2 bl k)[i]? = some y := ⟨_, List.getElem?_eq_getElem (by rw [s2_len]; omega)⟩
          have ub := s2_u hb k b (List.mem_of_getElem? hb')
          have ud := s2_u hb k d (List.mem_of_getElem? hd)
          have Hnx := Lib.hid (show nx (s2 bl k) k = (((a + shN b 7 18 3) % 4294967296 + c) % 4294967296 + shN d 17 19 10) % 4294967296 by unfold nx; rw [ha, hb', hc, hd]; rfl)
          have Hk1 := Lib.hid (shifted_7 b ub)
          have Hk2 := Lib.hid (shifted_17 d ud)
          obtain ⟨k1, hk1⟩ : ∃ k1, k1 = k + 1 := ⟨_, rfl⟩
          obtain ⟨k9, hk9⟩ : ∃ k9, k9 = k + 9 := ⟨_, rfl⟩
          obtain ⟨k14, hk14⟩ : ∃ k14, k14 = k + 14 := ⟨_, rfl⟩
          have x0 : IntKind.i64.wrap ((i : Int) - 16) = (k : Int) := by rw [show (i : Int) - 16 = (k : Int) by omega]; simp [IntKind.wrap, IntKind.bits, IntKind.signed]; omega
          have x1 : IntKind.i64.wrap ((i : Int) - 15) = (k1 : Int) := by rw [show (i : Int) - 15 = (k1 : Int) by omega]; simp [IntKind.wrap, IntKind.bits, IntKind.signed]; omega
          have x9 : IntKind.i64.wrap ((i : Int) - 7) = (k9 : Int) := by rw [show (i : Int) - 7 = (k9 : Int) by omega]; simp [IntKind.wrap, IntKind.bits, IntKind.signed]; omega
          have x14 : IntKind.i64.wrap ((i : Int) - 2) = (k14 : Int) := by rw [show (i : Int) - 2 = (k14 : Int) by omega]; simp [IntKind.wrap, IntKind.bits, IntKind.signed]; omega
          have y0 : (k : Int) < 64 := by omega
          have y1 : (k1 : Int) < 64 := by omega
          have y9 : (k9 : Int) < 64 := by omega
          have y14 : (k14 : Int) < 64 := by omega
          have hca := (q2.cell k).trans (at32 ha)
          have hcb := (q2.cell (k + 1)).trans (at32 hb')
          have hcc := (q2.cell (k + 9)).trans (at32 hc)
          have hcd := (q2.cell (k + 14)).trans (at32 hd)
          have hcy := (q2.cell i).trans (at32 hy)
          rw [← hk1] at hcb
          rw [← hk9] at hcc
          rw [← hk14] at hcd
          have hfy := q2.frozen i
          clear ha hb' hc hd hy ub ud hk1 hk9 hk14 hi
          go_wp2_with fail
          refine region_loose (fun _ w' => C4 wr (w.heap.size + 1 + 1) k k1 k9 k14 a b c d w') 22 22 2 #[true, true, true, true, true, true, true, true, true, true, true, true, true, true, true, true, true, true, true, true, true, true, false, false] rfl (by kernel_rfl) (by kernel_rfl) (by kernel_rfl) (⟨⟨_, rfl⟩, hca, hcb, hcc, hcd⟩) ?_
          simp only [List.take_succ_cons, List.take_zero]
          repeat
            first
            | (refine loose_val (by decide) rfl ?_
               apply Exists.intro
               refine ⟨fun L' w' hw' => ?_, ?_⟩
               · obtain ⟨_, e0, e1, e9, e14⟩ := hw'
                 go_simp
                 first | done | rfl | exact ⟨rfl, rfl⟩
               simp only [Act.put, List.setIfInBounds_toArray, List.set_cons_zero, List.set_cons_succ])
            | (refine loose_call (by decide) rfl ?_
               apply Exists.intro
               apply Exists.intro
               refine ⟨fun w' => ?_, ?_⟩
               · go_simp
                 first | done | rfl | exact ⟨rfl, rfl⟩
               apply Exists.intro
               refine ⟨fun L' w' hw' => ?_, ?_⟩
               · first
                 | (with_reducible refine (Hk1.out _).mono ?_); (rintro e w2 ⟨rfl, hdd⟩; exact ⟨rfl, C4.drew hw' hdd⟩)
                 | (with_reducible refine (Hk2.out _).mono ?_); (rintro e w2 ⟨rfl, hdd⟩; exact ⟨rfl, C4.drew hw' hdd⟩)
               simp only [Act.put, List.setIfInBounds_toArray, List.set_cons_zero, List.set_cons_succ])
            | (refine loose_new (by decide) rfl (fun L' w' hw' => ?_) (fun v => ?_)
               · fail
               simp only [Act.put, List.setIfInBounds_toArray, List.set_cons_zero, List.set_cons_succ])
          intro w5 hw5
          rw [show IntKind.u32.wrap (IntKind.u32.wrap (IntKind.u32.wrap ((a : Int) + (shN b 7 18 3 : Int)) + (c : Int)) + (shN d 17 19 10 : Int)) = (nx (s2 bl k) k : Int) by rw [Hnx.out, IntKind.wrap_u32', IntKind.wrap_u32', IntKind.wrap_u32']; omega]
          obtain ⟨hdr, _⟩ := hw5
          replace q0 := q0.drew hdr
          replace q1 := q1.drew hdr
          replace q2 := q2.drew hdr
          replace qB := qB.trans (hdr.below.mono qB.size)
          rw [← hdr.cell] at hcy
          rw [← hdr.frozen] at hfy
          clear hca hcb hcc hcd Hk1 Hk2 x0 x1 x9 x14 y0 y1 y9 y14 hdr Hnx
          have q2' := q2.setCell i (v32 (nx (s2 bl k) k))
          rw [← List.map_set] at q2'
          have Hq2 := Lib.hid (show Rw (w5.setCell ⟨w.heap.size + 1 + 1, i, none⟩ (.int .u32 (nx (s2 bl k) k : Int))) (w.heap.size + 1 + 1) 117 ((s2 bl (k + 1)).map v32) by rw [show s2 bl (k + 1) = (s2 bl k).set i (nx (s2 bl k) k) by rw [Hi.out]; rfl]; exact q2')
          clear q2'
          refine wpAny_ready (rs := [22]) (by kernel_rfl) (by simp) ?_
          refine AllReady.cons rfl (fun K hK => ?_) AllReady.nil
          go_simp
          refine hK _ _ ?_
          clear hK K
          refine wpAny_ready (rs := [23]) (by kernel_rfl) (by simp) ?_
          refine AllReady.cons rfl (fun K hK => ?_) AllReady.nil
          go_simp
          refine hK _ _ ?_
          clear hK K
          refine wpAny_done (by kernel_rfl) ?_ _
          clear hcy hfy
          go_wp2_with fail
          go_roundw
          case rel =>
            exact ⟨k + 1, i + 1, by omega, by have := Hi.out; exact (show i + 1 = k + 1 + 16 by omega), by go_num, q0.other (by omega) _ _, q1.other (by omega) _ _, Hq2.out, qB.setCell (p := ⟨w.heap.size + 1 + 1, i, none⟩) (by simp; omega) _⟩
          case measure => simp [intOf]; omega
        · obtain rfl : k = 48 := by omega
          obtain rfl : i = 64 := hi
          have hz : Z.length = 64 := by rw [← HZ.out]; rfl
          have hs : ((s2 bl 48).map v32).length = 64 := by rw [List.length_map, s2_len]
          have h1 := one32 (s2 bl 48)
          generalize hcs : (s2 bl 48).map v32 = cs at *
          have Hcs := Lib.hid hcs
          clear hcs
          clear Hi hk hlt
          go_wp2_with (first
            | (refine load_arr _ _ _ q2 64 hs 117 23 (by kernel_rfl) (by kernel_rfl) _ rfl rfl rfl ?_)
            | (refine store_arr _ _ _ q1 64 hz 117 (by kernel_rfl) cs hs h1 _ _ rfl rfl rfl rfl ?_))
          refine ret_arr (w.heap.size + 1) 117 cs (q1.row cs) 64 hs 23 (by kernel_rfl) (by kernel_rfl) (by rfl) rfl rfl ?_
          exact ⟨by rw [Hcs.out], below_setRow qB (by omega) _⟩
end Go.Proofs.YtknhkmlihbgjpaaDoor.Dg
