/- SealFits: the statement's own function returns true, of whatever key and bytes, header and number. -/
import Derived.Test.YtidiallphmocdaaDoorSFits
namespace Go.Proofs.YtidiallphmocdaaDoor
open Go.ChangeShapes Go.WideShapes Go.RowKit

theorem hexN_no {b : List Nat} (h : ∀ x ∈ b, U8 x) : ∀ x ∈ hexN b, x ≠ 120 := by
  intro x hx
  unfold hexN at hx
  obtain ⟨y, hy, hx⟩ := List.mem_flatMap.1 hx
  have hy' : y < 256 := h y hy
  simp at hx
  unfold hd at hx
  rcases hx with rfl | rfl <;> split <;> omega
theorem headN_no (k b : List Nat) : ∀ x ∈ headN k b, x ≠ 120 := fun x hx => by
  rcases List.mem_append.1 hx with h | h
  · intro e; subst e; revert h; decide
  · exact hexN_no (sealN_u k b) x h
/-- Another sign at place n. -/
theorem other_no {l : List Nat} (h : ∀ x ∈ l, x ≠ 120) {n : Nat} (hn : n < l.length) : (l.take n ++ [120]) ++ l.drop (n + 1) ≠ l := by
  intro e
  have h1 : l[n]? = some 120 := by
    rw [← e, List.append_assoc, List.getElem?_append_right (by simp; omega), List.length_take, Nat.min_eq_left (by omega), Nat.sub_self]; rfl
  exact h 120 (List.mem_of_getElem? h1) rfl
theorem bs_extract (l : List Nat) (i j : Nat) : (bs l).extract i j = bs ((l.take j).drop i) := by
  apply ByteArray.ext
  rw [ByteArray.data_extract]
  unfold bs
  apply Array.ext'
  simp [List.map_drop, List.map_take, List.drop_take]

set_option maxRecDepth 100000 in
set_option maxHeartbeats 1600000 in
theorem fitsLaw_any (v u : Value) (s : ByteArray) (n : Int) (k b : List Nat) (w : World) (ht : Tabs w) (hv : BytesAt w v k) (hu : BytesAt w u b) (uk : ∀ x ∈ k, U8 x) (ub : ∀ x ∈ b, U8 x) (hlk : k.length ≤ 9223372036854775807) (hlb : b.length ≤ 9223372036854775807) :
    Calls Tryd.prog 9 #[.agg #[v, u], .string s, .int .i64 n] w fun e w' => e = .returned (.bool true) ∧ Below w.heap.size w w' := by
  obtain ⟨a1, c1, hve, _, _⟩ := id hv
  subst hve
  obtain ⟨a2, c2, hue, _, _⟩ := id hu
  subst hue
  obtain ⟨_, hc1, hv1⟩ := hv.early 200
  obtain ⟨_, hc2, hu1⟩ := hu.early 200
  have Ke := Lib.hid (searly_val a1 k.length c1 hlk hc1)
  have Kf := Lib.hid (searly_val a2 b.length c2 hlb hc2)
  have uk' := u8_take uk 200
  have ub' := u8_take ub 200
  have hl1 : (k.take 200).length ≤ 200 := by simp; omega
  have hl2 : (b.take 200).length ≤ 200 := by simp; omega
  generalize k.take 200 = c at *
  generalize b.take 200 = d at *
  clear hv hu uk ub hlk hlb hc1 hc2
  generalize hm1 : min k.length 200 = m1 at *
  generalize hm2 : min b.length 200 = m2 at *
  clear hm1 hm2
  go_enter Tryd.func9, Tryd.ntmps9
  go_upto_region 1 with fail
  have rB := Rw.new w 47 [.slice a1 k.length c1, .slice a2 b.length c2]
  have hB : Below w.heap.size w (w.alloc (.cells #[.slice a1 k.length c1, .slice a2 b.length c2] 47)) := (Below.refl _ w).alloc (Nat.le_refl _) _
  change Code.wp _ _ _ _ (w.alloc (.cells [.slice a1 k.length c1, .slice a2 b.length c2].toArray 47))
  change Below w.heap.size w (w.alloc (.cells [.slice a1 k.length c1, .slice a2 b.length c2].toArray 47)) at hB
  generalize w.alloc (.cells [.slice a1 k.length c1, .slice a2 b.length c2].toArray 47) = W at *
  go_wp2_with fail
  refine (slives_any _ (ht.keep hB)).mono ?_
  rintro e w1 ⟨rfl, hb1⟩
  replace hB := hB.trans (hb1.mono hB.size)
  replace rB := rB.keep hb1
  have z0 : w1.cell? ⟨w.heap.size, 0, none⟩ = some (.slice a1 k.length c1) := rB.cell 0
  have z1 : w1.cell? ⟨w.heap.size, 1, none⟩ = some (.slice a2 b.length c2) := rB.cell 1
  clear hb1 rB
  go_upto_region 3 with fail
  try simp only [List.append_eq, List.cons_append, List.nil_append]
  refine region_class (fun w' => Drew w1 w' ∧ w'.cell? ⟨w.heap.size, 0, none⟩ = some (.slice a1 k.length c1) ∧ w'.cell? ⟨w.heap.size, 1, none⟩ = some (.slice a2 b.length c2)) (by kernel_rfl) (by kernel_rfl) (⟨⟨_, rfl⟩, z0, z1⟩) ?_
  repeat
    first
    | go_big_quiet_skip
    | (go_big_quiet_want
       refine quiet_val ?_
       apply Exists.intro
       refine ⟨fun w' hw' => ?_, ?_⟩
       · obtain ⟨_, e0, e1⟩ := hw'
         go_simp
         first | done | rfl | exact ⟨rfl, rfl⟩
       simp only [Act.put, List.setIfInBounds_toArray, List.set_cons_zero, List.set_cons_succ]
       go_big_quiet_on)
    | (go_big_quiet_want
       refine quiet_call ?_
       apply Exists.intro
       apply Exists.intro
       refine ⟨fun w' => ?_, ?_⟩
       · go_simp
         first | done | rfl | exact ⟨rfl, rfl⟩
       apply Exists.intro
       refine ⟨fun w' hw' => ?_, ?_⟩
       · first
         | (with_reducible refine (Ke.out _).mono ?_); (rintro e w2 ⟨rfl, rfl⟩; exact ⟨rfl, hw'⟩)
         | (with_reducible refine (Kf.out _).mono ?_); (rintro e w2 ⟨rfl, rfl⟩; exact ⟨rfl, hw'⟩)
       simp only [Act.put, List.setIfInBounds_toArray, List.set_cons_zero, List.set_cons_succ]
       go_big_quiet_on)
  refine wpQuiet_nil ?_
  intro w5 hw5
  obtain ⟨hd5, _⟩ := hw5
  replace hB := hB.trans (hd5.below.mono hB.size)
  replace hv1 := hv1.keep hB
  replace hu1 := hu1.keep hB
  have htW := ht.keep hB
  clear Ke Kf hd5 z0 z1
  have Kh := Lib.hid (header_any _ _ c d w5 htW hv1 hu1 uk' ub' (by omega) (by omega))
  have KF := Lib.hid (fun w' (h : Below w5.heap.size w5 w') t r hr => fits_any _ _ t c d w' (htW.keep h) (hv1.keep h) (hu1.keep h) uk' ub' (by omega) (by omega) r hr)
  have hHl := headN_len c d
  have hHu := headN_u c d
  have hHn := headN_no c d
  generalize headN c d = hl at *
  have hHs : (bs hl).size = 71 := by rw [bs_size, hHl]
  obtain ⟨U, hU⟩ : ∃ U : Nat, IntKind.u64.wrap n = (U : Int) := ⟨(IntKind.u64.wrap n).toNat, by have := wrap_u64_nonneg n; omega⟩
  have hU' : n % 18446744073709551616 = (U : Int) := by rw [← hU]; simp [IntKind.wrap, IntKind.bits, IntKind.signed]
  obtain ⟨K, hK⟩ : ∃ K, K = U % 71 := ⟨_, rfl⟩
  have hK71 : K < 71 := by omega
  have hUK : (U : Int) % 71 = (K : Int) := by rw [hK]; rfl
  clear hK
  obtain ⟨H, hH⟩ : ∃ H, H = bs hl := ⟨_, rfl⟩
  obtain ⟨SA, hSA⟩ : ∃ SA, SA = bs (hl.take K) := ⟨_, rfl⟩
  obtain ⟨SX, hSX⟩ : ∃ SX, SX = bs (hl.take K ++ [120]) := ⟨_, rfl⟩
  obtain ⟨SB, hSB⟩ : ∃ SB, SB = bs (hl.drop (K + 1)) := ⟨_, rfl⟩
  obtain ⟨SO, hSO⟩ : ∃ SO, SO = bs ((hl.take K ++ [120]) ++ hl.drop (K + 1)) := ⟨_, rfl⟩
  obtain ⟨SZ, hSZ⟩ : ∃ SZ, SZ = bs (hl ++ [48]) := ⟨_, rfl⟩
  have x1 : H.extract 0 K = SA := by rw [hH, hSA, bs_extract, List.drop_zero]
  have x2 : H.extract (K + 1) 71 = SB := by rw [hH, hSB, bs_extract, List.take_of_length_le (by omega)]
  have tA : (hl.take K).length ≤ 71 := by rw [List.length_take]; omega
  have tB : (hl.drop (K + 1)).length ≤ 71 := by rw [List.length_drop]; omega
  have c1 : ∀ w, (Op.stringOp .add SA (⟨#[120]⟩ : ByteArray)).run Tryd.prog w = .ok (.string SX) w := fun w => by
    rw [run_string_add_sum w _ _ (by rw [hSA, bs_size]; have : (⟨#[120]⟩ : ByteArray).size = 1 := rfl; omega), hSX, hSA, bs_append]; rfl
  have c2 : ∀ w, (Op.stringOp .add SX SB).run Tryd.prog w = .ok (.string SO) w := fun w => by
    rw [run_string_add_sum w _ _ (by rw [hSX, hSB, bs_size, bs_size, List.length_append]; simp only [List.length_singleton]; omega), hSO, hSX, hSB, bs_append (hl.take K ++ [120])]
  have c3 : ∀ w, (Op.stringOp .add H (⟨#[48]⟩ : ByteArray)).run Tryd.prog w = .ok (.string SZ) w := fun w => by
    rw [run_string_add_sum w _ _ (by rw [hH, hHs]; decide), hSZ, hH, bs_append]; rfl
  have u120 : ∀ x ∈ [120], U8 x := fun x hx => by rw [List.mem_singleton.1 hx]; exact (show 120 < 256 by omega)
  have u48 : ∀ x ∈ [48], U8 x := fun x hx => by rw [List.mem_singleton.1 hx]; exact (show 48 < 256 by omega)
  have uA : ∀ x ∈ hl.take K, U8 x := u8_take hHu K
  have uB : ∀ x ∈ hl.drop (K + 1), U8 x := fun x hx => hHu x (List.mem_of_mem_drop hx)
  have D1 : decide (H = bs hl) = true := decide_eq_true hH
  have D2 : decide (SO = bs hl) = false := decide_eq_false (fun e => other_no hHn (n := K) (by omega) (bs_inj (u8_app (u8_app uA u120) uB) hHu (hSO ▸ e)))
  have D3 : decide (SA = bs hl) = false := decide_eq_false (fun e => by
    have h := congrArg List.length (bs_inj uA hHu (hSA ▸ e))
    rw [List.length_take, hHl] at h; omega)
  have D4 : decide (SZ = bs hl) = false := decide_eq_false (fun e => by
    have h := congrArg List.length (bs_inj (u8_app hHu u48) hHu (hSZ ▸ e))
    rw [List.length_append, hHl] at h; simp at h)
  have hHs' : H.size = 71 := by rw [hH, hHs]
  obtain ⟨r, hr⟩ : ∃ r, decide (s = bs hl) = r := ⟨_, rfl⟩
  have K1 := Lib.hid (fun w' (h : Below w5.heap.size w5 w') => KF.out w' h H true D1)
  have K2 := Lib.hid (fun w' (h : Below w5.heap.size w5 w') => KF.out w' h SO false D2)
  have K3 := Lib.hid (fun w' (h : Below w5.heap.size w5 w') => KF.out w' h SA false D3)
  have K4 := Lib.hid (fun w' (h : Below w5.heap.size w5 w') => KF.out w' h SZ false D4)
  have K5 := Lib.hid (fun w' (h : Below w5.heap.size w5 w') => KF.out w' h s r hr)
  have hqe : (s.toList == H.toList) = r := by
    rw [← hr, ← hH, Bool.eq_iff_iff, beq_iff_eq, decide_eq_true_iff, ByteArray.toList_eq, ByteArray.toList_eq]
    exact ⟨fun e => ByteArray.ext (Array.ext' e), fun e => by rw [e]⟩
  have kI : (K : Int) ≤ 71 := by omega
  have kI1 : (K : Int) + 1 ≤ 71 := by omega
  have tK : ((K : Int) + 1).toNat = K + 1 := by omega
  have wK : IntKind.i64.wrap ((K : Int) + 1) = (K : Int) + 1 := by simp [IntKind.wrap, IntKind.bits, IntKind.signed]; omega
  rw [← hH] at Kh
  clear hH hSA hSX hSB hSO hSZ tA tB u120 u48 uA uB D1 D2 D3 D4 hr KF hHs hHl hHu hHn
  go_wp2_with fail
  refine (Kh.out).mono ?_
  rintro e w6 ⟨rfl, hb6⟩
  clear Kh
  go_upto_region 6 with fail
  try simp only [List.append_eq, List.cons_append, List.nil_append]
  refine region_class (fun w' => Below w5.heap.size w5 w') (by kernel_rfl) (by kernel_rfl) (hb6.drew) ?_
  repeat
    first
    | go_big_quiet_skip
    | (go_big_quiet_want
       refine quiet_val ?_
       apply Exists.intro
       refine ⟨fun w' hw' => ?_, ?_⟩
       · obtain hhh := hw'
         go_simp
         first | done | rfl | exact ⟨rfl, rfl⟩
       simp only [Act.put, List.setIfInBounds_toArray, List.set_cons_zero, List.set_cons_succ]
       go_big_quiet_on)
    | (go_big_quiet_want
       refine quiet_call ?_
       apply Exists.intro
       apply Exists.intro
       refine ⟨fun w' => ?_, ?_⟩
       · go_simp
         first | done | rfl | exact ⟨rfl, rfl⟩
       apply Exists.intro
       refine ⟨fun w' hw' => ?_, ?_⟩
       · first
         | fail
       simp only [Act.put, List.setIfInBounds_toArray, List.set_cons_zero, List.set_cons_succ]
       go_big_quiet_on)
  refine wpQuiet_nil ?_
  intro w5 hw5
  have hb7 := hw5
  clear hb6 x2 c1 c2 wK tK
  go_wp2_with fail
  refine (K1.out _ hw5).mono ?_
  rintro e w8 ⟨rfl, hb8⟩
  replace hb7 := hb7.trans (hb8.mono hb7.size)
  clear hb8
  go_wp2_with fail
  refine (K2.out _ hb7).mono ?_
  rintro e w9 ⟨rfl, hb9⟩
  replace hb7 := hb7.trans (hb9.mono hb7.size)
  clear hb9
  go_wp2_with fail
  refine (K3.out _ hb7).mono ?_
  rintro e w10 ⟨rfl, hb10⟩
  replace hb7 := hb7.trans (hb10.mono hb7.size)
  clear hb10
  go_wp2_with fail
  refine (K4.out _ hb7).mono ?_
  rintro e w11 ⟨rfl, hb11⟩
  replace hb7 := hb7.trans (hb11.mono hb7.size)
  clear hb11
  go_wp2_with fail
  refine (K5.out _ hb7).mono ?_
  rintro e w12 ⟨rfl, hb12⟩
  replace hb7 := hb7.trans (hb12.mono hb7.size)
  clear hb12
  go_wp2_with fail
  go_ret
  exact ⟨rfl, hB.trans (hb7.mono hB.size)⟩
end Go.Proofs.YtidiallphmocdaaDoor
