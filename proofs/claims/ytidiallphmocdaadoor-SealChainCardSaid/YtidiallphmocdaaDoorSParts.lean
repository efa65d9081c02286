/- SealParts: the statement's own function returns true, of whatever key, bytes and name. -/
import Derived.Test.YtidiallphmocdaaDoorSKey
import Derived.Test.YtidiallphmocdaaDoorHeld
import Derived.Test.YtidiallphmocdaaDoorHexLaw
namespace Go.Proofs.YtidiallphmocdaaDoor
open Go.ChangeShapes Go.WideShapes Go.RowKit

set_option maxHeartbeats 800000 in
theorem searly_val (a : Option Addr) (n cap : Nat) (hn : n ≤ 9223372036854775807) (hc : n ≤ cap) (w : World) :
    Calls Tryd.prog 28 #[.slice a n cap] w fun e w' => e = .returned (.slice a (min n 200) cap) ∧ w' = w := by
  go_enter Tryd.func28, Tryd.ntmps28
  go_wp2_with fail
  · go_ret
    exact ⟨by rw [show min n 200 = 200 by omega]; rfl, rfl⟩
  · go_ret
    exact ⟨by rw [show min n 200 = n by omega]; rfl, rfl⟩
theorem BytesAt.early {w : World} {a : Option Addr} {n cap : Nat} {b : List Nat} (h : BytesAt w (.slice a n cap) b) (m : Nat) : n = b.length ∧ n ≤ cap ∧ BytesAt w (.slice a (min n m) cap) (b.take m) := by
  obtain ⟨a', cap', e, hc, hk⟩ := h
  injection e with e1 e2 e3
  subst e1 e2 e3
  refine ⟨rfl, hc, a, cap, by rw [List.length_take, Nat.min_comm], by rw [List.length_take]; omega, fun hn => ?_⟩
  obtain ⟨g, o, e, hcl⟩ := hk (fun e => hn (by rw [e, List.take_nil]))
  exact ⟨g, o, e, by rw [List.map_take]; exact hcl.take m⟩

set_option maxRecDepth 100000 in
set_option maxHeartbeats 1600000 in
theorem partsLaw_any (v u : Value) (s : ByteArray) (k b : List Nat) (w : World) (ht : Tabs w) (hv : BytesAt w v k) (hu : BytesAt w u b) (uk : ∀ x ∈ k, U8 x) (ub : ∀ x ∈ b, U8 x) (hlk : k.length ≤ 9223372036854775807) (hlb : b.length ≤ 9223372036854775807) (hs : s.size ≤ 9223372036854775807) :
    Calls Tryd.prog 12 #[v, u, .string s] w fun e w' => e = .returned (.bool true) ∧ Below w.heap.size w w' := by
  obtain ⟨a1, c1, hve, _, _⟩ := id hv
  subst hve
  obtain ⟨a2, c2, hue, _, _⟩ := id hu
  subst hue
  obtain ⟨_, hc1, hv1⟩ := hv.early 200
  obtain ⟨_, hc2, hu1⟩ := hu.early 200
  have Ke := Lib.hid (searly_val a1 k.length c1 hlk hc1)
  have Kf := Lib.hid (searly_val a2 b.length c2 hlb hc2)
  have uk' := u8_take uk 200
  have ub' := u8_take ub 200
  have hl1 : (k.take 200).length ≤ 200 := by simp; omega
  have hl2 : (b.take 200).length ≤ 200 := by simp; omega
  generalize k.take 200 = c at *
  generalize b.take 200 = d at *
  clear hv hu uk ub hlk hlb hc1 hc2
  generalize hm1 : min k.length 200 = m1 at *
  generalize hm2 : min b.length 200 = m2 at *
  clear hm1 hm2
  go_enter Tryd.func12, Tryd.ntmps12
  go_wp2_with fail
  refine (slives_any _ ht).mono ?_
  rintro e w1 ⟨rfl, hB⟩
  go_upto_region 3 with fail
  go_cut [0, 1, 2] (fun s0 s1 s2 wx => s0 = .slice a1 m1 c1 ∧ s1 = .slice a2 m2 c2 ∧ ∃ t : ByteArray, s2 = .string t ∧ t.size ≤ 100 ∧ Below w.heap.size w wx)
  case first =>
    by_cases h3 : s.size ≤ 100
    · have h3' : ¬ (100 : Int) < (s.size : Int) := by omega
      have h3'' : (s.size : Int) ≤ 100 := by omega
      try simp only [List.append_eq, List.cons_append, List.nil_append]
      refine region_class (fun w' => Drew w1 w') (by kernel_rfl) (by kernel_rfl) (⟨_, rfl⟩) ?_
      repeat
        first
        | go_big_quiet_skip
        | (go_big_quiet_want
           refine quiet_val ?_
           apply Exists.intro
           refine ⟨fun w' hw' => ?_, ?_⟩
           · obtain hhh := hw'
             go_simp
             first | done | rfl | exact ⟨rfl, rfl⟩
           simp only [Act.put, List.setIfInBounds_toArray, List.set_cons_zero, List.set_cons_succ]
           go_big_quiet_on)
        | (go_big_quiet_want
           refine quiet_call ?_
           apply Exists.intro
           apply Exists.intro
           refine ⟨fun w' => ?_, ?_⟩
           · go_simp
             first | done | rfl | exact ⟨rfl, rfl⟩
           apply Exists.intro
           refine ⟨fun w' hw' => ?_, ?_⟩
           · first
             | (with_reducible refine (Ke.out _).mono ?_); (rintro e w2 ⟨rfl, rfl⟩; exact ⟨rfl, hw'⟩)
             | (with_reducible refine (Kf.out _).mono ?_); (rintro e w2 ⟨rfl, rfl⟩; exact ⟨rfl, hw'⟩)
           simp only [Act.put, List.setIfInBounds_toArray, List.set_cons_zero, List.set_cons_succ]
           go_big_quiet_on)
      refine wpQuiet_nil ?_
      intro w5 hw5
      go_wp2_with fail
      go_meet
      exact ⟨rfl, rfl, s, rfl, h3, hB.trans (hw5.below.mono hB.size)⟩
    · have h3' : (100 : Int) < (s.size : Int) := by omega
      have h3'' : ¬ (s.size : Int) ≤ 100 := by omega
      have h4 : (100 : Int) ≤ (s.size : Int) := by omega
      have h5 : 100 ≤ s.size := by omega
      try simp only [List.append_eq, List.cons_append, List.nil_append]
      refine region_class (fun w' => Drew w1 w') (by kernel_rfl) (by kernel_rfl) (⟨_, rfl⟩) ?_
      repeat
        first
        | go_big_quiet_skip
        | (go_big_quiet_want
           refine quiet_val ?_
           apply Exists.intro
           refine ⟨fun w' hw' => ?_, ?_⟩
           · obtain hhh := hw'
             go_simp
             first | done | rfl | exact ⟨rfl, rfl⟩
           simp only [Act.put, List.setIfInBounds_toArray, List.set_cons_zero, List.set_cons_succ]
           go_big_quiet_on)
        | (go_big_quiet_want
           refine quiet_call ?_
           apply Exists.intro
           apply Exists.intro
           refine ⟨fun w' => ?_, ?_⟩
           · go_simp
             first | done | rfl | exact ⟨rfl, rfl⟩
           apply Exists.intro
           refine ⟨fun w' hw' => ?_, ?_⟩
           · first
             | (with_reducible refine (Ke.out _).mono ?_); (rintro e w2 ⟨rfl, rfl⟩; exact ⟨rfl, hw'⟩)
             | (with_reducible refine (Kf.out _).mono ?_); (rintro e w2 ⟨rfl, rfl⟩; exact ⟨rfl, hw'⟩)
           simp only [Act.put, List.setIfInBounds_toArray, List.set_cons_zero, List.set_cons_succ]
           go_big_quiet_on)
      refine wpQuiet_nil ?_
      intro w5 hw5
      go_wp2_with fail
      go_meet
      exact ⟨rfl, rfl, _, rfl, by rw [ByteArray.size_extract]; omega, hB.trans (hw5.below.mono hB.size)⟩
  case rest =>
    obtain ⟨rfl, rfl, t, rfl, ht3, qB⟩ := hcut
    clear hB hs Ke Kf
    replace hv1 := hv1.keep qB
    replace hu1 := hu1.keep qB
    have hb0 : Below wc.heap.size wc (wc.alloc (.cells #[.int .u8 0] 5)) := (Below.refl _ wc).alloc (Nat.le_refl _) _
    have hc0 := cls_zero wc
    go_wp2_with (at_builtin; refine list_full_str wc.heap.size 0 1 [0] rfl hc0 t (by omega) _ _ rfl rfl rfl rfl ?_)
    intro v2 w2 hv2 hb2
    replace hb0 := hb0.trans (hb2.mono (by omega))
    replace qB := qB.trans (hb0.mono qB.size)
    replace hv1 := hv1.keep hb0
    replace hu1 := hu1.keep hb0
    clear hb2 hc0 hb0
    have hl3 : ([0] ++ sl t).length ≤ 1000000 := by rw [List.length_append, sl_len, List.length_singleton]; omega
    have K1 := Lib.hid (seal_any _ _ c ([0] ++ sl t) w2 (ht.keep qB) hv1 hv2 uk' (u8_app u8_zero (sl_u t)) (by omega) hl3)
    have Hk : Unit → sealN c ([0] ++ sl t) = sealN c (0 :: sl t) := fun _ => by rw [List.singleton_append]
    rw [Hk ()] at K1
    clear Hk hl3 hv2
    have hSl := sealN_len c (0 :: sl t)
    generalize hS1 : sealN c (0 :: sl t) = S1 at K1 hSl
    have HS1 : Unit → sealN c (0 :: sl t) = S1 := fun _ => hS1
    clear hS1
    have hs1 : (S1.map v8).length = 32 := by rw [List.length_map, hSl]
    have ho1 := one8 S1
    go_wp2_with fail
    refine (K1.out).mono ?_
    rintro e w3 ⟨rfl, hb3⟩
    clear K1
    go_upto_region 5 with (refine store_arr w3.heap.size 25 ((zs 32).map v8) (Rw.new w3 25 ((zs 32).map v8)) 32 rfl 25 (by kernel_rfl) _ hs1 ho1 _ _ rfl rfl rfl rfl ?_)
    rw [World.setRow_alloc_new]
    have r1 := Rw.new w3 25 (S1.map v8)
    replace hb3 := hb3.alloc hb3.size (.cells (S1.map v8).toArray 25)
    replace qB := qB.trans (hb3.mono qB.size)
    replace hv1 := hv1.keep hb3
    replace hu1 := hu1.keep hb3
    generalize w3.alloc (.cells (S1.map v8).toArray 25) = W3 at *
    generalize w3.heap.size = D1 at *
    generalize (S1.map v8).toArray = SA1
    clear hs1 ho1 hb3
    have K1 := Lib.hid (seal_any _ _ c d W3 (ht.keep qB) hv1 hu1 uk' ub' (by omega) (by omega))
    have hSl2 := sealN_len c d
    have hSu2 := sealN_u c d
    have Hh : Unit → bs (headN c d) = (⟨#[115, 104, 97, 50, 53, 54, 61]⟩ : ByteArray) ++ bs (hexN (sealN c d)) := fun _ => by rw [headN, bs_append]; rfl
    generalize sealN c d = S2 at *
    have hs2 : (S2.map v8).length = 32 := by rw [List.length_map, hSl2]
    have ho2 := one8 S2
    simp only [Act.put]
    go_wp2_with fail
    refine (K1.out).mono ?_
    rintro e w4 ⟨rfl, hb4⟩
    clear K1
    go_upto_region 6 with (refine store_arr w4.heap.size 25 ((zs 32).map v8) (Rw.new w4 25 ((zs 32).map v8)) 32 rfl 25 (by kernel_rfl) _ hs2 ho2 _ _ rfl rfl rfl rfl ?_)
    rw [World.setRow_alloc_new]
    have r2 := Rw.new w4 25 (S2.map v8)
    replace hb4 := hb4.alloc hb4.size (.cells (S2.map v8).toArray 25)
    replace r1 := r1.keep hb4
    replace qB := qB.trans (hb4.mono qB.size)
    replace hv1 := hv1.keep hb4
    replace hu1 := hu1.keep hb4
    generalize w4.alloc (.cells (S2.map v8).toArray 25) = W4 at *
    generalize w4.heap.size = D2 at *
    generalize (S2.map v8).toArray = SA2
    clear hs2 ho2 hb4
    simp only [Act.put]
    have hca1 := cut_all (P := Tryd.prog) 25 5 32 D1 (by kernel_rfl) (by kernel_rfl)
    have hca2 := cut_all (P := Tryd.prog) 25 5 32 D2 (by kernel_rfl) (by kernel_rfl)
    have hby1 := r1.bytes 32 (by omega)
    have hby2 := r2.bytes 32 (by omega)
    rw [hSl] at hby1
    rw [hSl2] at hby2
    have htW := ht.keep qB
    have Kk := Lib.hid (fun w' (h : Below W4.heap.size W4 w') => key_any _ t c w' (htW.keep h) (hv1.keep h) uk' (by omega) (by omega))
    have Kh := Lib.hid (fun w' (h : Below W4.heap.size W4 w') => header_any _ _ c d w' (htW.keep h) (hv1.keep h) (hu1.keep h) uk' ub' (by omega) (by omega))
    have Kx := Lib.hid (fun w' (h : Below W4.heap.size W4 w') => hex_any _ S2 w' (hby2.keep h) hSu2 (by omega))
    have hcv : ∀ w', Below W4.heap.size W4 w' → (convert 22 9 (.slice (some ⟨D1, 0, none⟩) 32 32)).run Tryd.prog w' = .ok (.string (bs S1)) w' := fun w' h => bytes_string (hby1.keep h)
    have hxl : (bs (hexN S2)).size = 64 := by rw [bs_size, hexN_len, hSl2]
    have c1 : ∀ w, (Op.stringOp .add (⟨#[115, 104, 97, 50, 53, 54, 61]⟩ : ByteArray) (bs (hexN S2))).run Tryd.prog w = .ok (.string (bs (headN c d))) w := fun w => by
      rw [run_string_add_sum w _ _ (by rw [hxl]; decide), Hh ()]
    have HS : Unit → sealN c (0 :: sl t) = S1 := HS1
    generalize bs (headN c d) = H at *
    generalize bs (hexN S2) = X at *
    generalize hB1 : bs S1 = B1 at *
    have HB1 : Unit → bs S1 = B1 := fun _ => hB1
    clear hB1 hxl Hh HS1
    refine wp_region_held (S := fun w' => Below W4.heap.size W4 w') (by kernel_rfl) ?_
    have hS : Below W4.heap.size W4 { W4 with drawn := W4.drawn + 1 } := (Below.refl _ W4).drew
    generalize { W4 with drawn := W4.drawn + 1 } = W5 at *
    refine held_val 0 rfl (by kernel_rfl) (by kernel_rfl) (by kernel_rfl) (fun _ _ _ _ h => h) (by rfl) hS ?_
    apply Exists.intro
    refine ⟨fun w' hw' => ?_, ?_⟩
    · skip
      go_simp
      first | done | rfl | exact ⟨rfl, rfl⟩
    simp only [Act.put, List.setIfInBounds_toArray, List.set_cons_zero, List.set_cons_succ]
    refine held_val 1 rfl (by kernel_rfl) (by kernel_rfl) (by kernel_rfl) (fun _ _ _ _ h => h) (by rfl) hS ?_
    apply Exists.intro
    refine ⟨fun w' hw' => ?_, ?_⟩
    · skip
      go_simp
      first | done | rfl | exact ⟨rfl, rfl⟩
    simp only [Act.put, List.setIfInBounds_toArray, List.set_cons_zero, List.set_cons_succ]
    refine held_val 4 rfl (by kernel_rfl) (by kernel_rfl) (by kernel_rfl) (fun _ _ _ _ h => h) (by rfl) hS ?_
    apply Exists.intro
    refine ⟨fun w' hw' => ?_, ?_⟩
    · skip
      go_simp
      first | done | rfl | exact ⟨rfl, rfl⟩
    simp only [Act.put, List.setIfInBounds_toArray, List.set_cons_zero, List.set_cons_succ]
    refine held_val 5 rfl (by kernel_rfl) (by kernel_rfl) (by kernel_rfl) (fun _ _ _ _ h => h) (by rfl) hS ?_
    apply Exists.intro
    refine ⟨fun w' hw' => ?_, ?_⟩
    · have e1 := hcv w' hw'
      go_simp
      first | done | rfl | exact ⟨rfl, rfl⟩
    simp only [Act.put, List.setIfInBounds_toArray, List.set_cons_zero, List.set_cons_succ]
    refine held_call 2 (by kernel_rfl) rfl (by rfl) ?_
    apply Exists.intro
    apply Exists.intro
    refine ⟨?_, ?_⟩
    · go_simp
      first | done | rfl | exact ⟨rfl, rfl⟩
    refine (Kk.out _ hS).mono ?_
    rintro e w6 ⟨⟨uy, rfl, hy⟩, hb6⟩
    replace hS := hS.trans (hb6.mono hS.size)
    refine ⟨_, rfl, hS, ?_⟩
    simp only [Act.put, List.setIfInBounds_toArray, List.set_cons_zero, List.set_cons_succ]
    rw [HS ()] at hy
    have hcy := bytes_string hy
    rw [HB1 ()] at hcy
    refine held_now 3 (by kernel_rfl) rfl (by rfl) hS ?_
    apply Exists.intro
    refine ⟨?_, ?_⟩
    · skip
      go_simp
      first | done | rfl | exact ⟨rfl, rfl⟩
    simp only [Act.put, List.setIfInBounds_toArray, List.set_cons_zero, List.set_cons_succ]
    clear hcy hy hcv
    refine held_val 6 rfl (by kernel_rfl) (by kernel_rfl) (by kernel_rfl) (fun _ _ _ _ h => h) (by rfl) hS ?_
    apply Exists.intro
    refine ⟨fun w' hw' => ?_, ?_⟩
    · skip
      go_simp
      first | done | rfl | exact ⟨rfl, rfl⟩
    simp only [Act.put, List.setIfInBounds_toArray, List.set_cons_zero, List.set_cons_succ]
    refine held_val 7 rfl (by kernel_rfl) (by kernel_rfl) (by kernel_rfl) (fun _ _ _ _ h => h) (by rfl) hS ?_
    apply Exists.intro
    refine ⟨fun w' hw' => ?_, ?_⟩
    · skip
      go_simp
      first | done | rfl | exact ⟨rfl, rfl⟩
    simp only [Act.put, List.setIfInBounds_toArray, List.set_cons_zero, List.set_cons_succ]
    refine held_val 8 rfl (by kernel_rfl) (by kernel_rfl) (by kernel_rfl) (fun _ _ _ _ h => h) (by rfl) hS ?_
    apply Exists.intro
    refine ⟨fun w' hw' => ?_, ?_⟩
    · skip
      go_simp
      first | done | rfl | exact ⟨rfl, rfl⟩
    simp only [Act.put, List.setIfInBounds_toArray, List.set_cons_zero, List.set_cons_succ]
    refine held_val 9 rfl (by kernel_rfl) (by kernel_rfl) (by kernel_rfl) (fun _ _ _ _ h => h) (by rfl) hS ?_
    apply Exists.intro
    refine ⟨fun w' hw' => ?_, ?_⟩
    · skip
      go_simp
      first | done | rfl | exact ⟨rfl, rfl⟩
    simp only [Act.put, List.setIfInBounds_toArray, List.set_cons_zero, List.set_cons_succ]
    refine held_val 11 rfl (by kernel_rfl) (by kernel_rfl) (by kernel_rfl) (fun _ _ _ _ h => h) (by rfl) hS ?_
    apply Exists.intro
    refine ⟨fun w' hw' => ?_, ?_⟩
    · skip
      go_simp
      first | done | rfl | exact ⟨rfl, rfl⟩
    simp only [Act.put, List.setIfInBounds_toArray, List.set_cons_zero, List.set_cons_succ]
    refine held_call 10 (by kernel_rfl) rfl (by rfl) ?_
    apply Exists.intro
    apply Exists.intro
    refine ⟨?_, ?_⟩
    · go_simp
      first | done | rfl | exact ⟨rfl, rfl⟩
    refine (Kh.out _ hS).mono ?_
    rintro e w7 ⟨rfl, hb7⟩
    replace hS := hS.trans (hb7.mono hS.size)
    refine ⟨_, rfl, hS, ?_⟩
    simp only [Act.put, List.setIfInBounds_toArray, List.set_cons_zero, List.set_cons_succ]
    refine held_call 12 (by kernel_rfl) rfl (by rfl) ?_
    apply Exists.intro
    apply Exists.intro
    refine ⟨?_, ?_⟩
    · go_simp
      first | done | rfl | exact ⟨rfl, rfl⟩
    refine (Kx.out _ hS).mono ?_
    rintro e w8 ⟨rfl, hb8⟩
    replace hS := hS.trans (hb8.mono hS.size)
    refine ⟨_, rfl, hS, ?_⟩
    simp only [Act.put, List.setIfInBounds_toArray, List.set_cons_zero, List.set_cons_succ]
    refine held_val 13 rfl (by kernel_rfl) (by kernel_rfl) (by kernel_rfl) (fun _ _ _ _ h => h) (by rfl) hS ?_
    apply Exists.intro
    refine ⟨fun w' hw' => ?_, ?_⟩
    · skip
      go_simp
      first | done | rfl | exact ⟨rfl, rfl⟩
    simp only [Act.put, List.setIfInBounds_toArray, List.set_cons_zero, List.set_cons_succ]
    refine held_val 14 rfl (by kernel_rfl) (by kernel_rfl) (by kernel_rfl) (fun _ _ _ _ h => h) (by rfl) hS ?_
    apply Exists.intro
    refine ⟨fun w' hw' => ?_, ?_⟩
    · skip
      go_simp
      first | done | rfl | exact ⟨rfl, rfl⟩
    simp only [Act.put, List.setIfInBounds_toArray, List.set_cons_zero, List.set_cons_succ]
    refine held_val 15 rfl (by kernel_rfl) (by kernel_rfl) (by kernel_rfl) (fun _ _ _ _ h => h) (by rfl) hS ?_
    apply Exists.intro
    refine ⟨fun w' hw' => ?_, ?_⟩
    · skip
      go_simp
      first | done | rfl | exact ⟨rfl, rfl⟩
    simp only [Act.put, List.setIfInBounds_toArray, List.set_cons_zero, List.set_cons_succ]
    refine held_val 16 rfl (by kernel_rfl) (by kernel_rfl) (by kernel_rfl) (fun _ _ _ _ h => h) (by rfl) hS ?_
    apply Exists.intro
    refine ⟨fun w' hw' => ?_, ?_⟩
    · skip
      go_simp
      first | done | rfl | exact ⟨rfl, rfl⟩
    simp only [Act.put, List.setIfInBounds_toArray, List.set_cons_zero, List.set_cons_succ]
    refine wpAnyH_done (by kernel_rfl) ?_ _
    replace qB := qB.trans (hS.mono qB.size)
    clear Kk Kh Kx hS
    go_wp2_with fail
    go_ret
    exact ⟨rfl, qB⟩
end Go.Proofs.YtidiallphmocdaaDoor
