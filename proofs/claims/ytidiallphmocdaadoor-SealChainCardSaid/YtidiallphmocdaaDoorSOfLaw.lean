/- SealOf: the document's Header and Key, and the statement's own function, which returns true, of whatever key, bytes and name. -/
import Derived.Test.YtidiallphmocdaaDoorSRef
namespace Go.Proofs.YtidiallphmocdaaDoor
open Go.ChangeShapes Go.WideShapes Go.RowKit

set_option maxRecDepth 100000 in
set_option maxHeartbeats 1600000 in
theorem rheader_any (v u : Value) (k b : List Nat) (w : World) (hv : BytesAt w v k) (hu : BytesAt w u b) (uk : ∀ x ∈ k, U8 x) (ub : ∀ x ∈ b, U8 x) (hl : k.length ≤ 900) (hl2 : b.length ≤ 900) :
    Calls Tryd.prog 32 #[v, u] w fun e w' => e = .returned (.string (bs (headN k b))) ∧ Below w.heap.size w w' := by
  have Ks := Lib.hid (rseal_any v u k b w hv hu uk ub hl hl2)
  have hsl := sealN_len k b
  have us := sealN_u k b
  have Hh : Unit → bs (headN k b) = (⟨#[115, 104, 97, 50, 53, 54, 61]⟩ : ByteArray) ++ bs (hexN (sealN k b)) := fun _ => by rw [headN, bs_append]; rfl
  generalize sealN k b = S at *
  have hs : (S.map v8).length = 32 := by rw [List.length_map, hsl]
  have h1 := one8 S
  go_enter Tryd.func32, Tryd.ntmps32
  go_wp2_with fail
  refine (Ks.out).mono ?_
  rintro e w1 ⟨rfl, hB⟩
  clear Ks
  go_upto_region 2 with (refine store_arr w1.heap.size 25 ((zs 32).map v8) (Rw.new w1 25 ((zs 32).map v8)) 32 rfl 25 (by kernel_rfl) _ hs h1 _ _ rfl rfl rfl rfl ?_)
  rw [World.setRow_alloc_new]
  have r2 := Rw.new w1 25 (S.map v8)
  replace hB := hB.alloc hB.size (.cells (S.map v8).toArray 25)
  generalize w1.alloc (.cells (S.map v8).toArray 25) = W2 at *
  generalize w1.heap.size = D at *
  generalize (S.map v8).toArray = SA
  have hca := cut_all (P := Tryd.prog) 25 5 32 D (by kernel_rfl) (by kernel_rfl)
  have hby := r2.bytes 32 (by omega)
  rw [hsl] at hby
  have Kx := Lib.hid (rhex_any _ S W2 hby us (by omega))
  clear hs h1
  go_wp2_with fail
  refine (Kx.out).mono ?_
  rintro e w2 ⟨rfl, hb2⟩
  replace hB := hB.trans (hb2.mono hB.size)
  clear Kx hby r2 hb2 hca
  have hxl : (bs (hexN S)).size = 64 := by rw [bs_size, hexN_len, hsl]
  generalize bs (hexN S) = hx at *
  have c1 : ∀ w, (Op.stringOp .add (⟨#[115, 104, 97, 50, 53, 54, 61]⟩ : ByteArray) hx).run Tryd.prog w = .ok (.string (bs (headN k b))) w := fun w => by
    rw [run_string_add_sum w _ _ (by rw [hxl]; decide), Hh ()]
  generalize hH : bs (headN k b) = H at *
  have HH : Unit → bs (headN k b) = H := fun _ => hH
  clear Hh hH
  go_wp2_with fail
  go_ret
  exact ⟨by rw [HH ()]; rfl, hB⟩

set_option maxRecDepth 100000 in
set_option maxHeartbeats 1600000 in
theorem rkey_any (v : Value) (s : ByteArray) (k : List Nat) (w : World) (hv : BytesAt w v k) (uk : ∀ x ∈ k, U8 x) (hl : k.length ≤ 900) (hs : s.size ≤ 800) :
    Calls Tryd.prog 34 #[v, .string s] w fun e w' => (∃ u, e = .returned u ∧ BytesAt w' u (sealN k (0 :: sl s))) ∧ Below w.heap.size w w' := by
  go_enter Tryd.func34, Tryd.ntmps34
  have hb0 : Below w.heap.size w (w.alloc (.cells #[.int .u8 0] 5)) := (Below.refl _ w).alloc (Nat.le_refl _) _
  have hc0 := cls_zero w
  go_wp2_with (at_builtin; refine list_full_str w.heap.size 0 1 [0] rfl hc0 s (by omega) _ _ rfl rfl rfl rfl ?_)
  intro v1 w1 hv1 hb1
  replace hb0 := hb0.trans (hb1.mono (by omega))
  clear hb1 hc0
  have hl1 : ([0] ++ sl s).length ≤ 900 := by rw [List.length_append, sl_len, List.length_singleton]; omega
  have ua := u8_app u8_zero (sl_u s)
  have K1 := Lib.hid (rseal_any _ _ k ([0] ++ sl s) w1 (hv.keep hb0) hv1 uk ua hl hl1)
  have Hs : Unit → sealN k (0 :: sl s) = sealN k ([0] ++ sl s) := fun _ => rfl
  have hsl := sealN_len k ([0] ++ sl s)
  generalize sealN k ([0] ++ sl s) = S at *
  clear hl1 ua hv1 hv
  go_wp2_with fail
  refine (K1.out).mono ?_
  rintro e w2 ⟨rfl, hb2⟩
  replace hb0 := hb0.trans (hb2.mono hb0.size)
  clear K1 hb2
  have hs' : (S.map v8).length = 32 := by rw [List.length_map, hsl]
  have h1 := one8 S
  go_upto_region 2 with (refine store_arr w2.heap.size 25 ((zs 32).map v8) (Rw.new w2 25 ((zs 32).map v8)) 32 rfl 25 (by kernel_rfl) _ hs' h1 _ _ rfl rfl rfl rfl ?_)
  rw [World.setRow_alloc_new]
  have r2 := Rw.new w2 25 (S.map v8)
  replace hb0 := hb0.alloc hb0.size (.cells (S.map v8).toArray 25)
  generalize w2.alloc (.cells (S.map v8).toArray 25) = W at *
  generalize w2.heap.size = D at *
  generalize (S.map v8).toArray = SA
  have hca := cut_all (P := Tryd.prog) 25 5 32 D (by kernel_rfl) (by kernel_rfl)
  have hby := r2.bytes 32 (by omega)
  rw [hsl] at hby
  clear hs' h1 r2
  go_wp2_with fail
  go_ret
  exact ⟨⟨_, rfl, by rw [Hs ()]; exact hby⟩, hb0⟩

set_option maxRecDepth 100000 in
set_option maxHeartbeats 1600000 in
theorem ofLaw_any (v u : Value) (s : ByteArray) (k b : List Nat) (w : World) (ht : Tabs w) (hv : BytesAt w v k) (hu : BytesAt w u b) (uk : ∀ x ∈ k, U8 x) (ub : ∀ x ∈ b, U8 x) (hlk : k.length ≤ 9223372036854775807) (hlb : b.length ≤ 9223372036854775807) (hs : s.size ≤ 9223372036854775807) :
    Calls Tryd.prog 8 #[v, u, .string s] w fun e w' => e = .returned (.bool true) ∧ Below w.heap.size w w' := by
  obtain ⟨a1, c1, hve, _, _⟩ := id hv
  subst hve
  obtain ⟨a2, c2, hue, _, _⟩ := id hu
  subst hue
  obtain ⟨_, hc1, hv1⟩ := hv.early 200
  obtain ⟨_, hc2, hu1⟩ := hu.early 200
  have Ke := Lib.hid (searly_val a1 k.length c1 hlk hc1)
  have Kf := Lib.hid (searly_val a2 b.length c2 hlb hc2)
  have uk' := u8_take uk 200
  have ub' := u8_take ub 200
  have hl1 : (k.take 200).length ≤ 200 := by simp; omega
  have hl2 : (b.take 200).length ≤ 200 := by simp; omega
  generalize k.take 200 = c at *
  generalize b.take 200 = d at *
  clear hv hu uk ub hlk hlb hc1 hc2
  generalize hm1 : min k.length 200 = m1 at *
  generalize hm2 : min b.length 200 = m2 at *
  clear hm1 hm2
  go_enter Tryd.func8, Tryd.ntmps8
  go_wp2_with fail
  refine (slives_any _ ht).mono ?_
  rintro e w1 ⟨rfl, hB⟩
  go_upto_region 3 with fail
  go_cut [0, 1, 2] (fun s0 s1 s2 wx => s0 = .slice a1 m1 c1 ∧ s1 = .slice a2 m2 c2 ∧ ∃ t : ByteArray, s2 = .string t ∧ t.size ≤ 100 ∧ Below w.heap.size w wx)
  case first =>
    by_cases h3 : s.size ≤ 100
    · have h3' : ¬ (100 : Int) < (s.size : Int) := by omega
      have h3'' : (s.size : Int) ≤ 100 := by omega
      try simp only [List.append_eq, List.cons_append, List.nil_append]
      refine region_class (fun w' => Drew w1 w') (by kernel_rfl) (by kernel_rfl) (⟨_, rfl⟩) ?_
      repeat
        first
        | go_big_quiet_skip
        | (go_big_quiet_want
           refine quiet_val ?_
           apply Exists.intro
           refine ⟨fun w' hw' => ?_, ?_⟩
           · obtain hhh := hw'
             go_simp
             first | done | rfl | exact ⟨rfl, rfl⟩
           simp only [Act.put, List.setIfInBounds_toArray, List.set_cons_zero, List.set_cons_succ]
           go_big_quiet_on)
        | (go_big_quiet_want
           refine quiet_call ?_
           apply Exists.intro
           apply Exists.intro
           refine ⟨fun w' => ?_, ?_⟩
           · go_simp
             first | done | rfl | exact ⟨rfl, rfl⟩
           apply Exists.intro
           refine ⟨fun w' hw' => ?_, ?_⟩
           · first
             | (with_reducible refine (Ke.out _).mono ?_); (rintro e w2 ⟨rfl, rfl⟩; exact ⟨rfl, hw'⟩)
             | (with_reducible refine (Kf.out _).mono ?_); (rintro e w2 ⟨rfl, rfl⟩; exact ⟨rfl, hw'⟩)
           simp only [Act.put, List.setIfInBounds_toArray, List.set_cons_zero, List.set_cons_succ]
           go_big_quiet_on)
      refine wpQuiet_nil ?_
      intro w5 hw5
      go_wp2_with fail
      go_meet
      exact ⟨rfl, rfl, s, rfl, h3, hB.trans (hw5.below.mono hB.size)⟩
    · have h3' : (100 : Int) < (s.size : Int) := by omega
      have h3'' : ¬ (s.size : Int) ≤ 100 := by omega
      have h4 : (100 : Int) ≤ (s.size : Int) := by omega
      have h5 : 100 ≤ s.size := by omega
      try simp only [List.append_eq, List.cons_append, List.nil_append]
      refine region_class (fun w' => Drew w1 w') (by kernel_rfl) (by kernel_rfl) (⟨_, rfl⟩) ?_
      repeat
        first
        | go_big_quiet_skip
        | (go_big_quiet_want
           refine quiet_val ?_
           apply Exists.intro
           refine ⟨fun w' hw' => ?_, ?_⟩
           · obtain hhh := hw'
             go_simp
             first | done | rfl | exact ⟨rfl, rfl⟩
           simp only [Act.put, List.setIfInBounds_toArray, List.set_cons_zero, List.set_cons_succ]
           go_big_quiet_on)
        | (go_big_quiet_want
           refine quiet_call ?_
           apply Exists.intro
           apply Exists.intro
           refine ⟨fun w' => ?_, ?_⟩
           · go_simp
             first | done | rfl | exact ⟨rfl, rfl⟩
           apply Exists.intro
           refine ⟨fun w' hw' => ?_, ?_⟩
           · first
             | (with_reducible refine (Ke.out _).mono ?_); (rintro e w2 ⟨rfl, rfl⟩; exact ⟨rfl, hw'⟩)
             | (with_reducible refine (Kf.out _).mono ?_); (rintro e w2 ⟨rfl, rfl⟩; exact ⟨rfl, hw'⟩)
           simp only [Act.put, List.setIfInBounds_toArray, List.set_cons_zero, List.set_cons_succ]
           go_big_quiet_on)
      refine wpQuiet_nil ?_
      intro w5 hw5
      go_wp2_with fail
      go_meet
      exact ⟨rfl, rfl, _, rfl, by rw [ByteArray.size_extract]; omega, hB.trans (hw5.below.mono hB.size)⟩
  case rest =>
    obtain ⟨rfl, rfl, t, rfl, ht3, qB⟩ := hcut
    clear hB hs Ke Kf
    replace hv1 := hv1.keep qB
    replace hu1 := hu1.keep qB
    have htW := ht.keep qB
    have K1 := Lib.hid (fun w' (h : Below wc.heap.size wc w') => seal_any _ _ c d w' (htW.keep h) (hv1.keep h) (hu1.keep h) uk' ub' (by omega) (by omega))
    have K2 := Lib.hid (fun w' (h : Below wc.heap.size wc w') => rseal_any _ _ c d w' (hv1.keep h) (hu1.keep h) uk' ub' (by omega) (by omega))
    have K3 := Lib.hid (fun w' (h : Below wc.heap.size wc w') => header_any _ _ c d w' (htW.keep h) (hv1.keep h) (hu1.keep h) uk' ub' (by omega) (by omega))
    have K4 := Lib.hid (fun w' (h : Below wc.heap.size wc w') => rheader_any _ _ c d w' (hv1.keep h) (hu1.keep h) uk' ub' (by omega) (by omega))
    have K5 := Lib.hid (fun w' (h : Below wc.heap.size wc w') => key_any _ t c w' (htW.keep h) (hv1.keep h) uk' (by omega) (by omega))
    have K6 := Lib.hid (fun w' (h : Below wc.heap.size wc w') => rkey_any _ t c w' (hv1.keep h) uk' (by omega) (by omega))
    have heq : ∀ w, _ := fun w => (same_arr (sealN c d) (sealN_len c d) w).1
    generalize (List.map v8 (sealN c d)).toArray = X at *
    generalize bs (headN c d) = H at *
    generalize sealN c (0 :: sl t) = S at *
    go_upto_region 4 with fail
    refine wp_region_held (S := fun w' => Below wc.heap.size wc w') (by kernel_rfl) ?_
    have hS : Below wc.heap.size wc { wc with drawn := wc.drawn + 1 } := (Below.refl _ wc).drew
    generalize { wc with drawn := wc.drawn + 1 } = W5 at *
    refine held_val 0 rfl (by kernel_rfl) (by kernel_rfl) (by kernel_rfl) (fun _ _ _ _ h => h) (by rfl) hS ?_
    apply Exists.intro
    refine ⟨fun w' hw' => ?_, ?_⟩
    · skip
      go_simp
      first | done | rfl | exact ⟨rfl, rfl⟩
    simp only [Act.put, List.setIfInBounds_toArray, List.set_cons_zero, List.set_cons_succ]
    refine held_val 1 rfl (by kernel_rfl) (by kernel_rfl) (by kernel_rfl) (fun _ _ _ _ h => h) (by rfl) hS ?_
    apply Exists.intro
    refine ⟨fun w' hw' => ?_, ?_⟩
    · skip
      go_simp
      first | done | rfl | exact ⟨rfl, rfl⟩
    simp only [Act.put, List.setIfInBounds_toArray, List.set_cons_zero, List.set_cons_succ]
    refine held_val 3 rfl (by kernel_rfl) (by kernel_rfl) (by kernel_rfl) (fun _ _ _ _ h => h) (by rfl) hS ?_
    apply Exists.intro
    refine ⟨fun w' hw' => ?_, ?_⟩
    · skip
      go_simp
      first | done | rfl | exact ⟨rfl, rfl⟩
    simp only [Act.put, List.setIfInBounds_toArray, List.set_cons_zero, List.set_cons_succ]
    refine held_val 4 rfl (by kernel_rfl) (by kernel_rfl) (by kernel_rfl) (fun _ _ _ _ h => h) (by rfl) hS ?_
    apply Exists.intro
    refine ⟨fun w' hw' => ?_, ?_⟩
    · skip
      go_simp
      first | done | rfl | exact ⟨rfl, rfl⟩
    simp only [Act.put, List.setIfInBounds_toArray, List.set_cons_zero, List.set_cons_succ]
    refine held_call 2 (by kernel_rfl) rfl (by rfl) ?_
    apply Exists.intro
    apply Exists.intro
    refine ⟨?_, ?_⟩
    · go_simp
      first | done | rfl | exact ⟨rfl, rfl⟩
    refine (K1.out _ hS).mono ?_
    rintro e w6 ⟨rfl, hb6⟩
    replace hS := hS.trans (hb6.mono hS.size)
    refine ⟨_, rfl, hS, ?_⟩
    simp only [Act.put, List.setIfInBounds_toArray, List.set_cons_zero, List.set_cons_succ]
    refine held_call 5 (by kernel_rfl) rfl (by rfl) ?_
    apply Exists.intro
    apply Exists.intro
    refine ⟨?_, ?_⟩
    · go_simp
      first | done | rfl | exact ⟨rfl, rfl⟩
    refine (K2.out _ hS).mono ?_
    rintro e w7 ⟨rfl, hb7⟩
    replace hS := hS.trans (hb7.mono hS.size)
    refine ⟨_, rfl, hS, ?_⟩
    simp only [Act.put, List.setIfInBounds_toArray, List.set_cons_zero, List.set_cons_succ]
    refine held_val 6 rfl (by kernel_rfl) (by kernel_rfl) (by kernel_rfl) (fun _ _ _ _ h => h) (by rfl) hS ?_
    apply Exists.intro
    refine ⟨fun w' hw' => ?_, ?_⟩
    · skip
      go_simp
      first | done | rfl | exact ⟨rfl, rfl⟩
    simp only [Act.put, List.setIfInBounds_toArray, List.set_cons_zero, List.set_cons_succ]
    refine held_val 7 rfl (by kernel_rfl) (by kernel_rfl) (by kernel_rfl) (fun _ _ _ _ h => h) (by rfl) hS ?_
    apply Exists.intro
    refine ⟨fun w' hw' => ?_, ?_⟩
    · skip
      go_simp
      first | done | rfl | exact ⟨rfl, rfl⟩
    simp only [Act.put, List.setIfInBounds_toArray, List.set_cons_zero, List.set_cons_succ]
    refine held_val 8 rfl (by kernel_rfl) (by kernel_rfl) (by kernel_rfl) (fun _ _ _ _ h => h) (by rfl) hS ?_
    apply Exists.intro
    refine ⟨fun w' hw' => ?_, ?_⟩
    · skip
      go_simp
      first | done | rfl | exact ⟨rfl, rfl⟩
    simp only [Act.put, List.setIfInBounds_toArray, List.set_cons_zero, List.set_cons_succ]
    refine held_val 9 rfl (by kernel_rfl) (by kernel_rfl) (by kernel_rfl) (fun _ _ _ _ h => h) (by rfl) hS ?_
    apply Exists.intro
    refine ⟨fun w' hw' => ?_, ?_⟩
    · skip
      go_simp
      first | done | rfl | exact ⟨rfl, rfl⟩
    simp only [Act.put, List.setIfInBounds_toArray, List.set_cons_zero, List.set_cons_succ]
    refine held_val 11 rfl (by kernel_rfl) (by kernel_rfl) (by kernel_rfl) (fun _ _ _ _ h => h) (by rfl) hS ?_
    apply Exists.intro
    refine ⟨fun w' hw' => ?_, ?_⟩
    · skip
      go_simp
      first | done | rfl | exact ⟨rfl, rfl⟩
    simp only [Act.put, List.setIfInBounds_toArray, List.set_cons_zero, List.set_cons_succ]
    refine held_val 12 rfl (by kernel_rfl) (by kernel_rfl) (by kernel_rfl) (fun _ _ _ _ h => h) (by rfl) hS ?_
    apply Exists.intro
    refine ⟨fun w' hw' => ?_, ?_⟩
    · skip
      go_simp
      first | done | rfl | exact ⟨rfl, rfl⟩
    simp only [Act.put, List.setIfInBounds_toArray, List.set_cons_zero, List.set_cons_succ]
    refine held_call 10 (by kernel_rfl) rfl (by rfl) ?_
    apply Exists.intro
    apply Exists.intro
    refine ⟨?_, ?_⟩
    · go_simp
      first | done | rfl | exact ⟨rfl, rfl⟩
    refine (K3.out _ hS).mono ?_
    rintro e w8 ⟨rfl, hb8⟩
    replace hS := hS.trans (hb8.mono hS.size)
    refine ⟨_, rfl, hS, ?_⟩
    simp only [Act.put, List.setIfInBounds_toArray, List.set_cons_zero, List.set_cons_succ]
    refine held_call 13 (by kernel_rfl) rfl (by rfl) ?_
    apply Exists.intro
    apply Exists.intro
    refine ⟨?_, ?_⟩
    · go_simp
      first | done | rfl | exact ⟨rfl, rfl⟩
    refine (K4.out _ hS).mono ?_
    rintro e w9 ⟨rfl, hb9⟩
    replace hS := hS.trans (hb9.mono hS.size)
    refine ⟨_, rfl, hS, ?_⟩
    simp only [Act.put, List.setIfInBounds_toArray, List.set_cons_zero, List.set_cons_succ]
    refine held_val 14 rfl (by kernel_rfl) (by kernel_rfl) (by kernel_rfl) (fun _ _ _ _ h => h) (by rfl) hS ?_
    apply Exists.intro
    refine ⟨fun w' hw' => ?_, ?_⟩
    · skip
      go_simp
      first | done | rfl | exact ⟨rfl, rfl⟩
    simp only [Act.put, List.setIfInBounds_toArray, List.set_cons_zero, List.set_cons_succ]
    refine held_val 15 rfl (by kernel_rfl) (by kernel_rfl) (by kernel_rfl) (fun _ _ _ _ h => h) (by rfl) hS ?_
    apply Exists.intro
    refine ⟨fun w' hw' => ?_, ?_⟩
    · skip
      go_simp
      first | done | rfl | exact ⟨rfl, rfl⟩
    simp only [Act.put, List.setIfInBounds_toArray, List.set_cons_zero, List.set_cons_succ]
    refine held_val 16 rfl (by kernel_rfl) (by kernel_rfl) (by kernel_rfl) (fun _ _ _ _ h => h) (by rfl) hS ?_
    apply Exists.intro
    refine ⟨fun w' hw' => ?_, ?_⟩
    · skip
      go_simp
      first | done | rfl | exact ⟨rfl, rfl⟩
    simp only [Act.put, List.setIfInBounds_toArray, List.set_cons_zero, List.set_cons_succ]
    refine held_val 17 rfl (by kernel_rfl) (by kernel_rfl) (by kernel_rfl) (fun _ _ _ _ h => h) (by rfl) hS ?_
    apply Exists.intro
    refine ⟨fun w' hw' => ?_, ?_⟩
    · skip
      go_simp
      first | done | rfl | exact ⟨rfl, rfl⟩
    simp only [Act.put, List.setIfInBounds_toArray, List.set_cons_zero, List.set_cons_succ]
    refine held_val 18 rfl (by kernel_rfl) (by kernel_rfl) (by kernel_rfl) (fun _ _ _ _ h => h) (by rfl) hS ?_
    apply Exists.intro
    refine ⟨fun w' hw' => ?_, ?_⟩
    · skip
      go_simp
      first | done | rfl | exact ⟨rfl, rfl⟩
    simp only [Act.put, List.setIfInBounds_toArray, List.set_cons_zero, List.set_cons_succ]
    refine held_val 21 rfl (by kernel_rfl) (by kernel_rfl) (by kernel_rfl) (fun _ _ _ _ h => h) (by rfl) hS ?_
    apply Exists.intro
    refine ⟨fun w' hw' => ?_, ?_⟩
    · skip
      go_simp
      first | done | rfl | exact ⟨rfl, rfl⟩
    simp only [Act.put, List.setIfInBounds_toArray, List.set_cons_zero, List.set_cons_succ]
    refine held_val 22 rfl (by kernel_rfl) (by kernel_rfl) (by kernel_rfl) (fun _ _ _ _ h => h) (by rfl) hS ?_
    apply Exists.intro
    refine ⟨fun w' hw' => ?_, ?_⟩
    · skip
      go_simp
      first | done | rfl | exact ⟨rfl, rfl⟩
    simp only [Act.put, List.setIfInBounds_toArray, List.set_cons_zero, List.set_cons_succ]
    refine held_call 19 (by kernel_rfl) rfl (by rfl) ?_
    apply Exists.intro
    apply Exists.intro
    refine ⟨?_, ?_⟩
    · go_simp
      first | done | rfl | exact ⟨rfl, rfl⟩
    refine (K5.out _ hS).mono ?_
    rintro e w10 ⟨⟨uy, rfl, hy⟩, hb10⟩
    replace hS := hS.trans (hb10.mono hS.size)
    refine ⟨_, rfl, hS, ?_⟩
    simp only [Act.put, List.setIfInBounds_toArray, List.set_cons_zero, List.set_cons_succ]
    refine held_mono (S1 := fun w' => Below w10.heap.size w10 w') (fun w' h => hS.trans (h.mono hS.size)) ?_
    have hS0 := hS
    replace hS := Below.refl w10.heap.size w10
    have hcv : ∀ w', Below w10.heap.size w10 w' → (convert 22 9 uy).run Tryd.prog w' = .ok (.string (bs S)) w' := fun w' h => bytes_string (hy.keep h)
    generalize hBS : bs S = BS at *
    have HBS : Unit → bs S = BS := fun _ => hBS
    clear hBS
    refine held_val 20 rfl (by kernel_rfl) (by kernel_rfl) (by kernel_rfl) (fun _ _ _ _ h => h) (by rfl) hS ?_
    apply Exists.intro
    refine ⟨fun w' hw' => ?_, ?_⟩
    · have e1 := hcv w' hw'
      go_simp
      first | done | rfl | exact ⟨rfl, rfl⟩
    simp only [Act.put, List.setIfInBounds_toArray, List.set_cons_zero, List.set_cons_succ]
    clear hcv hy
    refine held_call 23 (by kernel_rfl) rfl (by rfl) ?_
    apply Exists.intro
    apply Exists.intro
    refine ⟨?_, ?_⟩
    · go_simp
      first | done | rfl | exact ⟨rfl, rfl⟩
    refine (K6.out _ hS0).mono ?_
    rintro e w11 ⟨⟨uz, rfl, hz⟩, hb11⟩
    replace hS := hb11
    refine ⟨_, rfl, hS, ?_⟩
    simp only [Act.put, List.setIfInBounds_toArray, List.set_cons_zero, List.set_cons_succ]
    have hcz := bytes_string hz
    rw [HBS ()] at hcz
    refine held_now 24 (by kernel_rfl) rfl (by rfl) hS ?_
    apply Exists.intro
    refine ⟨?_, ?_⟩
    · skip
      go_simp
      first | done | rfl | exact ⟨rfl, rfl⟩
    simp only [Act.put, List.setIfInBounds_toArray, List.set_cons_zero, List.set_cons_succ]
    refine held_val 25 rfl (by kernel_rfl) (by kernel_rfl) (by kernel_rfl) (fun _ _ _ _ h => h) (by rfl) hS ?_
    apply Exists.intro
    refine ⟨fun w' hw' => ?_, ?_⟩
    · skip
      go_simp
      first | done | rfl | exact ⟨rfl, rfl⟩
    simp only [Act.put, List.setIfInBounds_toArray, List.set_cons_zero, List.set_cons_succ]
    refine held_val 26 rfl (by kernel_rfl) (by kernel_rfl) (by kernel_rfl) (fun _ _ _ _ h => h) (by rfl) hS ?_
    apply Exists.intro
    refine ⟨fun w' hw' => ?_, ?_⟩
    · skip
      go_simp
      first | done | rfl | exact ⟨rfl, rfl⟩
    simp only [Act.put, List.setIfInBounds_toArray, List.set_cons_zero, List.set_cons_succ]
    refine held_val 27 rfl (by kernel_rfl) (by kernel_rfl) (by kernel_rfl) (fun _ _ _ _ h => h) (by rfl) hS ?_
    apply Exists.intro
    refine ⟨fun w' hw' => ?_, ?_⟩
    · skip
      go_simp
      first | done | rfl | exact ⟨rfl, rfl⟩
    simp only [Act.put, List.setIfInBounds_toArray, List.set_cons_zero, List.set_cons_succ]
    refine wpAnyH_done (by kernel_rfl) ?_ _
    replace qB := qB.trans (hS0.mono qB.size)
    replace qB := qB.trans (hS.mono qB.size)
    clear K1 K2 K3 K4 K5 K6 hS hS0 hcz hz
    go_wp2_with fail
    go_ret
    exact ⟨rfl, qB⟩
end Go.Proofs.YtidiallphmocdaaDoor
