/- JsonWrites returns true for every input, and leaves its argument as it was: the statement's tied card. -/
import Derived.Test.YtbkkcojfgdjbhaaDoorJRefAll
import Derived.Test.YtbkkcojfgdjbhaaDoorJLives
import Derived.Test.YtbkkcojfgdjbhaaDoorFrame
import Derived.Test.YtbkkcojfgdjbhaaDoorPost
namespace Go.Proofs.YtbkkcojfgdjbhaaDoor
open Go.ChangeShapes Go.WideShapes Go.RowKit

set_option maxHeartbeats 800000 in
set_option maxRecDepth 100000 in
theorem rright_any (P : Nat → Prop) (D : Nat) (cs : List Value) (j : J) (w : World) (hJ : JAt P w D cs j) (hE : Env w) (hS : Siz D j) (hN : cntN D j ≤ 1000000) :
    Calls Tryd.prog 17 #[.agg cs.toArray] w fun e w' => e = .returned (.bool (rightN j)) ∧ Below w.heap.size w w' := by
  have hbig := hE.big
  have hri := right_is hJ.dep
  obtain ⟨k, n, s, keys, kids⟩ := j
  obtain ⟨d, kv, dv, rfl, rfl, _, _⟩ := hJ.open
  have rA := Rw.new w 25 (cells5 k n s kv dv)
  have hb : Below w.heap.size w (w.alloc (.cells (cells5 k n s kv dv).toArray 25)) := (Below.refl _ _).alloc (Nat.le_refl _) _
  have hJ1 := hJ.keep (S := fun _ => False) (Asd.of_below hb) (fun _ _ _ h => h)
  have HRI : Unit → _ := fun _ => hri
  clear hJ hri
  generalize rightN (.mk k n s keys kids) = R at *
  go_enter Tryd.func17, Tryd.ntmps17
  go_upto_region 1 with fail
  generalize w.alloc (.cells (cells5 k n s kv dv).toArray 25) = W at *
  have K := Lib.hid (count_any (d + 1) P _ _ W hJ1 hS hN)
  have KF : Hid (∀ w', Below W.heap.size W w' → Calls Tryd.prog 27 #[.agg #[.int .i64 k, .int .i64 n, .string ⟨s.toArray⟩, kv, dv], .int .i64 0] w' fun e w'' => e = .returned (.bool (rfitN (d + 1) (.mk k n s keys kids) 0)) ∧ Below w'.heap.size w' w'') := fun w' h =>
    rfits_any (d + 1) P _ _ 0 w' (hJ1.keep (S := fun _ => False) (Asd.of_below h) (fun _ _ _ h => h)) (hE.keep ((hb.trans (h.mono hb.size)).mono hbig)) hS (by omega) (by omega)
  clear hJ1
  generalize cntN (d + 1) (.mk k n s keys kids) = c at *
  generalize rfitN (d + 1) (.mk k n s keys kids) 0 = F at *
  go_wp2_with (refine load_docA w.heap.size 25 _ rA rfl _ rfl rfl rfl ?_)
  refine K.out.mono ?_
  rintro e w1 ⟨rfl, hb1⟩
  clear K
  have K2 := Lib.hid (KF.out w1 hb1)
  replace rA := rA.stay hb1
  replace hb := hb.trans (hb1.mono hb.size)
  clear KF hb1
  by_cases hc : (c : Int) ≤ 400
  · have a0 := Rw.cell rA 0
    change _ = some (Value.int .i64 k) at a0
    have a1 := Rw.cell rA 1
    change _ = some (Value.int .i64 n) at a1
    have a2 := Rw.cell rA 2
    change _ = some (Value.string ⟨s.toArray⟩) at a2
    have a3 := Rw.cell rA 3
    change _ = some kv at a3
    have a4 := Rw.cell rA 4
    change _ = some dv at a4
    go_wp2_with fail
    refine K2.out.mono ?_
    rintro e w2 ⟨rfl, hb2⟩
    clear K2 a0 a1 a2 a3 a4
    go_wp2_with fail
    go_ret
    exact ⟨by rw [HRI (), decide_eq_true hc]; rfl, hb.trans (hb2.mono hb.size)⟩
  · clear K2
    go_wp2_with fail
    go_ret
    exact ⟨by rw [HRI (), decide_eq_false (show ¬ (c : Int) ≤ 400 by omega)]; rfl, hb⟩
set_option maxHeartbeats 800000 in
set_option maxRecDepth 100000 in
theorem rwriteTop_any (P : Nat → Prop) (D : Nat) (cs : List Value) (j : J) (w : World) (hJ : JAt P w D cs j) (hE : Env w) (hS : Siz D j) (hR : Rg 6 j) (hN : cntN D j ≤ 1000000) :
    Calls Tryd.prog 14 #[.agg cs.toArray] w fun e w' => e = .returned (.tuple #[.string ⟨(writeN j).1.toArray⟩, .int .i64 (writeN j).2]) ∧ Below w.heap.size w w' := by
  have hbig := hE.big
  obtain ⟨h5, _⟩ := hJ.five
  have rA := Rw.new w 25 cs
  have hb : Below w.heap.size w (w.alloc (.cells cs.toArray 25)) := (Below.refl _ _).alloc (Nat.le_refl _) _
  have hJ1 := hJ.keep (S := fun _ => False) (Asd.of_below hb) (fun _ _ _ h => h)
  have hw : writeN j = if rightN j then (wrN 6 j, 0) else ([], 1) := rfl
  cases hri : rightN j with
  | false =>
    rw [hw, hri]
    go_enter Tryd.func14, Tryd.ntmps14
    go_upto_region 1 with fail
    generalize w.alloc (.cells cs.toArray 25) = W at *
    have K := Lib.hid (rright_any P D cs j W hJ1 (hE.keep (hb.mono hbig)) hS hN)
    rw [hri] at K
    clear hJ hJ1 hri hw
    go_wp2_with (refine load_docA w.heap.size 25 _ rA h5 _ rfl rfl rfl ?_)
    refine K.out.mono ?_
    rintro e w1 ⟨rfl, hb1⟩
    clear K
    go_wp2_with fail
    go_ret2
    exact ⟨rfl, hb.trans (hb1.mono hb.size)⟩
  | true =>
    rw [hw, hri]
    obtain ⟨l2, hf⟩ : ∃ l2, fitN 6 j 400 = some l2 := Option.isSome_iff_exists.1 hri
    go_enter Tryd.func14, Tryd.ntmps14
    go_upto_region 1 with fail
    generalize w.alloc (.cells cs.toArray 25) = W at *
    have K := Lib.hid (rright_any P D cs j W hJ1 (hE.keep (hb.mono hbig)) hS hN)
    rw [hri] at K
    have KV : Hid (∀ w', Below W.heap.size W w' → Calls Tryd.prog 24 #[.agg cs.toArray] w' fun e w'' => e = .returned (.string ⟨(wrN 6 j).toArray⟩) ∧ Below w'.heap.size w' w'') := fun w' h => rwrite_any D P cs j 6 400 l2 w' (hJ1.keep (S := fun _ => False) (Asd.of_below h) (fun _ _ _ h => h)) hS hR (by omega) hf
    clear hJ hJ1 hri hw hf
    go_wp2_with (refine load_docA w.heap.size 25 _ rA h5 _ rfl rfl rfl ?_)
    refine K.out.mono ?_
    rintro e w1 ⟨rfl, hb1⟩
    clear K
    have K2 := Lib.hid (KV.out w1 hb1)
    replace rA := rA.stay hb1
    replace hb := hb.trans (hb1.mono hb.size)
    clear KV hb1
    go_wp2_with (refine load_docA w.heap.size 25 _ rA h5 _ rfl rfl rfl ?_)
    refine K2.out.mono ?_
    rintro e w2 ⟨rfl, hb2⟩
    clear K2
    go_wp2_with fail
    go_ret2
    exact ⟨rfl, hb.trans (hb2.mono hb.size)⟩
set_option maxHeartbeats 3200000 in
set_option maxRecDepth 100000 in
theorem jwrites_any (P : Nat → Prop) (D : Nat) (cs0 : List Value) (j0 : J) (w : World) (hE : Env w) (hJ0 : JAt P w D cs0 j0) (hrg : ∀ e, Rg e j0) (hkz : ∀ e, Kz e j0) :
    Calls Tryd.prog 3 #[.agg cs0.toArray] w fun e w' => e = .returned (.bool true) ∧ Below w.heap.size w w' := by
  have hbig := hE.big
  have hz := zero_val
  have hJ1 := hJ0.mono (P' := fun k => k < w.heap.size) (fun _ _ h => h)
  clear hJ0
  obtain ⟨h5, ho⟩ := hJ1.five
  have rA := Rw.new w 25 cs0
  have hb1 : Below w.heap.size w (w.alloc (.cells cs0.toArray 25)) := (Below.refl _ _).alloc (Nat.le_refl _) _
  have KL := Lib.hid (lives_any (w.alloc (.cells cs0.toArray 25)) (hE.keep (hb1.mono hbig)))
  go_enter Tryd.func3, Tryd.ntmps3
  go_wp2_with fail
  refine KL.out.mono ?_
  rintro e w1 ⟨rfl, hb2⟩
  clear KL
  replace rA := rA.stay hb2
  have hsz := hb2.size
  replace hb2 := hb1.trans (hb2.mono hb1.size)
  go_upto_region 4 with fail
  have hNg : w.heap.size < w1.heap.size := Nat.lt_of_lt_of_le (Rw.lt rA) (Nat.le_refl _)
  have rC := Rw.new w1 3 [.int .i64 0]
  have hbl : Below w1.heap.size w1 (w1.alloc (.cells #[.int .i64 0] 3)) := (Below.refl _ _).alloc (Nat.le_refl _) _
  replace rA := rA.stay hbl
  replace hb2 := hb2.trans (hbl.mono hb2.size)
  have hJ2 := hJ1.keep (S := fun _ => False) (hb2.size |> fun _ => Asd.of_below hb2) (fun _ _ _ h => h)
  have KB : Hid (Calls Tryd.prog 12 #[.agg cs0.toArray, .int .i64 0, .pointer (some ⟨w1.heap.size, 0, none⟩)] (w1.alloc (.cells #[.int .i64 0] 3)) fun e w' => ∃ cs' : List Value, e = .returned (.agg cs'.toArray) ∧ JAt (fun k => k < w.heap.size ∨ (w1.alloc (.cells #[.int .i64 0] 3)).heap.size ≤ k) w' 10 cs' (backN 9 j0 0).1 ∧ Rw w' w1.heap.size 3 [.int .i64 ((backN 9 j0 0).2 : Int)] ∧ Asd (· = w1.heap.size) (w1.alloc (.cells #[.int .i64 0] 3)) w') :=
    back_any 9 (Nat.le_refl _) (fun k => k < w.heap.size) D cs0 j0 0 w1.heap.size _ hJ2 (fun i hi e => by have hi : i < w.heap.size := hi; omega) (by omega) rC
  clear hbl rC hJ2 hJ1 hb1 hsz
  generalize w1.alloc (.cells #[.int .i64 0] 3) = w2 at *
  have hNw : w.heap.size ≤ w1.heap.size := by omega
  generalize w1.heap.size = N at *
  have xS := fun d => back_siz 9 j0 0 d hkz
  have xR := back_rg 9 j0 0 6 hrg
  have xN : cntN 10 (backN 9 j0 0).1 ≤ 1000000 := by
    have h1 : cntN 10 (backN 9 j0 0).1 + 0 = 1 + (backN 9 j0 0).2 := back_num 9 j0 0
    have h2 := back_cnt 9 j0 0 (by omega)
    omega
  go_wp2_with (refine load_docA w.heap.size 25 cs0 rA h5 _ rfl rfl rfl ?_)
  refine KB.out.mono ?_
  rintro e w3 ⟨cs1, rfl, hJ3, _, A3⟩
  clear KB hkz hrg rA
  generalize (backN 9 j0 0).1 = x at *
  have hb3 : Below w.heap.size w w3 := hb2.trans (A3.toBelow hb2.size (fun i e => by omega))
  clear hb2 A3
  obtain ⟨x5, xo⟩ := hJ3.five
  obtain ⟨k, n, s, keys, kids⟩ := x
  obtain ⟨dx, kvx, dvx, e9, rfl, -, -⟩ := hJ3.open
  clear e9 dx
  have rN := Rw.new w3 29 zero5
  go_upto_region 5 with (refine store_arr w3.heap.size 29 zero5 rN 5 rfl 29 (by kernel_rfl) (cells5 k n s kvx dvx) x5 xo _ _ rfl rfl rfl rfl ?_)
  rw [World.setRow_alloc_new]
  have rX := Rw.new w3 29 (cells5 k n s kvx dvx)
  have hbl : Below w3.heap.size w3 (w3.alloc (.cells (cells5 k n s kvx dvx).toArray 29)) := (Below.refl _ _).alloc (Nat.le_refl _) _
  replace hJ3 := hJ3.keep (S := fun _ => False) (Asd.of_below hbl) (fun _ _ _ h => h)
  replace hb3 := hb3.trans (hbl.mono hb3.size)
  clear rN hbl
  generalize w3.alloc (.cells (cells5 k n s kvx dvx).toArray 29) = w4 at *
  generalize w3.heap.size = X at *
  have hE4 := hE.keep (hb3.mono hbig)
  have KW := Lib.hid (write_any _ _ _ _ w4 hJ3 hE4 (xS 7) xR)
  have KA : Hid (∀ w', Below w4.heap.size w4 w' → Calls Tryd.prog 15 #[.agg (cells5 k n s kvx dvx).toArray] w' fun e w'' => ∃ cs' : List Value, e = .returned (.agg cs'.toArray) ∧ (∃ P, JAt P w'' 10 cs' (.mk k n s keys kids)) ∧ Below w'.heap.size w' w'') := fun w' h =>
    (as_any 10 _ _ _ w' (hJ3.keep (S := fun _ => False) (Asd.of_below h) (fun _ _ _ h => h)) (xS 10)).mono fun e w'' ⟨cs', h1, h2, h3⟩ => ⟨cs', h1, ⟨_, h2⟩, h3⟩
  have KV : Hid (∀ (P : Nat → Prop) (cs' : List Value) (w' : World), Below w4.heap.size w4 w' → JAt P w' 10 cs' (.mk k n s keys kids) → Calls Tryd.prog 14 #[.agg cs'.toArray] w' fun e w'' => e = .returned (.tuple #[.string ⟨(writeN (.mk k n s keys kids)).1.toArray⟩, .int .i64 (writeN (.mk k n s keys kids)).2]) ∧ Below w'.heap.size w' w'') := fun P cs' w' h hj =>
    rwriteTop_any P 10 cs' _ w' hj (hE4.keep (h.mono (Nat.le_trans hbig hb3.size))) (xS 10) xR xN
  have KR : Hid (∀ (P : Nat → Prop) (cs' : List Value) (w' : World), Below w4.heap.size w4 w' → JAt P w' 10 cs' (.mk k n s keys kids) → Calls Tryd.prog 17 #[.agg cs'.toArray] w' fun e w'' => e = .returned (.bool (rightN (.mk k n s keys kids))) ∧ Below w'.heap.size w' w'') := fun P cs' w' h hj =>
    rright_any P 10 cs' _ w' hj (hE4.keep (h.mono (Nat.le_trans hbig hb3.size))) (xS 10) xN
  have KJ : Hid (∀ (w' : World), Below w4.heap.size w4 w' → Calls Tryd.prog 16 #[.agg (cells5 k n s kvx dvx).toArray] w' fun e w'' => e = .returned (.bool (rightN (.mk k n s keys kids))) ∧ Below w'.heap.size w' w'') := fun w' h =>
    right_any _ _ _ _ w' (hJ3.keep (S := fun _ => False) (Asd.of_below h) (fun _ _ _ h => h)) (hE4.keep (h.mono (Nat.le_trans hbig hb3.size))) (xS 7)
  have KS : Hid (∀ (w' : World), Below w4.heap.size w4 w' → Calls Tryd.prog 18 #[.agg (cells5 k n s kvx dvx).toArray, .agg (cells5 k n s kvx dvx).toArray] w' fun e w'' => e = .returned (.bool true) ∧ Below w'.heap.size w' w'') := fun w' h =>
    same_any 10 _ _ _ _ _ _ w' (hJ3.keep (S := fun _ => False) (Asd.of_below h) (fun _ _ _ h => h)) (hJ3.keep (S := fun _ => False) (Asd.of_below h) (fun _ _ _ h => h)) (xS 10)
  clear xS xR xN hJ3
  generalize writeN (.mk k n s keys kids) = WR at *
  generalize rightN (.mk k n s keys kids) = RR at *
  obtain ⟨u, er⟩ := WR
  simp only at *
  have hS : Below w4.heap.size w4 w4 := Below.refl _ _
  go_wp2_with (refine load_val X 29 _ rX rfl _ rfl rfl rfl ?_)
  refine KW.out.mono ?_
  rintro e w5 ⟨rfl, hb5⟩
  replace hS := hS.trans (hb5.mono hS.size)
  clear KW
  have K1 := Lib.hid (KA.out w5 hS)
  have rX5 := rX.stay hS
  clear hb5
  go_wp2_with (refine load_val X 29 _ rX5 rfl _ rfl rfl rfl ?_)
  refine K1.out.mono ?_
  rintro e w6 ⟨cs6, rfl, ⟨P6, hJ6⟩, hb6⟩
  replace hS := hS.trans (hb6.mono hS.size)
  have K2 := Lib.hid (KV.out P6 cs6 w6 hS hJ6)
  clear K1 hb6 hJ6 rX5
  go_wp2_with fail
  refine K2.out.mono ?_
  rintro e w7 ⟨rfl, hb7⟩
  replace hS := hS.trans (hb7.mono hS.size)
  clear K2 hb7
  have hXl := Rw.lt rX
  go_upto_region 7 with fail
  have hcu := same_text u u
  refine wp_region_held (S := fun w' => Below w4.heap.size w4 w') (by kernel_rfl) ?_
  have hS0 : Below w4.heap.size w4 { w7 with drawn := w7.drawn + 1 } := hS.drew
  clear hS
  have hS := hS0
  clear hS0
  generalize { w7 with drawn := w7.drawn + 1 } = D1 at *
  refine held_val 0 rfl (by kernel_rfl) (by kernel_rfl) (by kernel_rfl) (fun _ _ _ _ h => h) (by rfl) hS ⟨.agg (cells5 k n s kvx dvx).toArray, fun w' hw' => ?_, ?_⟩
  · exact run_load_val _ rfl X 29 _ (rX.stay hw') rfl rfl
  simp only [Act.put, List.setIfInBounds_toArray, List.set_cons_zero, List.set_cons_succ]
  refine held_val 2 rfl (by kernel_rfl) (by kernel_rfl) (by kernel_rfl) (fun _ _ _ _ h => h) (by rfl) hS ⟨.agg (cells5 k n s kvx dvx).toArray, fun w' hw' => ?_, ?_⟩
  · exact run_load_val _ rfl X 29 _ (rX.stay hw') rfl rfl
  simp only [Act.put, List.setIfInBounds_toArray, List.set_cons_zero, List.set_cons_succ]
  refine held_call 1 (by kernel_rfl) rfl (by rfl) ?_
  apply Exists.intro
  apply Exists.intro
  refine ⟨?_, ?_⟩
  · go_simp
    first | done | rfl | exact ⟨rfl, rfl⟩
  refine (KJ.out _ hS).mono ?_
  rintro e w8 ⟨rfl, hb8⟩
  replace hS := hS.trans (hb8.mono hS.size)
  refine ⟨_, rfl, hS, ?_⟩
  simp only [Act.put, List.setIfInBounds_toArray, List.set_cons_zero, List.set_cons_succ]
  refine held_call 3 (by kernel_rfl) rfl (by rfl) ?_
  apply Exists.intro
  apply Exists.intro
  refine ⟨?_, ?_⟩
  · go_simp
    first | done | rfl | exact ⟨rfl, rfl⟩
  refine (KA.out _ hS).mono ?_
  rintro e w9 ⟨cs9, rfl, ⟨P9, hJ9⟩, hb9⟩
  replace hS := hS.trans (hb9.mono hS.size)
  refine ⟨_, rfl, hS, ?_⟩
  simp only [Act.put, List.setIfInBounds_toArray, List.set_cons_zero, List.set_cons_succ]
  refine held_call 4 (by kernel_rfl) rfl (by rfl) ?_
  apply Exists.intro
  apply Exists.intro
  refine ⟨?_, ?_⟩
  · go_simp
    first | done | rfl | exact ⟨rfl, rfl⟩
  refine (KR.out P9 cs9 _ hS hJ9).mono ?_
  rintro e wa ⟨rfl, hba⟩
  replace hS := hS.trans (hba.mono hS.size)
  refine ⟨_, rfl, hS, ?_⟩
  simp only [Act.put, List.setIfInBounds_toArray, List.set_cons_zero, List.set_cons_succ]
  refine held_val 5 rfl (by kernel_rfl) (by kernel_rfl) (by kernel_rfl) (fun _ _ _ _ h => h) (by rfl) hS ⟨.bool true, fun w' hw' => ?_, ?_⟩
  · go_simp
  simp only [Act.put, List.setIfInBounds_toArray, List.set_cons_zero, List.set_cons_succ]
  refine held_val 6 rfl (by kernel_rfl) (by kernel_rfl) (by kernel_rfl) (fun _ _ _ _ h => h) (by rfl) hS ?_
  apply Exists.intro
  refine ⟨fun w' hw' => ?_, ?_⟩
  · skip
    go_simp
    first | done | rfl | exact ⟨rfl, rfl⟩
  simp only [Act.put, List.setIfInBounds_toArray, List.set_cons_zero, List.set_cons_succ]
  refine held_val 7 rfl (by kernel_rfl) (by kernel_rfl) (by kernel_rfl) (fun _ _ _ _ h => h) (by rfl) hS ?_
  apply Exists.intro
  refine ⟨fun w' hw' => ?_, ?_⟩
  · skip
    go_simp
    first | done | rfl | exact ⟨rfl, rfl⟩
  simp only [Act.put, List.setIfInBounds_toArray, List.set_cons_zero, List.set_cons_succ]
  refine held_val 8 rfl (by kernel_rfl) (by kernel_rfl) (by kernel_rfl) (fun _ _ _ _ h => h) (by rfl) hS ?_
  apply Exists.intro
  refine ⟨fun w' hw' => ?_, ?_⟩
  · skip
    go_simp
    first | done | rfl | exact ⟨rfl, rfl⟩
  simp only [Act.put, List.setIfInBounds_toArray, List.set_cons_zero, List.set_cons_succ]
  refine held_val 9 rfl (by kernel_rfl) (by kernel_rfl) (by kernel_rfl) (fun _ _ _ _ h => h) (by rfl) hS ⟨.bool true, fun w' hw' => ?_, ?_⟩
  · go_simp
  simp only [Act.put, List.setIfInBounds_toArray, List.set_cons_zero, List.set_cons_succ]
  refine held_val 10 rfl (by kernel_rfl) (by kernel_rfl) (by kernel_rfl) (fun _ _ _ _ h => h) (by rfl) hS ?_
  apply Exists.intro
  refine ⟨fun w' hw' => ?_, ?_⟩
  · skip
    go_simp
    first | done | rfl | exact ⟨rfl, rfl⟩
  simp only [Act.put, List.setIfInBounds_toArray, List.set_cons_zero, List.set_cons_succ]
  refine held_val 11 rfl (by kernel_rfl) (by kernel_rfl) (by kernel_rfl) (fun _ _ _ _ h => h) (by rfl) hS ?_
  apply Exists.intro
  refine ⟨fun w' hw' => ?_, ?_⟩
  · skip
    go_simp
    first | done | rfl | exact ⟨rfl, rfl⟩
  simp only [Act.put, List.setIfInBounds_toArray, List.set_cons_zero, List.set_cons_succ]
  refine held_val 12 rfl (by kernel_rfl) (by kernel_rfl) (by kernel_rfl) (fun _ _ _ _ h => h) (by rfl) hS ?_
  apply Exists.intro
  refine ⟨fun w' hw' => ?_, ?_⟩
  · skip
    go_simp
    first | done | rfl | exact ⟨rfl, rfl⟩
  simp only [Act.put, List.setIfInBounds_toArray, List.set_cons_zero, List.set_cons_succ]
  refine held_val 13 rfl (by kernel_rfl) (by kernel_rfl) (by kernel_rfl) (fun _ _ _ _ h => h) (by rfl) hS ?_
  apply Exists.intro
  refine ⟨fun w' hw' => ?_, ?_⟩
  · skip
    go_simp
    first | done | rfl | exact ⟨rfl, rfl⟩
  simp only [Act.put, List.setIfInBounds_toArray, List.set_cons_zero, List.set_cons_succ]
  refine held_val 14 rfl (by kernel_rfl) (by kernel_rfl) (by kernel_rfl) (fun _ _ _ _ h => h) (by rfl) hS ⟨.bool true, fun w' hw' => ?_, ?_⟩
  · go_simp
  simp only [Act.put, List.setIfInBounds_toArray, List.set_cons_zero, List.set_cons_succ]
  refine held_val 15 rfl (by kernel_rfl) (by kernel_rfl) (by kernel_rfl) (fun _ _ _ _ h => h) (by rfl) hS ?_
  apply Exists.intro
  refine ⟨fun w' hw' => ?_, ?_⟩
  · skip
    go_simp
    first | done | rfl | exact ⟨rfl, rfl⟩
  simp only [Act.put, List.setIfInBounds_toArray, List.set_cons_zero, List.set_cons_succ]
  refine held_val 16 rfl (by kernel_rfl) (by kernel_rfl) (by kernel_rfl) (fun _ _ _ _ h => h) (by rfl) hS ?_
  apply Exists.intro
  refine ⟨fun w' hw' => ?_, ?_⟩
  · skip
    go_simp
    first | done | rfl | exact ⟨rfl, rfl⟩
  simp only [Act.put, List.setIfInBounds_toArray, List.set_cons_zero, List.set_cons_succ]
  refine held_val 17 rfl (by kernel_rfl) (by kernel_rfl) (by kernel_rfl) (fun _ _ _ _ h => h) (by rfl) hS ⟨.agg (cells5 k n s kvx dvx).toArray, fun w' hw' => ?_, ?_⟩
  · exact run_load_val _ rfl X 29 _ (rX.stay hw') rfl rfl
  simp only [Act.put, List.setIfInBounds_toArray, List.set_cons_zero, List.set_cons_succ]
  refine held_val 18 rfl (by kernel_rfl) (by kernel_rfl) (by kernel_rfl) (fun _ _ _ _ h => h) (by rfl) hS ⟨.agg (cells5 k n s kvx dvx).toArray, fun w' hw' => ?_, ?_⟩
  · exact run_load_val _ rfl X 29 _ (rX.stay hw') rfl rfl
  simp only [Act.put, List.setIfInBounds_toArray, List.set_cons_zero, List.set_cons_succ]
  refine held_call 19 (by kernel_rfl) rfl (by rfl) ?_
  apply Exists.intro
  apply Exists.intro
  refine ⟨?_, ?_⟩
  · go_simp
    first | done | rfl | exact ⟨rfl, rfl⟩
  refine (KS.out _ hS).mono ?_
  rintro e wb ⟨rfl, hbb⟩
  replace hS := hS.trans (hbb.mono hS.size)
  refine ⟨_, rfl, hS, ?_⟩
  simp only [Act.put, List.setIfInBounds_toArray, List.set_cons_zero, List.set_cons_succ]
  refine held_val 20 rfl (by kernel_rfl) (by kernel_rfl) (by kernel_rfl) (fun _ _ _ _ h => h) (by rfl) hS ?_
  apply Exists.intro
  refine ⟨fun w' hw' => ?_, ?_⟩
  · skip
    go_simp
    first | done | rfl | exact ⟨rfl, rfl⟩
  simp only [Act.put, List.setIfInBounds_toArray, List.set_cons_zero, List.set_cons_succ]
  refine held_val 21 rfl (by kernel_rfl) (by kernel_rfl) (by kernel_rfl) (fun _ _ _ _ h => h) (by rfl) hS ?_
  apply Exists.intro
  refine ⟨fun w' hw' => ?_, ?_⟩
  · skip
    go_simp
    first | done | rfl | exact ⟨rfl, rfl⟩
  simp only [Act.put, List.setIfInBounds_toArray, List.set_cons_zero, List.set_cons_succ]
  refine wpAnyH_done (by kernel_rfl) ?_ _
  go_wp2_with fail
  go_ret
  exact ⟨rfl, hb3.trans (hS.mono hb3.size)⟩
end Go.Proofs.YtbkkcojfgdjbhaaDoor

namespace Go.Proofs.YtbkkcojfgdjbhaaDoor.jsonWrites
open Go.ChangeShapes Go.WideShapes Go.ChangeAt Go.RowKit Go.Joins

set_option maxRecDepth 100000 in
theorem contract (H : Type) (enc : TypeId × Value → H) (W : World) (base : Nat) (args : Array Value) (ds gs : List (DataW H)) (before : List MemPlace)
    (hval : ∀ (j : Nat) t v, Tryd.f3.params[j]? = some t → args[j]? = some v → Value.okWide Tryd.prog W .any base t v)
    (hW : DataW.Whole enc Tryd.prog Tryd.f3.params.toList Rows.jsonWritesSpec.vars false W args.toList ds gs before) (hL : laidMetH Tryd.prog Rows.jsonWritesRow.laid W) :
    Calls Tryd.prog 3 args W fun e W' => ∃ v, e = .returned v ∧ Rows.jsonWritesSpec.post enc Tryd.prog Tryd.f3 false true false false W args v W' := by
  have hW' := hW
  obtain ⟨p, q, hA0, hV, rfl, hfz, hnd⟩ := hW
  have hA : DataW.TrodAll enc Tryd.prog W 0 (fun _ => true) true Tryd.f3.params.toList args.toList ds p := hA0
  rw [Tryd.params3] at hA hval
  obtain ⟨v0, vs0, d0, ds0, p0, q0, hargs, rfl, rfl, h0, r0⟩ := trodAll_cons hA
  obtain ⟨rfl, rfl, rfl⟩ := trodAll_nil r0
  obtain rfl : args = #[v0] := by cases args; simp_all
  obtain ⟨rfl, rfl⟩ := trodVars_none hV
  obtain ⟨D0, cs0, j0, rfl, hj0, rg0, kz0⟩ := open_val (hval 0 _ _ rfl rfl) h0
  clear hA0
  simp only [List.append_nil] at hW'
  refine (show Calls Tryd.prog 3 #[.agg cs0.toArray] W _ from jwrites_any _ D0 cs0 j0 W (env_of_laid hL) hj0 rg0 kz0).mono fun e W' ⟨he, hg⟩ => ?_
  subst he
  exact ⟨_, rfl, post_new (pv := []) hW' (fun _ _ _ => trodAll_cons_mk (shut_bool Tryd.underlying4 _) trodAll_mk0)
    (fun sp hsp => (trodAll_cons_mk (WideElems.Trod_stays (by kernel_rfl) (by kernel_rfl) (of_decide_eq_true (by kernel_rfl)) h0 (fun x hx => hg.same (hW'.lt x (by simp [hx]))) (fun x hx => hsp x (by simp [hx]))) trodAll_mk0)) (fun _ => rfl) hg⟩

theorem reads (os : Go.Os) {H : Type} (enc : TypeId × Value → H) : ∃ places, DataW.whole enc Tryd.prog ((World.laidAll Tryd.prog os Rows.jsonWritesRow.laid).forCall (fun _ _ => 0) ⟨#[], #[.agg #[.int .i64 0, .int .i64 0, .string ⟨#[]⟩, .slice none 0 0, .slice none 0 0]], []⟩).memory Tryd.f3.params.toList Rows.jsonWritesSpec.vars false #[Value.agg #[.int .i64 0, .int .i64 0, .string ⟨#[]⟩, .slice none 0 0, .slice none 0 0]].toList 8 = some ([.agg [.lit (.int .i64 0), .lit (.int .i64 0), .lit (.string []), .nil, .nil]], [], places) :=
  ⟨[], by kernel_rfl⟩

set_option maxRecDepth 100000 in
theorem lifted (os : Go.Os) (started : os.Started) (H : Type) (enc : TypeId × Value → H) (F : Stop.Interp) :
    ReturnsInHanded {} Tryd.checked os 3 .any ((OpenSpec.ofChange Rows.jsonWritesSpec).preRow enc Tryd.prog Tryd.f3 Rows.jsonWritesRow.domain false Rows.jsonWritesRow.laid) (((OpenSpec.ofChange Rows.jsonWritesSpec).at F).post enc Tryd.prog Tryd.f3 false true false false) := by
  obtain ⟨places, hx⟩ := reads os enc
  refine returnsInHanded_of_row (C := Tryd.checked) (s := OpenSpec.ofChange Rows.jsonWritesSpec) own started (by kernel_rfl) Tryd.func3
    (witness_zip (enc := enc) (C := Tryd.checked) false (World.laidAll Tryd.prog os Rows.jsonWritesRow.laid) #[.agg #[.int .i64 0, .int .i64 0, .string ⟨#[]⟩, .slice none 0 0, .slice none 0 0]] (World.laidAll_os _ _ _) (World.shaped_of_ZipB (by kernel_rfl) (by kernel_rfl)) (by kernel_rfl)
      (OpenSpec.preRow_of_cond 8 hx (by kernel_rfl) (fun k hk => by cases hk) (by kernel_rfl) (door_met os _))) ?_
  intro W base args ds gs before hval hW _ _ _ hL _ _
  exact contract H enc W base args ds gs before hval hW hL

theorem said : Rows.JsonWritesSaid :=
  OpenClaim.holds_of_cond 3 Tryd.f3 rfl rfl rfl rfl rfl rfl rfl ⟨rfl, rfl, rfl, rfl, rfl⟩ rfl rfl rfl rfl rfl (by kernel_rfl) Tryd.func3 (by kernel_rfl)
    (of_decide_eq_true (by kernel_rfl)) (by unfold Func.isWrapper; first | (rw [if_pos (by decide +kernel)]; kernel_rfl) | (rw [if_neg (by decide +kernel)]; exact ⟨rfl, rfl⟩))
    (fun os started H enc _ F => by rw [OpenClaim.pre_eq_preRow]; exact lifted os started H enc F)

theorem plain (f : FuncId) (fn : Func) (hf : Tryd.pinned.checked.prog.funcNamed Rows.jsonWritesRow.func = some f) (hfn : Tryd.pinned.checked.prog.funcs[f]? = some fn) :
    true = Tryd.pinned.checked.prog.looks [] ∧ ∀ (j : Nat) t, fn.params[j]? = some t → Tryd.pinned.checked.prog.wantsStandIn t = false := by
  obtain rfl : f = 3 := Option.some.inj ((show Tryd.prog.funcNamed Rows.jsonWritesRow.func = some 3 by kernel_rfl).symm.trans hf) |>.symm
  obtain rfl : fn = Tryd.f3 := (Option.some.inj (Tryd.func3.symm.trans hfn)).symm
  refine ⟨by kernel_rfl, fun j t ht => ?_⟩
  rw [Tryd.params3] at ht
  obtain rfl : t = 25 := by simpa using Array.mem_of_getElem? ht
  exact (show Tryd.prog.wantsStandIn 25 = false by kernel_rfl)

theorem card : Rows.JsonWritesCardSaid :=
  Claim7.holds_tied_plain_at .later [] _ _ _ _ said (fun _ h => by cases h) (by kernel_rfl) (fun _ h => by cases h) jsonWrites_row_tie rfl ⟨rfl, rfl⟩ (by kernel_rfl) rfl plain (by kernel_rfl)
end Go.Proofs.YtbkkcojfgdjbhaaDoor.jsonWrites
