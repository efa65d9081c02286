/- Blanks: the law. -/
import Derived.Test.YtbkkcojfgdjbhaaDoorJLives
import Derived.Test.YtbkkcojfgdjbhaaDoorJSame
import Derived.Test.YtbkkcojfgdjbhaaDoorJBlankP
import Derived.Test.YtbkkcojfgdjbhaaDoorJReadP
import Derived.Test.YtbkkcojfgdjbhaaDoorJSpelled
namespace Go.Proofs.YtbkkcojfgdjbhaaDoor
open Go.ChangeShapes Go.WideShapes Go.RowKit

theorem take_early (l0 : Bs) (m : Nat) (z : Int) (hz : z = (m : Int)) : (⟨l0.toArray⟩ : ByteArray).extract 0 (min (l0.length : Int) z).toNat = ⟨(l0.take m).toArray⟩ := by
  subst hz
  rw [extract_text, List.drop_zero, show (min (l0.length : Int) (m : Int)).toNat = min l0.length m by omega]
  congr 2
  rw [Nat.min_comm, ← List.take_take, List.take_length]
theorem at_three (a : Int) : ∃ q : Nat, 1 ≤ q ∧ q ≤ 3 ∧ wrap64 (1 + wrap64 ((IntKind.u64.wrap a).tmod 3)) = (q : Int) := by
  have h0 : 0 ≤ IntKind.u64.wrap a := by simp only [IntKind.wrap, IntKind.signed, IntKind.bits]; simp; omega
  rw [Int.tmod_eq_emod_of_nonneg h0]
  refine ⟨((1 + IntKind.u64.wrap a % 3)).toNat, by omega, by omega, ?_⟩
  simp only [wrap64]
  omega
theorem null_two (q : Nat) (h1 : 1 ≤ q) (h3 : q ≤ 3) : readN (([110, 117, 108, 108] : Bs).take q ++ [32] ++ ([110, 117, 108, 108] : Bs).drop q) = (.zero, 2) := by
  have : q = 1 ∨ q = 2 ∨ q = 3 := by omega
  have e1 : readN [110, 32, 117, 108, 108] = (.zero, 2) := by kernel_rfl
  have e2 : readN [110, 117, 32, 108, 108] = (.zero, 2) := by kernel_rfl
  have e3 : readN [110, 117, 108, 32, 108] = (.zero, 2) := by kernel_rfl
  rcases this with rfl | rfl | rfl
  · exact e1
  · exact e2
  · exact e3
theorem num_two (q : Nat) (h1 : 1 ≤ q) (h3 : q ≤ 3) : readN (([49, 50, 51, 52] : Bs).take q ++ [32] ++ ([49, 50, 51, 52] : Bs).drop q) = (.zero, 2) := by
  have : q = 1 ∨ q = 2 ∨ q = 3 := by omega
  have e1 : readN [49, 32, 50, 51, 52] = (.zero, 2) := by kernel_rfl
  have e2 : readN [49, 50, 32, 51, 52] = (.zero, 2) := by kernel_rfl
  have e3 : readN [49, 50, 51, 32, 52] = (.zero, 2) := by kernel_rfl
  rcases this with rfl | rfl | rfl
  · exact e1
  · exact e2
  · exact e3
theorem read_two (w : World) (hE : Env w) (l : Bs) (h : readN l = (.zero, 2)) (hl : l.length ≤ 1000000 := by simp only [List.length_append, List.length_take, List.length_drop, List.length_cons, List.length_nil]; omega) : Calls Tryd.prog 19 #[.string ⟨l.toArray⟩] w fun e w' => ∃ cs, e = .returned (.tuple #[.agg cs.toArray, .int .i64 2]) ∧ JAt (fun k => w.heap.size ≤ k) w' 7 cs .zero ∧ Below w.heap.size w w' := by
  have := read_any l w hE hl
  rw [h] at this
  exact this
theorem wp_call {o : Oper} {a : Act} {w : World} {K : Act → World → Prop} {Q : Exit → Act → World → Prop} (h : ∃ f args, (execOp a.eval o).run Tryd.prog w = .ok (.enter f args) w ∧ Calls Tryd.prog f args w fun e w' => ∃ v, e = .returned v ∧ K (a.put o.dst v) w') : o.wp Tryd.prog a w K Q := by
  obtain ⟨f, args, h1, h2⟩ := h
  unfold Oper.wp
  rw [h1]
  simp only [Oper.upon]
  exact h2.mono fun e w' ⟨v, he, h3⟩ => by subst he; exact h3
set_option maxHeartbeats 1200000 in
set_option maxRecDepth 100000 in
theorem blanks_any (l0 : Bs) (hl0 : l0.length ≤ 9223372036854775807) (at' : Int) (w : World) (hE : Env w) :
    Calls Tryd.prog 6 #[.string ⟨l0.toArray⟩, .int .i64 at'] w fun e w' => e = .returned (.bool true) ∧ Below w.heap.size w w' := by
  have hbig := hE.big
  have KL := Lib.hid (lives_any w hE)
  have hs0 : (⟨l0.toArray⟩ : ByteArray).size = l0.length := by simp [ByteArray.size]
  have hx := take_early l0 1000 1000 rfl
  have hlen : (l0.take 1000).length ≤ 1000 := by rw [List.length_take]; omega
  go_enter Tryd.func6, Tryd.ntmps6
  go_wp2_with fail
  refine KL.out.mono ?_
  rintro e w1 ⟨rfl, hb1⟩
  clear KL
  go_upto_region 4 with fail
  generalize l0.take 1000 = l at *
  clear hx hs0
  have hE1 := hE.keep (hb1.mono hbig)
  obtain ⟨hsz, hrg, hri, _⟩ := read_good l
  have Heq : Unit → readN ([9, 13, 10, 32] ++ l ++ [32, 10]) = readN l := fun _ => read_blanks [9, 13, 10, 32] l [32, 10] (by unfold BL; simp) (by unfold BL; simp)
  have K1 := Lib.hid (read_any l w1 hE1 (by omega))
  have HR2 : Hid (∀ w2, Env w2 → Calls Tryd.prog 19 #[.string ⟨([9, 13, 10, 32] ++ l ++ [32, 10]).toArray⟩] w2 fun e w' => ∃ cs, e = .returned (.tuple #[.agg cs.toArray, .int .i64 (readN l).2]) ∧ JAt (fun k => w2.heap.size ≤ k) w' 7 cs (readN l).1 ∧ Below w2.heap.size w2 w') := by
    intro w2 h2
    have := read_any ([9, 13, 10, 32] ++ l ++ [32, 10]) w2 h2 (by simp only [List.length_append, List.length_cons, List.length_nil]; omega)
    rw [Heq ()] at this
    exact this
  have hc1 := cat_text [9, 13, 10, 32] l
  have hc2 := cat_text ([9, 13, 10, 32] ++ l) [32, 10]
  clear Heq
  generalize readN l = R at *
  obtain ⟨j, er⟩ := R
  obtain ⟨k, n, s, keys, kids⟩ := j
  simp only at *
  go_wp2_with fail
  refine K1.out.mono ?_
  rintro e w2 ⟨cs, rfl, hJ, hb2⟩
  clear K1
  obtain ⟨kv, dv, rfl, hkv, hdv⟩ := hJ
  have hJ : JAt (fun k => w1.heap.size ≤ k) w2 7 (cells5 k n s kv dv) (.mk k n s keys kids) := ⟨kv, dv, rfl, hkv, hdv⟩
  obtain ⟨h5, ho⟩ := hJ.five
  replace hb2 := hb1.trans (hb2.mono hb1.size)
  clear hb1 hkv hdv hE1
  have rN := Rw.new w2 29 zero5
  go_upto_region 5 with (refine store_arr w2.heap.size 29 zero5 rN 5 rfl 29 (by kernel_rfl) (cells5 k n s kv dv) h5 ho _ _ rfl rfl rfl rfl ?_)
  rw [World.setRow_alloc_new]
  have rT := Rw.new w2 29 (cells5 k n s kv dv)
  have hbl : Below w2.heap.size w2 (w2.alloc (.cells (cells5 k n s kv dv).toArray 29)) := (Below.refl _ _).alloc (Nat.le_refl _) _
  replace hJ := hJ.keep (S := fun _ => False) (Asd.of_below hbl) (fun _ _ _ h => h)
  replace hb2 := hb2.trans (hbl.mono hb2.size)
  clear rN hbl
  generalize w2.alloc (.cells (cells5 k n s kv dv).toArray 29) = w3 at *
  generalize w2.heap.size = T at *
  have K2 := Lib.hid (HR2.out w3 (hE.keep (hb2.mono hbig)))
  clear HR2
  go_wp2_with fail
  refine K2.out.mono ?_
  rintro e w4 ⟨cs, rfl, hJ2, hb4⟩
  clear K2 hc1 hc2
  obtain ⟨kv', dv', rfl, hkv, hdv⟩ := hJ2
  have hJ2 : JAt (fun k => w3.heap.size ≤ k) w4 7 (cells5 k n s kv' dv') (.mk k n s keys kids) := ⟨kv', dv', rfl, hkv, hdv⟩
  obtain ⟨h5', ho'⟩ := hJ2.five
  replace hJ := hJ.keep (S := fun _ => False) (Asd.of_below hb4) (fun _ _ _ h => h)
  replace rT := rT.stay hb4
  replace hb4 := hb2.trans (hb4.mono hb2.size)
  clear hb2 hkv hdv
  have rN := Rw.new w4 29 zero5
  go_upto_region 6 with (refine store_arr w4.heap.size 29 zero5 rN 5 rfl 29 (by kernel_rfl) (cells5 k n s kv' dv') h5' ho' _ _ rfl rfl rfl rfl ?_)
  rw [World.setRow_alloc_new]
  have rT' := Rw.new w4 29 (cells5 k n s kv' dv')
  have hbl : Below w4.heap.size w4 (w4.alloc (.cells (cells5 k n s kv' dv').toArray 29)) := (Below.refl _ _).alloc (Nat.le_refl _) _
  replace hJ := hJ.keep (S := fun _ => False) (Asd.of_below hbl) (fun _ _ _ h => h)
  replace hJ2 := hJ2.keep (S := fun _ => False) (Asd.of_below hbl) (fun _ _ _ h => h)
  replace rT := rT.stay hbl
  replace hb4 := hb4.trans (hbl.mono hb4.size)
  clear rN hbl
  generalize w4.alloc (.cells (cells5 k n s kv' dv').toArray 29) = w5 at *
  generalize w4.heap.size = T' at *
  have K3 : Hid (Calls Tryd.prog 18 #[.agg #[.int .i64 k, .int .i64 n, .string ⟨s.toArray⟩, kv, dv], .agg #[.int .i64 k, .int .i64 n, .string ⟨s.toArray⟩, kv', dv']] w5 fun e w' => e = .returned (.bool true) ∧ Below w5.heap.size w5 w') := same_any 7 _ _ 7 _ _ _ w5 hJ hJ2 hsz
  have a0 := Rw.cell rT 0
  have a1 := Rw.cell rT 1
  have a2 := Rw.cell rT 2
  have a3 := Rw.cell rT 3
  have a4 := Rw.cell rT 4
  change _ = some (Value.int .i64 k) at a0
  change _ = some (Value.int .i64 n) at a1
  change _ = some (Value.string ⟨s.toArray⟩) at a2
  change _ = some kv at a3
  change _ = some dv at a4
  have b0 := Rw.cell rT' 0
  have b1 := Rw.cell rT' 1
  have b2 := Rw.cell rT' 2
  have b3 := Rw.cell rT' 3
  have b4 := Rw.cell rT' 4
  change _ = some (Value.int .i64 k) at b0
  change _ = some (Value.int .i64 n) at b1
  change _ = some (Value.string ⟨s.toArray⟩) at b2
  change _ = some kv' at b3
  change _ = some dv' at b4
  clear hJ hJ2 rT rT' hsz hrg hri ho ho' h5 h5'
  go_wp2_with fail
  refine K3.out.mono ?_
  rintro e w6 ⟨rfl, hb6⟩
  replace hb6 := hb4.trans (hb6.mono hb4.size)
  clear K3 hb4 a0 a1 a2 a3 a4 b0 b1 b2 b3 b4
  obtain ⟨q, hq1, hq3, hqe⟩ : ∃ q : Nat, 1 ≤ q ∧ q ≤ 3 ∧ wrap64 (1 + wrap64 ((IntKind.u64.wrap at').tmod 3)) = (q : Int) := at_three at'
  have hsW1 := cut_upto [110, 117, 108, 108] q (by simp; omega) (q : Int) rfl
  have hsW2 := cut_text [110, 117, 108, 108] q (by simp; omega) (q : Int) rfl
  have hsN1 := cut_upto [49, 50, 51, 52] q (by simp; omega) (q : Int) rfl
  have hsN2 := cut_text [49, 50, 51, 52] q (by simp; omega) (q : Int) rfl
  have KRW : Hid (∀ w2, Below w.heap.size w w2 → Calls Tryd.prog 19 #[.string ⟨(([110, 117, 108, 108] : Bs).take q ++ [32] ++ ([110, 117, 108, 108] : Bs).drop q).toArray⟩] w2 fun e w' => ∃ cs, e = .returned (.tuple #[.agg cs.toArray, .int .i64 2]) ∧ JAt (fun k => w2.heap.size ≤ k) w' 7 cs .zero ∧ Below w2.heap.size w2 w') := fun w2 h2 => read_two w2 (hE.keep (h2.mono hbig)) _ (null_two q hq1 hq3)
  have KRN : Hid (∀ w2, Below w.heap.size w w2 → Calls Tryd.prog 19 #[.string ⟨(([49, 50, 51, 52] : Bs).take q ++ [32] ++ ([49, 50, 51, 52] : Bs).drop q).toArray⟩] w2 fun e w' => ∃ cs, e = .returned (.tuple #[.agg cs.toArray, .int .i64 2]) ∧ JAt (fun k => w2.heap.size ≤ k) w' 7 cs .zero ∧ Below w2.heap.size w2 w') := fun w2 h2 => read_two w2 (hE.keep (h2.mono hbig)) _ (num_two q hq1 hq3)
  obtain ⟨AW1, hAW1⟩ : ∃ F, F = ([110, 117, 108, 108] : Bs).take q := ⟨_, rfl⟩
  obtain ⟨AW2, hAW2⟩ : ∃ F, F = ([110, 117, 108, 108] : Bs).drop q := ⟨_, rfl⟩
  rw [← hAW1] at hsW1
  rw [← hAW2] at hsW2
  rw [← hAW1, ← hAW2] at KRW
  obtain ⟨MW, hMW⟩ : ∃ F, F = AW1 ++ [32] := ⟨_, rfl⟩
  rw [← hMW] at KRW
  obtain ⟨FW, hFW⟩ : ∃ F, F = MW ++ AW2 := ⟨_, rfl⟩
  rw [← hFW] at KRW
  have hcW1 : (⟨AW1.toArray⟩ : ByteArray) ++ { data := #[32] } = ⟨MW.toArray⟩ := by rw [hMW]; exact cat_text AW1 [32]
  have hcW2 : (⟨MW.toArray⟩ : ByteArray) ++ ⟨AW2.toArray⟩ = ⟨FW.toArray⟩ := by rw [hFW]; exact cat_text MW AW2
  have hlW1 : AW1.length ≤ 4 := by rw [hAW1, List.length_take]; simp only [List.length_cons, List.length_nil]; omega
  have hlW2 : AW2.length ≤ 4 := by rw [hAW2, List.length_drop]; simp only [List.length_cons, List.length_nil]; omega
  have hlW3 : MW.length ≤ 5 := by rw [hMW, List.length_append]; simp only [List.length_cons, List.length_nil]; omega
  clear hAW1 hAW2 hMW hFW
  have hnW1 : ¬ 9223372036854775807 < AW1.length + 1 := by omega
  have hnW2 : ¬ 9223372036854775807 < MW.length + AW2.length := by omega
  obtain ⟨AN1, hAN1⟩ : ∃ F, F = ([49, 50, 51, 52] : Bs).take q := ⟨_, rfl⟩
  obtain ⟨AN2, hAN2⟩ : ∃ F, F = ([49, 50, 51, 52] : Bs).drop q := ⟨_, rfl⟩
  rw [← hAN1] at hsN1
  rw [← hAN2] at hsN2
  rw [← hAN1, ← hAN2] at KRN
  obtain ⟨MN, hMN⟩ : ∃ F, F = AN1 ++ [32] := ⟨_, rfl⟩
  rw [← hMN] at KRN
  obtain ⟨FN, hFN⟩ : ∃ F, F = MN ++ AN2 := ⟨_, rfl⟩
  rw [← hFN] at KRN
  have hcN1 : (⟨AN1.toArray⟩ : ByteArray) ++ { data := #[32] } = ⟨MN.toArray⟩ := by rw [hMN]; exact cat_text AN1 [32]
  have hcN2 : (⟨MN.toArray⟩ : ByteArray) ++ ⟨AN2.toArray⟩ = ⟨FN.toArray⟩ := by rw [hFN]; exact cat_text MN AN2
  have hlN1 : AN1.length ≤ 4 := by rw [hAN1, List.length_take]; simp only [List.length_cons, List.length_nil]; omega
  have hlN2 : AN2.length ≤ 4 := by rw [hAN2, List.length_drop]; simp only [List.length_cons, List.length_nil]; omega
  have hlN3 : MN.length ≤ 5 := by rw [hMN, List.length_append]; simp only [List.length_cons, List.length_nil]; omega
  clear hAN1 hAN2 hMN hFN
  have hnN1 : ¬ 9223372036854775807 < AN1.length + 1 := by omega
  have hnN2 : ¬ 9223372036854775807 < MN.length + AN2.length := by omega
  go_upto_region 9 with fail
  refine wp_region_held (S := fun w' => Below w6.heap.size w6 w') (by kernel_rfl) ?_
  have hS : Below w6.heap.size w6 { w6 with drawn := w6.drawn + 1 } := (Below.refl _ w6).drew
  generalize { w6 with drawn := w6.drawn + 1 } = Wp at *
  refine held_val 0 rfl (by kernel_rfl) (by kernel_rfl) (by kernel_rfl) (fun _ _ _ _ h => h) (by rfl) hS ?_
  apply Exists.intro
  refine ⟨fun w' hw' => ?_, ?_⟩
  · skip
    go_simp
    first | done | rfl | exact ⟨rfl, rfl⟩
  simp only [Act.put, List.setIfInBounds_toArray, List.set_cons_zero, List.set_cons_succ]
  refine held_val 1 rfl (by kernel_rfl) (by kernel_rfl) (by kernel_rfl) (fun _ _ _ _ h => h) (by rfl) hS ?_
  apply Exists.intro
  refine ⟨fun w' hw' => ?_, ?_⟩
  · have e1 := hsW1 w'
    go_simp
    first | done | rfl | exact ⟨rfl, rfl⟩
  simp only [Act.put, List.setIfInBounds_toArray, List.set_cons_zero, List.set_cons_succ]
  refine held_val 2 rfl (by kernel_rfl) (by kernel_rfl) (by kernel_rfl) (fun _ _ _ _ h => h) (by rfl) hS ?_
  apply Exists.intro
  refine ⟨fun w' hw' => ?_, ?_⟩
  · skip
    go_simp
    first | done | rfl | exact ⟨rfl, rfl⟩
  simp only [Act.put, List.setIfInBounds_toArray, List.set_cons_zero, List.set_cons_succ]
  refine held_val 3 rfl (by kernel_rfl) (by kernel_rfl) (by kernel_rfl) (fun _ _ _ _ h => h) (by rfl) hS ?_
  apply Exists.intro
  refine ⟨fun w' hw' => ?_, ?_⟩
  · skip
    go_simp
    first | done | rfl | exact ⟨rfl, rfl⟩
  simp only [Act.put, List.setIfInBounds_toArray, List.set_cons_zero, List.set_cons_succ]
  refine held_val 4 rfl (by kernel_rfl) (by kernel_rfl) (by kernel_rfl) (fun _ _ _ _ h => h) (by rfl) hS ?_
  apply Exists.intro
  refine ⟨fun w' hw' => ?_, ?_⟩
  · have e1 := hsW2 w'
    go_simp
    first | done | rfl | exact ⟨rfl, rfl⟩
  simp only [Act.put, List.setIfInBounds_toArray, List.set_cons_zero, List.set_cons_succ]
  refine held_val 5 rfl (by kernel_rfl) (by kernel_rfl) (by kernel_rfl) (fun _ _ _ _ h => h) (by rfl) hS ?_
  apply Exists.intro
  refine ⟨fun w' hw' => ?_, ?_⟩
  · skip
    go_simp
    first | done | rfl | exact ⟨rfl, rfl⟩
  simp only [Act.put, List.setIfInBounds_toArray, List.set_cons_zero, List.set_cons_succ]
  refine held_two 6 10 (by kernel_rfl) rfl rfl (by rfl) (by rfl) ?_ ?_
  · skip
    refine wp_call ?_
    apply Exists.intro
    apply Exists.intro
    refine ⟨?_, ?_⟩
    · go_simp
      first | done | rfl | exact ⟨rfl, rfl⟩
    refine (KRW.out _ (hb6.trans (hS.mono hb6.size))).mono ?_
    rintro e xp ⟨csp, rfl, hJp, hcp⟩
    obtain ⟨h5p, hop⟩ := hJp.five
    clear hJp
    replace hS := hS.trans (hcp.mono hS.size)
    refine ⟨_, rfl, hS, ?_⟩
    simp only [Act.put, List.setIfInBounds_toArray, List.set_cons_zero, List.set_cons_succ]
    refine held_val 7 rfl (by kernel_rfl) (by kernel_rfl) (by kernel_rfl) (fun _ _ _ _ h => h) (by rfl) hS ?_
    apply Exists.intro
    refine ⟨fun w' hw' => ?_, ?_⟩
    · skip
      go_simp
      first | done | rfl | exact ⟨rfl, rfl⟩
    simp only [Act.put, List.setIfInBounds_toArray, List.set_cons_zero, List.set_cons_succ]
    refine held_val 8 rfl (by kernel_rfl) (by kernel_rfl) (by kernel_rfl) (fun _ _ _ _ h => h) (by rfl) hS ?_
    apply Exists.intro
    refine ⟨fun w' hw' => ?_, ?_⟩
    · skip
      go_simp
      first | done | rfl | exact ⟨rfl, rfl⟩
    simp only [Act.put, List.setIfInBounds_toArray, List.set_cons_zero, List.set_cons_succ]
    refine held_val 9 rfl (by kernel_rfl) (by kernel_rfl) (by kernel_rfl) (fun _ _ _ _ h => h) (by rfl) hS ?_
    apply Exists.intro
    refine ⟨fun w' hw' => ?_, ?_⟩
    · skip
      go_simp
      first | done | rfl | exact ⟨rfl, rfl⟩
    simp only [Act.put, List.setIfInBounds_toArray, List.set_cons_zero, List.set_cons_succ]
    refine held_one 10 (by kernel_rfl) rfl (by rfl) ?_
    unfold Oper.wp
    go_simp
    have rN := Rw.new xp 29 zero5
    have hS2 : Below w6.heap.size w6 (xp.alloc (.cells zero5.toArray 29)) := hS.alloc hS.size _
    refine ⟨hS2, ?_⟩
    refine held_one 11 (by kernel_rfl) rfl (by rfl) ?_
    refine wp_store_val _ _ rfl _ _ rfl rfl (run_storeVar_row _ _ 29 _ _ _ rN (by rw [show csp.toArray.size = 5 by simp [h5p]]; kernel_rfl) (by simp [h5p]; rfl) (by rw [Array.all_eq_true_iff_forall_mem]; intro v hv; exact hop v (by simpa using hv))) ?_
    rw [World.setRow_alloc_new]
    have hS3 : Below w6.heap.size w6 (xp.alloc (.cells csp.toArray 29)) := hS.alloc hS.size _
    refine ⟨hS3, ?_⟩
    simp only [Act.put]
    clear hS hS2 rN
    have hS := hS3
    clear hS3
    generalize xp.alloc (.cells csp.toArray 29) = yp at *
    generalize xp.heap.size = zp at *
    refine held_val 12 rfl (by kernel_rfl) (by kernel_rfl) (by kernel_rfl) (fun _ _ _ _ h => h) (by rfl) hS ?_
    apply Exists.intro
    refine ⟨fun w' hw' => ?_, ?_⟩
    · skip
      go_simp
      first | done | rfl | exact ⟨rfl, rfl⟩
    simp only [Act.put, List.setIfInBounds_toArray, List.set_cons_zero, List.set_cons_succ]
    refine wpAnyH_done (by kernel_rfl) ?_ _
    have hbp := hb6.trans (hS.mono hb6.size)
    clear hS
    go_upto_region 10 with fail
    refine wp_region_held (S := fun w' => Below yp.heap.size yp w') (by kernel_rfl) ?_
    have hS : Below yp.heap.size yp { yp with drawn := yp.drawn + 1 } := (Below.refl _ yp).drew
    generalize { yp with drawn := yp.drawn + 1 } = Wq at *
    refine held_val 0 rfl (by kernel_rfl) (by kernel_rfl) (by kernel_rfl) (fun _ _ _ _ h => h) (by rfl) hS ?_
    apply Exists.intro
    refine ⟨fun w' hw' => ?_, ?_⟩
    · skip
      go_simp
      first | done | rfl | exact ⟨rfl, rfl⟩
    simp only [Act.put, List.setIfInBounds_toArray, List.set_cons_zero, List.set_cons_succ]
    refine held_val 1 rfl (by kernel_rfl) (by kernel_rfl) (by kernel_rfl) (fun _ _ _ _ h => h) (by rfl) hS ?_
    apply Exists.intro
    refine ⟨fun w' hw' => ?_, ?_⟩
    · have e1 := hsN1 w'
      go_simp
      first | done | rfl | exact ⟨rfl, rfl⟩
    simp only [Act.put, List.setIfInBounds_toArray, List.set_cons_zero, List.set_cons_succ]
    refine held_val 2 rfl (by kernel_rfl) (by kernel_rfl) (by kernel_rfl) (fun _ _ _ _ h => h) (by rfl) hS ?_
    apply Exists.intro
    refine ⟨fun w' hw' => ?_, ?_⟩
    · skip
      go_simp
      first | done | rfl | exact ⟨rfl, rfl⟩
    simp only [Act.put, List.setIfInBounds_toArray, List.set_cons_zero, List.set_cons_succ]
    refine held_val 3 rfl (by kernel_rfl) (by kernel_rfl) (by kernel_rfl) (fun _ _ _ _ h => h) (by rfl) hS ?_
    apply Exists.intro
    refine ⟨fun w' hw' => ?_, ?_⟩
    · skip
      go_simp
      first | done | rfl | exact ⟨rfl, rfl⟩
    simp only [Act.put, List.setIfInBounds_toArray, List.set_cons_zero, List.set_cons_succ]
    refine held_val 4 rfl (by kernel_rfl) (by kernel_rfl) (by kernel_rfl) (fun _ _ _ _ h => h) (by rfl) hS ?_
    apply Exists.intro
    refine ⟨fun w' hw' => ?_, ?_⟩
    · have e1 := hsN2 w'
      go_simp
      first | done | rfl | exact ⟨rfl, rfl⟩
    simp only [Act.put, List.setIfInBounds_toArray, List.set_cons_zero, List.set_cons_succ]
    refine held_val 5 rfl (by kernel_rfl) (by kernel_rfl) (by kernel_rfl) (fun _ _ _ _ h => h) (by rfl) hS ?_
    apply Exists.intro
    refine ⟨fun w' hw' => ?_, ?_⟩
    · skip
      go_simp
      first | done | rfl | exact ⟨rfl, rfl⟩
    simp only [Act.put, List.setIfInBounds_toArray, List.set_cons_zero, List.set_cons_succ]
    refine held_two 6 10 (by kernel_rfl) rfl rfl (by rfl) (by rfl) ?_ ?_
    · skip
      refine wp_call ?_
      apply Exists.intro
      apply Exists.intro
      refine ⟨?_, ?_⟩
      · go_simp
        first | done | rfl | exact ⟨rfl, rfl⟩
      refine (KRN.out _ (hbp.trans (hS.mono hbp.size))).mono ?_
      rintro e xq ⟨csq, rfl, hJq, hcq⟩
      obtain ⟨h5q, hoq⟩ := hJq.five
      clear hJq
      replace hS := hS.trans (hcq.mono hS.size)
      refine ⟨_, rfl, hS, ?_⟩
      simp only [Act.put, List.setIfInBounds_toArray, List.set_cons_zero, List.set_cons_succ]
      refine held_val 7 rfl (by kernel_rfl) (by kernel_rfl) (by kernel_rfl) (fun _ _ _ _ h => h) (by rfl) hS ?_
      apply Exists.intro
      refine ⟨fun w' hw' => ?_, ?_⟩
      · skip
        go_simp
        first | done | rfl | exact ⟨rfl, rfl⟩
      simp only [Act.put, List.setIfInBounds_toArray, List.set_cons_zero, List.set_cons_succ]
      refine held_val 8 rfl (by kernel_rfl) (by kernel_rfl) (by kernel_rfl) (fun _ _ _ _ h => h) (by rfl) hS ?_
      apply Exists.intro
      refine ⟨fun w' hw' => ?_, ?_⟩
      · skip
        go_simp
        first | done | rfl | exact ⟨rfl, rfl⟩
      simp only [Act.put, List.setIfInBounds_toArray, List.set_cons_zero, List.set_cons_succ]
      refine held_val 9 rfl (by kernel_rfl) (by kernel_rfl) (by kernel_rfl) (fun _ _ _ _ h => h) (by rfl) hS ?_
      apply Exists.intro
      refine ⟨fun w' hw' => ?_, ?_⟩
      · skip
        go_simp
        first | done | rfl | exact ⟨rfl, rfl⟩
      simp only [Act.put, List.setIfInBounds_toArray, List.set_cons_zero, List.set_cons_succ]
      refine held_one 10 (by kernel_rfl) rfl (by rfl) ?_
      unfold Oper.wp
      go_simp
      have rN := Rw.new xq 29 zero5
      have hS2 : Below yp.heap.size yp (xq.alloc (.cells zero5.toArray 29)) := hS.alloc hS.size _
      refine ⟨hS2, ?_⟩
      refine held_one 11 (by kernel_rfl) rfl (by rfl) ?_
      refine wp_store_val _ _ rfl _ _ rfl rfl (run_storeVar_row _ _ 29 _ _ _ rN (by rw [show csq.toArray.size = 5 by simp [h5q]]; kernel_rfl) (by simp [h5q]; rfl) (by rw [Array.all_eq_true_iff_forall_mem]; intro v hv; exact hoq v (by simpa using hv))) ?_
      rw [World.setRow_alloc_new]
      have hS3 : Below yp.heap.size yp (xq.alloc (.cells csq.toArray 29)) := hS.alloc hS.size _
      refine ⟨hS3, ?_⟩
      simp only [Act.put]
      clear hS hS2 rN
      have hS := hS3
      clear hS3
      generalize xq.alloc (.cells csq.toArray 29) = yq at *
      generalize xq.heap.size = zq at *
      refine held_val 12 rfl (by kernel_rfl) (by kernel_rfl) (by kernel_rfl) (fun _ _ _ _ h => h) (by rfl) hS ?_
      apply Exists.intro
      refine ⟨fun w' hw' => ?_, ?_⟩
      · skip
        go_simp
        first | done | rfl | exact ⟨rfl, rfl⟩
      simp only [Act.put, List.setIfInBounds_toArray, List.set_cons_zero, List.set_cons_succ]
      refine wpAnyH_done (by kernel_rfl) ?_ _
      have hbq := hbp.trans (hS.mono hbp.size)
      clear hS
      go_wp2_with fail
      go_ret
      exact ⟨rfl, hbq⟩
    · unfold Oper.wp
      go_simp
      have rN := Rw.new Wq 29 zero5
      have hszq := hS.size
      replace hS : Below yp.heap.size yp (Wq.alloc (.cells zero5.toArray 29)) := hS.alloc hS.size _
      refine ⟨hS, ?_⟩
      change wpAnyH _ _ _ _ _ _ _ _ (Wq.alloc (.cells zero5.toArray 29))
      have hzq : yp.heap.size ≤ Wq.heap.size := hszq
      generalize Wq.heap.size = zq at *
      generalize Wq.alloc (.cells zero5.toArray 29) = vq at *
      refine held_one 6 (by kernel_rfl) rfl (by rfl) ?_
      refine wp_call ?_
      apply Exists.intro
      apply Exists.intro
      refine ⟨?_, ?_⟩
      · go_simp
        first | done | rfl | exact ⟨rfl, rfl⟩
      refine (KRN.out _ (hbp.trans (hS.mono hbp.size))).mono ?_
      rintro e xq ⟨csq, rfl, hJq, hcq⟩
      obtain ⟨h5q, hoq⟩ := hJq.five
      clear hJq
      replace rN := rN.stay hcq
      replace hS := hS.trans (hcq.mono hS.size)
      refine ⟨_, rfl, hS, ?_⟩
      simp only [Act.put, List.setIfInBounds_toArray, List.set_cons_zero, List.set_cons_succ]
      refine held_val 7 rfl (by kernel_rfl) (by kernel_rfl) (by kernel_rfl) (fun _ _ _ _ h => h) (by rfl) hS ?_
      apply Exists.intro
      refine ⟨fun w' hw' => ?_, ?_⟩
      · skip
        go_simp
        first | done | rfl | exact ⟨rfl, rfl⟩
      simp only [Act.put, List.setIfInBounds_toArray, List.set_cons_zero, List.set_cons_succ]
      refine held_val 8 rfl (by kernel_rfl) (by kernel_rfl) (by kernel_rfl) (fun _ _ _ _ h => h) (by rfl) hS ?_
      apply Exists.intro
      refine ⟨fun w' hw' => ?_, ?_⟩
      · skip
        go_simp
        first | done | rfl | exact ⟨rfl, rfl⟩
      simp only [Act.put, List.setIfInBounds_toArray, List.set_cons_zero, List.set_cons_succ]
      refine held_val 9 rfl (by kernel_rfl) (by kernel_rfl) (by kernel_rfl) (fun _ _ _ _ h => h) (by rfl) hS ?_
      apply Exists.intro
      refine ⟨fun w' hw' => ?_, ?_⟩
      · skip
        go_simp
        first | done | rfl | exact ⟨rfl, rfl⟩
      simp only [Act.put, List.setIfInBounds_toArray, List.set_cons_zero, List.set_cons_succ]
      refine held_one 11 (by kernel_rfl) rfl (by rfl) ?_
      refine wp_store_val _ _ rfl _ _ rfl rfl (run_storeVar_row _ _ 29 _ _ _ rN (by rw [show csq.toArray.size = 5 by simp [h5q]]; kernel_rfl) (by simp [h5q]; rfl) (by rw [Array.all_eq_true_iff_forall_mem]; intro v hv; exact hoq v (by simpa using hv))) ?_
      have hS3 : Below yp.heap.size yp (xq.setRow zq csq.toArray) := below_setRow hS hzq _
      refine ⟨hS3, ?_⟩
      simp only [Act.put]
      clear hS rN
      have hS := hS3
      clear hS3
      generalize xq.setRow zq csq.toArray = yq at *
      refine held_val 12 rfl (by kernel_rfl) (by kernel_rfl) (by kernel_rfl) (fun _ _ _ _ h => h) (by rfl) hS ?_
      apply Exists.intro
      refine ⟨fun w' hw' => ?_, ?_⟩
      · skip
        go_simp
        first | done | rfl | exact ⟨rfl, rfl⟩
      simp only [Act.put, List.setIfInBounds_toArray, List.set_cons_zero, List.set_cons_succ]
      refine wpAnyH_done (by kernel_rfl) ?_ _
      have hbq := hbp.trans (hS.mono hbp.size)
      clear hS
      go_wp2_with fail
      go_ret
      exact ⟨rfl, hbq⟩
  · unfold Oper.wp
    go_simp
    have rN := Rw.new Wp 29 zero5
    have hszp := hS.size
    replace hS : Below w6.heap.size w6 (Wp.alloc (.cells zero5.toArray 29)) := hS.alloc hS.size _
    refine ⟨hS, ?_⟩
    change wpAnyH _ _ _ _ _ _ _ _ (Wp.alloc (.cells zero5.toArray 29))
    have hzp : w6.heap.size ≤ Wp.heap.size := hszp
    generalize Wp.heap.size = zp at *
    generalize Wp.alloc (.cells zero5.toArray 29) = vp at *
    refine held_one 6 (by kernel_rfl) rfl (by rfl) ?_
    refine wp_call ?_
    apply Exists.intro
    apply Exists.intro
    refine ⟨?_, ?_⟩
    · go_simp
      first | done | rfl | exact ⟨rfl, rfl⟩
    refine (KRW.out _ (hb6.trans (hS.mono hb6.size))).mono ?_
    rintro e xp ⟨csp, rfl, hJp, hcp⟩
    obtain ⟨h5p, hop⟩ := hJp.five
    clear hJp
    replace rN := rN.stay hcp
    replace hS := hS.trans (hcp.mono hS.size)
    refine ⟨_, rfl, hS, ?_⟩
    simp only [Act.put, List.setIfInBounds_toArray, List.set_cons_zero, List.set_cons_succ]
    refine held_val 7 rfl (by kernel_rfl) (by kernel_rfl) (by kernel_rfl) (fun _ _ _ _ h => h) (by rfl) hS ?_
    apply Exists.intro
    refine ⟨fun w' hw' => ?_, ?_⟩
    · skip
      go_simp
      first | done | rfl | exact ⟨rfl, rfl⟩
    simp only [Act.put, List.setIfInBounds_toArray, List.set_cons_zero, List.set_cons_succ]
    refine held_val 8 rfl (by kernel_rfl) (by kernel_rfl) (by kernel_rfl) (fun _ _ _ _ h => h) (by rfl) hS ?_
    apply Exists.intro
    refine ⟨fun w' hw' => ?_, ?_⟩
    · skip
      go_simp
      first | done | rfl | exact ⟨rfl, rfl⟩
    simp only [Act.put, List.setIfInBounds_toArray, List.set_cons_zero, List.set_cons_succ]
    refine held_val 9 rfl (by kernel_rfl) (by kernel_rfl) (by kernel_rfl) (fun _ _ _ _ h => h) (by rfl) hS ?_
    apply Exists.intro
    refine ⟨fun w' hw' => ?_, ?_⟩
    · skip
      go_simp
      first | done | rfl | exact ⟨rfl, rfl⟩
    simp only [Act.put, List.setIfInBounds_toArray, List.set_cons_zero, List.set_cons_succ]
    refine held_one 11 (by kernel_rfl) rfl (by rfl) ?_
    refine wp_store_val _ _ rfl _ _ rfl rfl (run_storeVar_row _ _ 29 _ _ _ rN (by rw [show csp.toArray.size = 5 by simp [h5p]]; kernel_rfl) (by simp [h5p]; rfl) (by rw [Array.all_eq_true_iff_forall_mem]; intro v hv; exact hop v (by simpa using hv))) ?_
    have hS3 : Below w6.heap.size w6 (xp.setRow zp csp.toArray) := below_setRow hS hzp _
    refine ⟨hS3, ?_⟩
    simp only [Act.put]
    clear hS rN
    have hS := hS3
    clear hS3
    generalize xp.setRow zp csp.toArray = yp at *
    refine held_val 12 rfl (by kernel_rfl) (by kernel_rfl) (by kernel_rfl) (fun _ _ _ _ h => h) (by rfl) hS ?_
    apply Exists.intro
    refine ⟨fun w' hw' => ?_, ?_⟩
    · skip
      go_simp
      first | done | rfl | exact ⟨rfl, rfl⟩
    simp only [Act.put, List.setIfInBounds_toArray, List.set_cons_zero, List.set_cons_succ]
    refine wpAnyH_done (by kernel_rfl) ?_ _
    have hbp := hb6.trans (hS.mono hb6.size)
    clear hS
    go_upto_region 10 with fail
    refine wp_region_held (S := fun w' => Below yp.heap.size yp w') (by kernel_rfl) ?_
    have hS : Below yp.heap.size yp { yp with drawn := yp.drawn + 1 } := (Below.refl _ yp).drew
    generalize { yp with drawn := yp.drawn + 1 } = Wq at *
    refine held_val 0 rfl (by kernel_rfl) (by kernel_rfl) (by kernel_rfl) (fun _ _ _ _ h => h) (by rfl) hS ?_
    apply Exists.intro
    refine ⟨fun w' hw' => ?_, ?_⟩
    · skip
      go_simp
      first | done | rfl | exact ⟨rfl, rfl⟩
    simp only [Act.put, List.setIfInBounds_toArray, List.set_cons_zero, List.set_cons_succ]
    refine held_val 1 rfl (by kernel_rfl) (by kernel_rfl) (by kernel_rfl) (fun _ _ _ _ h => h) (by rfl) hS ?_
    apply Exists.intro
    refine ⟨fun w' hw' => ?_, ?_⟩
    · have e1 := hsN1 w'
      go_simp
      first | done | rfl | exact ⟨rfl, rfl⟩
    simp only [Act.put, List.setIfInBounds_toArray, List.set_cons_zero, List.set_cons_succ]
    refine held_val 2 rfl (by kernel_rfl) (by kernel_rfl) (by kernel_rfl) (fun _ _ _ _ h => h) (by rfl) hS ?_
    apply Exists.intro
    refine ⟨fun w' hw' => ?_, ?_⟩
    · skip
      go_simp
      first | done | rfl | exact ⟨rfl, rfl⟩
    simp only [Act.put, List.setIfInBounds_toArray, List.set_cons_zero, List.set_cons_succ]
    refine held_val 3 rfl (by kernel_rfl) (by kernel_rfl) (by kernel_rfl) (fun _ _ _ _ h => h) (by rfl) hS ?_
    apply Exists.intro
    refine ⟨fun w' hw' => ?_, ?_⟩
    · skip
      go_simp
      first | done | rfl | exact ⟨rfl, rfl⟩
    simp only [Act.put, List.setIfInBounds_toArray, List.set_cons_zero, List.set_cons_succ]
    refine held_val 4 rfl (by kernel_rfl) (by kernel_rfl) (by kernel_rfl) (fun _ _ _ _ h => h) (by rfl) hS ?_
    apply Exists.intro
    refine ⟨fun w' hw' => ?_, ?_⟩
    · have e1 := hsN2 w'
      go_simp
      first | done | rfl | exact ⟨rfl, rfl⟩
    simp only [Act.put, List.setIfInBounds_toArray, List.set_cons_zero, List.set_cons_succ]
    refine held_val 5 rfl (by kernel_rfl) (by kernel_rfl) (by kernel_rfl) (fun _ _ _ _ h => h) (by rfl) hS ?_
    apply Exists.intro
    refine ⟨fun w' hw' => ?_, ?_⟩
    · skip
      go_simp
      first | done | rfl | exact ⟨rfl, rfl⟩
    simp only [Act.put, List.setIfInBounds_toArray, List.set_cons_zero, List.set_cons_succ]
    refine held_two 6 10 (by kernel_rfl) rfl rfl (by rfl) (by rfl) ?_ ?_
    · skip
      refine wp_call ?_
      apply Exists.intro
      apply Exists.intro
      refine ⟨?_, ?_⟩
      · go_simp
        first | done | rfl | exact ⟨rfl, rfl⟩
      refine (KRN.out _ (hbp.trans (hS.mono hbp.size))).mono ?_
      rintro e xq ⟨csq, rfl, hJq, hcq⟩
      obtain ⟨h5q, hoq⟩ := hJq.five
      clear hJq
      replace hS := hS.trans (hcq.mono hS.size)
      refine ⟨_, rfl, hS, ?_⟩
      simp only [Act.put, List.setIfInBounds_toArray, List.set_cons_zero, List.set_cons_succ]
      refine held_val 7 rfl (by kernel_rfl) (by kernel_rfl) (by kernel_rfl) (fun _ _ _ _ h => h) (by rfl) hS ?_
      apply Exists.intro
      refine ⟨fun w' hw' => ?_, ?_⟩
      · skip
        go_simp
        first | done | rfl | exact ⟨rfl, rfl⟩
      simp only [Act.put, List.setIfInBounds_toArray, List.set_cons_zero, List.set_cons_succ]
      refine held_val 8 rfl (by kernel_rfl) (by kernel_rfl) (by kernel_rfl) (fun _ _ _ _ h => h) (by rfl) hS ?_
      apply Exists.intro
      refine ⟨fun w' hw' => ?_, ?_⟩
      · skip
        go_simp
        first | done | rfl | exact ⟨rfl, rfl⟩
      simp only [Act.put, List.setIfInBounds_toArray, List.set_cons_zero, List.set_cons_succ]
      refine held_val 9 rfl (by kernel_rfl) (by kernel_rfl) (by kernel_rfl) (fun _ _ _ _ h => h) (by rfl) hS ?_
      apply Exists.intro
      refine ⟨fun w' hw' => ?_, ?_⟩
      · skip
        go_simp
        first | done | rfl | exact ⟨rfl, rfl⟩
      simp only [Act.put, List.setIfInBounds_toArray, List.set_cons_zero, List.set_cons_succ]
      refine held_one 10 (by kernel_rfl) rfl (by rfl) ?_
      unfold Oper.wp
      go_simp
      have rN := Rw.new xq 29 zero5
      have hS2 : Below yp.heap.size yp (xq.alloc (.cells zero5.toArray 29)) := hS.alloc hS.size _
      refine ⟨hS2, ?_⟩
      refine held_one 11 (by kernel_rfl) rfl (by rfl) ?_
      refine wp_store_val _ _ rfl _ _ rfl rfl (run_storeVar_row _ _ 29 _ _ _ rN (by rw [show csq.toArray.size = 5 by simp [h5q]]; kernel_rfl) (by simp [h5q]; rfl) (by rw [Array.all_eq_true_iff_forall_mem]; intro v hv; exact hoq v (by simpa using hv))) ?_
      rw [World.setRow_alloc_new]
      have hS3 : Below yp.heap.size yp (xq.alloc (.cells csq.toArray 29)) := hS.alloc hS.size _
      refine ⟨hS3, ?_⟩
      simp only [Act.put]
      clear hS hS2 rN
      have hS := hS3
      clear hS3
      generalize xq.alloc (.cells csq.toArray 29) = yq at *
      generalize xq.heap.size = zq at *
      refine held_val 12 rfl (by kernel_rfl) (by kernel_rfl) (by kernel_rfl) (fun _ _ _ _ h => h) (by rfl) hS ?_
      apply Exists.intro
      refine ⟨fun w' hw' => ?_, ?_⟩
      · skip
        go_simp
        first | done | rfl | exact ⟨rfl, rfl⟩
      simp only [Act.put, List.setIfInBounds_toArray, List.set_cons_zero, List.set_cons_succ]
      refine wpAnyH_done (by kernel_rfl) ?_ _
      have hbq := hbp.trans (hS.mono hbp.size)
      clear hS
      go_wp2_with fail
      go_ret
      exact ⟨rfl, hbq⟩
    · unfold Oper.wp
      go_simp
      have rN := Rw.new Wq 29 zero5
      have hszq := hS.size
      replace hS : Below yp.heap.size yp (Wq.alloc (.cells zero5.toArray 29)) := hS.alloc hS.size _
      refine ⟨hS, ?_⟩
      change wpAnyH _ _ _ _ _ _ _ _ (Wq.alloc (.cells zero5.toArray 29))
      have hzq : yp.heap.size ≤ Wq.heap.size := hszq
      generalize Wq.heap.size = zq at *
      generalize Wq.alloc (.cells zero5.toArray 29) = vq at *
      refine held_one 6 (by kernel_rfl) rfl (by rfl) ?_
      refine wp_call ?_
      apply Exists.intro
      apply Exists.intro
      refine ⟨?_, ?_⟩
      · go_simp
        first | done | rfl | exact ⟨rfl, rfl⟩
      refine (KRN.out _ (hbp.trans (hS.mono hbp.size))).mono ?_
      rintro e xq ⟨csq, rfl, hJq, hcq⟩
      obtain ⟨h5q, hoq⟩ := hJq.five
      clear hJq
      replace rN := rN.stay hcq
      replace hS := hS.trans (hcq.mono hS.size)
      refine ⟨_, rfl, hS, ?_⟩
      simp only [Act.put, List.setIfInBounds_toArray, List.set_cons_zero, List.set_cons_succ]
      refine held_val 7 rfl (by kernel_rfl) (by kernel_rfl) (by kernel_rfl) (fun _ _ _ _ h => h) (by rfl) hS ?_
      apply Exists.intro
      refine ⟨fun w' hw' => ?_, ?_⟩
      · skip
        go_simp
        first | done | rfl | exact ⟨rfl, rfl⟩
      simp only [Act.put, List.setIfInBounds_toArray, List.set_cons_zero, List.set_cons_succ]
      refine held_val 8 rfl (by kernel_rfl) (by kernel_rfl) (by kernel_rfl) (fun _ _ _ _ h => h) (by rfl) hS ?_
      apply Exists.intro
      refine ⟨fun w' hw' => ?_, ?_⟩
      · skip
        go_simp
        first | done | rfl | exact ⟨rfl, rfl⟩
      simp only [Act.put, List.setIfInBounds_toArray, List.set_cons_zero, List.set_cons_succ]
      refine held_val 9 rfl (by kernel_rfl) (by kernel_rfl) (by kernel_rfl) (fun _ _ _ _ h => h) (by rfl) hS ?_
      apply Exists.intro
      refine ⟨fun w' hw' => ?_, ?_⟩
      · skip
        go_simp
        first | done | rfl | exact ⟨rfl, rfl⟩
      simp only [Act.put, List.setIfInBounds_toArray, List.set_cons_zero, List.set_cons_succ]
      refine held_one 11 (by kernel_rfl) rfl (by rfl) ?_
      refine wp_store_val _ _ rfl _ _ rfl rfl (run_storeVar_row _ _ 29 _ _ _ rN (by rw [show csq.toArray.size = 5 by simp [h5q]]; kernel_rfl) (by simp [h5q]; rfl) (by rw [Array.all_eq_true_iff_forall_mem]; intro v hv; exact hoq v (by simpa using hv))) ?_
      have hS3 : Below yp.heap.size yp (xq.setRow zq csq.toArray) := below_setRow hS hzq _
      refine ⟨hS3, ?_⟩
      simp only [Act.put]
      clear hS rN
      have hS := hS3
      clear hS3
      generalize xq.setRow zq csq.toArray = yq at *
      refine held_val 12 rfl (by kernel_rfl) (by kernel_rfl) (by kernel_rfl) (fun _ _ _ _ h => h) (by rfl) hS ?_
      apply Exists.intro
      refine ⟨fun w' hw' => ?_, ?_⟩
      · skip
        go_simp
        first | done | rfl | exact ⟨rfl, rfl⟩
      simp only [Act.put, List.setIfInBounds_toArray, List.set_cons_zero, List.set_cons_succ]
      refine wpAnyH_done (by kernel_rfl) ?_ _
      have hbq := hbp.trans (hS.mono hbp.size)
      clear hS
      go_wp2_with fail
      go_ret
      exact ⟨rfl, hbq⟩
end Go.Proofs.YtbkkcojfgdjbhaaDoor
