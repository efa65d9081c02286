/- JsonBack: the law's walk. -/
import Derived.Test.YtbkkcojfgdjbhaaDoorJBackR
import Derived.Test.YtbkkcojfgdjbhaaDoorJLives
import Derived.Test.YtbkkcojfgdjbhaaDoorJReadP
namespace Go.Proofs.YtbkkcojfgdjbhaaDoor
open Go.ChangeShapes Go.WideShapes Go.RowKit

theorem load_doc {ops : Array Oper} {rest : List Oper} {o : Oper} {a : Act} {w : World} {Q : Exit → Act → World → Prop} (g : Nat) (t : TypeId) (cs : List Value) (hr : Rw w g t cs) (hn : cs.length = 5) (x : Operand) (hgd : o.guard = none) (ho : o.op = .load 25 x) (hx : a.eval x = .pointer (some ⟨g, 0, none⟩))
    (h : wpList Tryd.prog ops Q rest (a.put o.dst (.agg cs.toArray)) w) : wpList Tryd.prog ops Q (o :: rest) a w :=
  wpList_load_row hgd 25 x ho g hx t cs.toArray (0, 0) _ hr Tryd.underlying25 rfl (by rw [show cs.toArray.size = 5 by simp [hn]]; kernel_rfl) h
set_option maxHeartbeats 3200000 in
set_option maxRecDepth 100000 in
theorem jback_any (P : Nat → Prop) (D : Nat) (cs0 : List Value) (j0 : J) (l0 : Bs) (hl0 : l0.length ≤ 9223372036854775807) (w : World) (hE : Env w) (hJ0 : JAt P w D cs0 j0) (hrg : ∀ e, Rg e j0) (hkz : ∀ e, Kz e j0) :
    Calls Tryd.prog 5 #[.agg cs0.toArray, .string ⟨l0.toArray⟩] w fun e w' => e = .returned (.bool true) ∧ Below w.heap.size w w' := by
  have hbig := hE.big
  have hs0 : (⟨l0.toArray⟩ : ByteArray).size = l0.length := by simp [ByteArray.size]
  have hx := take_early2 l0 3000 3000 rfl
  have hlen : (l0.take 3000).length ≤ 3000 := by rw [List.length_take]; omega
  have hz := zero_val
  have hJ1 := hJ0.mono (P' := fun k => k < w.heap.size) (fun _ _ h => h)
  clear hJ0
  obtain ⟨h5, ho⟩ := hJ1.five
  have rA := Rw.new w 25 cs0
  have hb1 : Below w.heap.size w (w.alloc (.cells cs0.toArray 25)) := (Below.refl _ _).alloc (Nat.le_refl _) _
  have KL := Lib.hid (lives_any (w.alloc (.cells cs0.toArray 25)) (hE.keep (hb1.mono hbig)))
  go_enter Tryd.func5, Tryd.ntmps5
  go_wp2_with fail
  refine KL.out.mono ?_
  rintro e w1 ⟨rfl, hb2⟩
  clear KL
  replace rA := rA.stay hb2
  have hsz := hb2.size
  replace hb2 := hb1.trans (hb2.mono hb1.size)
  go_upto_region 4 with fail
  generalize l0.take 3000 = l at *
  have hNg : w.heap.size < w1.heap.size := Nat.lt_of_lt_of_le (Rw.lt rA) (Nat.le_refl _)
  have rC := Rw.new w1 3 [.int .i64 0]
  have hbl : Below w1.heap.size w1 (w1.alloc (.cells #[.int .i64 0] 3)) := (Below.refl _ _).alloc (Nat.le_refl _) _
  replace rA := rA.stay hbl
  replace hb2 := hb2.trans (hbl.mono hb2.size)
  have hJ2 := hJ1.keep (S := fun _ => False) (hb2.size |> fun _ => Asd.of_below hb2) (fun _ _ _ h => h)
  have KB : Hid (Calls Tryd.prog 12 #[.agg cs0.toArray, .int .i64 0, .pointer (some ⟨w1.heap.size, 0, none⟩)] (w1.alloc (.cells #[.int .i64 0] 3)) fun e w' => ∃ cs' : List Value, e = .returned (.agg cs'.toArray) ∧ JAt (fun k => k < w.heap.size ∨ (w1.alloc (.cells #[.int .i64 0] 3)).heap.size ≤ k) w' 10 cs' (backN 9 j0 0).1 ∧ Rw w' w1.heap.size 3 [.int .i64 ((backN 9 j0 0).2 : Int)] ∧ Asd (· = w1.heap.size) (w1.alloc (.cells #[.int .i64 0] 3)) w') :=
    back_any 9 (Nat.le_refl _) (fun k => k < w.heap.size) D cs0 j0 0 w1.heap.size _ hJ2 (fun i hi e => by have hi : i < w.heap.size := hi; omega) (by omega) rC
  clear hbl rC hJ2 hJ1 hb1 hsz
  generalize w1.alloc (.cells #[.int .i64 0] 3) = w2 at *
  have hNw : w.heap.size ≤ w1.heap.size := by omega
  generalize w1.heap.size = N at *
  have xS := fun d => back_siz 9 j0 0 d hkz
  have xR := back_rg 9 j0 0 6 hrg
  go_wp2_with (refine load_doc w.heap.size 25 cs0 rA h5 _ rfl rfl rfl ?_)
  refine KB.out.mono ?_
  rintro e w3 ⟨cs1, rfl, hJ3, _, A3⟩
  clear KB hrg hkz rA
  generalize (backN 9 j0 0).1 = x at *
  have hb3 : Below w.heap.size w w3 := hb2.trans (A3.toBelow hb2.size (fun i e => by omega))
  clear hb2 A3
  obtain ⟨x5, xo⟩ := hJ3.five
  obtain ⟨k, n, s, keys, kids⟩ := x
  obtain ⟨dx, kvx, dvx, e9, rfl, -, -⟩ := hJ3.open
  clear e9 dx
  have rN := Rw.new w3 29 zero5
  go_upto_region 5 with (refine store_arr w3.heap.size 29 zero5 rN 5 rfl 29 (by kernel_rfl) (cells5 k n s kvx dvx) x5 xo _ _ rfl rfl rfl rfl ?_)
  rw [World.setRow_alloc_new]
  have rX := Rw.new w3 29 (cells5 k n s kvx dvx)
  have hbl : Below w3.heap.size w3 (w3.alloc (.cells (cells5 k n s kvx dvx).toArray 29)) := (Below.refl _ _).alloc (Nat.le_refl _) _
  replace hJ3 := hJ3.keep (S := fun _ => False) (Asd.of_below hbl) (fun _ _ _ h => h)
  replace hb3 := hb3.trans (hbl.mono hb3.size)
  clear rN hbl
  generalize w3.alloc (.cells (cells5 k n s kvx dvx).toArray 29) = w4 at *
  generalize w3.heap.size = X at *
  have K0 := Lib.hid (write_any _ _ _ _ w4 hJ3 (hE.keep (hb3.mono hbig)) (xS 7) xR)
  cases gri0 : rightN (.mk k n s keys kids) with
  | true =>
    rw [show writeN (.mk k n s keys kids) = (wrN 6 (.mk k n s keys kids), 0) by unfold writeN; rw [if_pos gri0]] at K0
    have HL := right_len _ gri0 xR
    have HW := read_wr _ gri0 xR
    clear gri0
    generalize wrN 6 (.mk k n s keys kids) = u at *
    go_wp2_with (refine load_val X 29 _ rX rfl _ rfl rfl rfl ?_)
    refine K0.out.mono ?_
    rintro e w5 ⟨rfl, hb5⟩
    clear K0
    replace rX := rX.stay hb5
    replace hJ3 := hJ3.keep (S := fun _ => False) (Asd.of_below hb5) (fun _ _ _ h => h)
    replace hb3 := hb3.trans (hb5.mono hb3.size)
    clear hb5
    have K1 := Lib.hid (read_any u w5 (hE.keep (hb3.mono hbig)) HL)
    rw [HW] at K1
    clear HW HL
    go_wp2_with fail
    refine K1.out.mono ?_
    rintro e w6 ⟨c6, rfl, hJ6, hb6⟩
    clear K1
    obtain ⟨p5, po⟩ := hJ6.five
    obtain ⟨d6, kv6, dv6, e7, rfl, -, -⟩ := hJ6.open
    clear e7 d6
    replace rX := rX.stay hb6
    replace hJ3 := hJ3.keep (S := fun _ => False) (Asd.of_below hb6) (fun _ _ _ h => h)
    replace hb3 := hb3.trans (hb6.mono hb3.size)
    clear hb6
    have rN := Rw.new w6 29 zero5
    go_upto_region 8 with (refine store_arr w6.heap.size 29 zero5 rN 5 rfl 29 (by kernel_rfl) (cells5 k n s kv6 dv6) p5 po _ _ rfl rfl rfl rfl ?_)
    rw [World.setRow_alloc_new]
    have rZ := Rw.new w6 29 (cells5 k n s kv6 dv6)
    have hbl : Below w6.heap.size w6 (w6.alloc (.cells (cells5 k n s kv6 dv6).toArray 29)) := (Below.refl _ _).alloc (Nat.le_refl _) _
    replace hJ3 := hJ3.keep (S := fun _ => False) (Asd.of_below hbl) (fun _ _ _ h => h)
    replace hJ6 := hJ6.keep (S := fun _ => False) (Asd.of_below hbl) (fun _ _ _ h => h)
    replace rX := rX.stay hbl
    replace hb3 := hb3.trans (hbl.mono hb3.size)
    clear rN hbl
    generalize w6.alloc (.cells (cells5 k n s kv6 dv6).toArray 29) = w7 at *
    generalize w6.heap.size = Z at *
    have K2 : Hid (Calls Tryd.prog 18 #[.agg #[.int .i64 k, .int .i64 n, .string ⟨s.toArray⟩, kvx, dvx], .agg #[.int .i64 k, .int .i64 n, .string ⟨s.toArray⟩, kv6, dv6]] w7 fun e w' => e = .returned (.bool true) ∧ Below w7.heap.size w7 w') := same_any _ _ _ _ _ _ _ w7 hJ3 hJ6 (xS _)
    have a0 := Rw.cell rX 0
    change _ = some (Value.int .i64 k) at a0
    have a1 := Rw.cell rX 1
    change _ = some (Value.int .i64 n) at a1
    have a2 := Rw.cell rX 2
    change _ = some (Value.string ⟨s.toArray⟩) at a2
    have a3 := Rw.cell rX 3
    change _ = some kvx at a3
    have a4 := Rw.cell rX 4
    change _ = some dvx at a4
    have b0 := Rw.cell rZ 0
    change _ = some (Value.int .i64 k) at b0
    have b1 := Rw.cell rZ 1
    change _ = some (Value.int .i64 n) at b1
    have b2 := Rw.cell rZ 2
    change _ = some (Value.string ⟨s.toArray⟩) at b2
    have b3 := Rw.cell rZ 3
    change _ = some kv6 at b3
    have b4 := Rw.cell rZ 4
    change _ = some dv6 at b4
    go_wp2_with fail
    refine K2.out.mono ?_
    rintro e w9 ⟨rfl, hb9'⟩
    clear K2 a0 a1 a2 a3 a4 b0 b1 b2 b3 b4
    have hb9 := hb3.trans (hb9'.mono hb3.size)
    clear hb3 hb9' hJ3 hJ6 rX rZ xS xR p5 po x5 xo
    have hE9 := hE.keep (hb9.mono hbig)
    -- <<1
    have K1 := Lib.hid (read_any l w9 hE9 (by omega))
    obtain ⟨gS, gR, gri, gz⟩ := read_good l
    generalize readN l = R at *
    obtain ⟨y, er⟩ := R
    simp only at *
    go_wp2_with fail
    refine K1.out.mono ?_
    rintro e wa ⟨ca, rfl, hJa, hba⟩
    clear K1
    obtain ⟨q5, qo⟩ := hJa.five
    obtain ⟨k, n, s, keys, kids⟩ := y
    obtain ⟨da, kva, dva, e7, rfl, -, -⟩ := hJa.open
    clear e7 da
    replace hb9 := hb9.trans (hba.mono hb9.size)
    clear hba hE9
    have rN := Rw.new wa 29 zero5
    go_upto_region 11 with (refine store_arr wa.heap.size 29 zero5 rN 5 rfl 29 (by kernel_rfl) (cells5 k n s kva dva) q5 qo _ _ rfl rfl rfl rfl ?_)
    rw [World.setRow_alloc_new]
    have rY := Rw.new wa 29 (cells5 k n s kva dva)
    have hbl : Below wa.heap.size wa (wa.alloc (.cells (cells5 k n s kva dva).toArray 29)) := (Below.refl _ _).alloc (Nat.le_refl _) _
    replace hJa := hJa.keep (S := fun _ => False) (Asd.of_below hbl) (fun _ _ _ h => h)
    replace hb9 := hb9.trans (hbl.mono hb9.size)
    clear rN hbl
    generalize wa.alloc (.cells (cells5 k n s kva dva).toArray 29) = wb at *
    generalize wa.heap.size = T at *
    have hEb := hE.keep (hb9.mono hbig)
    by_cases her : er = 0
    · subst her
      have K2 := Lib.hid (write_any _ _ _ _ wb hJa hEb gS gR)
      rw [show writeN (.mk k n s keys kids) = (wrN 6 (.mk k n s keys kids), 0) by unfold writeN; rw [if_pos gri]] at K2
      have HL := right_len _ gri gR
      have HW := read_wr _ gri gR
      generalize wrN 6 (.mk k n s keys kids) = u at *
      go_wp2_with (refine load_val T 29 _ rY rfl _ rfl rfl rfl ?_)
      refine K2.out.mono ?_
      rintro e wc ⟨rfl, hbc⟩
      clear K2
      replace rY := rY.stay hbc
      replace hJa := hJa.keep (S := fun _ => False) (Asd.of_below hbc) (fun _ _ _ h => h)
      replace hb9 := hb9.trans (hbc.mono hb9.size)
      clear hbc hEb
      have K3 := Lib.hid (read_any u wc (hE.keep (hb9.mono hbig)) HL)
      rw [HW] at K3
      clear HW HL
      go_wp2_with fail
      refine K3.out.mono ?_
      rintro e wd ⟨cd, rfl, hJd, hbd⟩
      clear K3
      obtain ⟨p5, po⟩ := hJd.five
      obtain ⟨dd, kvd, dvd, e7, rfl, -, -⟩ := hJd.open
      clear e7 dd
      replace rY := rY.stay hbd
      replace hJa := hJa.keep (S := fun _ => False) (Asd.of_below hbd) (fun _ _ _ h => h)
      replace hb9 := hb9.trans (hbd.mono hb9.size)
      clear hbd
      have rN := Rw.new wd 29 zero5
      go_upto_region 15 with (refine store_arr wd.heap.size 29 zero5 rN 5 rfl 29 (by kernel_rfl) (cells5 k n s kvd dvd) p5 po _ _ rfl rfl rfl rfl ?_)
      rw [World.setRow_alloc_new]
      have rZ := Rw.new wd 29 (cells5 k n s kvd dvd)
      have hbl : Below wd.heap.size wd (wd.alloc (.cells (cells5 k n s kvd dvd).toArray 29)) := (Below.refl _ _).alloc (Nat.le_refl _) _
      replace hJa := hJa.keep (S := fun _ => False) (Asd.of_below hbl) (fun _ _ _ h => h)
      replace hJd := hJd.keep (S := fun _ => False) (Asd.of_below hbl) (fun _ _ _ h => h)
      replace rY := rY.stay hbl
      replace hb9 := hb9.trans (hbl.mono hb9.size)
      clear rN hbl
      generalize wd.alloc (.cells (cells5 k n s kvd dvd).toArray 29) = we at *
      generalize wd.heap.size = T2 at *
      have K4 : Hid (Calls Tryd.prog 18 #[.agg #[.int .i64 k, .int .i64 n, .string ⟨s.toArray⟩, kva, dva], .agg #[.int .i64 k, .int .i64 n, .string ⟨s.toArray⟩, kvd, dvd]] we fun e w' => e = .returned (.bool true) ∧ Below we.heap.size we w') := same_any _ _ _ _ _ _ _ we hJa hJd gS
      have a0 := Rw.cell rY 0
      change _ = some (Value.int .i64 k) at a0
      have a1 := Rw.cell rY 1
      change _ = some (Value.int .i64 n) at a1
      have a2 := Rw.cell rY 2
      change _ = some (Value.string ⟨s.toArray⟩) at a2
      have a3 := Rw.cell rY 3
      change _ = some kva at a3
      have a4 := Rw.cell rY 4
      change _ = some dva at a4
      have b0 := Rw.cell rZ 0
      change _ = some (Value.int .i64 k) at b0
      have b1 := Rw.cell rZ 1
      change _ = some (Value.int .i64 n) at b1
      have b2 := Rw.cell rZ 2
      change _ = some (Value.string ⟨s.toArray⟩) at b2
      have b3 := Rw.cell rZ 3
      change _ = some kvd at b3
      have b4 := Rw.cell rZ 4
      change _ = some dvd at b4
      go_wp2_with fail
      refine K4.out.mono ?_
      rintro e wf ⟨rfl, hbf⟩
      clear K4 a0 a1 a2 a3 a4 b0 b1 b2 b3 b4
      replace rY := rY.stay hbf
      replace hJa := hJa.keep (S := fun _ => False) (Asd.of_below hbf) (fun _ _ _ h => h)
      replace hb9 := hb9.trans (hbf.mono hb9.size)
      clear hbf
      have K5 : Hid (Calls Tryd.prog 16 #[.agg #[.int .i64 k, .int .i64 n, .string ⟨s.toArray⟩, kva, dva]] wf fun e w' => e = .returned (.bool (rightN (.mk k n s keys kids))) ∧ Below wf.heap.size wf w') := right_any _ _ _ _ wf hJa (hE.keep (hb9.mono hbig)) gS
      rw [gri] at K5
      have a0 := Rw.cell rY 0
      change _ = some (Value.int .i64 k) at a0
      have a1 := Rw.cell rY 1
      change _ = some (Value.int .i64 n) at a1
      have a2 := Rw.cell rY 2
      change _ = some (Value.string ⟨s.toArray⟩) at a2
      have a3 := Rw.cell rY 3
      change _ = some kva at a3
      have a4 := Rw.cell rY 4
      change _ = some dva at a4
      go_wp2_with fail
      refine K5.out.mono ?_
      rintro e wg ⟨rfl, hbg⟩
      clear K5 a0 a1 a2 a3 a4
      go_wp2_with fail
      go_ret
      exact ⟨rfl, hb9.trans (hbg.mono hb9.size)⟩
    · have her' : (er == 0) = false := by rw [beq_eq_false_iff_ne]; exact her
      have gz' := gz her
      have K2 := Lib.hid (same_any _ _ (fun _ => True) 1 _ zero5 _ wb hJa (by rw [gz']; exact JAt.leaf _ _ 0 0 0 []) gS)
      clear gz gz'
      go_wp2_with (refine load_val T 29 _ rY rfl _ rfl rfl rfl ?_)
      refine K2.out.mono ?_
      rintro e wc ⟨rfl, hbc⟩
      clear K2
      go_wp2_with fail
      go_ret
      exact ⟨rfl, hb9.trans (hbc.mono hb9.size)⟩
    -- >>1
  | false =>
    rw [show writeN (.mk k n s keys kids) = ([], 1) by unfold writeN; rw [if_neg (by rw [gri0]; decide)]] at K0
    clear gri0
    go_wp2_with (refine load_val X 29 _ rX rfl _ rfl rfl rfl ?_)
    refine K0.out.mono ?_
    rintro e w9 ⟨rfl, hb9'⟩
    clear K0
    have hb9 := hb3.trans (hb9'.mono hb3.size)
    clear hb3 hb9' hJ3 rX xS xR x5 xo
    have hE9 := hE.keep (hb9.mono hbig)
    -- <<2
    have K1 := Lib.hid (read_any l w9 hE9 (by omega))
    obtain ⟨gS, gR, gri, gz⟩ := read_good l
    generalize readN l = R at *
    obtain ⟨y, er⟩ := R
    simp only at *
    go_wp2_with fail
    refine K1.out.mono ?_
    rintro e wa ⟨ca, rfl, hJa, hba⟩
    clear K1
    obtain ⟨q5, qo⟩ := hJa.five
    obtain ⟨k, n, s, keys, kids⟩ := y
    obtain ⟨da, kva, dva, e7, rfl, -, -⟩ := hJa.open
    clear e7 da
    replace hb9 := hb9.trans (hba.mono hb9.size)
    clear hba hE9
    have rN := Rw.new wa 29 zero5
    go_upto_region 11 with (refine store_arr wa.heap.size 29 zero5 rN 5 rfl 29 (by kernel_rfl) (cells5 k n s kva dva) q5 qo _ _ rfl rfl rfl rfl ?_)
    rw [World.setRow_alloc_new]
    have rY := Rw.new wa 29 (cells5 k n s kva dva)
    have hbl : Below wa.heap.size wa (wa.alloc (.cells (cells5 k n s kva dva).toArray 29)) := (Below.refl _ _).alloc (Nat.le_refl _) _
    replace hJa := hJa.keep (S := fun _ => False) (Asd.of_below hbl) (fun _ _ _ h => h)
    replace hb9 := hb9.trans (hbl.mono hb9.size)
    clear rN hbl
    generalize wa.alloc (.cells (cells5 k n s kva dva).toArray 29) = wb at *
    generalize wa.heap.size = T at *
    have hEb := hE.keep (hb9.mono hbig)
    by_cases her : er = 0
    · subst her
      have K2 := Lib.hid (write_any _ _ _ _ wb hJa hEb gS gR)
      rw [show writeN (.mk k n s keys kids) = (wrN 6 (.mk k n s keys kids), 0) by unfold writeN; rw [if_pos gri]] at K2
      have HL := right_len _ gri gR
      have HW := read_wr _ gri gR
      generalize wrN 6 (.mk k n s keys kids) = u at *
      go_wp2_with (refine load_val T 29 _ rY rfl _ rfl rfl rfl ?_)
      refine K2.out.mono ?_
      rintro e wc ⟨rfl, hbc⟩
      clear K2
      replace rY := rY.stay hbc
      replace hJa := hJa.keep (S := fun _ => False) (Asd.of_below hbc) (fun _ _ _ h => h)
      replace hb9 := hb9.trans (hbc.mono hb9.size)
      clear hbc hEb
      have K3 := Lib.hid (read_any u wc (hE.keep (hb9.mono hbig)) HL)
      rw [HW] at K3
      clear HW HL
      go_wp2_with fail
      refine K3.out.mono ?_
      rintro e wd ⟨cd, rfl, hJd, hbd⟩
      clear K3
      obtain ⟨p5, po⟩ := hJd.five
      obtain ⟨dd, kvd, dvd, e7, rfl, -, -⟩ := hJd.open
      clear e7 dd
      replace rY := rY.stay hbd
      replace hJa := hJa.keep (S := fun _ => False) (Asd.of_below hbd) (fun _ _ _ h => h)
      replace hb9 := hb9.trans (hbd.mono hb9.size)
      clear hbd
      have rN := Rw.new wd 29 zero5
      go_upto_region 15 with (refine store_arr wd.heap.size 29 zero5 rN 5 rfl 29 (by kernel_rfl) (cells5 k n s kvd dvd) p5 po _ _ rfl rfl rfl rfl ?_)
      rw [World.setRow_alloc_new]
      have rZ := Rw.new wd 29 (cells5 k n s kvd dvd)
      have hbl : Below wd.heap.size wd (wd.alloc (.cells (cells5 k n s kvd dvd).toArray 29)) := (Below.refl _ _).alloc (Nat.le_refl _) _
      replace hJa := hJa.keep (S := fun _ => False) (Asd.of_below hbl) (fun _ _ _ h => h)
      replace hJd := hJd.keep (S := fun _ => False) (Asd.of_below hbl) (fun _ _ _ h => h)
      replace rY := rY.stay hbl
      replace hb9 := hb9.trans (hbl.mono hb9.size)
      clear rN hbl
      generalize wd.alloc (.cells (cells5 k n s kvd dvd).toArray 29) = we at *
      generalize wd.heap.size = T2 at *
      have K4 : Hid (Calls Tryd.prog 18 #[.agg #[.int .i64 k, .int .i64 n, .string ⟨s.toArray⟩, kva, dva], .agg #[.int .i64 k, .int .i64 n, .string ⟨s.toArray⟩, kvd, dvd]] we fun e w' => e = .returned (.bool true) ∧ Below we.heap.size we w') := same_any _ _ _ _ _ _ _ we hJa hJd gS
      have a0 := Rw.cell rY 0
      change _ = some (Value.int .i64 k) at a0
      have a1 := Rw.cell rY 1
      change _ = some (Value.int .i64 n) at a1
      have a2 := Rw.cell rY 2
      change _ = some (Value.string ⟨s.toArray⟩) at a2
      have a3 := Rw.cell rY 3
      change _ = some kva at a3
      have a4 := Rw.cell rY 4
      change _ = some dva at a4
      have b0 := Rw.cell rZ 0
      change _ = some (Value.int .i64 k) at b0
      have b1 := Rw.cell rZ 1
      change _ = some (Value.int .i64 n) at b1
      have b2 := Rw.cell rZ 2
      change _ = some (Value.string ⟨s.toArray⟩) at b2
      have b3 := Rw.cell rZ 3
      change _ = some kvd at b3
      have b4 := Rw.cell rZ 4
      change _ = some dvd at b4
      go_wp2_with fail
      refine K4.out.mono ?_
      rintro e wf ⟨rfl, hbf⟩
      clear K4 a0 a1 a2 a3 a4 b0 b1 b2 b3 b4
      replace rY := rY.stay hbf
      replace hJa := hJa.keep (S := fun _ => False) (Asd.of_below hbf) (fun _ _ _ h => h)
      replace hb9 := hb9.trans (hbf.mono hb9.size)
      clear hbf
      have K5 : Hid (Calls Tryd.prog 16 #[.agg #[.int .i64 k, .int .i64 n, .string ⟨s.toArray⟩, kva, dva]] wf fun e w' => e = .returned (.bool (rightN (.mk k n s keys kids))) ∧ Below wf.heap.size wf w') := right_any _ _ _ _ wf hJa (hE.keep (hb9.mono hbig)) gS
      rw [gri] at K5
      have a0 := Rw.cell rY 0
      change _ = some (Value.int .i64 k) at a0
      have a1 := Rw.cell rY 1
      change _ = some (Value.int .i64 n) at a1
      have a2 := Rw.cell rY 2
      change _ = some (Value.string ⟨s.toArray⟩) at a2
      have a3 := Rw.cell rY 3
      change _ = some kva at a3
      have a4 := Rw.cell rY 4
      change _ = some dva at a4
      go_wp2_with fail
      refine K5.out.mono ?_
      rintro e wg ⟨rfl, hbg⟩
      clear K5 a0 a1 a2 a3 a4
      go_wp2_with fail
      go_ret
      exact ⟨rfl, hb9.trans (hbg.mono hb9.size)⟩
    · have her' : (er == 0) = false := by rw [beq_eq_false_iff_ne]; exact her
      have gz' := gz her
      have K2 := Lib.hid (same_any _ _ (fun _ => True) 1 _ zero5 _ wb hJa (by rw [gz']; exact JAt.leaf _ _ 0 0 0 []) gS)
      clear gz gz'
      go_wp2_with (refine load_val T 29 _ rY rfl _ rfl rfl rfl ?_)
      refine K2.out.mono ?_
      rintro e wc ⟨rfl, hbc⟩
      clear K2
      go_wp2_with fail
      go_ret
      exact ⟨rfl, hb9.trans (hbc.mono hb9.size)⟩
    -- >>2
end Go.Proofs.YtbkkcojfgdjbhaaDoor
