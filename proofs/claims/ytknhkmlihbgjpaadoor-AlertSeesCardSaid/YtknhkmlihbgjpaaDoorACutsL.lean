/- AlertCuts returns true: the law. -/
import Derived.Test.YtknhkmlihbgjpaaDoorAR
import Derived.Test.YtknhkmlihbgjpaaDoorAS
import Derived.Test.YtknhkmlihbgjpaaDoorAAs
import Derived.Test.YtknhkmlihbgjpaaDoorAOut
namespace Go.Proofs.YtknhkmlihbgjpaaDoor
open Go.ChangeShapes Go.WideShapes Go.RowKit

theorem RowsAt.upto {k : Nat} {P : Nat → Prop} {w : World} {a : Option Addr} {n c : Nat} {css : List (List Value)} (h : RowsAt k P w (.slice a n c) css) {j : Nat} (hj : j ≤ css.length) : RowsAt k P w (.slice a j c) (css.take j) := by
  rcases h with ⟨e, _⟩ | ⟨g, o, c', e, hle, hp, hg, hc⟩
  · subst e
    obtain rfl : j = 0 := by simpa using hj
    exact .inl ⟨rfl, a, c, rfl⟩
  · injection e with e1 _ e3
    subst e1 e3
    refine .inr ⟨g, o, c, by rw [List.length_take, Nat.min_eq_left hj], by rw [List.length_take]; omega, hp, hg, fun i s hi => hc i s ?_⟩
    exact (List.getElem?_take_of_lt (by have := (List.getElem?_eq_some_iff.1 hi).1; rw [List.length_take] at this; omega)).symm.trans hi
theorem NdsAt.cut {P : Nat → Prop} {w : World} {y : Sl} {ns : List Nd} (h : NdsAt P w y.v ns) (hn : y.n = ns.length) : NdsAt P w (y.cut 14).v (ns.take 14) := by
  have e := RowsAt.upto (j := min y.n 14) h (by rw [List.length_map]; omega)
  rw [← List.map_take] at e
  have e2 : ns.take (min y.n 14) = ns.take 14 := by
    rw [hn]
    rcases Nat.le_total ns.length 14 with h1 | h1
    · rw [Nat.min_eq_left h1, List.take_length, List.take_of_length_le h1]
    · rw [Nat.min_eq_right h1]
  rw [e2] at e
  exact e
/-- What both Cuts return, as one case. -/
def CutQ (cb : Bool) (S1 : Bs) (F1 : List (Bs × Bs)) (L1 C1 P1 Q1 : Int) (w : World) (e : Ending) (w' : World) : Prop := Below w.heap.size w w' ∧ ∃ z : Sl, e = .returned (.tuple #[alV S1 z.v L1 C1 P1 Q1, .bool cb]) ∧ FldsAt (fun k => w.heap.size ≤ k ∧ k < w'.heap.size) w' z.v F1
theorem cutq {ns : List Nd} {s : Bs} {l c m d p q : Int} {fs : List (Bs × Bs)} {w w' : World} {e : Ending} {cb : Bool} (hcb : cutB ns l c m d fs = cb) (h : CutP ns s l c m d p q fs w e w') : CutQ cb (outS cb s) (outS cb (visF ns l c m d fs)) (outI cb l) (outI cb c) (outI cb p) (outI cb q) w e w' := by
  subst hcb
  obtain ⟨hb, ⟨h, rfl⟩ | ⟨h, z, rfl, hown⟩⟩ := h
  · rw [h]
    exact ⟨hb, ⟨none, 0, 0⟩, rfl, .inl ⟨rfl, none, 0, rfl⟩⟩
  · rw [h]
    exact ⟨hb, z, rfl, (own_flds hown).mono fun i hi _ => ⟨(hown.lt i hi).1, (hown.lt i hi).2⟩⟩
set_option maxHeartbeats 12800000 in
set_option maxRecDepth 100000 in
theorem cuts_law (x0 x1 x2 x3 x4 x5 : Sl) (ns : List Nd) (s : Bs) (y : Sl) (fs : List (Bs × Bs)) (l c p q m d : Int) (w : World) (ht : Dg.Tabs w) (hN : NdsAt (fun _ => True) w x3.v ns) (h0 : SlOk x0) (h1 : SlOk x1) (h2 : SlOk x2) (h3 : SlOk x3) (h4 : SlOk x4) (h5 : SlOk x5)
    (hn3 : x3.n = ns.length) (hu : ∀ m ∈ ns, U32 m.c) (h : FldsAt (fun _ => True) w y.v fs) (hl : fs.length ≤ 9223372036854775807) (hc : U32 c) (hd : U32 d) :
    Calls Tryd.prog 4 #[.agg #[x0.v, x1.v, x2.v, x3.v, x4.v, x5.v], alV s y.v l c p q, .agg #[.int .i64 m, .int .u32 d]] w fun e w' => e = .returned (.bool true) ∧ Below w.heap.size w w' := by
  have KL := Lib.hid fun w' (hb : Below w.heap.size w w') => lives_any w' (ht.keep hb)
  have KP := Lib.hid fun w' => rcutp_any x0 x1 x2 x3 x4 x5 w' h0 h1 h2 h3 h4 h5
  have KB := Lib.hid fun w' (hb : Below w.heap.size w w') => back_any (fun _ => True) s y fs l c p q w' (h.stay hb) hl
  have KA := Lib.hid fun (z : Sl) w' => asd_any s z l c p q w'
  have hN2 := NdsAt.cut hN hn3
  obtain ⟨cb, hcb⟩ : ∃ cb, cutB (ns.take 14) l c m d (fs.take 12) = cb := ⟨_, rfl⟩
  have hF1 : (outS cb (visF (ns.take 14) l c m d (fs.take 12))).length ≤ 1000000 := Nat.le_trans (outS_len _ _) (Nat.le_trans (vis_len ..) (by rw [List.length_take]; omega))
  have KC := Lib.hid fun (z : Sl) w' (hb : Below w.heap.size w w') (hz : FldsAt (fun _ => True) w' z.v (fs.take 12)) => (cut_any (fun _ => True) (fun _ => True) (x0.cut 14) (x1.cut 14) (x2.cut 14) (x3.cut 14) (x4.cut 14) (x5.cut 14) z s (ns.take 14) (fs.take 12) l c m d p q w' hz (by rw [List.length_take]; omega) (hN2.stay hb) (by rw [List.length_take]; omega) (fun m hm => hu m (List.mem_of_mem_take hm)) hc hd).mono fun _ _ h => cutq hcb h
  have KD := Lib.hid fun (z : Sl) w' (hb : Below w.heap.size w w') (hz : FldsAt (fun _ => True) w' z.v (fs.take 12)) => (rcut9_any (fun _ => True) (fun _ => True) (x0.cut 14) (x1.cut 14) (x2.cut 14) (x3.cut 14) (x4.cut 14) (x5.cut 14) z s (ns.take 14) (fs.take 12) l c m d p q w' hz (by rw [List.length_take]; omega) (hN2.stay hb) (by rw [List.length_take]; omega) (fun m hm => hu m (List.mem_of_mem_take hm)) hc hd).mono fun _ _ h => cutq hcb h
  generalize outS cb (visF (ns.take 14) l c m d (fs.take 12)) = F1 at *
  generalize hS1 : outS cb s = S1 at KC KD
  generalize hL1 : outI cb l = L1 at KC KD
  generalize hC1 : outI cb c = C1 at KC KD
  generalize hP1 : outI cb p = P1 at KC KD
  generalize hQ1 : outI cb q = Q1 at KC KD
  clear hS1 hL1 hC1 hP1 hQ1 hcb hN2 hN h h0 h1 h2 h3 h4 h5 hn3 hu hl ht
  generalize fs.take 12 = F0 at *
  generalize x0.cut 14 = y0 at *
  generalize x1.cut 14 = y1 at *
  generalize x2.cut 14 = y2 at *
  generalize x3.cut 14 = y3 at *
  generalize x4.cut 14 = y4 at *
  generalize x5.cut 14 = y5 at *
  obtain ⟨a0, n0, k0⟩ := x0
  obtain ⟨b0, j0, t0⟩ := y0
  obtain ⟨a1, n1, k1⟩ := x1
  obtain ⟨b1, j1, t1⟩ := y1
  obtain ⟨a2, n2, k2⟩ := x2
  obtain ⟨b2, j2, t2⟩ := y2
  obtain ⟨a3, n3, k3⟩ := x3
  obtain ⟨b3, j3, t3⟩ := y3
  obtain ⟨a4, n4, k4⟩ := x4
  obtain ⟨b4, j4, t4⟩ := y4
  obtain ⟨a5, n5, k5⟩ := x5
  obtain ⟨b5, j5, t5⟩ := y5
  obtain ⟨ay, ny, ky⟩ := y
  unfold alV at *
  simp only [Sl.v] at KP KB KC KD ⊢
  go_enter Tryd.func4, Tryd.ntmps4
  go_upto_region 1 with fail
  obtain ⟨rP, rA, rT, hB⟩ := put3n w 50 27 25 [.slice a0 n0 k0, .slice a1 n1 k1, .slice a2 n2 k2, .slice a3 n3 k3, .slice a4 n4 k4, .slice a5 n5 k5] [.string ⟨s.toArray⟩, .slice ay ny ky, .int .i64 l, .int .u32 c, .int .i64 p, .int .i64 q] [.int .i64 m, .int .u32 d]
  generalize ((w.alloc (.cells #[.slice a0 n0 k0, .slice a1 n1 k1, .slice a2 n2 k2, .slice a3 n3 k3, .slice a4 n4 k4, .slice a5 n5 k5] 50)).alloc (.cells #[.string ⟨s.toArray⟩, .slice ay ny ky, .int .i64 l, .int .u32 c, .int .i64 p, .int .i64 q] 27)).alloc (.cells #[.int .i64 m, .int .u32 d] 25) = w1 at *
  generalize hbT : w.heap.size + 1 + 1 = bT at rT ⊢
  generalize hbA : w.heap.size + 1 = bA at rA ⊢
  generalize hbP : w.heap.size = bP at rP ⊢
  have hne : bP ≠ bA ∧ bP ≠ bT ∧ w.heap.size ≤ bP := by omega
  have HBP : Unit → w.heap.size = bP := fun _ => hbP
  clear hbT hbA hbP
  go_wp2_with fail
  refine (KL.out _ hB).mono ?_
  rintro e w2 ⟨rfl, hb⟩
  replace hB := hB.trans (hb.mono hB.size)
  replace rP := rP.stay hb
  replace rA := rA.stay hb
  replace rT := rT.stay hb
  clear KL hb
  have p0 := Rw.cell rP 0
  have p1 := Rw.cell rP 1
  have p2 := Rw.cell rP 2
  have p3 := Rw.cell rP 3
  have p4 := Rw.cell rP 4
  have p5 := Rw.cell rP 5
  simp only [List.getElem?_cons_zero, List.getElem?_cons_succ] at p0 p1 p2 p3 p4 p5
  go_wp2_with fail
  refine (KP.out _).mono ?_
  rintro e w3 ⟨rfl, hb⟩
  replace hB := hB.trans (hb.mono hB.size)
  replace rP := rP.stay hb
  replace rA := rA.stay hb
  replace rT := rT.stay hb
  clear KP hb
  clear p0 p1 p2 p3 p4 p5
  have p0 := Rw.cell rP 0
  have p1 := Rw.cell rP 1
  have p2 := Rw.cell rP 2
  have p3 := Rw.cell rP 3
  have p4 := Rw.cell rP 4
  have p5 := Rw.cell rP 5
  simp only [List.getElem?_cons_zero, List.getElem?_cons_succ] at p0 p1 p2 p3 p4 p5
  have z0 := Rw.frozen rP 0
  have z1 := Rw.frozen rP 1
  have z2 := Rw.frozen rP 2
  have z3 := Rw.frozen rP 3
  have z4 := Rw.frozen rP 4
  have z5 := Rw.frozen rP 5
  go_upto_region 4 with fail
  replace rP := rP.set6 (.slice b0 j0 t0) (.slice b1 j1 t1) (.slice b2 j2 t2) (.slice b3 j3 t3) (.slice b4 j4 t4) (.slice b5 j5 t5)
  replace rA := ((((((rA.other (Ne.symm hne.1) 0 (.slice b0 j0 t0)).other (Ne.symm hne.1) 1 (.slice b1 j1 t1)).other (Ne.symm hne.1) 2 (.slice b2 j2 t2)).other (Ne.symm hne.1) 3 (.slice b3 j3 t3)).other (Ne.symm hne.1) 4 (.slice b4 j4 t4)).other (Ne.symm hne.1) 5 (.slice b5 j5 t5))
  replace rT := ((((((rT.other (Ne.symm hne.2.1) 0 (.slice b0 j0 t0)).other (Ne.symm hne.2.1) 1 (.slice b1 j1 t1)).other (Ne.symm hne.2.1) 2 (.slice b2 j2 t2)).other (Ne.symm hne.2.1) 3 (.slice b3 j3 t3)).other (Ne.symm hne.2.1) 4 (.slice b4 j4 t4)).other (Ne.symm hne.2.1) 5 (.slice b5 j5 t5))
  replace hB := below_set6 hB hne.2.2 (.slice b0 j0 t0) (.slice b1 j1 t1) (.slice b2 j2 t2) (.slice b3 j3 t3) (.slice b4 j4 t4) (.slice b5 j5 t5)
  generalize (((((w3.setCell ⟨bP, 0, none⟩ (.slice b0 j0 t0)).setCell ⟨bP, 1, none⟩ (.slice b1 j1 t1)).setCell ⟨bP, 2, none⟩ (.slice b2 j2 t2)).setCell ⟨bP, 3, none⟩ (.slice b3 j3 t3)).setCell ⟨bP, 4, none⟩ (.slice b4 j4 t4)).setCell ⟨bP, 5, none⟩ (.slice b5 j5 t5) = w4 at *
  clear p0 p1 p2 p3 p4 p5 z0 z1 z2 z3 z4 z5
  have e0 := Rw.cell rA 0
  have e1 := Rw.cell rA 1
  have e2 := Rw.cell rA 2
  have e3 := Rw.cell rA 3
  have e4 := Rw.cell rA 4
  have e5 := Rw.cell rA 5
  simp only [List.getElem?_cons_zero, List.getElem?_cons_succ] at e0 e1 e2 e3 e4 e5
  go_wp2_with fail
  refine (KB.out _ hB).mono ?_
  rintro e w5 ⟨⟨az, nz, kz⟩, rfl, hz, hb⟩
  replace hB := hB.trans (hb.mono hB.size)
  replace rP := rP.stay hb
  replace rT := rT.stay hb
  clear KB hb rA
  simp only at hz ⊢
  clear e0 e1 e2 e3 e4 e5
  have hal : Below w5.heap.size w5 (w5.alloc (.cells #[.string ⟨s.toArray⟩, .slice az nz kz, .int .i64 l, .int .u32 c, .int .i64 p, .int .i64 q] 29)) := (Below.refl _ _).alloc (Nat.le_refl _) _
  have rX : Rw (w5.alloc (.cells #[.string ⟨s.toArray⟩, .slice az nz kz, .int .i64 l, .int .u32 c, .int .i64 p, .int .i64 q] 29)) w5.heap.size 29 [.string ⟨s.toArray⟩, .slice az nz kz, .int .i64 l, .int .u32 c, .int .i64 p, .int .i64 q] := Rw.new w5 29 [.string ⟨s.toArray⟩, .slice az nz kz, .int .i64 l, .int .u32 c, .int .i64 p, .int .i64 q]
  replace hB := hB.trans (hal.mono hB.size)
  replace hz := hz.stay hal
  replace rP := rP.stay hal
  replace rT := rT.stay hal
  go_upto_region 5 with fail
  generalize w5.alloc (.cells #[.string ⟨s.toArray⟩, .slice az nz kz, .int .i64 l, .int .u32 c, .int .i64 p, .int .i64 q] 29) = w6 at *
  generalize w5.heap.size = bX at *
  clear hal
  have p0 := Rw.cell rP 0
  have p1 := Rw.cell rP 1
  have p2 := Rw.cell rP 2
  have p3 := Rw.cell rP 3
  have p4 := Rw.cell rP 4
  have p5 := Rw.cell rP 5
  simp only [List.getElem?_cons_zero, List.getElem?_cons_succ] at p0 p1 p2 p3 p4 p5
  have e0 := Rw.cell rX 0
  have e1 := Rw.cell rX 1
  have e2 := Rw.cell rX 2
  have e3 := Rw.cell rX 3
  have e4 := Rw.cell rX 4
  have e5 := Rw.cell rX 5
  simp only [List.getElem?_cons_zero, List.getElem?_cons_succ] at e0 e1 e2 e3 e4 e5
  have g0 := Rw.cell rT 0
  have g1 := Rw.cell rT 1
  simp only [List.getElem?_cons_zero, List.getElem?_cons_succ] at g0 g1
  have K0 := KC.out ⟨az, nz, kz⟩ w6 hB hz
  unfold CutQ alV at K0
  simp only [Sl.v] at K0
  replace K0 := Lib.hid K0
  go_wp2_with fail
  refine K0.out.mono ?_
  rintro e w7 ⟨hb, ⟨ab, nb, kb⟩, rfl, hzb⟩
  replace hzb : FldsAt (fun _ => True) w7 (Sl.v ⟨ab, nb, kb⟩) F1 := hzb.mono fun _ _ _ => trivial
  replace hB := hB.trans (hb.mono hB.size)
  replace rP := rP.stay hb
  replace rT := rT.stay hb
  replace rX := rX.stay hb
  replace hz := hz.stay hb
  clear K0 KC hb
  try unfold alV
  simp only [Sl.v] at hzb ⊢
  clear p0 p1 p2 p3 p4 p5 e0 e1 e2 e3 e4 e5 g0 g1
  have hal : Below w7.heap.size w7 (w7.alloc (.cells #[.string ⟨S1.toArray⟩, .slice ab nb kb, .int .i64 L1, .int .u32 C1, .int .i64 P1, .int .i64 Q1] 29)) := (Below.refl _ _).alloc (Nat.le_refl _) _
  have rB : Rw (w7.alloc (.cells #[.string ⟨S1.toArray⟩, .slice ab nb kb, .int .i64 L1, .int .u32 C1, .int .i64 P1, .int .i64 Q1] 29)) w7.heap.size 29 [.string ⟨S1.toArray⟩, .slice ab nb kb, .int .i64 L1, .int .u32 C1, .int .i64 P1, .int .i64 Q1] := Rw.new w7 29 [.string ⟨S1.toArray⟩, .slice ab nb kb, .int .i64 L1, .int .u32 C1, .int .i64 P1, .int .i64 Q1]
  replace hB := hB.trans (hal.mono hB.size)
  replace hz := hz.stay hal
  replace hzb := hzb.stay hal
  replace rP := rP.stay hal
  replace rT := rT.stay hal
  replace rX := rX.stay hal
  go_upto_region 6 with fail
  generalize w7.alloc (.cells #[.string ⟨S1.toArray⟩, .slice ab nb kb, .int .i64 L1, .int .u32 C1, .int .i64 P1, .int .i64 Q1] 29) = w8 at *
  generalize w7.heap.size = bB at *
  clear hal
  have hCL := Lib.hid fun w' (k : Below w8.heap.size w8 w') => (show CL w8 [(⟨bP, 0, none⟩, .slice b0 j0 t0), (⟨bP, 1, none⟩, .slice b1 j1 t1), (⟨bP, 2, none⟩, .slice b2 j2 t2), (⟨bP, 3, none⟩, .slice b3 j3 t3), (⟨bP, 4, none⟩, .slice b4 j4 t4), (⟨bP, 5, none⟩, .slice b5 j5 t5), (⟨bX, 0, none⟩, .string ⟨s.toArray⟩), (⟨bX, 1, none⟩, .slice az nz kz), (⟨bX, 2, none⟩, .int .i64 l), (⟨bX, 3, none⟩, .int .u32 c), (⟨bX, 4, none⟩, .int .i64 p), (⟨bX, 5, none⟩, .int .i64 q), (⟨bT, 0, none⟩, .int .i64 m), (⟨bT, 1, none⟩, .int .u32 d)] w' from (((((((((((((((CL.bare k).row (rT.stay k) 1 rfl).row (rT.stay k) 0 rfl).row (rX.stay k) 5 rfl).row (rX.stay k) 4 rfl).row (rX.stay k) 3 rfl).row (rX.stay k) 2 rfl).row (rX.stay k) 1 rfl).row (rX.stay k) 0 rfl).row (rP.stay k) 5 rfl).row (rP.stay k) 4 rfl).row (rP.stay k) 3 rfl).row (rP.stay k) 2 rfl).row (rP.stay k) 1 rfl).row (rP.stay k) 0 rfl))
  have KD1 := Lib.hid fun w' (k : Below w8.heap.size w8 w') => KD.out ⟨az, nz, kz⟩ w' (hB.trans (k.mono hB.size)) (hz.stay k)
  have KA1 := Lib.hid fun w' => KA.out ⟨az, nz, kz⟩ w'
  unfold CutQ alV at KD1
  unfold alV at KA1
  simp only [Sl.v] at KD1 KA1
  clear KD
  go_cut [10, 11] from 25 to 32 (fun u10 u11 wx => ∃ g : Nat, u10 = .pointer (some ⟨g, 0, none⟩) ∧ u11 = .bool cb ∧ ∃ zz : Sl, Rw wx g 27 [.string ⟨S1.toArray⟩, zz.v, .int .i64 L1, .int .u32 C1, .int .i64 P1, .int .i64 Q1] ∧ FldsAt (fun _ => True) wx zz.v F1 ∧ Below w8.heap.size w8 wx)
  case first =>
    refine wp_region_held (S := CL w8 [(⟨bP, 0, none⟩, .slice b0 j0 t0), (⟨bP, 1, none⟩, .slice b1 j1 t1), (⟨bP, 2, none⟩, .slice b2 j2 t2), (⟨bP, 3, none⟩, .slice b3 j3 t3), (⟨bP, 4, none⟩, .slice b4 j4 t4), (⟨bP, 5, none⟩, .slice b5 j5 t5), (⟨bX, 0, none⟩, .string ⟨s.toArray⟩), (⟨bX, 1, none⟩, .slice az nz kz), (⟨bX, 2, none⟩, .int .i64 l), (⟨bX, 3, none⟩, .int .u32 c), (⟨bX, 4, none⟩, .int .i64 p), (⟨bX, 5, none⟩, .int .i64 q), (⟨bT, 0, none⟩, .int .i64 m), (⟨bT, 1, none⟩, .int .u32 d)]) (by kernel_rfl) ?_
    have hS := hCL.out w8.drew ((Below.refl w8.heap.size w8).drew)
    change wpAnyH _ _ _ _ _ _ _ _ w8.drew
    generalize w8.drew = D1 at *
    refine held_val 0 rfl (by kernel_rfl) (by kernel_rfl) (by kernel_rfl) (fun _ _ _ _ h => h) (by rfl) hS ?_
    apply Exists.intro
    refine ⟨fun w' hw' => ?_, ?_⟩
    · have e0 := hw'.at 0 rfl; have e1 := hw'.at 1 rfl; have e2 := hw'.at 2 rfl; have e3 := hw'.at 3 rfl; have e4 := hw'.at 4 rfl; have e5 := hw'.at 5 rfl
      go_simp
      first | done | rfl | exact ⟨rfl, rfl⟩
    simp only [Act.put, List.setIfInBounds_toArray, List.set_cons_zero, List.set_cons_succ]
    refine held_val 1 rfl (by kernel_rfl) (by kernel_rfl) (by kernel_rfl) (fun _ _ _ _ h => h) (by rfl) hS ?_
    apply Exists.intro
    refine ⟨fun w' hw' => ?_, ?_⟩
    · have e0 := hw'.at 6 rfl; have e1 := hw'.at 7 rfl; have e2 := hw'.at 8 rfl; have e3 := hw'.at 9 rfl; have e4 := hw'.at 10 rfl; have e5 := hw'.at 11 rfl
      go_simp
      first | done | rfl | exact ⟨rfl, rfl⟩
    simp only [Act.put, List.setIfInBounds_toArray, List.set_cons_zero, List.set_cons_succ]
    refine held_val 3 rfl (by kernel_rfl) (by kernel_rfl) (by kernel_rfl) (fun _ _ _ _ h => h) (by rfl) hS ?_
    apply Exists.intro
    refine ⟨fun w' hw' => ?_, ?_⟩
    · have e0 := hw'.at 12 rfl; have e1 := hw'.at 13 rfl
      go_simp
      first | done | rfl | exact ⟨rfl, rfl⟩
    simp only [Act.put, List.setIfInBounds_toArray, List.set_cons_zero, List.set_cons_succ]
    refine held_two 2 8 (by kernel_rfl) rfl rfl (by rfl) (by rfl) ?_ ?_
    · skip
      refine wp_enter ?_
      apply Exists.intro
      apply Exists.intro
      refine ⟨?_, ?_⟩
      · go_simp
        first | done | rfl | exact ⟨rfl, rfl⟩
      refine (KA1.out _).mono ?_
      rintro e D2 ⟨rfl, hb⟩
      replace hS := hS.go hb
      refine ⟨_, rfl, hS, ?_⟩
      clear hb
      try simp only [Act.put, List.setIfInBounds_toArray, List.set_cons_zero, List.set_cons_succ]
      refine held_two 4 8 (by kernel_rfl) rfl rfl (by rfl) (by rfl) ?_ ?_
      · skip
        refine wp_enter ?_
        apply Exists.intro
        apply Exists.intro
        refine ⟨?_, ?_⟩
        · go_simp
          first | done | rfl | exact ⟨rfl, rfl⟩
        refine (KD1.out _ hS.1).mono ?_
        rintro e D3 ⟨hb, ⟨ac, nc, kc⟩, rfl, hzc⟩
        have hszD3 := hS.1.size
        replace hS := hS.go hb
        replace hzc : FldsAt (fun k => k < D3.heap.size) D3 (.slice ac nc kc) F1 := hzc.mono fun i hi _ => by omega
        refine ⟨_, rfl, hS, ?_⟩
        clear hb
        try simp only [Act.put, List.setIfInBounds_toArray, List.set_cons_zero, List.set_cons_succ]
        refine held_val 5 rfl (by kernel_rfl) (by kernel_rfl) (by kernel_rfl) (fun _ _ _ _ h => h) (by rfl) hS ?_
        apply Exists.intro
        refine ⟨fun w' hw' => ?_, ?_⟩
        · skip
          go_simp
          first | done | rfl | exact ⟨rfl, rfl⟩
        simp only [Act.put, List.setIfInBounds_toArray, List.set_cons_zero, List.set_cons_succ]
        refine held_val 6 rfl (by kernel_rfl) (by kernel_rfl) (by kernel_rfl) (fun _ _ _ _ h => h) (by rfl) hS ?_
        apply Exists.intro
        refine ⟨fun w' hw' => ?_, ?_⟩
        · skip
          go_simp
          first | done | rfl | exact ⟨rfl, rfl⟩
        simp only [Act.put, List.setIfInBounds_toArray, List.set_cons_zero, List.set_cons_succ]
        refine held_val 7 rfl (by kernel_rfl) (by kernel_rfl) (by kernel_rfl) (fun _ _ _ _ h => h) (by rfl) hS ?_
        apply Exists.intro
        refine ⟨fun w' hw' => ?_, ?_⟩
        · skip
          go_simp
          first | done | rfl | exact ⟨rfl, rfl⟩
        simp only [Act.put, List.setIfInBounds_toArray, List.set_cons_zero, List.set_cons_succ]
        refine held_one 8 (by kernel_rfl) rfl (by rfl) ?_
        unfold Oper.wp
        go_simp
        have hal : Below D3.heap.size D3 (D3.alloc (.cells #[.string ⟨#[]⟩, .slice none 0 0, .int .i64 0, .int .u32 0, .int .i64 0, .int .i64 0] 27)) := (Below.refl _ _).alloc (Nat.le_refl _) _
        have rO : Rw (D3.alloc (.cells #[.string ⟨#[]⟩, .slice none 0 0, .int .i64 0, .int .u32 0, .int .i64 0, .int .i64 0] 27)) D3.heap.size 27 [.string ⟨#[]⟩, .slice none 0 0, .int .i64 0, .int .u32 0, .int .i64 0, .int .i64 0] := Rw.new D3 27 [.string ⟨#[]⟩, .slice none 0 0, .int .i64 0, .int .u32 0, .int .i64 0, .int .i64 0]
        have hOb : w8.heap.size ≤ D3.heap.size := hS.1.size
        replace hS := hS.go hal
        replace hzc := hzc.stay hal
        refine ⟨hS, ?_⟩
        clear hal
        generalize D3.alloc (.cells #[.string ⟨#[]⟩, .slice none 0 0, .int .i64 0, .int .u32 0, .int .i64 0, .int .i64 0] 27) = D4 at *
        generalize D3.heap.size = b at *
        try simp only [Act.put, List.setIfInBounds_toArray, List.set_cons_zero, List.set_cons_succ]
        have z0 := Rw.frozen rO 0
        have z1 := Rw.frozen rO 1
        have z2 := Rw.frozen rO 2
        have z3 := Rw.frozen rO 3
        have z4 := Rw.frozen rO 4
        have z5 := Rw.frozen rO 5
        have u0 := Rw.cell rO 0
        have u1 := Rw.cell rO 1
        have u2 := Rw.cell rO 2
        have u3 := Rw.cell rO 3
        have u4 := Rw.cell rO 4
        have u5 := Rw.cell rO 5
        simp only [List.getElem?_cons_zero, List.getElem?_cons_succ] at u0 u1 u2 u3 u4 u5
        have rO2 := rO.set6 (.string ⟨S1.toArray⟩) (.slice ac nc kc) (.int .i64 L1) (.int .u32 C1) (.int .i64 P1) (.int .i64 Q1)
        have hB9 := below_set6 hS.1 hOb (.string ⟨S1.toArray⟩) (.slice ac nc kc) (.int .i64 L1) (.int .u32 C1) (.int .i64 P1) (.int .i64 Q1)
        have hz9 : FldsAt (fun _ => True) ((((((D4.setCell ⟨b, 0, none⟩ (.string ⟨S1.toArray⟩)).setCell ⟨b, 1, none⟩ (.slice ac nc kc)).setCell ⟨b, 2, none⟩ (.int .i64 L1)).setCell ⟨b, 3, none⟩ (.int .u32 C1)).setCell ⟨b, 4, none⟩ (.int .i64 P1)).setCell ⟨b, 5, none⟩ (.int .i64 Q1)) (.slice ac nc kc) F1 :=
          (hzc.keepN (S := fun k => k = b) ((((((Asd.one D4 b 0 _).set1 1 _).set1 2 _).set1 3 _).set1 4 _).set1 5 _) (fun i hi _ e => by have hi2 : i < b := hi; omega)).mono fun _ _ _ => trivial
        refine held_one 9 (by kernel_rfl) rfl (by rfl) ?_
        refine wp_skip (w' := (((((D4.setCell ⟨b, 0, none⟩ (.string ⟨S1.toArray⟩)).setCell ⟨b, 1, none⟩ (.slice ac nc kc)).setCell ⟨b, 2, none⟩ (.int .i64 L1)).setCell ⟨b, 3, none⟩ (.int .u32 C1)).setCell ⟨b, 4, none⟩ (.int .i64 P1)).setCell ⟨b, 5, none⟩ (.int .i64 Q1)) ?_ rfl ?_
        · go_simp
          done
        replace hS := hCL.out _ hB9
        refine ⟨hS, ?_⟩
        generalize (((((D4.setCell ⟨b, 0, none⟩ (.string ⟨S1.toArray⟩)).setCell ⟨b, 1, none⟩ (.slice ac nc kc)).setCell ⟨b, 2, none⟩ (.int .i64 L1)).setCell ⟨b, 3, none⟩ (.int .u32 C1)).setCell ⟨b, 4, none⟩ (.int .i64 P1)).setCell ⟨b, 5, none⟩ (.int .i64 Q1) = D9 at *
        try simp only [Act.put, List.setIfInBounds_toArray, List.set_cons_zero, List.set_cons_succ]
        clear z0 z1 z2 z3 z4 z5 u0 u1 u2 u3 u4 u5
        refine held_val 10 rfl (by kernel_rfl) (by kernel_rfl) (by kernel_rfl) (fun _ _ _ _ h => h) (by rfl) hS ?_
        apply Exists.intro
        refine ⟨fun w' hw' => ?_, ?_⟩
        · skip
          go_simp
          first | done | rfl | exact ⟨rfl, rfl⟩
        simp only [Act.put, List.setIfInBounds_toArray, List.set_cons_zero, List.set_cons_succ]
        refine wpAnyH_done (by kernel_rfl) ?_ _
        go_wp2_with fail
        go_meet
        exact ⟨b, rfl, rfl, ⟨ac, nc, kc⟩, rO2, hz9, hB9⟩
      · skip
        unfold Oper.wp
        go_simp
        have hal : Below D2.heap.size D2 (D2.alloc (.cells #[.string ⟨#[]⟩, .slice none 0 0, .int .i64 0, .int .u32 0, .int .i64 0, .int .i64 0] 27)) := (Below.refl _ _).alloc (Nat.le_refl _) _
        have rO : Rw (D2.alloc (.cells #[.string ⟨#[]⟩, .slice none 0 0, .int .i64 0, .int .u32 0, .int .i64 0, .int .i64 0] 27)) D2.heap.size 27 [.string ⟨#[]⟩, .slice none 0 0, .int .i64 0, .int .u32 0, .int .i64 0, .int .i64 0] := Rw.new D2 27 [.string ⟨#[]⟩, .slice none 0 0, .int .i64 0, .int .u32 0, .int .i64 0, .int .i64 0]
        have hOb : w8.heap.size ≤ D2.heap.size := hS.1.size
        replace hS := hS.go hal
        refine ⟨hS, ?_⟩
        clear hal
        generalize D2.alloc (.cells #[.string ⟨#[]⟩, .slice none 0 0, .int .i64 0, .int .u32 0, .int .i64 0, .int .i64 0] 27) = D3 at *
        generalize D2.heap.size = b at *
        try simp only [Act.put, List.setIfInBounds_toArray, List.set_cons_zero, List.set_cons_succ]
        refine held_one 4 (by kernel_rfl) rfl (by rfl) ?_
        refine wp_enter ?_
        apply Exists.intro
        apply Exists.intro
        refine ⟨?_, ?_⟩
        · go_simp
          first | done | rfl | exact ⟨rfl, rfl⟩
        refine (KD1.out _ hS.1).mono ?_
        rintro e D4 ⟨hb, ⟨ac, nc, kc⟩, rfl, hzc⟩
        have hszD4 := hS.1.size
        replace hS := hS.go hb
        have hltD4 := rO.lt
        replace rO := rO.stay hb
        replace hzc : FldsAt (fun k => b < k) D4 (.slice ac nc kc) F1 := hzc.mono fun i hi _ => by omega
        refine ⟨_, rfl, hS, ?_⟩
        clear hb
        try simp only [Act.put, List.setIfInBounds_toArray, List.set_cons_zero, List.set_cons_succ]
        refine held_val 5 rfl (by kernel_rfl) (by kernel_rfl) (by kernel_rfl) (fun _ _ _ _ h => h) (by rfl) hS ?_
        apply Exists.intro
        refine ⟨fun w' hw' => ?_, ?_⟩
        · skip
          go_simp
          first | done | rfl | exact ⟨rfl, rfl⟩
        simp only [Act.put, List.setIfInBounds_toArray, List.set_cons_zero, List.set_cons_succ]
        refine held_val 6 rfl (by kernel_rfl) (by kernel_rfl) (by kernel_rfl) (fun _ _ _ _ h => h) (by rfl) hS ?_
        apply Exists.intro
        refine ⟨fun w' hw' => ?_, ?_⟩
        · skip
          go_simp
          first | done | rfl | exact ⟨rfl, rfl⟩
        simp only [Act.put, List.setIfInBounds_toArray, List.set_cons_zero, List.set_cons_succ]
        refine held_val 7 rfl (by kernel_rfl) (by kernel_rfl) (by kernel_rfl) (fun _ _ _ _ h => h) (by rfl) hS ?_
        apply Exists.intro
        refine ⟨fun w' hw' => ?_, ?_⟩
        · skip
          go_simp
          first | done | rfl | exact ⟨rfl, rfl⟩
        simp only [Act.put, List.setIfInBounds_toArray, List.set_cons_zero, List.set_cons_succ]
        have z0 := Rw.frozen rO 0
        have z1 := Rw.frozen rO 1
        have z2 := Rw.frozen rO 2
        have z3 := Rw.frozen rO 3
        have z4 := Rw.frozen rO 4
        have z5 := Rw.frozen rO 5
        have u0 := Rw.cell rO 0
        have u1 := Rw.cell rO 1
        have u2 := Rw.cell rO 2
        have u3 := Rw.cell rO 3
        have u4 := Rw.cell rO 4
        have u5 := Rw.cell rO 5
        simp only [List.getElem?_cons_zero, List.getElem?_cons_succ] at u0 u1 u2 u3 u4 u5
        have rO2 := rO.set6 (.string ⟨S1.toArray⟩) (.slice ac nc kc) (.int .i64 L1) (.int .u32 C1) (.int .i64 P1) (.int .i64 Q1)
        have hB9 := below_set6 hS.1 hOb (.string ⟨S1.toArray⟩) (.slice ac nc kc) (.int .i64 L1) (.int .u32 C1) (.int .i64 P1) (.int .i64 Q1)
        have hz9 : FldsAt (fun _ => True) ((((((D4.setCell ⟨b, 0, none⟩ (.string ⟨S1.toArray⟩)).setCell ⟨b, 1, none⟩ (.slice ac nc kc)).setCell ⟨b, 2, none⟩ (.int .i64 L1)).setCell ⟨b, 3, none⟩ (.int .u32 C1)).setCell ⟨b, 4, none⟩ (.int .i64 P1)).setCell ⟨b, 5, none⟩ (.int .i64 Q1)) (.slice ac nc kc) F1 :=
          (hzc.keepN (S := fun k => k = b) ((((((Asd.one D4 b 0 _).set1 1 _).set1 2 _).set1 3 _).set1 4 _).set1 5 _) (fun i hi _ e => by have hi2 : b < i := hi; omega)).mono fun _ _ _ => trivial
        refine held_one 9 (by kernel_rfl) rfl (by rfl) ?_
        refine wp_skip (w' := (((((D4.setCell ⟨b, 0, none⟩ (.string ⟨S1.toArray⟩)).setCell ⟨b, 1, none⟩ (.slice ac nc kc)).setCell ⟨b, 2, none⟩ (.int .i64 L1)).setCell ⟨b, 3, none⟩ (.int .u32 C1)).setCell ⟨b, 4, none⟩ (.int .i64 P1)).setCell ⟨b, 5, none⟩ (.int .i64 Q1)) ?_ rfl ?_
        · go_simp
          done
        replace hS := hCL.out _ hB9
        refine ⟨hS, ?_⟩
        generalize (((((D4.setCell ⟨b, 0, none⟩ (.string ⟨S1.toArray⟩)).setCell ⟨b, 1, none⟩ (.slice ac nc kc)).setCell ⟨b, 2, none⟩ (.int .i64 L1)).setCell ⟨b, 3, none⟩ (.int .u32 C1)).setCell ⟨b, 4, none⟩ (.int .i64 P1)).setCell ⟨b, 5, none⟩ (.int .i64 Q1) = D9 at *
        try simp only [Act.put, List.setIfInBounds_toArray, List.set_cons_zero, List.set_cons_succ]
        clear z0 z1 z2 z3 z4 z5 u0 u1 u2 u3 u4 u5
        refine held_val 10 rfl (by kernel_rfl) (by kernel_rfl) (by kernel_rfl) (fun _ _ _ _ h => h) (by rfl) hS ?_
        apply Exists.intro
        refine ⟨fun w' hw' => ?_, ?_⟩
        · skip
          go_simp
          first | done | rfl | exact ⟨rfl, rfl⟩
        simp only [Act.put, List.setIfInBounds_toArray, List.set_cons_zero, List.set_cons_succ]
        refine wpAnyH_done (by kernel_rfl) ?_ _
        go_wp2_with fail
        go_meet
        exact ⟨b, rfl, rfl, ⟨ac, nc, kc⟩, rO2, hz9, hB9⟩
    · skip
      unfold Oper.wp
      go_simp
      have hal : Below D1.heap.size D1 (D1.alloc (.cells #[.string ⟨#[]⟩, .slice none 0 0, .int .i64 0, .int .u32 0, .int .i64 0, .int .i64 0] 27)) := (Below.refl _ _).alloc (Nat.le_refl _) _
      have rO : Rw (D1.alloc (.cells #[.string ⟨#[]⟩, .slice none 0 0, .int .i64 0, .int .u32 0, .int .i64 0, .int .i64 0] 27)) D1.heap.size 27 [.string ⟨#[]⟩, .slice none 0 0, .int .i64 0, .int .u32 0, .int .i64 0, .int .i64 0] := Rw.new D1 27 [.string ⟨#[]⟩, .slice none 0 0, .int .i64 0, .int .u32 0, .int .i64 0, .int .i64 0]
      have hOb : w8.heap.size ≤ D1.heap.size := hS.1.size
      replace hS := hS.go hal
      refine ⟨hS, ?_⟩
      clear hal
      generalize D1.alloc (.cells #[.string ⟨#[]⟩, .slice none 0 0, .int .i64 0, .int .u32 0, .int .i64 0, .int .i64 0] 27) = D2 at *
      generalize D1.heap.size = b at *
      try simp only [Act.put, List.setIfInBounds_toArray, List.set_cons_zero, List.set_cons_succ]
      refine held_one 2 (by kernel_rfl) rfl (by rfl) ?_
      refine wp_enter ?_
      apply Exists.intro
      apply Exists.intro
      refine ⟨?_, ?_⟩
      · go_simp
        first | done | rfl | exact ⟨rfl, rfl⟩
      refine (KA1.out _).mono ?_
      rintro e D3 ⟨rfl, hb⟩
      replace hS := hS.go hb
      replace rO := rO.stay hb
      refine ⟨_, rfl, hS, ?_⟩
      clear hb
      try simp only [Act.put, List.setIfInBounds_toArray, List.set_cons_zero, List.set_cons_succ]
      refine held_one 4 (by kernel_rfl) rfl (by rfl) ?_
      refine wp_enter ?_
      apply Exists.intro
      apply Exists.intro
      refine ⟨?_, ?_⟩
      · go_simp
        first | done | rfl | exact ⟨rfl, rfl⟩
      refine (KD1.out _ hS.1).mono ?_
      rintro e D4 ⟨hb, ⟨ac, nc, kc⟩, rfl, hzc⟩
      have hszD4 := hS.1.size
      replace hS := hS.go hb
      have hltD4 := rO.lt
      replace rO := rO.stay hb
      replace hzc : FldsAt (fun k => b < k) D4 (.slice ac nc kc) F1 := hzc.mono fun i hi _ => by omega
      refine ⟨_, rfl, hS, ?_⟩
      clear hb
      try simp only [Act.put, List.setIfInBounds_toArray, List.set_cons_zero, List.set_cons_succ]
      refine held_val 5 rfl (by kernel_rfl) (by kernel_rfl) (by kernel_rfl) (fun _ _ _ _ h => h) (by rfl) hS ?_
      apply Exists.intro
      refine ⟨fun w' hw' => ?_, ?_⟩
      · skip
        go_simp
        first | done | rfl | exact ⟨rfl, rfl⟩
      simp only [Act.put, List.setIfInBounds_toArray, List.set_cons_zero, List.set_cons_succ]
      refine held_val 6 rfl (by kernel_rfl) (by kernel_rfl) (by kernel_rfl) (fun _ _ _ _ h => h) (by rfl) hS ?_
      apply Exists.intro
      refine ⟨fun w' hw' => ?_, ?_⟩
      · skip
        go_simp
        first | done | rfl | exact ⟨rfl, rfl⟩
      simp only [Act.put, List.setIfInBounds_toArray, List.set_cons_zero, List.set_cons_succ]
      refine held_val 7 rfl (by kernel_rfl) (by kernel_rfl) (by kernel_rfl) (fun _ _ _ _ h => h) (by rfl) hS ?_
      apply Exists.intro
      refine ⟨fun w' hw' => ?_, ?_⟩
      · skip
        go_simp
        first | done | rfl | exact ⟨rfl, rfl⟩
      simp only [Act.put, List.setIfInBounds_toArray, List.set_cons_zero, List.set_cons_succ]
      have z0 := Rw.frozen rO 0
      have z1 := Rw.frozen rO 1
      have z2 := Rw.frozen rO 2
      have z3 := Rw.frozen rO 3
      have z4 := Rw.frozen rO 4
      have z5 := Rw.frozen rO 5
      have u0 := Rw.cell rO 0
      have u1 := Rw.cell rO 1
      have u2 := Rw.cell rO 2
      have u3 := Rw.cell rO 3
      have u4 := Rw.cell rO 4
      have u5 := Rw.cell rO 5
      simp only [List.getElem?_cons_zero, List.getElem?_cons_succ] at u0 u1 u2 u3 u4 u5
      have rO2 := rO.set6 (.string ⟨S1.toArray⟩) (.slice ac nc kc) (.int .i64 L1) (.int .u32 C1) (.int .i64 P1) (.int .i64 Q1)
      have hB9 := below_set6 hS.1 hOb (.string ⟨S1.toArray⟩) (.slice ac nc kc) (.int .i64 L1) (.int .u32 C1) (.int .i64 P1) (.int .i64 Q1)
      have hz9 : FldsAt (fun _ => True) ((((((D4.setCell ⟨b, 0, none⟩ (.string ⟨S1.toArray⟩)).setCell ⟨b, 1, none⟩ (.slice ac nc kc)).setCell ⟨b, 2, none⟩ (.int .i64 L1)).setCell ⟨b, 3, none⟩ (.int .u32 C1)).setCell ⟨b, 4, none⟩ (.int .i64 P1)).setCell ⟨b, 5, none⟩ (.int .i64 Q1)) (.slice ac nc kc) F1 :=
        (hzc.keepN (S := fun k => k = b) ((((((Asd.one D4 b 0 _).set1 1 _).set1 2 _).set1 3 _).set1 4 _).set1 5 _) (fun i hi _ e => by have hi2 : b < i := hi; omega)).mono fun _ _ _ => trivial
      refine held_one 9 (by kernel_rfl) rfl (by rfl) ?_
      refine wp_skip (w' := (((((D4.setCell ⟨b, 0, none⟩ (.string ⟨S1.toArray⟩)).setCell ⟨b, 1, none⟩ (.slice ac nc kc)).setCell ⟨b, 2, none⟩ (.int .i64 L1)).setCell ⟨b, 3, none⟩ (.int .u32 C1)).setCell ⟨b, 4, none⟩ (.int .i64 P1)).setCell ⟨b, 5, none⟩ (.int .i64 Q1)) ?_ rfl ?_
      · go_simp
        done
      replace hS := hCL.out _ hB9
      refine ⟨hS, ?_⟩
      generalize (((((D4.setCell ⟨b, 0, none⟩ (.string ⟨S1.toArray⟩)).setCell ⟨b, 1, none⟩ (.slice ac nc kc)).setCell ⟨b, 2, none⟩ (.int .i64 L1)).setCell ⟨b, 3, none⟩ (.int .u32 C1)).setCell ⟨b, 4, none⟩ (.int .i64 P1)).setCell ⟨b, 5, none⟩ (.int .i64 Q1) = D9 at *
      try simp only [Act.put, List.setIfInBounds_toArray, List.set_cons_zero, List.set_cons_succ]
      clear z0 z1 z2 z3 z4 z5 u0 u1 u2 u3 u4 u5
      refine held_val 10 rfl (by kernel_rfl) (by kernel_rfl) (by kernel_rfl) (fun _ _ _ _ h => h) (by rfl) hS ?_
      apply Exists.intro
      refine ⟨fun w' hw' => ?_, ?_⟩
      · skip
        go_simp
        first | done | rfl | exact ⟨rfl, rfl⟩
      simp only [Act.put, List.setIfInBounds_toArray, List.set_cons_zero, List.set_cons_succ]
      refine wpAnyH_done (by kernel_rfl) ?_ _
      go_wp2_with fail
      go_meet
      exact ⟨b, rfl, rfl, ⟨ac, nc, kc⟩, rO2, hz9, hB9⟩
  case rest =>
    obtain ⟨bC, rfl, rfl, ⟨ac, nc, kc⟩, rC, hzc, hb⟩ := hcut
    generalize wc = w9 at *
    simp only [Sl.v] at rC hzc
    replace hB := hB.trans (hb.mono hB.size)
    replace rB := rB.stay hb
    replace hzb := hzb.stay hb
    clear hb KD1 KA1 hCL hz rX rT rP
    have KA2 := Lib.hid fun w' => asd_any S1 ⟨ab, nb, kb⟩ L1 C1 P1 Q1 w'
    have KS := Lib.hid fun w' (k : Below w9.heap.size w9 w') => same9_any (fun _ => True) (fun _ => True) S1 S1 ⟨ab, nb, kb⟩ ⟨ac, nc, kc⟩ F1 F1 L1 C1 P1 Q1 L1 C1 P1 Q1 w' (hzb.stay k) (hzc.stay k) hF1
    simp only [same_self9] at KS
    unfold alV at KS KA2
    simp only [Sl.v] at KS KA2
    have hcc : (cb == cb) = true := by simp
    have hS : CL w9 [(⟨bB, 0, none⟩, .string ⟨S1.toArray⟩), (⟨bB, 1, none⟩, .slice ab nb kb), (⟨bB, 2, none⟩, .int .i64 L1), (⟨bB, 3, none⟩, .int .u32 C1), (⟨bB, 4, none⟩, .int .i64 P1), (⟨bB, 5, none⟩, .int .i64 Q1), (⟨bC, 0, none⟩, .string ⟨S1.toArray⟩), (⟨bC, 1, none⟩, .slice ac nc kc), (⟨bC, 2, none⟩, .int .i64 L1), (⟨bC, 3, none⟩, .int .u32 C1), (⟨bC, 4, none⟩, .int .i64 P1), (⟨bC, 5, none⟩, .int .i64 Q1)] w9.drew := CL.drew (((((((((((((CL.nil w9).row rC 5 rfl).row rC 4 rfl).row rC 3 rfl).row rC 2 rfl).row rC 1 rfl).row rC 0 rfl).row rB 5 rfl).row rB 4 rfl).row rB 3 rfl).row rB 2 rfl).row rB 1 rfl).row rB 0 rfl)
    go_upto_region 7 with fail
    refine wp_region_held (S := CL w9 [(⟨bB, 0, none⟩, .string ⟨S1.toArray⟩), (⟨bB, 1, none⟩, .slice ab nb kb), (⟨bB, 2, none⟩, .int .i64 L1), (⟨bB, 3, none⟩, .int .u32 C1), (⟨bB, 4, none⟩, .int .i64 P1), (⟨bB, 5, none⟩, .int .i64 Q1), (⟨bC, 0, none⟩, .string ⟨S1.toArray⟩), (⟨bC, 1, none⟩, .slice ac nc kc), (⟨bC, 2, none⟩, .int .i64 L1), (⟨bC, 3, none⟩, .int .u32 C1), (⟨bC, 4, none⟩, .int .i64 P1), (⟨bC, 5, none⟩, .int .i64 Q1)]) (by kernel_rfl) ?_
    change wpAnyH _ _ _ _ _ _ _ _ w9.drew
    generalize w9.drew = D1 at *
    refine held_val 0 rfl (by kernel_rfl) (by kernel_rfl) (by kernel_rfl) (fun _ _ _ _ h => h) (by rfl) hS ?_
    apply Exists.intro
    refine ⟨fun w' hw' => ?_, ?_⟩
    · skip
      go_simp
      first | done | rfl | exact ⟨rfl, rfl⟩
    simp only [Act.put, List.setIfInBounds_toArray, List.set_cons_zero, List.set_cons_succ]
    refine held_val 1 rfl (by kernel_rfl) (by kernel_rfl) (by kernel_rfl) (fun _ _ _ _ h => h) (by rfl) hS ?_
    apply Exists.intro
    refine ⟨fun w' hw' => ?_, ?_⟩
    · skip
      go_simp
      first | done | rfl | exact ⟨rfl, rfl⟩
    simp only [Act.put, List.setIfInBounds_toArray, List.set_cons_zero, List.set_cons_succ]
    refine held_val 2 rfl (by kernel_rfl) (by kernel_rfl) (by kernel_rfl) (fun _ _ _ _ h => h) (by rfl) hS ?_
    apply Exists.intro
    refine ⟨fun w' hw' => ?_, ?_⟩
    · skip
      go_simp
      first | done | rfl | exact ⟨rfl, rfl⟩
    simp only [Act.put, List.setIfInBounds_toArray, List.set_cons_zero, List.set_cons_succ]
    try simp only [hcc]
    refine held_val 3 rfl (by kernel_rfl) (by kernel_rfl) (by kernel_rfl) (fun _ _ _ _ h => h) (by rfl) hS ?_
    apply Exists.intro
    refine ⟨fun w' hw' => ?_, ?_⟩
    · skip
      go_simp
      first | done | rfl | exact ⟨rfl, rfl⟩
    simp only [Act.put, List.setIfInBounds_toArray, List.set_cons_zero, List.set_cons_succ]
    refine held_val 4 rfl (by kernel_rfl) (by kernel_rfl) (by kernel_rfl) (fun _ _ _ _ h => h) (by rfl) hS ?_
    apply Exists.intro
    refine ⟨fun w' hw' => ?_, ?_⟩
    · have e0 := hw'.at 0 rfl; have e1 := hw'.at 1 rfl; have e2 := hw'.at 2 rfl; have e3 := hw'.at 3 rfl; have e4 := hw'.at 4 rfl; have e5 := hw'.at 5 rfl
      go_simp
      first | done | rfl | exact ⟨rfl, rfl⟩
    simp only [Act.put, List.setIfInBounds_toArray, List.set_cons_zero, List.set_cons_succ]
    refine held_val 6 rfl (by kernel_rfl) (by kernel_rfl) (by kernel_rfl) (fun _ _ _ _ h => h) (by rfl) hS ?_
    apply Exists.intro
    refine ⟨fun w' hw' => ?_, ?_⟩
    · have e0 := hw'.at 6 rfl; have e1 := hw'.at 7 rfl; have e2 := hw'.at 8 rfl; have e3 := hw'.at 9 rfl; have e4 := hw'.at 10 rfl; have e5 := hw'.at 11 rfl
      go_simp
      first | done | rfl | exact ⟨rfl, rfl⟩
    simp only [Act.put, List.setIfInBounds_toArray, List.set_cons_zero, List.set_cons_succ]
    refine held_call 5 (by kernel_rfl) rfl (by rfl) ?_
    apply Exists.intro
    apply Exists.intro
    refine ⟨?_, ?_⟩
    · go_simp
      first | done | rfl | exact ⟨rfl, rfl⟩
    refine (KA2.out _).mono ?_
    rintro e D2 ⟨rfl, hb⟩
    replace hS := hS.go hb
    refine ⟨_, rfl, hS, ?_⟩
    clear hb
    simp only [Act.put, List.setIfInBounds_toArray, List.set_cons_zero, List.set_cons_succ]
    refine held_call 7 (by kernel_rfl) rfl (by rfl) ?_
    apply Exists.intro
    apply Exists.intro
    refine ⟨?_, ?_⟩
    · go_simp
      first | done | rfl | exact ⟨rfl, rfl⟩
    refine (KS.out _ hS.1).mono ?_
    rintro e D3 ⟨rfl, hb⟩
    replace hS := hS.go hb
    refine ⟨_, rfl, hS, ?_⟩
    clear hb
    simp only [Act.put, List.setIfInBounds_toArray, List.set_cons_zero, List.set_cons_succ]
    refine held_val 8 rfl (by kernel_rfl) (by kernel_rfl) (by kernel_rfl) (fun _ _ _ _ h => h) (by rfl) hS ?_
    apply Exists.intro
    refine ⟨fun w' hw' => ?_, ?_⟩
    · skip
      go_simp
      first | done | rfl | exact ⟨rfl, rfl⟩
    simp only [Act.put, List.setIfInBounds_toArray, List.set_cons_zero, List.set_cons_succ]
    refine held_val 9 rfl (by kernel_rfl) (by kernel_rfl) (by kernel_rfl) (fun _ _ _ _ h => h) (by rfl) hS ?_
    apply Exists.intro
    refine ⟨fun w' hw' => ?_, ?_⟩
    · skip
      go_simp
      first | done | rfl | exact ⟨rfl, rfl⟩
    simp only [Act.put, List.setIfInBounds_toArray, List.set_cons_zero, List.set_cons_succ]
    refine wpAnyH_done (by kernel_rfl) ?_ _
    have hb := hS.1
    go_wp2_with fail
    go_ret
    exact ⟨rfl, hB.trans (hb.mono hB.size)⟩
end Go.Proofs.YtknhkmlihbgjpaaDoor
