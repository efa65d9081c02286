/- The document's own Cut of a policy: the first so many of each list. -/
import Derived.Test.YtknhkmlihbgjpaaDoorABack
namespace Go.Proofs.YtknhkmlihbgjpaaDoor
open Go.ChangeShapes Go.WideShapes Go.RowKit

/-- A slice that fits its place. -/
def SlOk (y : Sl) : Prop := y.n ≤ y.c ∧ y.n ≤ 9223372036854775807
/-- Its first so many. -/
def Sl.cut (y : Sl) (n : Nat) : Sl := ⟨y.a, min y.n n, y.c⟩
theorem cut_sl {t e : TypeId} {k : Nat} (ht : Tryd.prog.underlying t = some (.slice e)) (hs : ∀ w, (sizeOf e).run Tryd.prog w = .ok k w) (a : Option Addr) (n c : Nat) (hn : min n 14 ≤ c) (w : World) : (Instr.slice t (.slice a n c) none (some (.int .i64 (min (n : Int) 14))) none).run Tryd.prog w = .ok (.slice a (min n 14) c) w := by
  obtain ⟨j, hj⟩ : ∃ j, min n 14 = j := ⟨_, rfl⟩
  have e : min (n : Int) 14 = (j : Int) := by omega
  rw [e, hj]
  rw [hj] at hn
  have h0 : ∀ b : Addr, b.add 0 = b := fun b => by unfold Addr.add; simp
  cases a with
  | none => simp [Instr.slice, Sem.run_bind, run_underlying ht, Instr.sliceBounds, run_sliceBound, hs, show (j : Int) ≤ (c : Int) by omega, show (0 : Int) ≤ (j : Int) by omega]
  | some b => simp [Instr.slice, Sem.run_bind, run_underlying ht, Instr.sliceBounds, run_sliceBound, hs, show (j : Int) ≤ (c : Int) by omega, show (0 : Int) ≤ (j : Int) by omega, h0]
theorem size_nds (w : World) : (sizeOf 82).run Tryd.prog w = .ok 3 w := by kernel_rfl
theorem size_rts (w : World) : (sizeOf 102).run Tryd.prog w = .ok 6 w := by kernel_rfl
theorem size_ihs (w : World) : (sizeOf 106).run Tryd.prog w = .ok 5 w := by kernel_rfl
set_option maxHeartbeats 6400000 in
set_option maxRecDepth 100000 in
theorem rcutp_any (x0 x1 x2 x3 x4 x5 : Sl) (w : World) (h0 : SlOk x0) (h1 : SlOk x1) (h2 : SlOk x2) (h3 : SlOk x3) (h4 : SlOk x4) (h5 : SlOk x5) :
    Calls Tryd.prog 24 #[.agg #[x0.v, x1.v, x2.v, x3.v, x4.v, x5.v], .int .i64 14] w fun e w' => e = .returned (.agg #[(x0.cut 14).v, (x1.cut 14).v, (x2.cut 14).v, (x3.cut 14).v, (x4.cut 14).v, (x5.cut 14).v]) ∧ Below w.heap.size w w' := by
  obtain ⟨a0, n0, k0⟩ := x0
  obtain ⟨a1, n1, k1⟩ := x1
  obtain ⟨a2, n2, k2⟩ := x2
  obtain ⟨a3, n3, k3⟩ := x3
  obtain ⟨a4, n4, k4⟩ := x4
  obtain ⟨a5, n5, k5⟩ := x5
  unfold SlOk at *
  simp only [Sl.v, Sl.cut] at *
  have hc0 := fun w => cut_sl Tryd.underlying46 size_nds a0 n0 k0 (by omega) w
  have hn0 : (n0 : Int) ≤ 9223372036854775807 := by omega
  clear h0
  obtain ⟨m0, hm0⟩ : ∃ m, min n0 14 = m := ⟨_, rfl⟩
  simp only [hm0] at hc0 ⊢
  clear hm0
  have hc1 := fun w => cut_sl Tryd.underlying46 size_nds a1 n1 k1 (by omega) w
  have hn1 : (n1 : Int) ≤ 9223372036854775807 := by omega
  clear h1
  obtain ⟨m1, hm1⟩ : ∃ m, min n1 14 = m := ⟨_, rfl⟩
  simp only [hm1] at hc1 ⊢
  clear hm1
  have hc2 := fun w => cut_sl Tryd.underlying46 size_nds a2 n2 k2 (by omega) w
  have hn2 : (n2 : Int) ≤ 9223372036854775807 := by omega
  clear h2
  obtain ⟨m2, hm2⟩ : ∃ m, min n2 14 = m := ⟨_, rfl⟩
  simp only [hm2] at hc2 ⊢
  clear hm2
  have hc3 := fun w => cut_sl Tryd.underlying46 size_nds a3 n3 k3 (by omega) w
  have hn3 : (n3 : Int) ≤ 9223372036854775807 := by omega
  clear h3
  obtain ⟨m3, hm3⟩ : ∃ m, min n3 14 = m := ⟨_, rfl⟩
  simp only [hm3] at hc3 ⊢
  clear hm3
  have hc4 := fun w => cut_sl Tryd.underlying47 size_rts a4 n4 k4 (by omega) w
  have hn4 : (n4 : Int) ≤ 9223372036854775807 := by omega
  clear h4
  obtain ⟨m4, hm4⟩ : ∃ m, min n4 14 = m := ⟨_, rfl⟩
  simp only [hm4] at hc4 ⊢
  clear hm4
  have hc5 := fun w => cut_sl Tryd.underlying48 size_ihs a5 n5 k5 (by omega) w
  have hn5 : (n5 : Int) ≤ 9223372036854775807 := by omega
  clear h5
  obtain ⟨m5, hm5⟩ : ∃ m, min n5 14 = m := ⟨_, rfl⟩
  simp only [hm5] at hc5 ⊢
  clear hm5
  go_enter Tryd.func24, Tryd.ntmps24
  go_upto_region 1 with fail
  obtain ⟨rP, rR, hB⟩ := put2n w 50 50 [.slice a0 n0 k0, .slice a1 n1 k1, .slice a2 n2 k2, .slice a3 n3 k3, .slice a4 n4 k4, .slice a5 n5 k5] [.slice none 0 0, .slice none 0 0, .slice none 0 0, .slice none 0 0, .slice none 0 0, .slice none 0 0]
  generalize (w.alloc (.cells #[.slice a0 n0 k0, .slice a1 n1 k1, .slice a2 n2 k2, .slice a3 n3 k3, .slice a4 n4 k4, .slice a5 n5 k5] 50)).alloc (.cells #[.slice none 0 0, .slice none 0 0, .slice none 0 0, .slice none 0 0, .slice none 0 0, .slice none 0 0] 50) = w1 at *
  generalize hbR : w.heap.size + 1 = bR at *
  have hge : w.heap.size < bR := by omega
  clear hbR
  generalize hbP : w.heap.size = bP at rP ⊢
  have HBP : Unit → w.heap.size = bP := fun _ => hbP
  clear hbP
  have hne : bP ≠ bR ∧ w.heap.size ≤ bP := by have := HBP (); omega
  have p := Rw.cell rP 0
  have z := Rw.frozen rP 0
  simp only [List.getElem?_cons_zero] at p
  go_upto_region 2 with fail
  replace hB := hB.setCell (p := ⟨bP, 0, none⟩) hne.2 (.slice a0 m0 k0)
  replace rR := Rw.other rR (k := bP) (Ne.symm hne.1) 0 (.slice a0 m0 k0)
  replace rP := Rw.setCell rP 0 (.slice a0 m0 k0)
  simp only [List.set_cons_zero] at rP
  generalize w1.setCell ⟨bP, 0, none⟩ (.slice a0 m0 k0) = w2 at *
  clear p z hc0 hn0
  have p := Rw.cell rP 1
  have z := Rw.frozen rP 1
  simp only [List.getElem?_cons_zero, List.getElem?_cons_succ] at p
  go_upto_region 3 with fail
  replace hB := hB.setCell (p := ⟨bP, 1, none⟩) hne.2 (.slice a1 m1 k1)
  replace rR := Rw.other rR (k := bP) (Ne.symm hne.1) 1 (.slice a1 m1 k1)
  replace rP := Rw.setCell rP 1 (.slice a1 m1 k1)
  simp only [List.set_cons_zero, List.set_cons_succ] at rP
  generalize w2.setCell ⟨bP, 1, none⟩ (.slice a1 m1 k1) = w3 at *
  clear p z hc1 hn1
  have p := Rw.cell rP 2
  have z := Rw.frozen rP 2
  simp only [List.getElem?_cons_zero, List.getElem?_cons_succ] at p
  go_upto_region 4 with fail
  replace hB := hB.setCell (p := ⟨bP, 2, none⟩) hne.2 (.slice a2 m2 k2)
  replace rR := Rw.other rR (k := bP) (Ne.symm hne.1) 2 (.slice a2 m2 k2)
  replace rP := Rw.setCell rP 2 (.slice a2 m2 k2)
  simp only [List.set_cons_zero, List.set_cons_succ] at rP
  generalize w3.setCell ⟨bP, 2, none⟩ (.slice a2 m2 k2) = w4 at *
  clear p z hc2 hn2
  have p := Rw.cell rP 3
  have z := Rw.frozen rP 3
  simp only [List.getElem?_cons_zero, List.getElem?_cons_succ] at p
  go_upto_region 5 with fail
  replace hB := hB.setCell (p := ⟨bP, 3, none⟩) hne.2 (.slice a3 m3 k3)
  replace rR := Rw.other rR (k := bP) (Ne.symm hne.1) 3 (.slice a3 m3 k3)
  replace rP := Rw.setCell rP 3 (.slice a3 m3 k3)
  simp only [List.set_cons_zero, List.set_cons_succ] at rP
  generalize w4.setCell ⟨bP, 3, none⟩ (.slice a3 m3 k3) = w5 at *
  clear p z hc3 hn3
  have p := Rw.cell rP 4
  have z := Rw.frozen rP 4
  simp only [List.getElem?_cons_zero, List.getElem?_cons_succ] at p
  go_upto_region 6 with fail
  replace hB := hB.setCell (p := ⟨bP, 4, none⟩) hne.2 (.slice a4 m4 k4)
  replace rR := Rw.other rR (k := bP) (Ne.symm hne.1) 4 (.slice a4 m4 k4)
  replace rP := Rw.setCell rP 4 (.slice a4 m4 k4)
  simp only [List.set_cons_zero, List.set_cons_succ] at rP
  generalize w5.setCell ⟨bP, 4, none⟩ (.slice a4 m4 k4) = w6 at *
  clear p z hc4 hn4
  have p := Rw.cell rP 5
  have z := Rw.frozen rP 5
  simp only [List.getElem?_cons_zero, List.getElem?_cons_succ] at p
  go_upto_region 7 with fail
  replace hB := hB.setCell (p := ⟨bP, 5, none⟩) hne.2 (.slice a5 m5 k5)
  replace rR := Rw.other rR (k := bP) (Ne.symm hne.1) 5 (.slice a5 m5 k5)
  replace rP := Rw.setCell rP 5 (.slice a5 m5 k5)
  simp only [List.set_cons_zero, List.set_cons_succ] at rP
  generalize w6.setCell ⟨bP, 5, none⟩ (.slice a5 m5 k5) = w7 at *
  clear p z hc5 hn5
  have z0 := Rw.frozen rR 0
  have u0 := Rw.cell rR 0
  have p0 := Rw.cell rP 0
  have z1 := Rw.frozen rR 1
  have u1 := Rw.cell rR 1
  have p1 := Rw.cell rP 1
  have z2 := Rw.frozen rR 2
  have u2 := Rw.cell rR 2
  have p2 := Rw.cell rP 2
  have z3 := Rw.frozen rR 3
  have u3 := Rw.cell rR 3
  have p3 := Rw.cell rP 3
  have z4 := Rw.frozen rR 4
  have u4 := Rw.cell rR 4
  have p4 := Rw.cell rP 4
  have z5 := Rw.frozen rR 5
  have u5 := Rw.cell rR 5
  have p5 := Rw.cell rP 5
  simp only [List.getElem?_cons_zero, List.getElem?_cons_succ] at u0 p0 u1 p1 u2 p2 u3 p3 u4 p4 u5 p5
  have hge2 := Nat.le_of_lt hge
  go_wp2_with fail
  refine bodyPost_ret (v := .agg #[.slice a0 m0 k0, .slice a1 m1 k1, .slice a2 m2 k2, .slice a3 m3 k3, .slice a4 m4 k4, .slice a5 m5 k5]) (by simp [results, Tryd.results24, go_sem, u0, u1, u2, u3, u4, u5]) rfl ?_
  exact ⟨rfl, ((((((hB.setCell (p := ⟨bR, 0, none⟩) hge2 _).setCell (p := ⟨bR, 1, none⟩) hge2 _).setCell (p := ⟨bR, 2, none⟩) hge2 _).setCell (p := ⟨bR, 3, none⟩) hge2 _).setCell (p := ⟨bR, 4, none⟩) hge2 _).setCell (p := ⟨bR, 5, none⟩) hge2 _)⟩
end Go.Proofs.YtknhkmlihbgjpaaDoor
