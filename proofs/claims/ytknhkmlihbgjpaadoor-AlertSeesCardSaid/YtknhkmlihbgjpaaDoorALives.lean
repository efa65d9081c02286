/- lives of stage 9: a field that is raised. -/
import Derived.Test.YtknhkmlihbgjpaaDoorAApart
namespace Go.Proofs.YtknhkmlihbgjpaaDoor
open Go.ChangeShapes Go.WideShapes Go.RowKit

theorem cut_lives : cutB raisesL 2 0 3 0 fldsL = true ∧ visF raisesL 2 0 3 0 fldsL = [(teamB, [116])] := by decide
theorem fires_lives : firesB 5 0 5 = true ∧ firesB 5 0 4 = false := by decide
set_option maxHeartbeats 6400000 in
set_option maxRecDepth 100000 in
theorem lives_any (w : World) (ht : Dg.Tabs w) : Calls Tryd.prog 11 #[] w fun e w' => e = .returned (.bool true) ∧ Below w.heap.size w w' := by
  go_enter Tryd.func11, Tryd.ntmps11
  go_upto_region 3 with fail
  obtain ⟨rN, rP, rF, rA, hB⟩ := put4n w 82 50 64 29 [.string ⟨hostB.toArray⟩, .int .i64 4, .int .u32 0] [.slice none 0 0, .slice none 0 0, .slice none 0 0, .slice (some ⟨w.heap.size, 0, none⟩) 1 1, .slice none 0 0, .slice none 0 0]
    [.string ⟨hostB.toArray⟩, .string ⟨#[104]⟩, .string ⟨teamB.toArray⟩, .string ⟨#[116]⟩] [.string ⟨promB.toArray⟩, .slice (some ⟨w.heap.size + 1 + 1, 0, none⟩) 2 2, .int .i64 2, .int .u32 0, .int .i64 5, .int .i64 0]
  change Code.wp _ _ _ _ ((((w.alloc (.cells [.string ⟨hostB.toArray⟩, .int .i64 4, .int .u32 0].toArray 82)).alloc (.cells [.slice none 0 0, .slice none 0 0, .slice none 0 0, .slice (some ⟨w.heap.size, 0, none⟩) 1 1, .slice none 0 0, .slice none 0 0].toArray 50)).alloc (.cells [.string ⟨hostB.toArray⟩, .string ⟨#[104]⟩, .string ⟨teamB.toArray⟩, .string ⟨#[116]⟩].toArray 64)).alloc (.cells [.string ⟨promB.toArray⟩, .slice (some ⟨w.heap.size + 1 + 1, 0, none⟩) 2 2, .int .i64 2, .int .u32 0, .int .i64 5, .int .i64 0].toArray 29))
  generalize (((w.alloc (.cells [.string ⟨hostB.toArray⟩, .int .i64 4, .int .u32 0].toArray 82)).alloc (.cells [.slice none 0 0, .slice none 0 0, .slice none 0 0, .slice (some ⟨w.heap.size, 0, none⟩) 1 1, .slice none 0 0, .slice none 0 0].toArray 50)).alloc (.cells [.string ⟨hostB.toArray⟩, .string ⟨#[104]⟩, .string ⟨teamB.toArray⟩, .string ⟨#[116]⟩].toArray 64)).alloc (.cells [.string ⟨promB.toArray⟩, .slice (some ⟨w.heap.size + 1 + 1, 0, none⟩) 2 2, .int .i64 2, .int .u32 0, .int .i64 5, .int .i64 0].toArray 29) = w1 at *
  have HT := Lib.hid (ht.keep hB)
  have HB0 : Unit → w.heap.size ≤ w1.heap.size := fun _ => hB.size
  generalize w.heap.size + 1 + 1 + 1 = bA at *
  generalize w.heap.size + 1 + 1 = bF at *
  generalize w.heap.size + 1 = bP at *
  generalize hbn : w.heap.size = bN at rN rP ⊢
  have HBN : Unit → w.heap.size = bN := fun _ => hbn
  clear hbn
  have hN : NdsAt (fun _ => True) w1 (Sl.v ⟨some ⟨bN, 0, none⟩, 1, 1⟩) raisesL := .inr ⟨bN, 0, 1, rfl, Nat.le_refl _, trivial, rN.lt, fun j cs hj i u hi => by
    match j, hj with
    | 0, hj =>
      simp [raisesL] at hj
      subst hj
      have := Rw.cell rN i
      simp only [Nat.zero_mul, Nat.zero_add]
      rw [this]; exact hi⟩
  have hF : FldsAt (fun _ => True) w1 (Sl.v ⟨some ⟨bF, 0, none⟩, 2, 2⟩) fldsL := .inr ⟨bF, 0, 2, rfl, Nat.le_refl _, trivial, rF.lt, fun j cs hj i u hi => by
    match j, hj with
    | 0, hj =>
      simp [fldsL] at hj
      subst hj
      have := Rw.cell rF i
      simp only [Nat.zero_mul, Nat.zero_add]
      rw [this]
      match i, hi with
      | 0, hi => exact hi
      | 1, hi => exact hi
    | 1, hj =>
      simp [fldsL] at hj
      subst hj
      have := Rw.cell rF (2 + i)
      simp only [Nat.one_mul, Nat.zero_add]
      rw [this]
      match i, hi with
      | 0, hi => exact hi
      | 1, hi => exact hi⟩
  have KC := cut_any (fun _ => True) (fun _ => True) ⟨none, 0, 0⟩ ⟨none, 0, 0⟩ ⟨none, 0, 0⟩ ⟨some ⟨bN, 0, none⟩, 1, 1⟩ ⟨none, 0, 0⟩ ⟨none, 0, 0⟩ ⟨some ⟨bF, 0, none⟩, 2, 2⟩ promB raisesL fldsL 2 0 3 0 5 0 w1 hF (by decide) hN (by decide) raises_u ⟨by decide, by decide⟩ ⟨by decide, by decide⟩
  simp only [Sl.v, alV] at KC
  replace KC := Lib.hid KC
  have p0 := Rw.cell rP 0
  have p1 := Rw.cell rP 1
  have p2 := Rw.cell rP 2
  have p3 := Rw.cell rP 3
  have p4 := Rw.cell rP 4
  have p5 := Rw.cell rP 5
  have a0 := Rw.cell rA 0
  have a1 := Rw.cell rA 1
  have a2 := Rw.cell rA 2
  have a3 := Rw.cell rA 3
  have a4 := Rw.cell rA 4
  have a5 := Rw.cell rA 5
  simp only [List.getElem?_cons_zero, List.getElem?_cons_succ] at p0 p1 p2 p3 p4 p5 a0 a1 a2 a3 a4 a5
  go_wp2_with fail
  refine KC.out.mono ?_
  rintro e w2 ⟨hb, hcut⟩
  rcases hcut with ⟨hno, _⟩ | ⟨_, z, rfl, hown⟩
  · exact absurd (cut_lives.1.symm.trans hno) (by decide)
  rw [cut_lives.2] at hown
  obtain ⟨za, zn, zc⟩ := z
  obtain ⟨g, cap, hz⟩ := own_succ (n := 0) hown
  unfold Sl.v at hz hown
  injection hz with e1 e2 e3
  simp only at e1 e2 e3
  subst e1 e2 e3
  have hB2 := hB.trans (hb.mono hB.size)
  replace rP := rP.stay hb
  replace rA := rA.stay hb
  have hN2 := hN.stay hb
  have hF2 := hF.stay hb
  have hcz : w2.cell? ⟨g, 0, none⟩ = some (.string ⟨teamB.toArray⟩) := by
    have e := hown.cells (g := g) rfl 0 (.string ⟨teamB.toArray⟩) rfl
    rw [add_at] at e; exact e
  clear KC hb hN hF p0 p1 p2 p3 p4 p5 a0 a1 a2 a3 a4 a5 rN rF hown hB
  simp only [alV, Sl.v]
  have hal : Below w2.heap.size w2 (w2.alloc (.cells #[.string ⟨promB.toArray⟩, .slice (some ⟨g, 0, none⟩) 1 zc, .int .i64 2, .int .u32 0, .int .i64 5, .int .i64 0] 29)) := (Below.refl _ _).alloc (Nat.le_refl _) _
  have rC : Rw (w2.alloc (.cells #[.string ⟨promB.toArray⟩, .slice (some ⟨g, 0, none⟩) 1 zc, .int .i64 2, .int .u32 0, .int .i64 5, .int .i64 0] 29)) w2.heap.size 29 [.string ⟨promB.toArray⟩, .slice (some ⟨g, 0, none⟩) 1 zc, .int .i64 2, .int .u32 0, .int .i64 5, .int .i64 0] := Rw.new w2 29 [.string ⟨promB.toArray⟩, .slice (some ⟨g, 0, none⟩) 1 zc, .int .i64 2, .int .u32 0, .int .i64 5, .int .i64 0]
  have hB3 := hB2.trans (hal.mono hB2.size)
  replace rP := rP.stay hal
  replace rA := rA.stay hal
  have hN3 := hN2.stay hal
  have hF3 := hF2.stay hal
  have hcz3 := (hal.cell (World.block_lt_of_cell? _ _ hcz)).trans hcz
  go_upto_region 4 with fail
  generalize w2.alloc (.cells #[.string ⟨promB.toArray⟩, .slice (some ⟨g, 0, none⟩) 1 zc, .int .i64 2, .int .u32 0, .int .i64 5, .int .i64 0] 29) = w3 at *
  generalize w2.heap.size = bC at *
  clear hcz hB2 hN2 hF2 hal
  have a0 := Rw.cell rA 0
  have a1 := Rw.cell rA 1
  have a2 := Rw.cell rA 2
  have a3 := Rw.cell rA 3
  have a4 := Rw.cell rA 4
  have a5 := Rw.cell rA 5
  simp only [List.getElem?_cons_zero, List.getElem?_cons_succ] at a0 a1 a2 a3 a4 a5
  have KR := aright_any (fun _ => True) promB ⟨some ⟨bF, 0, none⟩, 2, 2⟩ fldsL 2 0 5 0 w3 hF3 (by decide) (by decide) names_le
  rw [right_lives] at KR
  simp only [Sl.v, alV] at KR
  replace KR := Lib.hid KR
  go_wp2_with fail
  refine KR.out.mono ?_
  rintro e w4 ⟨rfl, hb⟩
  have hB4 := hB3.trans (hb.mono hB3.size)
  replace rP := rP.stay hb
  replace rA := rA.stay hb
  replace rC := rC.stay hb
  have hN4 := hN3.stay hb
  have hF4 := hF3.stay hb
  have hcz4 := (hb.cell (World.block_lt_of_cell? _ _ hcz3)).trans hcz3
  clear KR hb hB3 hN3 hF3 hcz3 a0 a1 a2 a3 a4 a5
  have a0 := Rw.cell rA 0
  have a1 := Rw.cell rA 1
  have a2 := Rw.cell rA 2
  have a3 := Rw.cell rA 3
  have a4 := Rw.cell rA 4
  have a5 := Rw.cell rA 5
  simp only [List.getElem?_cons_zero, List.getElem?_cons_succ] at a0 a1 a2 a3 a4 a5
  have c1 := Rw.cell rC 1
  simp only [List.getElem?_cons_zero, List.getElem?_cons_succ] at c1
  have K5 := fires_any promB ⟨some ⟨bF, 0, none⟩, 2, 2⟩ 2 0 5 0 5 w4
  rw [fires_lives.1] at K5
  simp only [Sl.v, alV] at K5
  replace K5 := Lib.hid K5
  have hteam : ((⟨teamB.toArray⟩ : ByteArray).toList == (⟨#[116, 101, 97, 109]⟩ : ByteArray).toList) = true := same_text teamB teamB
  go_wp2_with fail
  refine K5.out.mono ?_
  rintro e w5 ⟨rfl, hb⟩
  have hB5 := hB4.trans (hb.mono hB4.size)
  replace rP := rP.stay hb
  replace rA := rA.stay hb
  have hN5 := hN4.stay hb
  have hF5 := hF4.stay hb
  clear K5 hb hB4 hN4 hF4 hcz4 a0 a1 a2 a3 a4 a5 c1 rC
  have a0 := Rw.cell rA 0
  have a1 := Rw.cell rA 1
  have a2 := Rw.cell rA 2
  have a3 := Rw.cell rA 3
  have a4 := Rw.cell rA 4
  have a5 := Rw.cell rA 5
  simp only [List.getElem?_cons_zero, List.getElem?_cons_succ] at a0 a1 a2 a3 a4 a5
  have K4 := fires_any promB ⟨some ⟨bF, 0, none⟩, 2, 2⟩ 2 0 5 0 4 w5
  rw [fires_lives.2] at K4
  simp only [Sl.v, alV] at K4
  replace K4 := Lib.hid K4
  go_wp2_with fail
  refine K4.out.mono ?_
  rintro e w6 ⟨rfl, hb⟩
  have hB6 := hB5.trans (hb.mono hB5.size)
  replace rP := rP.stay hb
  replace rA := rA.stay hb
  have hN6 := hN5.stay hb
  have hF6 := hF5.stay hb
  clear K4 hb hB5 hN5 hF5 a0 a1 a2 a3 a4 a5
  have a0 := Rw.cell rA 0
  have a1 := Rw.cell rA 1
  have a2 := Rw.cell rA 2
  have a3 := Rw.cell rA 3
  have a4 := Rw.cell rA 4
  have a5 := Rw.cell rA 5
  simp only [List.getElem?_cons_zero, List.getElem?_cons_succ] at a0 a1 a2 a3 a4 a5
  have p0 := Rw.cell rP 0
  have p1 := Rw.cell rP 1
  have p2 := Rw.cell rP 2
  have p3 := Rw.cell rP 3
  have p4 := Rw.cell rP 4
  have p5 := Rw.cell rP 5
  simp only [List.getElem?_cons_zero, List.getElem?_cons_succ] at p0 p1 p2 p3 p4 p5
  have hal : Below w6.heap.size w6 (w6.alloc (.cells #[.string ⟨promB.toArray⟩, .slice (some ⟨bF, 0, none⟩) 2 2, .int .i64 2, .int .u32 0, .int .i64 5, .int .i64 0] 29)) := (Below.refl _ _).alloc (Nat.le_refl _) _
  have rD : Rw (w6.alloc (.cells #[.string ⟨promB.toArray⟩, .slice (some ⟨bF, 0, none⟩) 2 2, .int .i64 2, .int .u32 0, .int .i64 5, .int .i64 0] 29)) w6.heap.size 29 [.string ⟨promB.toArray⟩, .slice (some ⟨bF, 0, none⟩) 2 2, .int .i64 2, .int .u32 0, .int .i64 5, .int .i64 0] := Rw.new w6 29 [.string ⟨promB.toArray⟩, .slice (some ⟨bF, 0, none⟩) 2 2, .int .i64 2, .int .u32 0, .int .i64 5, .int .i64 0]
  have hB7 := hB6.trans (hal.mono hB6.size)
  have KA := apart_any (fun _ => True) (fun _ => True) ⟨none, 0, 0⟩ ⟨none, 0, 0⟩ ⟨none, 0, 0⟩ ⟨some ⟨bN, 0, none⟩, 1, 1⟩ ⟨none, 0, 0⟩ ⟨none, 0, 0⟩ ⟨some ⟨bF, 0, none⟩, 2, 2⟩ w6.heap.size 0 1 _ (ht.keep hB7) (hF6.stay hal) (hN6.stay hal) (fun i u hu => by rw [Nat.zero_add, Rw.cell rD i]; exact hu)
  simp only [Sl.v] at KA
  replace KA := Lib.hid KA
  clear rD hal hB6
  go_wp2_with fail
  refine KA.out.mono ?_
  rintro e w8 ⟨m, v, u, rfl, hm, hb⟩
  have hB8 := hB7.trans (hb.mono hB7.size)
  have hlen : (Builtin.len_ #[57] 3 #[.map (some m)]).run Tryd.prog w8 = .ok (.int .i64 2) w8 := by
    simp [Builtin.len_, run_underlying Tryd.underlying57, MapKept.run_getObj_map hm, Result.andThen, E2, goInt]
  go_wp2_with fail
  go_ret
  exact ⟨rfl, hB8⟩
end Go.Proofs.YtknhkmlihbgjpaaDoor
