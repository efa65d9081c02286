/- AlertIs returns true where the alerts' texts are no longer than so much: the law. -/
import Derived.Test.YtknhkmlihbgjpaaDoorARMerge
import Derived.Test.YtknhkmlihbgjpaaDoorARSame9
import Derived.Test.YtknhkmlihbgjpaaDoorAAs
import Derived.Test.YtknhkmlihbgjpaaDoorACN
namespace Go.Proofs.YtknhkmlihbgjpaaDoor
open Go.ChangeShapes Go.WideShapes Go.RowKit

theorem mergeq {s t : Bs} {fs gs : List (Bs × Bs)} {l c p q m d p2 q2 : Int} {w w' : World} {e : Ending} {mg : Bool} (hmg : mgB s t fs gs l p q m p2 q2 = mg) (h : MergeP s t fs gs l c p q m d p2 q2 w e w') :
    Below w.heap.size w w' ∧ ∃ z : Sl, e = .returned (.tuple #[alV (outS mg s) z.v (outI mg (jL l m)) (outI mg (jC l c m d)) (outI mg (min p p2)) (outI mg (laterN q q2)), .bool mg]) ∧ FldsAt (fun _ => True) w' z.v (outS mg fs) := by
  subst hmg
  obtain ⟨hb, ⟨h, rfl⟩ | ⟨h, z, rfl, hz⟩⟩ := h
  · rw [h]
    exact ⟨hb, ⟨none, 0, 0⟩, rfl, .inl ⟨rfl, none, 0, rfl⟩⟩
  · rw [h]
    exact ⟨hb, z, rfl, hz.mono fun _ _ _ => trivial⟩
theorem cut12 {P : Nat → Prop} {w : World} {y : Sl} {fs : List (Bs × Bs)} (h : FldsAt P w y.v fs) : FldsAt P w (.slice y.a (min y.n 12) y.c) (fs.take 12) := by
  obtain ⟨a, n, c⟩ := y
  obtain ⟨e1, _⟩ := FldsAt.cap h
  simp only at e1 ⊢
  have e := FldsAt.upto h (k := min n 12) (by omega)
  have e2 : fs.take (min n 12) = fs.take 12 := by
    rcases Nat.le_total fs.length 12 with h1 | h1
    · rw [e1, Nat.min_eq_left h1, List.take_length, List.take_of_length_le h1]
    · rw [e1, Nat.min_eq_right h1]
  rw [e2] at e
  exact e
set_option maxHeartbeats 25600000 in
set_option maxRecDepth 100000 in
theorem is_law (s t : Bs) (y z : Sl) (fs gs : List (Bs × Bs)) (l c p q m d p2 q2 now : Int) (w : World) (ht : Dg.Tabs w) (h : FldsAt (fun _ => True) w y.v fs) (h2 : FldsAt (fun _ => True) w z.v gs) (hs : s.length ≤ 9223372036854775807) (hs2 : t.length ≤ 9223372036854775807)
    (hl : fs.length ≤ 9223372036854775807) (hl2 : gs.length ≤ 9223372036854775807) (hfl : ∀ f ∈ fs, f.1.length ≤ 9223372036854775807 ∧ f.2.length ≤ 9223372036854775807) (hfl2 : ∀ f ∈ gs, f.1.length ≤ 9223372036854775807 ∧ f.2.length ≤ 9223372036854775807) (hi : (idB s (fs.take 12)).length ≤ 100000000) (hi2 : (idB t (gs.take 12)).length ≤ 100000000) (hc : U32 c) (hd : U32 d) :
    Calls Tryd.prog 3 #[alV s y.v l c p q, alV t z.v m d p2 q2, .int .i64 now] w fun e w' => e = .returned (.bool true) ∧ Below w.heap.size w w' := by
  have KL := Lib.hid fun w' (hb : Below w.heap.size w w') => lives_any w' (ht.keep hb)
  have KB1 := Lib.hid fun w' (hb : Below w.heap.size w w') => back_full (fun _ => True) s y fs l c p q w' (h.stay hb) hl
  have KB2 := Lib.hid fun w' (hb : Below w.heap.size w w') => back_full (fun _ => True) t z gs m d p2 q2 w' (h2.stay hb) hl2
  have KB1F := Lib.hid fun w' (hb : Below w.heap.size w w') => cut12 (h.stay hb)
  have KB2F := Lib.hid fun w' (hb : Below w.heap.size w w') => cut12 (h2.stay hb)
  have hfF : ∀ f ∈ fs.take 12, f.1.length ≤ 9223372036854775807 ∧ f.2.length ≤ 9223372036854775807 := fun f hf => hfl f (List.mem_of_mem_take hf)
  have hfG : ∀ f ∈ gs.take 12, f.1.length ≤ 9223372036854775807 ∧ f.2.length ≤ 9223372036854775807 := fun f hf => hfl2 f (List.mem_of_mem_take hf)
  have hF : (fs.take 12).length ≤ 12 := by rw [List.length_take]; omega
  have hG : (gs.take 12).length ≤ 12 := by rw [List.length_take]; omega
  clear hfl hfl2 hl hl2 h h2
  generalize fs.take 12 = F at *
  generalize gs.take 12 = G at *
  obtain ⟨mg, hmg⟩ : ∃ mg, mgB s t F G l p q m p2 q2 = mg := ⟨_, rfl⟩
  have hF1 : (outS mg F).length ≤ 1000000 := Nat.le_trans (outS_len _ _) (by omega)
  have KM := Lib.hid fun (y z : Sl) w' (hb : Below w.heap.size w w') (hy : FldsAt (fun _ => True) w' y.v F) (hz : FldsAt (fun _ => True) w' z.v G) => (merge_any (fun _ => True) (fun _ => True) s t y z F G l c p q m d p2 q2 w' (ht.keep hb) hy hz hs hs2 (by omega) (by omega) hfF hfG (by omega) (by omega) hc hd).mono fun _ _ h => mergeq hmg h
  have KN := Lib.hid fun (y z : Sl) w' (hy : FldsAt (fun _ => True) w' y.v F) (hz : FldsAt (fun _ => True) w' z.v G) => rmerge_any (fun _ => True) (fun _ => True) s t y z F G l c p q m d p2 q2 w' hy hz hs hs2 (by omega) (by omega) hfF hfG hi hi2 hc hd mg hmg
  have KZ := Lib.hid fun (y : Sl) w' (hy : FldsAt (fun _ => True) w' y.v F) => out_flds (P := fun _ => True) (w := w') mg hy
  have KR := Lib.hid fun (y : Sl) w' (hy : FldsAt (fun _ => True) w' y.v F) => aright_any (fun _ => True) s y F l c p q w' hy hs (by omega) hfF
  have KRr := Lib.hid fun (y : Sl) w' (hy : FldsAt (fun _ => True) w' y.v F) => rright9_any (fun _ => True) s y F l c p q w' hy hs (by omega) hfF
  have KI := Lib.hid fun (y : Sl) w' (hb : Below w.heap.size w w') (hy : FldsAt (fun _ => True) w' y.v F) => id_any (fun _ => True) s y F l c p q w' (ht.keep hb) hy (by omega) (by omega)
  have KIr := Lib.hid fun (y : Sl) w' (hy : FldsAt (fun _ => True) w' y.v F) => rid_any (fun _ => True) s y F l c p q w' hy hi (by omega)
  have KF := Lib.hid fun (y : Sl) w' => fires_any s y l c p q now w'
  have KFr := Lib.hid fun (y : Sl) w' => rfires_any s y l c p q now w'
  have KS := Lib.hid fun (y z : Sl) w' (hy : FldsAt (fun _ => True) w' y.v F) (hz : FldsAt (fun _ => True) w' z.v G) => samea_any (fun _ => True) (fun _ => True) s t y z F G l c p q m d p2 q2 w' hy hz (by omega)
  have KSr := Lib.hid fun (y z : Sl) w' (hy : FldsAt (fun _ => True) w' y.v F) (hz : FldsAt (fun _ => True) w' z.v G) => same9_any (fun _ => True) (fun _ => True) s t y z F G l c p q m d p2 q2 w' hy hz (by omega)
  have KAx := Lib.hid fun (y : Sl) w' => asd_any s y l c p q w'
  have KAy := Lib.hid fun (z : Sl) w' => asd_any t z m d p2 q2 w'
  clear hmg hi hi2 hs hs2 hfF hfG hF hG hc hd ht
  generalize arB s F l p q = ra at *
  generalize (idN s F : Int) = i1 at *
  generalize firesB p q now = fr at *
  generalize sameB s t F G l c p q m d p2 q2 = sm at *
  generalize outS mg s = S1 at *
  generalize outS mg F = F1 at *
  generalize outI mg (jL l m) = L1 at *
  generalize outI mg (jC l c m d) = C1 at *
  generalize outI mg (min p p2) = P1 at *
  generalize outI mg (laterN q q2) = Q1 at *
  obtain ⟨ay, ny, ky⟩ := y
  obtain ⟨az, nz, kz⟩ := z
  unfold alV at *
  simp only [Sl.v] at KB1 KB2 KB1F KB2F ⊢
  generalize min ny 12 = nx at *
  generalize min nz 12 = nw at *
  go_enter Tryd.func3, Tryd.ntmps3
  go_upto_region 1 with fail
  obtain ⟨rA, rB, hB⟩ := put2n w 27 27 [.string ⟨s.toArray⟩, .slice ay ny ky, .int .i64 l, .int .u32 c, .int .i64 p, .int .i64 q] [.string ⟨t.toArray⟩, .slice az nz kz, .int .i64 m, .int .u32 d, .int .i64 p2, .int .i64 q2]
  generalize (w.alloc (.cells #[.string ⟨s.toArray⟩, .slice ay ny ky, .int .i64 l, .int .u32 c, .int .i64 p, .int .i64 q] 27)).alloc (.cells #[.string ⟨t.toArray⟩, .slice az nz kz, .int .i64 m, .int .u32 d, .int .i64 p2, .int .i64 q2] 27) = w1 at *
  generalize w.heap.size + 1 = bB at *
  generalize hbA : w.heap.size = bA at rA ⊢
  have HBA : Unit → w.heap.size = bA := fun _ => hbA
  clear hbA
  go_wp2_with fail
  refine (KL.out _ hB).mono ?_
  rintro e w6 ⟨rfl, hb⟩
  replace hB := hB.trans (hb.mono hB.size)
  replace rA := rA.stay hb
  replace rB := rB.stay hb
  clear KL hb
  go_upto_region 3 with fail
  have hCL : CL w6 [(⟨bA, 0, none⟩, .string ⟨s.toArray⟩), (⟨bA, 1, none⟩, .slice ay ny ky), (⟨bA, 2, none⟩, .int .i64 l), (⟨bA, 3, none⟩, .int .u32 c), (⟨bA, 4, none⟩, .int .i64 p), (⟨bA, 5, none⟩, .int .i64 q), (⟨bB, 0, none⟩, .string ⟨t.toArray⟩), (⟨bB, 1, none⟩, .slice az nz kz), (⟨bB, 2, none⟩, .int .i64 m), (⟨bB, 3, none⟩, .int .u32 d), (⟨bB, 4, none⟩, .int .i64 p2), (⟨bB, 5, none⟩, .int .i64 q2)] w6.drew := (fun w' (k : Below w6.heap.size w6 w') => (show CL w6 [(⟨bA, 0, none⟩, .string ⟨s.toArray⟩), (⟨bA, 1, none⟩, .slice ay ny ky), (⟨bA, 2, none⟩, .int .i64 l), (⟨bA, 3, none⟩, .int .u32 c), (⟨bA, 4, none⟩, .int .i64 p), (⟨bA, 5, none⟩, .int .i64 q), (⟨bB, 0, none⟩, .string ⟨t.toArray⟩), (⟨bB, 1, none⟩, .slice az nz kz), (⟨bB, 2, none⟩, .int .i64 m), (⟨bB, 3, none⟩, .int .u32 d), (⟨bB, 4, none⟩, .int .i64 p2), (⟨bB, 5, none⟩, .int .i64 q2)] w' from (((((((((((((CL.bare k).row (rB.stay k) 5 rfl).row (rB.stay k) 4 rfl).row (rB.stay k) 3 rfl).row (rB.stay k) 2 rfl).row (rB.stay k) 1 rfl).row (rB.stay k) 0 rfl).row (rA.stay k) 5 rfl).row (rA.stay k) 4 rfl).row (rA.stay k) 3 rfl).row (rA.stay k) 2 rfl).row (rA.stay k) 1 rfl).row (rA.stay k) 0 rfl))) w6.drew ((Below.refl w6.heap.size w6).drew)
  have K1 := Lib.hid fun (L : Marks) (w' : World) (hw' : CN w6 [(⟨bA, 0, none⟩, .string ⟨s.toArray⟩), (⟨bA, 1, none⟩, .slice ay ny ky), (⟨bA, 2, none⟩, .int .i64 l), (⟨bA, 3, none⟩, .int .u32 c), (⟨bA, 4, none⟩, .int .i64 p), (⟨bA, 5, none⟩, .int .i64 q), (⟨bB, 0, none⟩, .string ⟨t.toArray⟩), (⟨bB, 1, none⟩, .slice az nz kz), (⟨bB, 2, none⟩, .int .i64 m), (⟨bB, 3, none⟩, .int .u32 d), (⟨bB, 4, none⟩, .int .i64 p2), (⟨bB, 5, none⟩, .int .i64 q2)] 29 [.string ⟨#[]⟩, .slice none 0 0, .int .i64 0, .int .u32 0, .int .i64 0, .int .i64 0] L w') => KB1.out w' (hB.trans (hw'.1.1.mono hB.size))
  have K2 := Lib.hid fun (L : Marks) (w' : World) (hw' : CN w6 [(⟨bA, 0, none⟩, .string ⟨s.toArray⟩), (⟨bA, 1, none⟩, .slice ay ny ky), (⟨bA, 2, none⟩, .int .i64 l), (⟨bA, 3, none⟩, .int .u32 c), (⟨bA, 4, none⟩, .int .i64 p), (⟨bA, 5, none⟩, .int .i64 q), (⟨bB, 0, none⟩, .string ⟨t.toArray⟩), (⟨bB, 1, none⟩, .slice az nz kz), (⟨bB, 2, none⟩, .int .i64 m), (⟨bB, 3, none⟩, .int .u32 d), (⟨bB, 4, none⟩, .int .i64 p2), (⟨bB, 5, none⟩, .int .i64 q2)] 29 [.string ⟨#[]⟩, .slice none 0 0, .int .i64 0, .int .u32 0, .int .i64 0, .int .i64 0] L w') => KB2.out w' (hB.trans (hw'.1.1.mono hB.size))
  have hz : FldsAt (fun _ => True) w6 (.slice ay nx ky) F := KB1F.out w6 hB
  have hy : FldsAt (fun _ => True) w6 (.slice az nw kz) G := KB2F.out w6 hB
  refine region_loose (fun L w' => CN w6 [(⟨bA, 0, none⟩, .string ⟨s.toArray⟩), (⟨bA, 1, none⟩, .slice ay ny ky), (⟨bA, 2, none⟩, .int .i64 l), (⟨bA, 3, none⟩, .int .u32 c), (⟨bA, 4, none⟩, .int .i64 p), (⟨bA, 5, none⟩, .int .i64 q), (⟨bB, 0, none⟩, .string ⟨t.toArray⟩), (⟨bB, 1, none⟩, .slice az nz kz), (⟨bB, 2, none⟩, .int .i64 m), (⟨bB, 3, none⟩, .int .u32 d), (⟨bB, 4, none⟩, .int .i64 p2), (⟨bB, 5, none⟩, .int .i64 q2)] 29 [.string ⟨#[]⟩, .slice none 0 0, .int .i64 0, .int .u32 0, .int .i64 0, .int .i64 0] L w') 4 6 2 #[true, true, true, true, true, true, false, false] rfl (by kernel_rfl) (by kernel_rfl) (by kernel_rfl) (CN.start hCL) ?_
  simp only [List.take_succ_cons, List.take_zero]
  repeat
    first
    | (refine loose_val (by decide) rfl ?_; apply Exists.intro; refine ⟨fun L' w' hw' => ?_, ?_⟩; focus (have e0 := hw'.1.at 0 rfl; have e1 := hw'.1.at 1 rfl; have e2 := hw'.1.at 2 rfl; have e3 := hw'.1.at 3 rfl; have e4 := hw'.1.at 4 rfl; have e5 := hw'.1.at 5 rfl; have e6 := hw'.1.at 6 rfl; have e7 := hw'.1.at 7 rfl; have e8 := hw'.1.at 8 rfl; have e9 := hw'.1.at 9 rfl; have e10 := hw'.1.at 10 rfl; have e11 := hw'.1.at 11 rfl; go_simp; first | done | rfl)
       simp only [Act.put, List.setIfInBounds_toArray, List.set_cons_zero, List.set_cons_succ])
    | (refine loose_val (by decide) rfl ?_
       apply Exists.intro
       refine ⟨fun L' w' hw' => ?_, ?_⟩
       · obtain hhh := hw'
         go_simp
         first | done | rfl | exact ⟨rfl, rfl⟩
       simp only [Act.put, List.setIfInBounds_toArray, List.set_cons_zero, List.set_cons_succ])
    | (refine loose_call (by decide) rfl ?_
       apply Exists.intro
       apply Exists.intro
       refine ⟨fun w' => ?_, ?_⟩
       · go_simp
         first | done | rfl | exact ⟨rfl, rfl⟩
       apply Exists.intro
       refine ⟨fun L' w' hw' => ?_, ?_⟩
       · first
         | (with_reducible refine (K1.out L' w' hw').mono ?_); (rintro e w'' ⟨he, _, hq⟩; exact ⟨he, CN.go hw' hq⟩)
         | (with_reducible refine (K2.out L' w' hw').mono ?_); (rintro e w'' ⟨he, _, hq⟩; exact ⟨he, CN.go hw' hq⟩)
       simp only [Act.put, List.setIfInBounds_toArray, List.set_cons_zero, List.set_cons_succ])
    | (refine loose_new (by decide) rfl (fun L' w' hw' => ?_) (fun v => ?_)
       · exact ⟨.pointer (some ⟨w'.heap.size, 0, none⟩), w'.alloc (.cells [.string ⟨#[]⟩, .slice none 0 0, .int .i64 0, .int .u32 0, .int .i64 0, .int .i64 0].toArray 29), by (go_simp; try rfl), CN.new _ hw'⟩
       simp only [Act.put, List.setIfInBounds_toArray, List.set_cons_zero, List.set_cons_succ])
  intro w5 hw5
  obtain ⟨bX, bY, rfl, rfl, hxy, hbX, hbY, rX, rY, hb⟩ := hw5.pair (by decide)
  replace hz := (hz.mono (P' := fun k => k < w6.heap.size) (fun i _ h2 => h2)).stay hb
  replace hy := (hy.mono (P' := fun k => k < w6.heap.size) (fun i _ h2 => h2)).stay hb
  have hge := hB.size
  replace hB := hB.trans (hb.mono hB.size)
  have hwX : w.heap.size ≤ bX := by omega
  have hwY : w.heap.size ≤ bY := by omega
  clear hb hw5 K1 K2 rA rB hge KB1 KB2 KB1F KB2F hCL
  have z0 := Rw.frozen rX 0
  have z1 := Rw.frozen rX 1
  have z2 := Rw.frozen rX 2
  have z3 := Rw.frozen rX 3
  have z4 := Rw.frozen rX 4
  have z5 := Rw.frozen rX 5
  have u0 := Rw.cell rX 0
  have u1 := Rw.cell rX 1
  have u2 := Rw.cell rX 2
  have u3 := Rw.cell rX 3
  have u4 := Rw.cell rX 4
  have u5 := Rw.cell rX 5
  simp only [List.getElem?_cons_zero, List.getElem?_cons_succ] at u0 u1 u2 u3 u4 u5
  refine wpAny_ready (rs := [6]) (by kernel_rfl) (by simp) ?_
  refine AllReady.cons rfl (fun K hK => ?_) AllReady.nil
  go_simp
  refine hK _ _ ?_
  clear hK K z0 z1 z2 z3 z4 z5 u0 u1 u2 u3 u4 u5
  replace rY := ((((((rY.other (hxy.symm) 0 (.string ⟨s.toArray⟩)).other (hxy.symm) 1 (.slice ay nx ky)).other (hxy.symm) 2 (.int .i64 l)).other (hxy.symm) 3 (.int .u32 c)).other (hxy.symm) 4 (.int .i64 p)).other (hxy.symm) 5 (.int .i64 q))
  replace hz := hz.keepN (S := fun j => j = bX) ((((((Asd.one w5 bX 0 (.string ⟨s.toArray⟩)).set1 1 (.slice ay nx ky)).set1 2 (.int .i64 l)).set1 3 (.int .u32 c)).set1 4 (.int .i64 p)).set1 5 (.int .i64 q)) (fun i hi _ e => by have h0 : i < w6.heap.size := hi; omega)
  replace hy := hy.keepN (S := fun j => j = bX) ((((((Asd.one w5 bX 0 (.string ⟨s.toArray⟩)).set1 1 (.slice ay nx ky)).set1 2 (.int .i64 l)).set1 3 (.int .u32 c)).set1 4 (.int .i64 p)).set1 5 (.int .i64 q)) (fun i hi _ e => by have h0 : i < w6.heap.size := hi; omega)
  replace hB := below_set6 hB hwX (.string ⟨s.toArray⟩) (.slice ay nx ky) (.int .i64 l) (.int .u32 c) (.int .i64 p) (.int .i64 q)
  replace rX := rX.set6 (.string ⟨s.toArray⟩) (.slice ay nx ky) (.int .i64 l) (.int .u32 c) (.int .i64 p) (.int .i64 q)
  generalize (((((w5.setCell ⟨bX, 0, none⟩ (.string ⟨s.toArray⟩)).setCell ⟨bX, 1, none⟩ (.slice ay nx ky)).setCell ⟨bX, 2, none⟩ (.int .i64 l)).setCell ⟨bX, 3, none⟩ (.int .u32 c)).setCell ⟨bX, 4, none⟩ (.int .i64 p)).setCell ⟨bX, 5, none⟩ (.int .i64 q) = w7 at *
  have z0 := Rw.frozen rY 0
  have z1 := Rw.frozen rY 1
  have z2 := Rw.frozen rY 2
  have z3 := Rw.frozen rY 3
  have z4 := Rw.frozen rY 4
  have z5 := Rw.frozen rY 5
  have u0 := Rw.cell rY 0
  have u1 := Rw.cell rY 1
  have u2 := Rw.cell rY 2
  have u3 := Rw.cell rY 3
  have u4 := Rw.cell rY 4
  have u5 := Rw.cell rY 5
  simp only [List.getElem?_cons_zero, List.getElem?_cons_succ] at u0 u1 u2 u3 u4 u5
  refine wpAny_ready (rs := [7]) (by kernel_rfl) (by simp) ?_
  refine AllReady.cons rfl (fun K hK => ?_) AllReady.nil
  go_simp
  refine hK _ _ ?_
  clear hK K z0 z1 z2 z3 z4 z5 u0 u1 u2 u3 u4 u5
  replace rX := ((((((rX.other (hxy) 0 (.string ⟨t.toArray⟩)).other (hxy) 1 (.slice az nw kz)).other (hxy) 2 (.int .i64 m)).other (hxy) 3 (.int .u32 d)).other (hxy) 4 (.int .i64 p2)).other (hxy) 5 (.int .i64 q2))
  replace hz := hz.keepN (S := fun j => j = bY) ((((((Asd.one w7 bY 0 (.string ⟨t.toArray⟩)).set1 1 (.slice az nw kz)).set1 2 (.int .i64 m)).set1 3 (.int .u32 d)).set1 4 (.int .i64 p2)).set1 5 (.int .i64 q2)) (fun i hi _ e => by have h0 : i < w6.heap.size := hi; omega)
  replace hy := hy.keepN (S := fun j => j = bY) ((((((Asd.one w7 bY 0 (.string ⟨t.toArray⟩)).set1 1 (.slice az nw kz)).set1 2 (.int .i64 m)).set1 3 (.int .u32 d)).set1 4 (.int .i64 p2)).set1 5 (.int .i64 q2)) (fun i hi _ e => by have h0 : i < w6.heap.size := hi; omega)
  replace hB := below_set6 hB hwY (.string ⟨t.toArray⟩) (.slice az nw kz) (.int .i64 m) (.int .u32 d) (.int .i64 p2) (.int .i64 q2)
  replace rY := rY.set6 (.string ⟨t.toArray⟩) (.slice az nw kz) (.int .i64 m) (.int .u32 d) (.int .i64 p2) (.int .i64 q2)
  generalize (((((w7.setCell ⟨bY, 0, none⟩ (.string ⟨t.toArray⟩)).setCell ⟨bY, 1, none⟩ (.slice az nw kz)).setCell ⟨bY, 2, none⟩ (.int .i64 m)).setCell ⟨bY, 3, none⟩ (.int .u32 d)).setCell ⟨bY, 4, none⟩ (.int .i64 p2)).setCell ⟨bY, 5, none⟩ (.int .i64 q2) = w8 at *
  refine wpAny_done (by kernel_rfl) ?_ _
  replace hz := hz.mono (P' := fun _ => True) (fun _ _ _ => trivial)
  replace hy := hy.mono (P' := fun _ => True) (fun _ _ _ => trivial)
  clear hbX hbY hwX hwY hxy
  have a0 := Rw.cell rX 0
  have a1 := Rw.cell rX 1
  have a2 := Rw.cell rX 2
  have a3 := Rw.cell rX 3
  have a4 := Rw.cell rX 4
  have a5 := Rw.cell rX 5
  simp only [List.getElem?_cons_zero, List.getElem?_cons_succ] at a0 a1 a2 a3 a4 a5
  have b0 := Rw.cell rY 0
  have b1 := Rw.cell rY 1
  have b2 := Rw.cell rY 2
  have b3 := Rw.cell rY 3
  have b4 := Rw.cell rY 4
  have b5 := Rw.cell rY 5
  simp only [List.getElem?_cons_zero, List.getElem?_cons_succ] at b0 b1 b2 b3 b4 b5
  have K0 := KM.out ⟨ay, nx, ky⟩ ⟨az, nw, kz⟩ w8 hB hz hy
  simp only [Sl.v] at K0
  replace K0 := Lib.hid K0
  go_wp2_with fail
  refine K0.out.mono ?_
  rintro e w9 ⟨hb, ⟨am, nm, km⟩, rfl, hm⟩
  replace hB := hB.trans (hb.mono hB.size)
  replace rX := rX.stay hb
  replace rY := rY.stay hb
  replace hz := hz.stay hb
  replace hy := hy.stay hb
  clear K0 KM hb a0 a1 a2 a3 a4 a5 b0 b1 b2 b3 b4 b5
  simp only at hm ⊢
  have hal : Below w9.heap.size w9 (w9.alloc (.cells #[.string ⟨S1.toArray⟩, .slice am nm km, .int .i64 L1, .int .u32 C1, .int .i64 P1, .int .i64 Q1] 29)) := (Below.refl _ _).alloc (Nat.le_refl _) _
  have rM : Rw (w9.alloc (.cells #[.string ⟨S1.toArray⟩, .slice am nm km, .int .i64 L1, .int .u32 C1, .int .i64 P1, .int .i64 Q1] 29)) w9.heap.size 29 [.string ⟨S1.toArray⟩, .slice am nm km, .int .i64 L1, .int .u32 C1, .int .i64 P1, .int .i64 Q1] := Rw.new w9 29 [.string ⟨S1.toArray⟩, .slice am nm km, .int .i64 L1, .int .u32 C1, .int .i64 P1, .int .i64 Q1]
  replace hB := hB.trans (hal.mono hB.size)
  replace rX := rX.stay hal
  replace rY := rY.stay hal
  replace hz := hz.stay hal
  replace hy := hy.stay hal
  replace hm := hm.stay hal
  go_upto_region 5 with fail
  generalize w9.alloc (.cells #[.string ⟨S1.toArray⟩, .slice am nm km, .int .i64 L1, .int .u32 C1, .int .i64 P1, .int .i64 Q1] 29) = v1 at *
  generalize w9.heap.size = bM at *
  clear hal
  have hn := KZ.out ⟨ay, nx, ky⟩ v1 hz
  have KN1 := Lib.hid fun w' (k : Below v1.heap.size v1 w') => KN.out ⟨ay, nx, ky⟩ ⟨az, nw, kz⟩ w' (hz.stay k) (hy.stay k)
  have KA1 := Lib.hid fun w' => KAx.out ⟨ay, nx, ky⟩ w'
  have KA2 := Lib.hid fun w' => KAy.out ⟨az, nw, kz⟩ w'
  generalize outZ mg ⟨ay, nx, ky⟩ = zn at *
  obtain ⟨an, nn, kn⟩ := zn
  simp only [Sl.v] at hn KN1 KA1 KA2
  clear KZ KN
  have hCL := Lib.hid fun w' (k : Below v1.heap.size v1 w') => (show CL v1 [(⟨bX, 0, none⟩, .string ⟨s.toArray⟩), (⟨bX, 1, none⟩, .slice ay nx ky), (⟨bX, 2, none⟩, .int .i64 l), (⟨bX, 3, none⟩, .int .u32 c), (⟨bX, 4, none⟩, .int .i64 p), (⟨bX, 5, none⟩, .int .i64 q), (⟨bY, 0, none⟩, .string ⟨t.toArray⟩), (⟨bY, 1, none⟩, .slice az nw kz), (⟨bY, 2, none⟩, .int .i64 m), (⟨bY, 3, none⟩, .int .u32 d), (⟨bY, 4, none⟩, .int .i64 p2), (⟨bY, 5, none⟩, .int .i64 q2)] w' from (((((((((((((CL.bare k).row (rY.stay k) 5 rfl).row (rY.stay k) 4 rfl).row (rY.stay k) 3 rfl).row (rY.stay k) 2 rfl).row (rY.stay k) 1 rfl).row (rY.stay k) 0 rfl).row (rX.stay k) 5 rfl).row (rX.stay k) 4 rfl).row (rX.stay k) 3 rfl).row (rX.stay k) 2 rfl).row (rX.stay k) 1 rfl).row (rX.stay k) 0 rfl))
  go_cut [11, 12] from 25 to 32 (fun u11 u12 wx => ∃ g : Nat, u11 = .pointer (some ⟨g, 0, none⟩) ∧ u12 = .bool mg ∧ Rw wx g 27 [.string ⟨S1.toArray⟩, .slice an nn kn, .int .i64 L1, .int .u32 C1, .int .i64 P1, .int .i64 Q1] ∧ Below v1.heap.size v1 wx)
  case first =>
    refine wp_region_held (S := CL v1 [(⟨bX, 0, none⟩, .string ⟨s.toArray⟩), (⟨bX, 1, none⟩, .slice ay nx ky), (⟨bX, 2, none⟩, .int .i64 l), (⟨bX, 3, none⟩, .int .u32 c), (⟨bX, 4, none⟩, .int .i64 p), (⟨bX, 5, none⟩, .int .i64 q), (⟨bY, 0, none⟩, .string ⟨t.toArray⟩), (⟨bY, 1, none⟩, .slice az nw kz), (⟨bY, 2, none⟩, .int .i64 m), (⟨bY, 3, none⟩, .int .u32 d), (⟨bY, 4, none⟩, .int .i64 p2), (⟨bY, 5, none⟩, .int .i64 q2)]) (by kernel_rfl) ?_
    have hS := hCL.out v1.drew ((Below.refl v1.heap.size v1).drew)
    change wpAnyH _ _ _ _ _ _ _ _ v1.drew
    generalize v1.drew = D1 at *
    refine held_val 0 rfl (by kernel_rfl) (by kernel_rfl) (by kernel_rfl) (fun _ _ _ _ h => h) (by rfl) hS ?_
    apply Exists.intro
    refine ⟨fun w' hw' => ?_, ?_⟩
    · have e0 := hw'.at 0 rfl; have e1 := hw'.at 1 rfl; have e2 := hw'.at 2 rfl; have e3 := hw'.at 3 rfl; have e4 := hw'.at 4 rfl; have e5 := hw'.at 5 rfl
      go_simp
      first | done | rfl | exact ⟨rfl, rfl⟩
    simp only [Act.put, List.setIfInBounds_toArray, List.set_cons_zero, List.set_cons_succ]
    refine held_val 2 rfl (by kernel_rfl) (by kernel_rfl) (by kernel_rfl) (fun _ _ _ _ h => h) (by rfl) hS ?_
    apply Exists.intro
    refine ⟨fun w' hw' => ?_, ?_⟩
    · have e0 := hw'.at 6 rfl; have e1 := hw'.at 7 rfl; have e2 := hw'.at 8 rfl; have e3 := hw'.at 9 rfl; have e4 := hw'.at 10 rfl; have e5 := hw'.at 11 rfl
      go_simp
      first | done | rfl | exact ⟨rfl, rfl⟩
    simp only [Act.put, List.setIfInBounds_toArray, List.set_cons_zero, List.set_cons_succ]
    refine held_two 1 8 (by kernel_rfl) rfl rfl (by rfl) (by rfl) ?_ ?_
    · skip
      refine wp_enter ?_
      apply Exists.intro
      apply Exists.intro
      refine ⟨?_, ?_⟩
      · go_simp
        first | done | rfl | exact ⟨rfl, rfl⟩
      refine (KA1.out _).mono ?_
      rintro e D2 ⟨rfl, hb⟩
      replace hS := hS.go hb
      refine ⟨_, rfl, hS, ?_⟩
      clear hb
      try simp only [Act.put, List.setIfInBounds_toArray, List.set_cons_zero, List.set_cons_succ]
      refine held_two 3 8 (by kernel_rfl) rfl rfl (by rfl) (by rfl) ?_ ?_
      · skip
        refine wp_enter ?_
        apply Exists.intro
        apply Exists.intro
        refine ⟨?_, ?_⟩
        · go_simp
          first | done | rfl | exact ⟨rfl, rfl⟩
        refine (KA2.out _).mono ?_
        rintro e D3 ⟨rfl, hb⟩
        replace hS := hS.go hb
        refine ⟨_, rfl, hS, ?_⟩
        clear hb
        try simp only [Act.put, List.setIfInBounds_toArray, List.set_cons_zero, List.set_cons_succ]
        refine held_two 4 8 (by kernel_rfl) rfl rfl (by rfl) (by rfl) ?_ ?_
        · skip
          refine wp_enter ?_
          apply Exists.intro
          apply Exists.intro
          refine ⟨?_, ?_⟩
          · go_simp
            first | done | rfl | exact ⟨rfl, rfl⟩
          refine (KN1.out _ hS.1).mono ?_
          rintro e D4 ⟨rfl, hb⟩
          replace hS := hS.go hb
          refine ⟨_, rfl, hS, ?_⟩
          clear hb
          try simp only [Act.put, List.setIfInBounds_toArray, List.set_cons_zero, List.set_cons_succ]
          refine held_val 5 rfl (by kernel_rfl) (by kernel_rfl) (by kernel_rfl) (fun _ _ _ _ h => h) (by rfl) hS ?_
          apply Exists.intro
          refine ⟨fun w' hw' => ?_, ?_⟩
          · skip
            go_simp
            first | done | rfl | exact ⟨rfl, rfl⟩
          simp only [Act.put, List.setIfInBounds_toArray, List.set_cons_zero, List.set_cons_succ]
          refine held_val 6 rfl (by kernel_rfl) (by kernel_rfl) (by kernel_rfl) (fun _ _ _ _ h => h) (by rfl) hS ?_
          apply Exists.intro
          refine ⟨fun w' hw' => ?_, ?_⟩
          · skip
            go_simp
            first | done | rfl | exact ⟨rfl, rfl⟩
          simp only [Act.put, List.setIfInBounds_toArray, List.set_cons_zero, List.set_cons_succ]
          refine held_val 7 rfl (by kernel_rfl) (by kernel_rfl) (by kernel_rfl) (fun _ _ _ _ h => h) (by rfl) hS ?_
          apply Exists.intro
          refine ⟨fun w' hw' => ?_, ?_⟩
          · skip
            go_simp
            first | done | rfl | exact ⟨rfl, rfl⟩
          simp only [Act.put, List.setIfInBounds_toArray, List.set_cons_zero, List.set_cons_succ]
          refine held_one 8 (by kernel_rfl) rfl (by rfl) ?_
          unfold Oper.wp
          go_simp
          have hal : Below D4.heap.size D4 (D4.alloc (.cells #[.string ⟨#[]⟩, .slice none 0 0, .int .i64 0, .int .u32 0, .int .i64 0, .int .i64 0] 27)) := (Below.refl _ _).alloc (Nat.le_refl _) _
          have rO : Rw (D4.alloc (.cells #[.string ⟨#[]⟩, .slice none 0 0, .int .i64 0, .int .u32 0, .int .i64 0, .int .i64 0] 27)) D4.heap.size 27 [.string ⟨#[]⟩, .slice none 0 0, .int .i64 0, .int .u32 0, .int .i64 0, .int .i64 0] := Rw.new D4 27 [.string ⟨#[]⟩, .slice none 0 0, .int .i64 0, .int .u32 0, .int .i64 0, .int .i64 0]
          have hOb : v1.heap.size ≤ D4.heap.size := hS.1.size
          replace hS := hS.go hal
          refine ⟨hS, ?_⟩
          clear hal
          generalize D4.alloc (.cells #[.string ⟨#[]⟩, .slice none 0 0, .int .i64 0, .int .u32 0, .int .i64 0, .int .i64 0] 27) = D5 at *
          generalize D4.heap.size = g at *
          try simp only [Act.put, List.setIfInBounds_toArray, List.set_cons_zero, List.set_cons_succ]
          have z0 := Rw.frozen rO 0
          have z1 := Rw.frozen rO 1
          have z2 := Rw.frozen rO 2
          have z3 := Rw.frozen rO 3
          have z4 := Rw.frozen rO 4
          have z5 := Rw.frozen rO 5
          have u0 := Rw.cell rO 0
          have u1 := Rw.cell rO 1
          have u2 := Rw.cell rO 2
          have u3 := Rw.cell rO 3
          have u4 := Rw.cell rO 4
          have u5 := Rw.cell rO 5
          simp only [List.getElem?_cons_zero, List.getElem?_cons_succ] at u0 u1 u2 u3 u4 u5
          have rO2 := rO.set6 (.string ⟨S1.toArray⟩) (.slice an nn kn) (.int .i64 L1) (.int .u32 C1) (.int .i64 P1) (.int .i64 Q1)
          have hB9 := below_set6 hS.1 hOb (.string ⟨S1.toArray⟩) (.slice an nn kn) (.int .i64 L1) (.int .u32 C1) (.int .i64 P1) (.int .i64 Q1)
          refine held_one 9 (by kernel_rfl) rfl (by rfl) ?_
          refine wp_skip (w' := (((((D5.setCell ⟨g, 0, none⟩ (.string ⟨S1.toArray⟩)).setCell ⟨g, 1, none⟩ (.slice an nn kn)).setCell ⟨g, 2, none⟩ (.int .i64 L1)).setCell ⟨g, 3, none⟩ (.int .u32 C1)).setCell ⟨g, 4, none⟩ (.int .i64 P1)).setCell ⟨g, 5, none⟩ (.int .i64 Q1)) ?_ rfl ?_
          · go_simp
            done
          replace hS := hCL.out _ hB9
          refine ⟨hS, ?_⟩
          generalize (((((D5.setCell ⟨g, 0, none⟩ (.string ⟨S1.toArray⟩)).setCell ⟨g, 1, none⟩ (.slice an nn kn)).setCell ⟨g, 2, none⟩ (.int .i64 L1)).setCell ⟨g, 3, none⟩ (.int .u32 C1)).setCell ⟨g, 4, none⟩ (.int .i64 P1)).setCell ⟨g, 5, none⟩ (.int .i64 Q1) = D9 at *
          try simp only [Act.put, List.setIfInBounds_toArray, List.set_cons_zero, List.set_cons_succ]
          clear z0 z1 z2 z3 z4 z5 u0 u1 u2 u3 u4 u5
          refine held_val 10 rfl (by kernel_rfl) (by kernel_rfl) (by kernel_rfl) (fun _ _ _ _ h => h) (by rfl) hS ?_
          apply Exists.intro
          refine ⟨fun w' hw' => ?_, ?_⟩
          · skip
            go_simp
            first | done | rfl | exact ⟨rfl, rfl⟩
          simp only [Act.put, List.setIfInBounds_toArray, List.set_cons_zero, List.set_cons_succ]
          refine wpAnyH_done (by kernel_rfl) ?_ _
          go_wp2_with fail
          go_meet
          exact ⟨g, rfl, rfl, rO2, hB9⟩
        · skip
          unfold Oper.wp
          go_simp
          have hal : Below D3.heap.size D3 (D3.alloc (.cells #[.string ⟨#[]⟩, .slice none 0 0, .int .i64 0, .int .u32 0, .int .i64 0, .int .i64 0] 27)) := (Below.refl _ _).alloc (Nat.le_refl _) _
          have rO : Rw (D3.alloc (.cells #[.string ⟨#[]⟩, .slice none 0 0, .int .i64 0, .int .u32 0, .int .i64 0, .int .i64 0] 27)) D3.heap.size 27 [.string ⟨#[]⟩, .slice none 0 0, .int .i64 0, .int .u32 0, .int .i64 0, .int .i64 0] := Rw.new D3 27 [.string ⟨#[]⟩, .slice none 0 0, .int .i64 0, .int .u32 0, .int .i64 0, .int .i64 0]
          have hOb : v1.heap.size ≤ D3.heap.size := hS.1.size
          replace hS := hS.go hal
          refine ⟨hS, ?_⟩
          clear hal
          generalize D3.alloc (.cells #[.string ⟨#[]⟩, .slice none 0 0, .int .i64 0, .int .u32 0, .int .i64 0, .int .i64 0] 27) = D4 at *
          generalize D3.heap.size = g at *
          try simp only [Act.put, List.setIfInBounds_toArray, List.set_cons_zero, List.set_cons_succ]
          refine held_one 4 (by kernel_rfl) rfl (by rfl) ?_
          refine wp_enter ?_
          apply Exists.intro
          apply Exists.intro
          refine ⟨?_, ?_⟩
          · go_simp
            first | done | rfl | exact ⟨rfl, rfl⟩
          refine (KN1.out _ hS.1).mono ?_
          rintro e D5 ⟨rfl, hb⟩
          replace hS := hS.go hb
          replace rO := rO.stay hb
          refine ⟨_, rfl, hS, ?_⟩
          clear hb
          try simp only [Act.put, List.setIfInBounds_toArray, List.set_cons_zero, List.set_cons_succ]
          refine held_val 5 rfl (by kernel_rfl) (by kernel_rfl) (by kernel_rfl) (fun _ _ _ _ h => h) (by rfl) hS ?_
          apply Exists.intro
          refine ⟨fun w' hw' => ?_, ?_⟩
          · skip
            go_simp
            first | done | rfl | exact ⟨rfl, rfl⟩
          simp only [Act.put, List.setIfInBounds_toArray, List.set_cons_zero, List.set_cons_succ]
          refine held_val 6 rfl (by kernel_rfl) (by kernel_rfl) (by kernel_rfl) (fun _ _ _ _ h => h) (by rfl) hS ?_
          apply Exists.intro
          refine ⟨fun w' hw' => ?_, ?_⟩
          · skip
            go_simp
            first | done | rfl | exact ⟨rfl, rfl⟩
          simp only [Act.put, List.setIfInBounds_toArray, List.set_cons_zero, List.set_cons_succ]
          refine held_val 7 rfl (by kernel_rfl) (by kernel_rfl) (by kernel_rfl) (fun _ _ _ _ h => h) (by rfl) hS ?_
          apply Exists.intro
          refine ⟨fun w' hw' => ?_, ?_⟩
          · skip
            go_simp
            first | done | rfl | exact ⟨rfl, rfl⟩
          simp only [Act.put, List.setIfInBounds_toArray, List.set_cons_zero, List.set_cons_succ]
          have z0 := Rw.frozen rO 0
          have z1 := Rw.frozen rO 1
          have z2 := Rw.frozen rO 2
          have z3 := Rw.frozen rO 3
          have z4 := Rw.frozen rO 4
          have z5 := Rw.frozen rO 5
          have u0 := Rw.cell rO 0
          have u1 := Rw.cell rO 1
          have u2 := Rw.cell rO 2
          have u3 := Rw.cell rO 3
          have u4 := Rw.cell rO 4
          have u5 := Rw.cell rO 5
          simp only [List.getElem?_cons_zero, List.getElem?_cons_succ] at u0 u1 u2 u3 u4 u5
          have rO2 := rO.set6 (.string ⟨S1.toArray⟩) (.slice an nn kn) (.int .i64 L1) (.int .u32 C1) (.int .i64 P1) (.int .i64 Q1)
          have hB9 := below_set6 hS.1 hOb (.string ⟨S1.toArray⟩) (.slice an nn kn) (.int .i64 L1) (.int .u32 C1) (.int .i64 P1) (.int .i64 Q1)
          refine held_one 9 (by kernel_rfl) rfl (by rfl) ?_
          refine wp_skip (w' := (((((D5.setCell ⟨g, 0, none⟩ (.string ⟨S1.toArray⟩)).setCell ⟨g, 1, none⟩ (.slice an nn kn)).setCell ⟨g, 2, none⟩ (.int .i64 L1)).setCell ⟨g, 3, none⟩ (.int .u32 C1)).setCell ⟨g, 4, none⟩ (.int .i64 P1)).setCell ⟨g, 5, none⟩ (.int .i64 Q1)) ?_ rfl ?_
          · go_simp
            done
          replace hS := hCL.out _ hB9
          refine ⟨hS, ?_⟩
          generalize (((((D5.setCell ⟨g, 0, none⟩ (.string ⟨S1.toArray⟩)).setCell ⟨g, 1, none⟩ (.slice an nn kn)).setCell ⟨g, 2, none⟩ (.int .i64 L1)).setCell ⟨g, 3, none⟩ (.int .u32 C1)).setCell ⟨g, 4, none⟩ (.int .i64 P1)).setCell ⟨g, 5, none⟩ (.int .i64 Q1) = D9 at *
          try simp only [Act.put, List.setIfInBounds_toArray, List.set_cons_zero, List.set_cons_succ]
          clear z0 z1 z2 z3 z4 z5 u0 u1 u2 u3 u4 u5
          refine held_val 10 rfl (by kernel_rfl) (by kernel_rfl) (by kernel_rfl) (fun _ _ _ _ h => h) (by rfl) hS ?_
          apply Exists.intro
          refine ⟨fun w' hw' => ?_, ?_⟩
          · skip
            go_simp
            first | done | rfl | exact ⟨rfl, rfl⟩
          simp only [Act.put, List.setIfInBounds_toArray, List.set_cons_zero, List.set_cons_succ]
          refine wpAnyH_done (by kernel_rfl) ?_ _
          go_wp2_with fail
          go_meet
          exact ⟨g, rfl, rfl, rO2, hB9⟩
      · skip
        unfold Oper.wp
        go_simp
        have hal : Below D2.heap.size D2 (D2.alloc (.cells #[.string ⟨#[]⟩, .slice none 0 0, .int .i64 0, .int .u32 0, .int .i64 0, .int .i64 0] 27)) := (Below.refl _ _).alloc (Nat.le_refl _) _
        have rO : Rw (D2.alloc (.cells #[.string ⟨#[]⟩, .slice none 0 0, .int .i64 0, .int .u32 0, .int .i64 0, .int .i64 0] 27)) D2.heap.size 27 [.string ⟨#[]⟩, .slice none 0 0, .int .i64 0, .int .u32 0, .int .i64 0, .int .i64 0] := Rw.new D2 27 [.string ⟨#[]⟩, .slice none 0 0, .int .i64 0, .int .u32 0, .int .i64 0, .int .i64 0]
        have hOb : v1.heap.size ≤ D2.heap.size := hS.1.size
        replace hS := hS.go hal
        refine ⟨hS, ?_⟩
        clear hal
        generalize D2.alloc (.cells #[.string ⟨#[]⟩, .slice none 0 0, .int .i64 0, .int .u32 0, .int .i64 0, .int .i64 0] 27) = D3 at *
        generalize D2.heap.size = g at *
        try simp only [Act.put, List.setIfInBounds_toArray, List.set_cons_zero, List.set_cons_succ]
        refine held_one 3 (by kernel_rfl) rfl (by rfl) ?_
        refine wp_enter ?_
        apply Exists.intro
        apply Exists.intro
        refine ⟨?_, ?_⟩
        · go_simp
          first | done | rfl | exact ⟨rfl, rfl⟩
        refine (KA2.out _).mono ?_
        rintro e D4 ⟨rfl, hb⟩
        replace hS := hS.go hb
        replace rO := rO.stay hb
        refine ⟨_, rfl, hS, ?_⟩
        clear hb
        try simp only [Act.put, List.setIfInBounds_toArray, List.set_cons_zero, List.set_cons_succ]
        refine held_one 4 (by kernel_rfl) rfl (by rfl) ?_
        refine wp_enter ?_
        apply Exists.intro
        apply Exists.intro
        refine ⟨?_, ?_⟩
        · go_simp
          first | done | rfl | exact ⟨rfl, rfl⟩
        refine (KN1.out _ hS.1).mono ?_
        rintro e D5 ⟨rfl, hb⟩
        replace hS := hS.go hb
        replace rO := rO.stay hb
        refine ⟨_, rfl, hS, ?_⟩
        clear hb
        try simp only [Act.put, List.setIfInBounds_toArray, List.set_cons_zero, List.set_cons_succ]
        refine held_val 5 rfl (by kernel_rfl) (by kernel_rfl) (by kernel_rfl) (fun _ _ _ _ h => h) (by rfl) hS ?_
        apply Exists.intro
        refine ⟨fun w' hw' => ?_, ?_⟩
        · skip
          go_simp
          first | done | rfl | exact ⟨rfl, rfl⟩
        simp only [Act.put, List.setIfInBounds_toArray, List.set_cons_zero, List.set_cons_succ]
        refine held_val 6 rfl (by kernel_rfl) (by kernel_rfl) (by kernel_rfl) (fun _ _ _ _ h => h) (by rfl) hS ?_
        apply Exists.intro
        refine ⟨fun w' hw' => ?_, ?_⟩
        · skip
          go_simp
          first | done | rfl | exact ⟨rfl, rfl⟩
        simp only [Act.put, List.setIfInBounds_toArray, List.set_cons_zero, List.set_cons_succ]
        refine held_val 7 rfl (by kernel_rfl) (by kernel_rfl) (by kernel_rfl) (fun _ _ _ _ h => h) (by rfl) hS ?_
        apply Exists.intro
        refine ⟨fun w' hw' => ?_, ?_⟩
        · skip
          go_simp
          first | done | rfl | exact ⟨rfl, rfl⟩
        simp only [Act.put, List.setIfInBounds_toArray, List.set_cons_zero, List.set_cons_succ]
        have z0 := Rw.frozen rO 0
        have z1 := Rw.frozen rO 1
        have z2 := Rw.frozen rO 2
        have z3 := Rw.frozen rO 3
        have z4 := Rw.frozen rO 4
        have z5 := Rw.frozen rO 5
        have u0 := Rw.cell rO 0
        have u1 := Rw.cell rO 1
        have u2 := Rw.cell rO 2
        have u3 := Rw.cell rO 3
        have u4 := Rw.cell rO 4
        have u5 := Rw.cell rO 5
        simp only [List.getElem?_cons_zero, List.getElem?_cons_succ] at u0 u1 u2 u3 u4 u5
        have rO2 := rO.set6 (.string ⟨S1.toArray⟩) (.slice an nn kn) (.int .i64 L1) (.int .u32 C1) (.int .i64 P1) (.int .i64 Q1)
        have hB9 := below_set6 hS.1 hOb (.string ⟨S1.toArray⟩) (.slice an nn kn) (.int .i64 L1) (.int .u32 C1) (.int .i64 P1) (.int .i64 Q1)
        refine held_one 9 (by kernel_rfl) rfl (by rfl) ?_
        refine wp_skip (w' := (((((D5.setCell ⟨g, 0, none⟩ (.string ⟨S1.toArray⟩)).setCell ⟨g, 1, none⟩ (.slice an nn kn)).setCell ⟨g, 2, none⟩ (.int .i64 L1)).setCell ⟨g, 3, none⟩ (.int .u32 C1)).setCell ⟨g, 4, none⟩ (.int .i64 P1)).setCell ⟨g, 5, none⟩ (.int .i64 Q1)) ?_ rfl ?_
        · go_simp
          done
        replace hS := hCL.out _ hB9
        refine ⟨hS, ?_⟩
        generalize (((((D5.setCell ⟨g, 0, none⟩ (.string ⟨S1.toArray⟩)).setCell ⟨g, 1, none⟩ (.slice an nn kn)).setCell ⟨g, 2, none⟩ (.int .i64 L1)).setCell ⟨g, 3, none⟩ (.int .u32 C1)).setCell ⟨g, 4, none⟩ (.int .i64 P1)).setCell ⟨g, 5, none⟩ (.int .i64 Q1) = D9 at *
        try simp only [Act.put, List.setIfInBounds_toArray, List.set_cons_zero, List.set_cons_succ]
        clear z0 z1 z2 z3 z4 z5 u0 u1 u2 u3 u4 u5
        refine held_val 10 rfl (by kernel_rfl) (by kernel_rfl) (by kernel_rfl) (fun _ _ _ _ h => h) (by rfl) hS ?_
        apply Exists.intro
        refine ⟨fun w' hw' => ?_, ?_⟩
        · skip
          go_simp
          first | done | rfl | exact ⟨rfl, rfl⟩
        simp only [Act.put, List.setIfInBounds_toArray, List.set_cons_zero, List.set_cons_succ]
        refine wpAnyH_done (by kernel_rfl) ?_ _
        go_wp2_with fail
        go_meet
        exact ⟨g, rfl, rfl, rO2, hB9⟩
    · skip
      unfold Oper.wp
      go_simp
      have hal : Below D1.heap.size D1 (D1.alloc (.cells #[.string ⟨#[]⟩, .slice none 0 0, .int .i64 0, .int .u32 0, .int .i64 0, .int .i64 0] 27)) := (Below.refl _ _).alloc (Nat.le_refl _) _
      have rO : Rw (D1.alloc (.cells #[.string ⟨#[]⟩, .slice none 0 0, .int .i64 0, .int .u32 0, .int .i64 0, .int .i64 0] 27)) D1.heap.size 27 [.string ⟨#[]⟩, .slice none 0 0, .int .i64 0, .int .u32 0, .int .i64 0, .int .i64 0] := Rw.new D1 27 [.string ⟨#[]⟩, .slice none 0 0, .int .i64 0, .int .u32 0, .int .i64 0, .int .i64 0]
      have hOb : v1.heap.size ≤ D1.heap.size := hS.1.size
      replace hS := hS.go hal
      refine ⟨hS, ?_⟩
      clear hal
      generalize D1.alloc (.cells #[.string ⟨#[]⟩, .slice none 0 0, .int .i64 0, .int .u32 0, .int .i64 0, .int .i64 0] 27) = D2 at *
      generalize D1.heap.size = g at *
      try simp only [Act.put, List.setIfInBounds_toArray, List.set_cons_zero, List.set_cons_succ]
      refine held_one 1 (by kernel_rfl) rfl (by rfl) ?_
      refine wp_enter ?_
      apply Exists.intro
      apply Exists.intro
      refine ⟨?_, ?_⟩
      · go_simp
        first | done | rfl | exact ⟨rfl, rfl⟩
      refine (KA1.out _).mono ?_
      rintro e D3 ⟨rfl, hb⟩
      replace hS := hS.go hb
      replace rO := rO.stay hb
      refine ⟨_, rfl, hS, ?_⟩
      clear hb
      try simp only [Act.put, List.setIfInBounds_toArray, List.set_cons_zero, List.set_cons_succ]
      refine held_one 3 (by kernel_rfl) rfl (by rfl) ?_
      refine wp_enter ?_
      apply Exists.intro
      apply Exists.intro
      refine ⟨?_, ?_⟩
      · go_simp
        first | done | rfl | exact ⟨rfl, rfl⟩
      refine (KA2.out _).mono ?_
      rintro e D4 ⟨rfl, hb⟩
      replace hS := hS.go hb
      replace rO := rO.stay hb
      refine ⟨_, rfl, hS, ?_⟩
      clear hb
      try simp only [Act.put, List.setIfInBounds_toArray, List.set_cons_zero, List.set_cons_succ]
      refine held_one 4 (by kernel_rfl) rfl (by rfl) ?_
      refine wp_enter ?_
      apply Exists.intro
      apply Exists.intro
      refine ⟨?_, ?_⟩
      · go_simp
        first | done | rfl | exact ⟨rfl, rfl⟩
      refine (KN1.out _ hS.1).mono ?_
      rintro e D5 ⟨rfl, hb⟩
      replace hS := hS.go hb
      replace rO := rO.stay hb
      refine ⟨_, rfl, hS, ?_⟩
      clear hb
      try simp only [Act.put, List.setIfInBounds_toArray, List.set_cons_zero, List.set_cons_succ]
      refine held_val 5 rfl (by kernel_rfl) (by kernel_rfl) (by kernel_rfl) (fun _ _ _ _ h => h) (by rfl) hS ?_
      apply Exists.intro
      refine ⟨fun w' hw' => ?_, ?_⟩
      · skip
        go_simp
        first | done | rfl | exact ⟨rfl, rfl⟩
      simp only [Act.put, List.setIfInBounds_toArray, List.set_cons_zero, List.set_cons_succ]
      refine held_val 6 rfl (by kernel_rfl) (by kernel_rfl) (by kernel_rfl) (fun _ _ _ _ h => h) (by rfl) hS ?_
      apply Exists.intro
      refine ⟨fun w' hw' => ?_, ?_⟩
      · skip
        go_simp
        first | done | rfl | exact ⟨rfl, rfl⟩
      simp only [Act.put, List.setIfInBounds_toArray, List.set_cons_zero, List.set_cons_succ]
      refine held_val 7 rfl (by kernel_rfl) (by kernel_rfl) (by kernel_rfl) (fun _ _ _ _ h => h) (by rfl) hS ?_
      apply Exists.intro
      refine ⟨fun w' hw' => ?_, ?_⟩
      · skip
        go_simp
        first | done | rfl | exact ⟨rfl, rfl⟩
      simp only [Act.put, List.setIfInBounds_toArray, List.set_cons_zero, List.set_cons_succ]
      have z0 := Rw.frozen rO 0
      have z1 := Rw.frozen rO 1
      have z2 := Rw.frozen rO 2
      have z3 := Rw.frozen rO 3
      have z4 := Rw.frozen rO 4
      have z5 := Rw.frozen rO 5
      have u0 := Rw.cell rO 0
      have u1 := Rw.cell rO 1
      have u2 := Rw.cell rO 2
      have u3 := Rw.cell rO 3
      have u4 := Rw.cell rO 4
      have u5 := Rw.cell rO 5
      simp only [List.getElem?_cons_zero, List.getElem?_cons_succ] at u0 u1 u2 u3 u4 u5
      have rO2 := rO.set6 (.string ⟨S1.toArray⟩) (.slice an nn kn) (.int .i64 L1) (.int .u32 C1) (.int .i64 P1) (.int .i64 Q1)
      have hB9 := below_set6 hS.1 hOb (.string ⟨S1.toArray⟩) (.slice an nn kn) (.int .i64 L1) (.int .u32 C1) (.int .i64 P1) (.int .i64 Q1)
      refine held_one 9 (by kernel_rfl) rfl (by rfl) ?_
      refine wp_skip (w' := (((((D5.setCell ⟨g, 0, none⟩ (.string ⟨S1.toArray⟩)).setCell ⟨g, 1, none⟩ (.slice an nn kn)).setCell ⟨g, 2, none⟩ (.int .i64 L1)).setCell ⟨g, 3, none⟩ (.int .u32 C1)).setCell ⟨g, 4, none⟩ (.int .i64 P1)).setCell ⟨g, 5, none⟩ (.int .i64 Q1)) ?_ rfl ?_
      · go_simp
        done
      replace hS := hCL.out _ hB9
      refine ⟨hS, ?_⟩
      generalize (((((D5.setCell ⟨g, 0, none⟩ (.string ⟨S1.toArray⟩)).setCell ⟨g, 1, none⟩ (.slice an nn kn)).setCell ⟨g, 2, none⟩ (.int .i64 L1)).setCell ⟨g, 3, none⟩ (.int .u32 C1)).setCell ⟨g, 4, none⟩ (.int .i64 P1)).setCell ⟨g, 5, none⟩ (.int .i64 Q1) = D9 at *
      try simp only [Act.put, List.setIfInBounds_toArray, List.set_cons_zero, List.set_cons_succ]
      clear z0 z1 z2 z3 z4 z5 u0 u1 u2 u3 u4 u5
      refine held_val 10 rfl (by kernel_rfl) (by kernel_rfl) (by kernel_rfl) (fun _ _ _ _ h => h) (by rfl) hS ?_
      apply Exists.intro
      refine ⟨fun w' hw' => ?_, ?_⟩
      · skip
        go_simp
        first | done | rfl | exact ⟨rfl, rfl⟩
      simp only [Act.put, List.setIfInBounds_toArray, List.set_cons_zero, List.set_cons_succ]
      refine wpAnyH_done (by kernel_rfl) ?_ _
      go_wp2_with fail
      go_meet
      exact ⟨g, rfl, rfl, rO2, hB9⟩
  case rest =>
    obtain ⟨bN, rfl, rfl, rN, hb⟩ := hcut
    generalize wc = v2 at *
    replace hB := hB.trans (hb.mono hB.size)
    replace rX := rX.stay hb
    replace rY := rY.stay hb
    replace rM := rM.stay hb
    replace hz := hz.stay hb
    replace hy := hy.stay hb
    replace hm := hm.stay hb
    replace hn := hn.stay hb
    clear hb KN1 hCL
    go_upto_region 6 with fail
    have hCL := fun w' (k : Below v2.heap.size v2 w') => (show CL v2 [(⟨bX, 0, none⟩, .string ⟨s.toArray⟩), (⟨bX, 1, none⟩, .slice ay nx ky), (⟨bX, 2, none⟩, .int .i64 l), (⟨bX, 3, none⟩, .int .u32 c), (⟨bX, 4, none⟩, .int .i64 p), (⟨bX, 5, none⟩, .int .i64 q), (⟨bY, 0, none⟩, .string ⟨t.toArray⟩), (⟨bY, 1, none⟩, .slice az nw kz), (⟨bY, 2, none⟩, .int .i64 m), (⟨bY, 3, none⟩, .int .u32 d), (⟨bY, 4, none⟩, .int .i64 p2), (⟨bY, 5, none⟩, .int .i64 q2), (⟨bM, 0, none⟩, .string ⟨S1.toArray⟩), (⟨bM, 1, none⟩, .slice am nm km), (⟨bM, 2, none⟩, .int .i64 L1), (⟨bM, 3, none⟩, .int .u32 C1), (⟨bM, 4, none⟩, .int .i64 P1), (⟨bM, 5, none⟩, .int .i64 Q1), (⟨bN, 0, none⟩, .string ⟨S1.toArray⟩), (⟨bN, 1, none⟩, .slice an nn kn), (⟨bN, 2, none⟩, .int .i64 L1), (⟨bN, 3, none⟩, .int .u32 C1), (⟨bN, 4, none⟩, .int .i64 P1), (⟨bN, 5, none⟩, .int .i64 Q1)] w' from (((((((((((((((((((((((((CL.bare k).row (rN.stay k) 5 rfl).row (rN.stay k) 4 rfl).row (rN.stay k) 3 rfl).row (rN.stay k) 2 rfl).row (rN.stay k) 1 rfl).row (rN.stay k) 0 rfl).row (rM.stay k) 5 rfl).row (rM.stay k) 4 rfl).row (rM.stay k) 3 rfl).row (rM.stay k) 2 rfl).row (rM.stay k) 1 rfl).row (rM.stay k) 0 rfl).row (rY.stay k) 5 rfl).row (rY.stay k) 4 rfl).row (rY.stay k) 3 rfl).row (rY.stay k) 2 rfl).row (rY.stay k) 1 rfl).row (rY.stay k) 0 rfl).row (rX.stay k) 5 rfl).row (rX.stay k) 4 rfl).row (rX.stay k) 3 rfl).row (rX.stay k) 2 rfl).row (rX.stay k) 1 rfl).row (rX.stay k) 0 rfl))
    have T1 := Lib.hid fun w' (k : Below v2.heap.size v2 w') => KR.out ⟨ay, nx, ky⟩ w' (hz.stay k)
    have T2 := Lib.hid fun w' (k : Below v2.heap.size v2 w') => KRr.out ⟨ay, nx, ky⟩ w' (hz.stay k)
    have T3 := Lib.hid fun w' (k : Below v2.heap.size v2 w') => KI.out ⟨ay, nx, ky⟩ w' (hB.trans (k.mono hB.size)) (hz.stay k)
    have T4 := Lib.hid fun w' (k : Below v2.heap.size v2 w') => KIr.out ⟨ay, nx, ky⟩ w' (hz.stay k)
    have T5 := Lib.hid fun w' => KF.out ⟨ay, nx, ky⟩ w'
    have T6 := Lib.hid fun w' => KFr.out ⟨ay, nx, ky⟩ w'
    have T7 := Lib.hid fun w' (k : Below v2.heap.size v2 w') => KS.out ⟨ay, nx, ky⟩ ⟨az, nw, kz⟩ w' (hz.stay k) (hy.stay k)
    have T8 := Lib.hid fun w' (k : Below v2.heap.size v2 w') => KSr.out ⟨ay, nx, ky⟩ ⟨az, nw, kz⟩ w' (hz.stay k) (hy.stay k)
    have T9 := Lib.hid fun w' (k : Below v2.heap.size v2 w') => same9_any (fun _ => True) (fun _ => True) S1 S1 ⟨am, nm, km⟩ ⟨an, nn, kn⟩ F1 F1 L1 C1 P1 Q1 L1 C1 P1 Q1 w' (hm.stay k) (hn.stay k) hF1
    have TM := Lib.hid fun w' => asd_any S1 ⟨am, nm, km⟩ L1 C1 P1 Q1 w'
    simp only [same_self9] at T9
    unfold alV at T9 TM
    simp only [Sl.v] at T1 T2 T3 T4 T5 T6 T7 T8 T9 TM
    have q1 : (ra == ra) = true := by simp
    have q2' : (i1 == i1) = true := by simp
    have q3 : (fr == fr) = true := by simp
    have q4 : (mg == mg) = true := by simp
    have q5 : (sm == sm) = true := by simp
    have hS := hCL v2.drew ((Below.refl v2.heap.size v2).drew)
    clear hCL KR KRr KI KIr KF KFr KS KSr rX rY rM rN hz hy hm hn hF1
    refine wp_region_held (S := CL v2 [(⟨bX, 0, none⟩, .string ⟨s.toArray⟩), (⟨bX, 1, none⟩, .slice ay nx ky), (⟨bX, 2, none⟩, .int .i64 l), (⟨bX, 3, none⟩, .int .u32 c), (⟨bX, 4, none⟩, .int .i64 p), (⟨bX, 5, none⟩, .int .i64 q), (⟨bY, 0, none⟩, .string ⟨t.toArray⟩), (⟨bY, 1, none⟩, .slice az nw kz), (⟨bY, 2, none⟩, .int .i64 m), (⟨bY, 3, none⟩, .int .u32 d), (⟨bY, 4, none⟩, .int .i64 p2), (⟨bY, 5, none⟩, .int .i64 q2), (⟨bM, 0, none⟩, .string ⟨S1.toArray⟩), (⟨bM, 1, none⟩, .slice am nm km), (⟨bM, 2, none⟩, .int .i64 L1), (⟨bM, 3, none⟩, .int .u32 C1), (⟨bM, 4, none⟩, .int .i64 P1), (⟨bM, 5, none⟩, .int .i64 Q1), (⟨bN, 0, none⟩, .string ⟨S1.toArray⟩), (⟨bN, 1, none⟩, .slice an nn kn), (⟨bN, 2, none⟩, .int .i64 L1), (⟨bN, 3, none⟩, .int .u32 C1), (⟨bN, 4, none⟩, .int .i64 P1), (⟨bN, 5, none⟩, .int .i64 Q1)]) (by kernel_rfl) ?_
    change wpAnyH _ _ _ _ _ _ _ _ v2.drew
    generalize v2.drew = D1 at *
    refine held_val 0 rfl (by kernel_rfl) (by kernel_rfl) (by kernel_rfl) (fun _ _ _ _ h => h) (by rfl) hS ?_
    apply Exists.intro
    refine ⟨fun w' hw' => ?_, ?_⟩
    · have e0 := hw'.at 0 rfl; have e1 := hw'.at 1 rfl; have e2 := hw'.at 2 rfl; have e3 := hw'.at 3 rfl; have e4 := hw'.at 4 rfl; have e5 := hw'.at 5 rfl
      go_simp
      first | done | rfl | exact ⟨rfl, rfl⟩
    simp only [Act.put, List.setIfInBounds_toArray, List.set_cons_zero, List.set_cons_succ]
    refine held_val 2 rfl (by kernel_rfl) (by kernel_rfl) (by kernel_rfl) (fun _ _ _ _ h => h) (by rfl) hS ?_
    apply Exists.intro
    refine ⟨fun w' hw' => ?_, ?_⟩
    · have e0 := hw'.at 0 rfl; have e1 := hw'.at 1 rfl; have e2 := hw'.at 2 rfl; have e3 := hw'.at 3 rfl; have e4 := hw'.at 4 rfl; have e5 := hw'.at 5 rfl
      go_simp
      first | done | rfl | exact ⟨rfl, rfl⟩
    simp only [Act.put, List.setIfInBounds_toArray, List.set_cons_zero, List.set_cons_succ]
    refine held_call 1 (by kernel_rfl) rfl (by rfl) ?_
    apply Exists.intro
    apply Exists.intro
    refine ⟨?_, ?_⟩
    · go_simp
      first | done | rfl | exact ⟨rfl, rfl⟩
    refine (T1.out _ hS.1).mono ?_
    rintro e D2 ⟨rfl, hb⟩
    replace hS := hS.go hb
    refine ⟨_, rfl, hS, ?_⟩
    clear hb
    simp only [Act.put, List.setIfInBounds_toArray, List.set_cons_zero, List.set_cons_succ]
    refine held_call 3 (by kernel_rfl) rfl (by rfl) ?_
    apply Exists.intro
    apply Exists.intro
    refine ⟨?_, ?_⟩
    · go_simp
      first | done | rfl | exact ⟨rfl, rfl⟩
    refine (KA1.out _).mono ?_
    rintro e D3 ⟨rfl, hb⟩
    replace hS := hS.go hb
    refine ⟨_, rfl, hS, ?_⟩
    clear hb
    simp only [Act.put, List.setIfInBounds_toArray, List.set_cons_zero, List.set_cons_succ]
    refine held_call 4 (by kernel_rfl) rfl (by rfl) ?_
    apply Exists.intro
    apply Exists.intro
    refine ⟨?_, ?_⟩
    · go_simp
      first | done | rfl | exact ⟨rfl, rfl⟩
    refine (T2.out _ hS.1).mono ?_
    rintro e D4 ⟨rfl, hb⟩
    replace hS := hS.go hb
    refine ⟨_, rfl, hS, ?_⟩
    clear hb
    simp only [Act.put, List.setIfInBounds_toArray, List.set_cons_zero, List.set_cons_succ]
    refine held_val 5 rfl (by kernel_rfl) (by kernel_rfl) (by kernel_rfl) (fun _ _ _ _ h => h) (by rfl) hS ?_
    apply Exists.intro
    refine ⟨fun w' hw' => ?_, ?_⟩
    · skip
      go_simp
      first | done | rfl | exact ⟨rfl, rfl⟩
    simp only [Act.put, List.setIfInBounds_toArray, List.set_cons_zero, List.set_cons_succ]
    try simp only [q1]
    refine held_val 6 rfl (by kernel_rfl) (by kernel_rfl) (by kernel_rfl) (fun _ _ _ _ h => h) (by rfl) hS ?_
    apply Exists.intro
    refine ⟨fun w' hw' => ?_, ?_⟩
    · skip
      go_simp
      first | done | rfl | exact ⟨rfl, rfl⟩
    simp only [Act.put, List.setIfInBounds_toArray, List.set_cons_zero, List.set_cons_succ]
    refine held_val 7 rfl (by kernel_rfl) (by kernel_rfl) (by kernel_rfl) (fun _ _ _ _ h => h) (by rfl) hS ?_
    apply Exists.intro
    refine ⟨fun w' hw' => ?_, ?_⟩
    · have e0 := hw'.at 0 rfl; have e1 := hw'.at 1 rfl; have e2 := hw'.at 2 rfl; have e3 := hw'.at 3 rfl; have e4 := hw'.at 4 rfl; have e5 := hw'.at 5 rfl
      go_simp
      first | done | rfl | exact ⟨rfl, rfl⟩
    simp only [Act.put, List.setIfInBounds_toArray, List.set_cons_zero, List.set_cons_succ]
    refine held_val 9 rfl (by kernel_rfl) (by kernel_rfl) (by kernel_rfl) (fun _ _ _ _ h => h) (by rfl) hS ?_
    apply Exists.intro
    refine ⟨fun w' hw' => ?_, ?_⟩
    · have e0 := hw'.at 0 rfl; have e1 := hw'.at 1 rfl; have e2 := hw'.at 2 rfl; have e3 := hw'.at 3 rfl; have e4 := hw'.at 4 rfl; have e5 := hw'.at 5 rfl
      go_simp
      first | done | rfl | exact ⟨rfl, rfl⟩
    simp only [Act.put, List.setIfInBounds_toArray, List.set_cons_zero, List.set_cons_succ]
    refine held_call 8 (by kernel_rfl) rfl (by rfl) ?_
    apply Exists.intro
    apply Exists.intro
    refine ⟨?_, ?_⟩
    · go_simp
      first | done | rfl | exact ⟨rfl, rfl⟩
    refine (T3.out _ hS.1).mono ?_
    rintro e D5 ⟨rfl, hb⟩
    replace hS := hS.go hb
    refine ⟨_, rfl, hS, ?_⟩
    clear hb
    simp only [Act.put, List.setIfInBounds_toArray, List.set_cons_zero, List.set_cons_succ]
    refine held_call 10 (by kernel_rfl) rfl (by rfl) ?_
    apply Exists.intro
    apply Exists.intro
    refine ⟨?_, ?_⟩
    · go_simp
      first | done | rfl | exact ⟨rfl, rfl⟩
    refine (KA1.out _).mono ?_
    rintro e D6 ⟨rfl, hb⟩
    replace hS := hS.go hb
    refine ⟨_, rfl, hS, ?_⟩
    clear hb
    simp only [Act.put, List.setIfInBounds_toArray, List.set_cons_zero, List.set_cons_succ]
    refine held_call 11 (by kernel_rfl) rfl (by rfl) ?_
    apply Exists.intro
    apply Exists.intro
    refine ⟨?_, ?_⟩
    · go_simp
      first | done | rfl | exact ⟨rfl, rfl⟩
    refine (T4.out _ hS.1).mono ?_
    rintro e D7 ⟨rfl, hb⟩
    replace hS := hS.go hb
    refine ⟨_, rfl, hS, ?_⟩
    clear hb
    simp only [Act.put, List.setIfInBounds_toArray, List.set_cons_zero, List.set_cons_succ]
    refine held_val 12 rfl (by kernel_rfl) (by kernel_rfl) (by kernel_rfl) (fun _ _ _ _ h => h) (by rfl) hS ?_
    apply Exists.intro
    refine ⟨fun w' hw' => ?_, ?_⟩
    · skip
      go_simp
      first | done | rfl | exact ⟨rfl, rfl⟩
    simp only [Act.put, List.setIfInBounds_toArray, List.set_cons_zero, List.set_cons_succ]
    try simp only [q2']
    refine held_val 13 rfl (by kernel_rfl) (by kernel_rfl) (by kernel_rfl) (fun _ _ _ _ h => h) (by rfl) hS ?_
    apply Exists.intro
    refine ⟨fun w' hw' => ?_, ?_⟩
    · skip
      go_simp
      first | done | rfl | exact ⟨rfl, rfl⟩
    simp only [Act.put, List.setIfInBounds_toArray, List.set_cons_zero, List.set_cons_succ]
    refine held_val 14 rfl (by kernel_rfl) (by kernel_rfl) (by kernel_rfl) (fun _ _ _ _ h => h) (by rfl) hS ?_
    apply Exists.intro
    refine ⟨fun w' hw' => ?_, ?_⟩
    · skip
      go_simp
      first | done | rfl | exact ⟨rfl, rfl⟩
    simp only [Act.put, List.setIfInBounds_toArray, List.set_cons_zero, List.set_cons_succ]
    refine held_val 15 rfl (by kernel_rfl) (by kernel_rfl) (by kernel_rfl) (fun _ _ _ _ h => h) (by rfl) hS ?_
    apply Exists.intro
    refine ⟨fun w' hw' => ?_, ?_⟩
    · have e0 := hw'.at 0 rfl; have e1 := hw'.at 1 rfl; have e2 := hw'.at 2 rfl; have e3 := hw'.at 3 rfl; have e4 := hw'.at 4 rfl; have e5 := hw'.at 5 rfl
      go_simp
      first | done | rfl | exact ⟨rfl, rfl⟩
    simp only [Act.put, List.setIfInBounds_toArray, List.set_cons_zero, List.set_cons_succ]
    refine held_val 18 rfl (by kernel_rfl) (by kernel_rfl) (by kernel_rfl) (fun _ _ _ _ h => h) (by rfl) hS ?_
    apply Exists.intro
    refine ⟨fun w' hw' => ?_, ?_⟩
    · have e0 := hw'.at 0 rfl; have e1 := hw'.at 1 rfl; have e2 := hw'.at 2 rfl; have e3 := hw'.at 3 rfl; have e4 := hw'.at 4 rfl; have e5 := hw'.at 5 rfl
      go_simp
      first | done | rfl | exact ⟨rfl, rfl⟩
    simp only [Act.put, List.setIfInBounds_toArray, List.set_cons_zero, List.set_cons_succ]
    refine held_val 16 rfl (by kernel_rfl) (by kernel_rfl) (by kernel_rfl) (fun _ _ _ _ h => h) (by rfl) hS ?_
    apply Exists.intro
    refine ⟨fun w' hw' => ?_, ?_⟩
    · skip
      go_simp
      first | done | rfl | exact ⟨rfl, rfl⟩
    simp only [Act.put, List.setIfInBounds_toArray, List.set_cons_zero, List.set_cons_succ]
    refine held_val 20 rfl (by kernel_rfl) (by kernel_rfl) (by kernel_rfl) (fun _ _ _ _ h => h) (by rfl) hS ?_
    apply Exists.intro
    refine ⟨fun w' hw' => ?_, ?_⟩
    · skip
      go_simp
      first | done | rfl | exact ⟨rfl, rfl⟩
    simp only [Act.put, List.setIfInBounds_toArray, List.set_cons_zero, List.set_cons_succ]
    refine held_call 17 (by kernel_rfl) rfl (by rfl) ?_
    apply Exists.intro
    apply Exists.intro
    refine ⟨?_, ?_⟩
    · go_simp
      first | done | rfl | exact ⟨rfl, rfl⟩
    refine (T5.out _).mono ?_
    rintro e D8 ⟨rfl, hb⟩
    replace hS := hS.go hb
    refine ⟨_, rfl, hS, ?_⟩
    clear hb
    simp only [Act.put, List.setIfInBounds_toArray, List.set_cons_zero, List.set_cons_succ]
    refine held_call 19 (by kernel_rfl) rfl (by rfl) ?_
    apply Exists.intro
    apply Exists.intro
    refine ⟨?_, ?_⟩
    · go_simp
      first | done | rfl | exact ⟨rfl, rfl⟩
    refine (KA1.out _).mono ?_
    rintro e D9 ⟨rfl, hb⟩
    replace hS := hS.go hb
    refine ⟨_, rfl, hS, ?_⟩
    clear hb
    simp only [Act.put, List.setIfInBounds_toArray, List.set_cons_zero, List.set_cons_succ]
    refine held_call 21 (by kernel_rfl) rfl (by rfl) ?_
    apply Exists.intro
    apply Exists.intro
    refine ⟨?_, ?_⟩
    · go_simp
      first | done | rfl | exact ⟨rfl, rfl⟩
    refine (T6.out _).mono ?_
    rintro e D10 ⟨rfl, hb⟩
    replace hS := hS.go hb
    refine ⟨_, rfl, hS, ?_⟩
    clear hb
    simp only [Act.put, List.setIfInBounds_toArray, List.set_cons_zero, List.set_cons_succ]
    refine held_val 22 rfl (by kernel_rfl) (by kernel_rfl) (by kernel_rfl) (fun _ _ _ _ h => h) (by rfl) hS ?_
    apply Exists.intro
    refine ⟨fun w' hw' => ?_, ?_⟩
    · skip
      go_simp
      first | done | rfl | exact ⟨rfl, rfl⟩
    simp only [Act.put, List.setIfInBounds_toArray, List.set_cons_zero, List.set_cons_succ]
    try simp only [q3]
    refine held_val 23 rfl (by kernel_rfl) (by kernel_rfl) (by kernel_rfl) (fun _ _ _ _ h => h) (by rfl) hS ?_
    apply Exists.intro
    refine ⟨fun w' hw' => ?_, ?_⟩
    · skip
      go_simp
      first | done | rfl | exact ⟨rfl, rfl⟩
    simp only [Act.put, List.setIfInBounds_toArray, List.set_cons_zero, List.set_cons_succ]
    refine held_val 24 rfl (by kernel_rfl) (by kernel_rfl) (by kernel_rfl) (fun _ _ _ _ h => h) (by rfl) hS ?_
    apply Exists.intro
    refine ⟨fun w' hw' => ?_, ?_⟩
    · skip
      go_simp
      first | done | rfl | exact ⟨rfl, rfl⟩
    simp only [Act.put, List.setIfInBounds_toArray, List.set_cons_zero, List.set_cons_succ]
    refine held_val 25 rfl (by kernel_rfl) (by kernel_rfl) (by kernel_rfl) (fun _ _ _ _ h => h) (by rfl) hS ?_
    apply Exists.intro
    refine ⟨fun w' hw' => ?_, ?_⟩
    · skip
      go_simp
      first | done | rfl | exact ⟨rfl, rfl⟩
    simp only [Act.put, List.setIfInBounds_toArray, List.set_cons_zero, List.set_cons_succ]
    refine held_val 26 rfl (by kernel_rfl) (by kernel_rfl) (by kernel_rfl) (fun _ _ _ _ h => h) (by rfl) hS ?_
    apply Exists.intro
    refine ⟨fun w' hw' => ?_, ?_⟩
    · skip
      go_simp
      first | done | rfl | exact ⟨rfl, rfl⟩
    simp only [Act.put, List.setIfInBounds_toArray, List.set_cons_zero, List.set_cons_succ]
    refine held_val 27 rfl (by kernel_rfl) (by kernel_rfl) (by kernel_rfl) (fun _ _ _ _ h => h) (by rfl) hS ?_
    apply Exists.intro
    refine ⟨fun w' hw' => ?_, ?_⟩
    · skip
      go_simp
      first | done | rfl | exact ⟨rfl, rfl⟩
    simp only [Act.put, List.setIfInBounds_toArray, List.set_cons_zero, List.set_cons_succ]
    try simp only [q4]
    refine held_val 28 rfl (by kernel_rfl) (by kernel_rfl) (by kernel_rfl) (fun _ _ _ _ h => h) (by rfl) hS ?_
    apply Exists.intro
    refine ⟨fun w' hw' => ?_, ?_⟩
    · skip
      go_simp
      first | done | rfl | exact ⟨rfl, rfl⟩
    simp only [Act.put, List.setIfInBounds_toArray, List.set_cons_zero, List.set_cons_succ]
    refine held_val 29 rfl (by kernel_rfl) (by kernel_rfl) (by kernel_rfl) (fun _ _ _ _ h => h) (by rfl) hS ?_
    apply Exists.intro
    refine ⟨fun w' hw' => ?_, ?_⟩
    · skip
      go_simp
      first | done | rfl | exact ⟨rfl, rfl⟩
    simp only [Act.put, List.setIfInBounds_toArray, List.set_cons_zero, List.set_cons_succ]
    refine held_val 30 rfl (by kernel_rfl) (by kernel_rfl) (by kernel_rfl) (fun _ _ _ _ h => h) (by rfl) hS ?_
    apply Exists.intro
    refine ⟨fun w' hw' => ?_, ?_⟩
    · have e0 := hw'.at 12 rfl; have e1 := hw'.at 13 rfl; have e2 := hw'.at 14 rfl; have e3 := hw'.at 15 rfl; have e4 := hw'.at 16 rfl; have e5 := hw'.at 17 rfl
      go_simp
      first | done | rfl | exact ⟨rfl, rfl⟩
    simp only [Act.put, List.setIfInBounds_toArray, List.set_cons_zero, List.set_cons_succ]
    refine held_val 32 rfl (by kernel_rfl) (by kernel_rfl) (by kernel_rfl) (fun _ _ _ _ h => h) (by rfl) hS ?_
    apply Exists.intro
    refine ⟨fun w' hw' => ?_, ?_⟩
    · have e0 := hw'.at 18 rfl; have e1 := hw'.at 19 rfl; have e2 := hw'.at 20 rfl; have e3 := hw'.at 21 rfl; have e4 := hw'.at 22 rfl; have e5 := hw'.at 23 rfl
      go_simp
      first | done | rfl | exact ⟨rfl, rfl⟩
    simp only [Act.put, List.setIfInBounds_toArray, List.set_cons_zero, List.set_cons_succ]
    refine held_call 31 (by kernel_rfl) rfl (by rfl) ?_
    apply Exists.intro
    apply Exists.intro
    refine ⟨?_, ?_⟩
    · go_simp
      first | done | rfl | exact ⟨rfl, rfl⟩
    refine (TM.out _).mono ?_
    rintro e D11 ⟨rfl, hb⟩
    replace hS := hS.go hb
    refine ⟨_, rfl, hS, ?_⟩
    clear hb
    simp only [Act.put, List.setIfInBounds_toArray, List.set_cons_zero, List.set_cons_succ]
    refine held_call 33 (by kernel_rfl) rfl (by rfl) ?_
    apply Exists.intro
    apply Exists.intro
    refine ⟨?_, ?_⟩
    · go_simp
      first | done | rfl | exact ⟨rfl, rfl⟩
    refine (T9.out _ hS.1).mono ?_
    rintro e D12 ⟨rfl, hb⟩
    replace hS := hS.go hb
    refine ⟨_, rfl, hS, ?_⟩
    clear hb
    simp only [Act.put, List.setIfInBounds_toArray, List.set_cons_zero, List.set_cons_succ]
    refine held_val 34 rfl (by kernel_rfl) (by kernel_rfl) (by kernel_rfl) (fun _ _ _ _ h => h) (by rfl) hS ?_
    apply Exists.intro
    refine ⟨fun w' hw' => ?_, ?_⟩
    · skip
      go_simp
      first | done | rfl | exact ⟨rfl, rfl⟩
    simp only [Act.put, List.setIfInBounds_toArray, List.set_cons_zero, List.set_cons_succ]
    refine held_val 35 rfl (by kernel_rfl) (by kernel_rfl) (by kernel_rfl) (fun _ _ _ _ h => h) (by rfl) hS ?_
    apply Exists.intro
    refine ⟨fun w' hw' => ?_, ?_⟩
    · skip
      go_simp
      first | done | rfl | exact ⟨rfl, rfl⟩
    simp only [Act.put, List.setIfInBounds_toArray, List.set_cons_zero, List.set_cons_succ]
    refine held_val 36 rfl (by kernel_rfl) (by kernel_rfl) (by kernel_rfl) (fun _ _ _ _ h => h) (by rfl) hS ?_
    apply Exists.intro
    refine ⟨fun w' hw' => ?_, ?_⟩
    · have e0 := hw'.at 0 rfl; have e1 := hw'.at 1 rfl; have e2 := hw'.at 2 rfl; have e3 := hw'.at 3 rfl; have e4 := hw'.at 4 rfl; have e5 := hw'.at 5 rfl
      go_simp
      first | done | rfl | exact ⟨rfl, rfl⟩
    simp only [Act.put, List.setIfInBounds_toArray, List.set_cons_zero, List.set_cons_succ]
    refine held_val 39 rfl (by kernel_rfl) (by kernel_rfl) (by kernel_rfl) (fun _ _ _ _ h => h) (by rfl) hS ?_
    apply Exists.intro
    refine ⟨fun w' hw' => ?_, ?_⟩
    · have e0 := hw'.at 0 rfl; have e1 := hw'.at 1 rfl; have e2 := hw'.at 2 rfl; have e3 := hw'.at 3 rfl; have e4 := hw'.at 4 rfl; have e5 := hw'.at 5 rfl
      go_simp
      first | done | rfl | exact ⟨rfl, rfl⟩
    simp only [Act.put, List.setIfInBounds_toArray, List.set_cons_zero, List.set_cons_succ]
    refine held_val 37 rfl (by kernel_rfl) (by kernel_rfl) (by kernel_rfl) (fun _ _ _ _ h => h) (by rfl) hS ?_
    apply Exists.intro
    refine ⟨fun w' hw' => ?_, ?_⟩
    · have e0 := hw'.at 6 rfl; have e1 := hw'.at 7 rfl; have e2 := hw'.at 8 rfl; have e3 := hw'.at 9 rfl; have e4 := hw'.at 10 rfl; have e5 := hw'.at 11 rfl
      go_simp
      first | done | rfl | exact ⟨rfl, rfl⟩
    simp only [Act.put, List.setIfInBounds_toArray, List.set_cons_zero, List.set_cons_succ]
    refine held_val 41 rfl (by kernel_rfl) (by kernel_rfl) (by kernel_rfl) (fun _ _ _ _ h => h) (by rfl) hS ?_
    apply Exists.intro
    refine ⟨fun w' hw' => ?_, ?_⟩
    · have e0 := hw'.at 6 rfl; have e1 := hw'.at 7 rfl; have e2 := hw'.at 8 rfl; have e3 := hw'.at 9 rfl; have e4 := hw'.at 10 rfl; have e5 := hw'.at 11 rfl
      go_simp
      first | done | rfl | exact ⟨rfl, rfl⟩
    simp only [Act.put, List.setIfInBounds_toArray, List.set_cons_zero, List.set_cons_succ]
    refine held_call 38 (by kernel_rfl) rfl (by rfl) ?_
    apply Exists.intro
    apply Exists.intro
    refine ⟨?_, ?_⟩
    · go_simp
      first | done | rfl | exact ⟨rfl, rfl⟩
    refine (T7.out _ hS.1).mono ?_
    rintro e D13 ⟨rfl, hb⟩
    replace hS := hS.go hb
    refine ⟨_, rfl, hS, ?_⟩
    clear hb
    simp only [Act.put, List.setIfInBounds_toArray, List.set_cons_zero, List.set_cons_succ]
    refine held_call 40 (by kernel_rfl) rfl (by rfl) ?_
    apply Exists.intro
    apply Exists.intro
    refine ⟨?_, ?_⟩
    · go_simp
      first | done | rfl | exact ⟨rfl, rfl⟩
    refine (KA1.out _).mono ?_
    rintro e D14 ⟨rfl, hb⟩
    replace hS := hS.go hb
    refine ⟨_, rfl, hS, ?_⟩
    clear hb
    simp only [Act.put, List.setIfInBounds_toArray, List.set_cons_zero, List.set_cons_succ]
    refine held_call 42 (by kernel_rfl) rfl (by rfl) ?_
    apply Exists.intro
    apply Exists.intro
    refine ⟨?_, ?_⟩
    · go_simp
      first | done | rfl | exact ⟨rfl, rfl⟩
    refine (KA2.out _).mono ?_
    rintro e D15 ⟨rfl, hb⟩
    replace hS := hS.go hb
    refine ⟨_, rfl, hS, ?_⟩
    clear hb
    simp only [Act.put, List.setIfInBounds_toArray, List.set_cons_zero, List.set_cons_succ]
    refine held_call 43 (by kernel_rfl) rfl (by rfl) ?_
    apply Exists.intro
    apply Exists.intro
    refine ⟨?_, ?_⟩
    · go_simp
      first | done | rfl | exact ⟨rfl, rfl⟩
    refine (T8.out _ hS.1).mono ?_
    rintro e D16 ⟨rfl, hb⟩
    replace hS := hS.go hb
    refine ⟨_, rfl, hS, ?_⟩
    clear hb
    simp only [Act.put, List.setIfInBounds_toArray, List.set_cons_zero, List.set_cons_succ]
    refine held_val 44 rfl (by kernel_rfl) (by kernel_rfl) (by kernel_rfl) (fun _ _ _ _ h => h) (by rfl) hS ?_
    apply Exists.intro
    refine ⟨fun w' hw' => ?_, ?_⟩
    · skip
      go_simp
      first | done | rfl | exact ⟨rfl, rfl⟩
    simp only [Act.put, List.setIfInBounds_toArray, List.set_cons_zero, List.set_cons_succ]
    try simp only [q5]
    refine held_val 45 rfl (by kernel_rfl) (by kernel_rfl) (by kernel_rfl) (fun _ _ _ _ h => h) (by rfl) hS ?_
    apply Exists.intro
    refine ⟨fun w' hw' => ?_, ?_⟩
    · skip
      go_simp
      first | done | rfl | exact ⟨rfl, rfl⟩
    simp only [Act.put, List.setIfInBounds_toArray, List.set_cons_zero, List.set_cons_succ]
    refine held_val 46 rfl (by kernel_rfl) (by kernel_rfl) (by kernel_rfl) (fun _ _ _ _ h => h) (by rfl) hS ?_
    apply Exists.intro
    refine ⟨fun w' hw' => ?_, ?_⟩
    · skip
      go_simp
      first | done | rfl | exact ⟨rfl, rfl⟩
    simp only [Act.put, List.setIfInBounds_toArray, List.set_cons_zero, List.set_cons_succ]
    refine wpAnyH_done (by kernel_rfl) ?_ _
    have hb := hS.1
    go_wp2_with fail
    go_ret
    exact ⟨rfl, hB.trans (hb.mono hB.size)⟩
end Go.Proofs.YtknhkmlihbgjpaaDoor
