/- The document's Good: an alert that may be. -/
import Derived.Test.YtknhkmlihbgjpaaDoorAS
import Derived.Test.YtknhkmlihbgjpaaDoorAKit
import Derived.Test.YtknhkmlihbgjpaaDoorLbFlows
namespace Go.Proofs.YtknhkmlihbgjpaaDoor
open Go.ChangeShapes Go.WideShapes Go.RowKit

def gS (s : Bs) : Bs := if nameB s then s else promB
def gL (l : Int) : Int := if rB l then l else 1
def gP (p : Int) : Int := wrap64 ((IntKind.u64.wrap p).tmod 1000)
theorem gS_yes {s : Bs} (h : nameB s = true) : gS s = s := by unfold gS; rw [h]; rfl
theorem gS_no {s : Bs} (h : nameB s = false) : gS s = promB := by unfold gS; rw [h]; rfl
theorem gL_yes {l : Int} (h : rB l = true) : gL l = l := by unfold gL; rw [h]; rfl
theorem gL_no {l : Int} (h : rB l = false) : gL l = 1 := by unfold gL; rw [h]; rfl
theorem gP_rng (p : Int) : 0 ≤ gP p ∧ gP p < 1000 := by
  unfold gP wrap64
  have h1 : 0 ≤ IntKind.u64.wrap p := by simp [IntKind.wrap, IntKind.signed, IntKind.bits]; omega
  rw [Int.tmod_eq_emod_of_nonneg h1]
  have h2 := Int.emod_nonneg (IntKind.u64.wrap p) (by decide : (1000 : Int) ≠ 0)
  have h3 := Int.emod_lt_of_pos (IntKind.u64.wrap p) (by decide : (0 : Int) < 1000)
  omega
theorem wrap_is {n : Int} (h : 0 ≤ n) (h2 : n < 100000) : wrap64 n = n := by unfold wrap64; omega
theorem gQ_no (p : Int) : timesB (gP p) 0 = true := by
  have h := gP_rng p
  unfold timesB
  rw [decide_eq_true h.1, decide_eq_true (by omega : gP p ≤ 1099511627776)]
  rfl
theorem gQ_yes (p q : Int) : timesB (gP p) (wrap64 (wrap64 (gP p + 1) + gP q)) = true := by
  have h := gP_rng p
  have k := gP_rng q
  rw [wrap_is (n := gP p + 1) (by omega) (by omega), wrap_is (by omega) (by omega)]
  unfold timesB
  rw [decide_eq_true h.1, decide_eq_true (by omega : gP p ≤ 1099511627776), decide_eq_true (by omega : gP p < gP p + 1 + gP q), decide_eq_true (by omega : gP p + 1 + gP q ≤ 1099511627776)]
  simp
set_option maxHeartbeats 6400000 in
set_option maxRecDepth 100000 in
theorem good9_full (P : Nat → Prop) (s : Bs) (y : Sl) (fs : List (Bs × Bs)) (l c p q : Int) (w : World) (h : FldsAt P w y.v fs) (hs : s.length ≤ 9223372036854775807) (hl : fs.length ≤ 9223372036854775807) (hfl : ∀ f ∈ fs, f.1.length ≤ 9223372036854775807 ∧ f.2.length ≤ 9223372036854775807) :
    Calls Tryd.prog 31 #[alV s y.v l c p q] w fun e w' => ∃ (z : Sl) (q' : Int), e = .returned (.tuple #[alV (gS s) z.v (gL l) c (gP p) q', .bool (decide (0 < (goodN fs).length))]) ∧ FldsAt (fun _ => True) w' z.v (goodN fs) ∧ Below w.heap.size w w' ∧ timesB (gP p) q' = true := by
  have KG := Lib.hid fun w' (hb : Below w.heap.size w w') => good_any P y.v fs w' (h.stay hb) hl hfl
  have KN := Lib.hid fun w' => rname_any s w' hs
  have KR := Lib.hid fun w' => Lb.rright_any l c w'
  obtain ⟨ay, ny, ky⟩ := y
  clear h hl hfl
  unfold alV
  simp only [Sl.v] at KG ⊢
  generalize goodN fs = F at *
  go_enter Tryd.func31, Tryd.ntmps31
  go_upto_region 1 with fail
  obtain ⟨rI, rR, hB⟩ := put2n w 27 27 [.string ⟨s.toArray⟩, .slice ay ny ky, .int .i64 l, .int .u32 c, .int .i64 p, .int .i64 q] [.string ⟨#[]⟩, .slice none 0 0, .int .i64 0, .int .u32 0, .int .i64 0, .int .i64 0]
  generalize (w.alloc (.cells #[.string ⟨s.toArray⟩, .slice ay ny ky, .int .i64 l, .int .u32 c, .int .i64 p, .int .i64 q] 27)).alloc (.cells #[.string ⟨#[]⟩, .slice none 0 0, .int .i64 0, .int .u32 0, .int .i64 0, .int .i64 0] 27) = w1 at *
  have hIl := rI.lt
  have hRl := rR.lt
  have hgeR : w.heap.size ≤ w.heap.size + 1 := by omega
  generalize w.heap.size + 1 = bR at *
  generalize hbI : w.heap.size = bI at rI hIl ⊢
  have HBI : Unit → w.heap.size = bI := fun _ => hbI
  clear hbI
  go_cut [4] from 5 to 12 (fun u4 wx => ∃ (b : Nat) (z : Sl), u4 = .pointer (some ⟨b, 0, none⟩) ∧ Rw wx b 27 [.string ⟨s.toArray⟩, z.v, .int .i64 l, .int .u32 c, .int .i64 0, .int .i64 0] ∧ FldsAt (fun k => k ≠ b ∧ k ≠ bR) wx z.v F ∧ w1.heap.size ≤ b ∧ Below w1.heap.size w1 wx)
  case first =>
    refine wp_region_held (S := CL w1 [(⟨bI, 0, none⟩, .string ⟨s.toArray⟩), (⟨bI, 1, none⟩, .slice ay ny ky), (⟨bI, 2, none⟩, .int .i64 l), (⟨bI, 3, none⟩, .int .u32 c), (⟨bI, 4, none⟩, .int .i64 p), (⟨bI, 5, none⟩, .int .i64 q)]) (by kernel_rfl) ?_
    have hS := CL.six rI ((Below.refl w1.heap.size w1).drew)
    change wpAnyH _ _ _ _ _ _ _ _ w1.drew
    generalize w1.drew = D1 at *
    refine held_val 0 rfl (by kernel_rfl) (by kernel_rfl) (by kernel_rfl) (fun _ _ _ _ h => h) (by rfl) hS ?_
    apply Exists.intro
    refine ⟨fun w' hw' => ?_, ?_⟩
    · have e0 := hw'.at 0 rfl; have e1 := hw'.at 1 rfl; have e2 := hw'.at 2 rfl; have e3 := hw'.at 3 rfl
      go_simp
      first | done | rfl | exact ⟨rfl, rfl⟩
    simp only [Act.put, List.setIfInBounds_toArray, List.set_cons_zero, List.set_cons_succ]
    refine held_val 1 rfl (by kernel_rfl) (by kernel_rfl) (by kernel_rfl) (fun _ _ _ _ h => h) (by rfl) hS ?_
    apply Exists.intro
    refine ⟨fun w' hw' => ?_, ?_⟩
    · have e0 := hw'.at 0 rfl; have e1 := hw'.at 1 rfl; have e2 := hw'.at 2 rfl; have e3 := hw'.at 3 rfl
      go_simp
      first | done | rfl | exact ⟨rfl, rfl⟩
    simp only [Act.put, List.setIfInBounds_toArray, List.set_cons_zero, List.set_cons_succ]
    refine held_val 2 rfl (by kernel_rfl) (by kernel_rfl) (by kernel_rfl) (fun _ _ _ _ h => h) (by rfl) hS ?_
    apply Exists.intro
    refine ⟨fun w' hw' => ?_, ?_⟩
    · have e0 := hw'.at 0 rfl; have e1 := hw'.at 1 rfl; have e2 := hw'.at 2 rfl; have e3 := hw'.at 3 rfl
      go_simp
      first | done | rfl | exact ⟨rfl, rfl⟩
    simp only [Act.put, List.setIfInBounds_toArray, List.set_cons_zero, List.set_cons_succ]
    refine held_val 3 rfl (by kernel_rfl) (by kernel_rfl) (by kernel_rfl) (fun _ _ _ _ h => h) (by rfl) hS ?_
    apply Exists.intro
    refine ⟨fun w' hw' => ?_, ?_⟩
    · have e0 := hw'.at 0 rfl; have e1 := hw'.at 1 rfl; have e2 := hw'.at 2 rfl; have e3 := hw'.at 3 rfl
      go_simp
      first | done | rfl | exact ⟨rfl, rfl⟩
    simp only [Act.put, List.setIfInBounds_toArray, List.set_cons_zero, List.set_cons_succ]
    refine held_val 5 rfl (by kernel_rfl) (by kernel_rfl) (by kernel_rfl) (fun _ _ _ _ h => h) (by rfl) hS ?_
    apply Exists.intro
    refine ⟨fun w' hw' => ?_, ?_⟩
    · have e0 := hw'.at 0 rfl; have e1 := hw'.at 1 rfl; have e2 := hw'.at 2 rfl; have e3 := hw'.at 3 rfl
      go_simp
      first | done | rfl | exact ⟨rfl, rfl⟩
    simp only [Act.put, List.setIfInBounds_toArray, List.set_cons_zero, List.set_cons_succ]
    refine held_val 6 rfl (by kernel_rfl) (by kernel_rfl) (by kernel_rfl) (fun _ _ _ _ h => h) (by rfl) hS ?_
    apply Exists.intro
    refine ⟨fun w' hw' => ?_, ?_⟩
    · have e0 := hw'.at 0 rfl; have e1 := hw'.at 1 rfl; have e2 := hw'.at 2 rfl; have e3 := hw'.at 3 rfl
      go_simp
      first | done | rfl | exact ⟨rfl, rfl⟩
    simp only [Act.put, List.setIfInBounds_toArray, List.set_cons_zero, List.set_cons_succ]
    refine held_two 4 8 (by kernel_rfl) rfl rfl (by rfl) (by rfl) ?_ ?_
    · refine wp_enter ?_
      apply Exists.intro
      apply Exists.intro
      refine ⟨?_, ?_⟩
      · go_simp
        first | done | rfl | exact ⟨rfl, rfl⟩
      refine (KG.out D1 (hB.trans (hS.1.mono hB.size))).mono ?_
      rintro e D2 ⟨vz, rfl, hz, hb⟩
      have hszD := hS.1.size
      replace hz : FldsAt (fun k => bR < k ∧ k < D2.heap.size) D2 vz F := hz.mono fun i h h2 => ⟨by have h : D1.heap.size ≤ i := h; omega, h2⟩
      obtain ⟨az, kz, rfl⟩ := hz.shape
      replace hS := hS.go hb
      refine ⟨_, rfl, hS, ?_⟩
      clear hb
      try simp only [Act.put, List.setIfInBounds_toArray, List.set_cons_zero, List.set_cons_succ]
      refine held_val 7 rfl (by kernel_rfl) (by kernel_rfl) (by kernel_rfl) (fun _ _ _ _ h => h) (by rfl) hS ?_
      apply Exists.intro
      refine ⟨fun w' hw' => ?_, ?_⟩
      · skip
        go_simp
        first | done | rfl | exact ⟨rfl, rfl⟩
      simp only [Act.put, List.setIfInBounds_toArray, List.set_cons_zero, List.set_cons_succ]
      refine held_one 8 (by kernel_rfl) rfl (by rfl) ?_
      unfold Oper.wp
      go_simp
      have hal : Below D2.heap.size D2 (D2.alloc (.cells #[.string ⟨#[]⟩, .slice none 0 0, .int .i64 0, .int .u32 0, .int .i64 0, .int .i64 0] 27)) := (Below.refl _ _).alloc (Nat.le_refl _) _
      have rO : Rw (D2.alloc (.cells #[.string ⟨#[]⟩, .slice none 0 0, .int .i64 0, .int .u32 0, .int .i64 0, .int .i64 0] 27)) D2.heap.size 27 [.string ⟨#[]⟩, .slice none 0 0, .int .i64 0, .int .u32 0, .int .i64 0, .int .i64 0] := Rw.new D2 27 [.string ⟨#[]⟩, .slice none 0 0, .int .i64 0, .int .u32 0, .int .i64 0, .int .i64 0]
      have hOb : w1.heap.size ≤ D2.heap.size := hS.1.size
      replace hS := hS.go hal
      replace hz := hz.stay hal
      refine ⟨hS, ?_⟩
      clear hal
      generalize D2.alloc (.cells #[.string ⟨#[]⟩, .slice none 0 0, .int .i64 0, .int .u32 0, .int .i64 0, .int .i64 0] 27) = D3 at *
      generalize D2.heap.size = b at *
      try simp only [Act.put, List.setIfInBounds_toArray, List.set_cons_zero, List.set_cons_succ]
      have z0 := Rw.frozen rO 0
      have z1 := Rw.frozen rO 1
      have z2 := Rw.frozen rO 2
      have z3 := Rw.frozen rO 3
      have z4 := Rw.frozen rO 4
      have z5 := Rw.frozen rO 5
      have u0 := Rw.cell rO 0
      have u1 := Rw.cell rO 1
      have u2 := Rw.cell rO 2
      have u3 := Rw.cell rO 3
      have u4 := Rw.cell rO 4
      have u5 := Rw.cell rO 5
      simp only [List.getElem?_cons_zero, List.getElem?_cons_succ] at u0 u1 u2 u3 u4 u5
      have rO2 := rO.set6 (.string ⟨s.toArray⟩) (.slice az F.length kz) (.int .i64 l) (.int .u32 c) (.int .i64 0) (.int .i64 0)
      have hB9 := below_set6 hS.1 hOb (.string ⟨s.toArray⟩) (.slice az F.length kz) (.int .i64 l) (.int .u32 c) (.int .i64 0) (.int .i64 0)
      refine held_one 9 (by kernel_rfl) rfl (by rfl) ?_
      refine wp_skip (w' := (((((D3.setCell ⟨b, 0, none⟩ (.string ⟨s.toArray⟩)).setCell ⟨b, 1, none⟩ (.slice az F.length kz)).setCell ⟨b, 2, none⟩ (.int .i64 l)).setCell ⟨b, 3, none⟩ (.int .u32 c)).setCell ⟨b, 4, none⟩ (.int .i64 0)).setCell ⟨b, 5, none⟩ (.int .i64 0)) ?_ rfl ?_
      · go_simp
        done
      refine ⟨CL.six rI hB9, ?_⟩
      refine wpAnyH_done (by kernel_rfl) ?_ _
      have hz9 : FldsAt (fun k => k ≠ b ∧ k ≠ bR) ((((((D3.setCell ⟨b, 0, none⟩ (.string ⟨s.toArray⟩)).setCell ⟨b, 1, none⟩ (.slice az F.length kz)).setCell ⟨b, 2, none⟩ (.int .i64 l)).setCell ⟨b, 3, none⟩ (.int .u32 c)).setCell ⟨b, 4, none⟩ (.int .i64 0)).setCell ⟨b, 5, none⟩ (.int .i64 0)) (.slice az F.length kz) F :=
        (hz.keepN (S := fun k => k = b) ((((((Asd.one D3 b 0 _).set1 1 _).set1 2 _).set1 3 _).set1 4 _).set1 5 _) (fun i hi _ e => by have hi : bR < i ∧ i < b := hi; omega)).mono fun i hi _ => by have hi : bR < i ∧ i < b := hi; omega
      go_wp2_with fail
      go_meet
      exact ⟨b, ⟨az, F.length, kz⟩, rfl, rO2, hz9, hOb, hB9⟩
    · unfold Oper.wp
      go_simp
      have hal : Below D1.heap.size D1 (D1.alloc (.cells #[.string ⟨#[]⟩, .slice none 0 0, .int .i64 0, .int .u32 0, .int .i64 0, .int .i64 0] 27)) := (Below.refl _ _).alloc (Nat.le_refl _) _
      have rO : Rw (D1.alloc (.cells #[.string ⟨#[]⟩, .slice none 0 0, .int .i64 0, .int .u32 0, .int .i64 0, .int .i64 0] 27)) D1.heap.size 27 [.string ⟨#[]⟩, .slice none 0 0, .int .i64 0, .int .u32 0, .int .i64 0, .int .i64 0] := Rw.new D1 27 [.string ⟨#[]⟩, .slice none 0 0, .int .i64 0, .int .u32 0, .int .i64 0, .int .i64 0]
      have hOb : w1.heap.size ≤ D1.heap.size := hS.1.size
      replace hS := hS.go hal
      refine ⟨hS, ?_⟩
      clear hal
      generalize D1.alloc (.cells #[.string ⟨#[]⟩, .slice none 0 0, .int .i64 0, .int .u32 0, .int .i64 0, .int .i64 0] 27) = D2 at *
      generalize D1.heap.size = b at *
      try simp only [Act.put, List.setIfInBounds_toArray, List.set_cons_zero, List.set_cons_succ]
      refine held_one 4 (by kernel_rfl) rfl (by rfl) ?_
      refine wp_enter ?_
      apply Exists.intro
      apply Exists.intro
      refine ⟨?_, ?_⟩
      · go_simp
        first | done | rfl | exact ⟨rfl, rfl⟩
      refine (KG.out D2 (hB.trans (hS.1.mono hB.size))).mono ?_
      rintro e D3 ⟨vz, rfl, hz, hb⟩
      have hbl := rO.lt
      have hszD := hS.1.size
      replace hz : FldsAt (fun k => bR < k ∧ b < k) D3 vz F := hz.mono fun i h _ => by have h : D2.heap.size ≤ i := h; omega
      obtain ⟨az, kz, rfl⟩ := hz.shape
      replace hS := hS.go hb
      replace rO := rO.stay hb
      refine ⟨_, rfl, hS, ?_⟩
      clear hb
      try simp only [Act.put, List.setIfInBounds_toArray, List.set_cons_zero, List.set_cons_succ]
      refine held_val 7 rfl (by kernel_rfl) (by kernel_rfl) (by kernel_rfl) (fun _ _ _ _ h => h) (by rfl) hS ?_
      apply Exists.intro
      refine ⟨fun w' hw' => ?_, ?_⟩
      · skip
        go_simp
        first | done | rfl | exact ⟨rfl, rfl⟩
      simp only [Act.put, List.setIfInBounds_toArray, List.set_cons_zero, List.set_cons_succ]
      have z0 := Rw.frozen rO 0
      have z1 := Rw.frozen rO 1
      have z2 := Rw.frozen rO 2
      have z3 := Rw.frozen rO 3
      have z4 := Rw.frozen rO 4
      have z5 := Rw.frozen rO 5
      have u0 := Rw.cell rO 0
      have u1 := Rw.cell rO 1
      have u2 := Rw.cell rO 2
      have u3 := Rw.cell rO 3
      have u4 := Rw.cell rO 4
      have u5 := Rw.cell rO 5
      simp only [List.getElem?_cons_zero, List.getElem?_cons_succ] at u0 u1 u2 u3 u4 u5
      have rO2 := rO.set6 (.string ⟨s.toArray⟩) (.slice az F.length kz) (.int .i64 l) (.int .u32 c) (.int .i64 0) (.int .i64 0)
      have hB9 := below_set6 hS.1 hOb (.string ⟨s.toArray⟩) (.slice az F.length kz) (.int .i64 l) (.int .u32 c) (.int .i64 0) (.int .i64 0)
      refine held_one 9 (by kernel_rfl) rfl (by rfl) ?_
      refine wp_skip (w' := (((((D3.setCell ⟨b, 0, none⟩ (.string ⟨s.toArray⟩)).setCell ⟨b, 1, none⟩ (.slice az F.length kz)).setCell ⟨b, 2, none⟩ (.int .i64 l)).setCell ⟨b, 3, none⟩ (.int .u32 c)).setCell ⟨b, 4, none⟩ (.int .i64 0)).setCell ⟨b, 5, none⟩ (.int .i64 0)) ?_ rfl ?_
      · go_simp
        done
      refine ⟨CL.six rI hB9, ?_⟩
      refine wpAnyH_done (by kernel_rfl) ?_ _
      have hz9 : FldsAt (fun k => k ≠ b ∧ k ≠ bR) ((((((D3.setCell ⟨b, 0, none⟩ (.string ⟨s.toArray⟩)).setCell ⟨b, 1, none⟩ (.slice az F.length kz)).setCell ⟨b, 2, none⟩ (.int .i64 l)).setCell ⟨b, 3, none⟩ (.int .u32 c)).setCell ⟨b, 4, none⟩ (.int .i64 0)).setCell ⟨b, 5, none⟩ (.int .i64 0)) (.slice az F.length kz) F :=
        (hz.keepN (S := fun k => k = b) ((((((Asd.one D3 b 0 _).set1 1 _).set1 2 _).set1 3 _).set1 4 _).set1 5 _) (fun i hi _ e => by have hi : bR < i ∧ b < i := hi; omega)).mono fun i hi _ => by have hi : bR < i ∧ b < i := hi; omega
      go_wp2_with fail
      go_meet
      exact ⟨b, ⟨az, F.length, kz⟩, rfl, rO2, hz9, hOb, hB9⟩
  case rest =>
    obtain ⟨b, ⟨az, nz, kz⟩, rfl, rO, hz, hb1, hBW⟩ := hcut
    obtain ⟨_, _, e⟩ := hz.shape
    have e : nz = F.length := by injection e
    subst e
    generalize wc = w6 at *
    have o0 := Rw.cell rO 0
    have f0 := Rw.frozen rO 0
    simp only [List.getElem?_cons_zero] at o0
    go_wp2_with fail
    refine (KN.out w6).mono ?_
    rintro e w7 ⟨rfl, e⟩
    subst e
    clear KN KG
    cases hnb : nameB s with
    | false =>
      go_upto_region 4 with fail
      have hz' := hz.keepN (S := fun j => j = b) (Asd.one w7 b 0 (.string ⟨#[112, 114, 111, 109]⟩)) (fun i hi _ e => hi.1 e)
      have rO' := rO.setCell 0 (.string ⟨#[112, 114, 111, 109]⟩)
      have hBW' := hBW.setCell (p := ⟨b, 0, none⟩) hb1 (.string ⟨#[112, 114, 111, 109]⟩)
      simp only [List.set_cons_zero] at rO'
      generalize w7.setCell ⟨b, 0, none⟩ (.string ⟨#[112, 114, 111, 109]⟩) = v7 at *
      clear rO hz hBW o0 f0
      have rO := rO'
      have hz := hz'
      have hBW := hBW'
      clear rO' hz' hBW'
      have o2 := Rw.cell rO 2
      have o3 := Rw.cell rO 3
      simp only [List.getElem?_cons_zero, List.getElem?_cons_succ] at o2 o3
      go_wp2_with fail
      refine (KR.out _).mono ?_
      rintro e v8 ⟨rfl, hb⟩
      have hBW' := hBW.trans (hb.mono hBW.size)
      have rO' := rO.stay hb
      have hz' := hz.stay hb
      clear KR hb rO hz hBW o2 o3
      have rO := rO'
      have hz := hz'
      have hBW := hBW'
      clear rO' hz' hBW'
      have o2 := Rw.cell rO 2
      have o3 := Rw.cell rO 3
      simp only [List.getElem?_cons_zero, List.getElem?_cons_succ] at o2 o3
      have f2 := Rw.frozen rO 2
      cases hlb : rB l with
      | false =>
        go_upto_region 6 with fail
        have hz' := hz.keepN (S := fun j => j = b) (Asd.one v8 b 2 (.int .i64 1)) (fun i hi _ e => hi.1 e)
        have rO' := rO.setCell 2 (.int .i64 1)
        have hBW' := hBW.setCell (p := ⟨b, 2, none⟩) hb1 (.int .i64 1)
        simp only [List.set_cons_zero, List.set_cons_succ] at rO'
        generalize v8.setCell ⟨b, 2, none⟩ (.int .i64 1) = v9 at *
        clear rO hz hBW o2 o3 f2
        have rO := rO'
        have hz := hz'
        have hBW := hBW'
        clear rO' hz' hBW'
        have rI9 := rI.stay hBW
        have i4 := Rw.cell rI9 4
        simp only [List.getElem?_cons_zero, List.getElem?_cons_succ] at i4
        have o4 := Rw.cell rO 4
        simp only [List.getElem?_cons_zero, List.getElem?_cons_succ] at o4
        have f4 := Rw.frozen rO 4
        go_upto_region 7 with fail
        have hz' := hz.keepN (S := fun j => j = b) (Asd.one v9 b 4 (.int .i64 (wrap64 ((IntKind.u64.wrap p).tmod 1000)))) (fun i hi _ e => hi.1 e)
        have rO' := rO.setCell 4 (.int .i64 (wrap64 ((IntKind.u64.wrap p).tmod 1000)))
        have hBW' := hBW.setCell (p := ⟨b, 4, none⟩) hb1 (.int .i64 (wrap64 ((IntKind.u64.wrap p).tmod 1000)))
        simp only [List.set_cons_zero, List.set_cons_succ] at rO'
        generalize v9.setCell ⟨b, 4, none⟩ (.int .i64 (wrap64 ((IntKind.u64.wrap p).tmod 1000))) = v10 at *
        clear rO hz hBW o4 f4 i4 rI9
        have rO := rO'
        have hz := hz'
        have hBW := hBW'
        clear rO' hz' hBW'
        have rI9 := rI.stay hBW
        have i5 := Rw.cell rI9 5
        simp only [List.getElem?_cons_zero, List.getElem?_cons_succ] at i5
        by_cases hq : q = 0
        · subst hq
          go_upto_region 9 with fail
          clear i5 rI9
          have rRk := rR.stay hBW
          have hbR : b ≠ bR := by omega
          refine wp_region_held (S := CS [(⟨b, 0, none⟩, .string ⟨#[112, 114, 111, 109]⟩), (⟨b, 1, none⟩, .slice az F.length kz), (⟨b, 2, none⟩, .int .i64 1), (⟨b, 3, none⟩, .int .u32 c), (⟨b, 4, none⟩, .int .i64 (wrap64 ((IntKind.u64.wrap p).tmod 1000))), (⟨b, 5, none⟩, .int .i64 0)]) (by kernel_rfl) ?_
          have hS : CS [(⟨b, 0, none⟩, .string ⟨#[112, 114, 111, 109]⟩), (⟨b, 1, none⟩, .slice az F.length kz), (⟨b, 2, none⟩, .int .i64 1), (⟨b, 3, none⟩, .int .u32 c), (⟨b, 4, none⟩, .int .i64 (wrap64 ((IntKind.u64.wrap p).tmod 1000))), (⟨b, 5, none⟩, .int .i64 0)] v10.drew := ((((((CS.nil v10).row rO 5 rfl).row rO 4 rfl).row rO 3 rfl).row rO 2 rfl).row rO 1 rfl).row rO 0 rfl
          have rO9 := rO.stay ((Below.refl v10.heap.size v10).drew)
          have rR9 := rRk.stay ((Below.refl v10.heap.size v10).drew)
          have hz9 := hz.stay ((Below.refl v10.heap.size v10).drew)
          have hB9 := hBW.drew
          change wpAnyH _ _ _ _ _ _ _ _ v10.drew
          generalize v10.drew = D9 at *
          clear rO rRk hz hBW
          refine held_val 0 rfl (by kernel_rfl) (by kernel_rfl) (by kernel_rfl) (fun _ _ _ _ h => h) (by rfl) hS ?_
          apply Exists.intro
          refine ⟨fun w' hw' => ?_, ?_⟩
          · have e0 := hw'.at 0 rfl; have e1 := hw'.at 1 rfl; have e2 := hw'.at 2 rfl; have e3 := hw'.at 3 rfl; have e4 := hw'.at 4 rfl; have e5 := hw'.at 5 rfl
            go_simp
            first | done | rfl | exact ⟨rfl, rfl⟩
          simp only [Act.put, List.setIfInBounds_toArray, List.set_cons_zero, List.set_cons_succ]
          refine held_val 1 rfl (by kernel_rfl) (by kernel_rfl) (by kernel_rfl) (fun _ _ _ _ h => h) (by rfl) hS ?_
          apply Exists.intro
          refine ⟨fun w' hw' => ?_, ?_⟩
          · have e0 := hw'.at 0 rfl; have e1 := hw'.at 1 rfl; have e2 := hw'.at 2 rfl; have e3 := hw'.at 3 rfl; have e4 := hw'.at 4 rfl; have e5 := hw'.at 5 rfl
            go_simp
            first | done | rfl | exact ⟨rfl, rfl⟩
          simp only [Act.put, List.setIfInBounds_toArray, List.set_cons_zero, List.set_cons_succ]
          refine held_val 2 rfl (by kernel_rfl) (by kernel_rfl) (by kernel_rfl) (fun _ _ _ _ h => h) (by rfl) hS ?_
          apply Exists.intro
          refine ⟨fun w' hw' => ?_, ?_⟩
          · have e0 := hw'.at 0 rfl; have e1 := hw'.at 1 rfl; have e2 := hw'.at 2 rfl; have e3 := hw'.at 3 rfl; have e4 := hw'.at 4 rfl; have e5 := hw'.at 5 rfl
            go_simp
            first | done | rfl | exact ⟨rfl, rfl⟩
          simp only [Act.put, List.setIfInBounds_toArray, List.set_cons_zero, List.set_cons_succ]
          refine held_val 3 rfl (by kernel_rfl) (by kernel_rfl) (by kernel_rfl) (fun _ _ _ _ h => h) (by rfl) hS ?_
          apply Exists.intro
          refine ⟨fun w' hw' => ?_, ?_⟩
          · have e0 := hw'.at 0 rfl; have e1 := hw'.at 1 rfl; have e2 := hw'.at 2 rfl; have e3 := hw'.at 3 rfl; have e4 := hw'.at 4 rfl; have e5 := hw'.at 5 rfl
            go_simp
            first | done | rfl | exact ⟨rfl, rfl⟩
          simp only [Act.put, List.setIfInBounds_toArray, List.set_cons_zero, List.set_cons_succ]
          refine held_val 4 rfl (by kernel_rfl) (by kernel_rfl) (by kernel_rfl) (fun _ _ _ _ h => h) (by rfl) hS ?_
          apply Exists.intro
          refine ⟨fun w' hw' => ?_, ?_⟩
          · have e0 := hw'.at 0 rfl; have e1 := hw'.at 1 rfl; have e2 := hw'.at 2 rfl; have e3 := hw'.at 3 rfl; have e4 := hw'.at 4 rfl; have e5 := hw'.at 5 rfl
            go_simp
            first | done | rfl | exact ⟨rfl, rfl⟩
          simp only [Act.put, List.setIfInBounds_toArray, List.set_cons_zero, List.set_cons_succ]
          have z0 := Rw.frozen rR9 0
          have z1 := Rw.frozen rR9 1
          have z2 := Rw.frozen rR9 2
          have z3 := Rw.frozen rR9 3
          have z4 := Rw.frozen rR9 4
          have z5 := Rw.frozen rR9 5
          have u0 := Rw.cell rR9 0
          have u1 := Rw.cell rR9 1
          have u2 := Rw.cell rR9 2
          have u3 := Rw.cell rR9 3
          have u4 := Rw.cell rR9 4
          have u5 := Rw.cell rR9 5
          simp only [List.getElem?_cons_zero, List.getElem?_cons_succ] at u0 u1 u2 u3 u4 u5
          have rB9 := rR9.set6 (.string ⟨#[112, 114, 111, 109]⟩) (.slice az F.length kz) (.int .i64 1) (.int .u32 c) (.int .i64 (wrap64 ((IntKind.u64.wrap p).tmod 1000))) (.int .i64 0)
          have rO10 := (((((rO9.other hbR 0 (.string ⟨#[112, 114, 111, 109]⟩)).other hbR 1 (.slice az F.length kz)).other hbR 2 (.int .i64 1)).other hbR 3 (.int .u32 c)).other hbR 4 (.int .i64 (wrap64 ((IntKind.u64.wrap p).tmod 1000)))).other hbR 5 (.int .i64 0)
          have hz10 := hz9.keepN (S := fun j => j = bR) ((((((Asd.one D9 bR 0 (.string ⟨#[112, 114, 111, 109]⟩)).set1 1 (.slice az F.length kz)).set1 2 (.int .i64 1)).set1 3 (.int .u32 c)).set1 4 (.int .i64 (wrap64 ((IntKind.u64.wrap p).tmod 1000)))).set1 5 (.int .i64 0)) (fun i hi _ e => hi.2 e)
          have hB10 := below_set6 (hB.trans (hB9.mono hB.size)) hgeR (.string ⟨#[112, 114, 111, 109]⟩) (.slice az F.length kz) (.int .i64 1) (.int .u32 c) (.int .i64 (wrap64 ((IntKind.u64.wrap p).tmod 1000))) (.int .i64 0)
          refine held_one 5 (by kernel_rfl) rfl (by rfl) ?_
          refine wp_skip (w' := (((((D9.setCell ⟨bR, 0, none⟩ (.string ⟨#[112, 114, 111, 109]⟩)).setCell ⟨bR, 1, none⟩ (.slice az F.length kz)).setCell ⟨bR, 2, none⟩ (.int .i64 1)).setCell ⟨bR, 3, none⟩ (.int .u32 c)).setCell ⟨bR, 4, none⟩ (.int .i64 (wrap64 ((IntKind.u64.wrap p).tmod 1000)))).setCell ⟨bR, 5, none⟩ (.int .i64 0)) ?_ rfl ?_
          · go_simp
            done
          generalize (((((D9.setCell ⟨bR, 0, none⟩ (.string ⟨#[112, 114, 111, 109]⟩)).setCell ⟨bR, 1, none⟩ (.slice az F.length kz)).setCell ⟨bR, 2, none⟩ (.int .i64 1)).setCell ⟨bR, 3, none⟩ (.int .u32 c)).setCell ⟨bR, 4, none⟩ (.int .i64 (wrap64 ((IntKind.u64.wrap p).tmod 1000)))).setCell ⟨bR, 5, none⟩ (.int .i64 0) = D10 at *
          clear hS z0 z1 z2 z3 z4 z5 u0 u1 u2 u3 u4 u5
          have hS : CS [(⟨b, 0, none⟩, .string ⟨#[112, 114, 111, 109]⟩), (⟨b, 1, none⟩, .slice az F.length kz), (⟨b, 2, none⟩, .int .i64 1), (⟨b, 3, none⟩, .int .u32 c), (⟨b, 4, none⟩, .int .i64 (wrap64 ((IntKind.u64.wrap p).tmod 1000))), (⟨b, 5, none⟩, .int .i64 0)] D10 := ((((((CS.nil D10).row rO10 5 rfl).row rO10 4 rfl).row rO10 3 rfl).row rO10 2 rfl).row rO10 1 rfl).row rO10 0 rfl
          refine ⟨hS, ?_⟩
          refine held_val 6 rfl (by kernel_rfl) (by kernel_rfl) (by kernel_rfl) (fun _ _ _ _ h => h) (by rfl) hS ?_
          apply Exists.intro
          refine ⟨fun w' hw' => ?_, ?_⟩
          · skip
            go_simp
            first | done | rfl | exact ⟨rfl, rfl⟩
          simp only [Act.put, List.setIfInBounds_toArray, List.set_cons_zero, List.set_cons_succ]
          refine wpAnyH_done (by kernel_rfl) ?_ _
          have u0 := Rw.cell rB9 0
          have u1 := Rw.cell rB9 1
          have u2 := Rw.cell rB9 2
          have u3 := Rw.cell rB9 3
          have u4 := Rw.cell rB9 4
          have u5 := Rw.cell rB9 5
          simp only [List.getElem?_cons_zero, List.getElem?_cons_succ] at u0 u1 u2 u3 u4 u5
          go_wp2_with fail
          refine bodyPost_ret (v := .tuple #[.agg #[.string ⟨#[112, 114, 111, 109]⟩, .slice az F.length kz, .int .i64 1, .int .u32 c, .int .i64 (wrap64 ((IntKind.u64.wrap p).tmod 1000)), .int .i64 0], .bool (decide ((0 : Int) < (F.length : Int)))]) (by simp [results, Tryd.results31, go_sem, u0, u1, u2, u3, u4, u5]) rfl ?_
          refine ⟨⟨az, F.length, kz⟩, 0, ?_, hz10.mono (fun _ _ _ => trivial), hB10, gQ_no p⟩
          rw [show decide ((0 : Int) < (F.length : Int)) = decide (0 < F.length) by simp]
          rw [gS_no hnb, gL_no hlb]
          rfl
        · have hq2 : (q == 0) = false := beq_false_of_ne hq
          have o4 := Rw.cell rO 4
          have o5 := Rw.cell rO 5
          simp only [List.getElem?_cons_zero, List.getElem?_cons_succ] at o4 o5
          have f5 := Rw.frozen rO 5
          go_upto_region 9 with fail
          have hz' := hz.keepN (S := fun j => j = b) (Asd.one v10 b 5 (.int .i64 (wrap64 (wrap64 (wrap64 ((IntKind.u64.wrap p).tmod 1000) + 1) + wrap64 ((IntKind.u64.wrap q).tmod 1000))))) (fun i hi _ e => hi.1 e)
          have rO' := rO.setCell 5 (.int .i64 (wrap64 (wrap64 (wrap64 ((IntKind.u64.wrap p).tmod 1000) + 1) + wrap64 ((IntKind.u64.wrap q).tmod 1000))))
          have hBW' := hBW.setCell (p := ⟨b, 5, none⟩) hb1 (.int .i64 (wrap64 (wrap64 (wrap64 ((IntKind.u64.wrap p).tmod 1000) + 1) + wrap64 ((IntKind.u64.wrap q).tmod 1000))))
          simp only [List.set_cons_zero, List.set_cons_succ] at rO'
          generalize v10.setCell ⟨b, 5, none⟩ (.int .i64 (wrap64 (wrap64 (wrap64 ((IntKind.u64.wrap p).tmod 1000) + 1) + wrap64 ((IntKind.u64.wrap q).tmod 1000)))) = v11 at *
          clear rO hz hBW o4 o5 f5 i5 rI9
          have rO := rO'
          have hz := hz'
          have hBW := hBW'
          clear rO' hz' hBW'
          have rRk := rR.stay hBW
          have hbR : b ≠ bR := by omega
          refine wp_region_held (S := CS [(⟨b, 0, none⟩, .string ⟨#[112, 114, 111, 109]⟩), (⟨b, 1, none⟩, .slice az F.length kz), (⟨b, 2, none⟩, .int .i64 1), (⟨b, 3, none⟩, .int .u32 c), (⟨b, 4, none⟩, .int .i64 (wrap64 ((IntKind.u64.wrap p).tmod 1000))), (⟨b, 5, none⟩, .int .i64 (wrap64 (wrap64 (wrap64 ((IntKind.u64.wrap p).tmod 1000) + 1) + wrap64 ((IntKind.u64.wrap q).tmod 1000))))]) (by kernel_rfl) ?_
          have hS : CS [(⟨b, 0, none⟩, .string ⟨#[112, 114, 111, 109]⟩), (⟨b, 1, none⟩, .slice az F.length kz), (⟨b, 2, none⟩, .int .i64 1), (⟨b, 3, none⟩, .int .u32 c), (⟨b, 4, none⟩, .int .i64 (wrap64 ((IntKind.u64.wrap p).tmod 1000))), (⟨b, 5, none⟩, .int .i64 (wrap64 (wrap64 (wrap64 ((IntKind.u64.wrap p).tmod 1000) + 1) + wrap64 ((IntKind.u64.wrap q).tmod 1000))))] v11.drew := ((((((CS.nil v11).row rO 5 rfl).row rO 4 rfl).row rO 3 rfl).row rO 2 rfl).row rO 1 rfl).row rO 0 rfl
          have rO9 := rO.stay ((Below.refl v11.heap.size v11).drew)
          have rR9 := rRk.stay ((Below.refl v11.heap.size v11).drew)
          have hz9 := hz.stay ((Below.refl v11.heap.size v11).drew)
          have hB9 := hBW.drew
          change wpAnyH _ _ _ _ _ _ _ _ v11.drew
          generalize v11.drew = D9 at *
          clear rO rRk hz hBW
          refine held_val 0 rfl (by kernel_rfl) (by kernel_rfl) (by kernel_rfl) (fun _ _ _ _ h => h) (by rfl) hS ?_
          apply Exists.intro
          refine ⟨fun w' hw' => ?_, ?_⟩
          · have e0 := hw'.at 0 rfl; have e1 := hw'.at 1 rfl; have e2 := hw'.at 2 rfl; have e3 := hw'.at 3 rfl; have e4 := hw'.at 4 rfl; have e5 := hw'.at 5 rfl
            go_simp
            first | done | rfl | exact ⟨rfl, rfl⟩
          simp only [Act.put, List.setIfInBounds_toArray, List.set_cons_zero, List.set_cons_succ]
          refine held_val 1 rfl (by kernel_rfl) (by kernel_rfl) (by kernel_rfl) (fun _ _ _ _ h => h) (by rfl) hS ?_
          apply Exists.intro
          refine ⟨fun w' hw' => ?_, ?_⟩
          · have e0 := hw'.at 0 rfl; have e1 := hw'.at 1 rfl; have e2 := hw'.at 2 rfl; have e3 := hw'.at 3 rfl; have e4 := hw'.at 4 rfl; have e5 := hw'.at 5 rfl
            go_simp
            first | done | rfl | exact ⟨rfl, rfl⟩
          simp only [Act.put, List.setIfInBounds_toArray, List.set_cons_zero, List.set_cons_succ]
          refine held_val 2 rfl (by kernel_rfl) (by kernel_rfl) (by kernel_rfl) (fun _ _ _ _ h => h) (by rfl) hS ?_
          apply Exists.intro
          refine ⟨fun w' hw' => ?_, ?_⟩
          · have e0 := hw'.at 0 rfl; have e1 := hw'.at 1 rfl; have e2 := hw'.at 2 rfl; have e3 := hw'.at 3 rfl; have e4 := hw'.at 4 rfl; have e5 := hw'.at 5 rfl
            go_simp
            first | done | rfl | exact ⟨rfl, rfl⟩
          simp only [Act.put, List.setIfInBounds_toArray, List.set_cons_zero, List.set_cons_succ]
          refine held_val 3 rfl (by kernel_rfl) (by kernel_rfl) (by kernel_rfl) (fun _ _ _ _ h => h) (by rfl) hS ?_
          apply Exists.intro
          refine ⟨fun w' hw' => ?_, ?_⟩
          · have e0 := hw'.at 0 rfl; have e1 := hw'.at 1 rfl; have e2 := hw'.at 2 rfl; have e3 := hw'.at 3 rfl; have e4 := hw'.at 4 rfl; have e5 := hw'.at 5 rfl
            go_simp
            first | done | rfl | exact ⟨rfl, rfl⟩
          simp only [Act.put, List.setIfInBounds_toArray, List.set_cons_zero, List.set_cons_succ]
          refine held_val 4 rfl (by kernel_rfl) (by kernel_rfl) (by kernel_rfl) (fun _ _ _ _ h => h) (by rfl) hS ?_
          apply Exists.intro
          refine ⟨fun w' hw' => ?_, ?_⟩
          · have e0 := hw'.at 0 rfl; have e1 := hw'.at 1 rfl; have e2 := hw'.at 2 rfl; have e3 := hw'.at 3 rfl; have e4 := hw'.at 4 rfl; have e5 := hw'.at 5 rfl
            go_simp
            first | done | rfl | exact ⟨rfl, rfl⟩
          simp only [Act.put, List.setIfInBounds_toArray, List.set_cons_zero, List.set_cons_succ]
          have z0 := Rw.frozen rR9 0
          have z1 := Rw.frozen rR9 1
          have z2 := Rw.frozen rR9 2
          have z3 := Rw.frozen rR9 3
          have z4 := Rw.frozen rR9 4
          have z5 := Rw.frozen rR9 5
          have u0 := Rw.cell rR9 0
          have u1 := Rw.cell rR9 1
          have u2 := Rw.cell rR9 2
          have u3 := Rw.cell rR9 3
          have u4 := Rw.cell rR9 4
          have u5 := Rw.cell rR9 5
          simp only [List.getElem?_cons_zero, List.getElem?_cons_succ] at u0 u1 u2 u3 u4 u5
          have rB9 := rR9.set6 (.string ⟨#[112, 114, 111, 109]⟩) (.slice az F.length kz) (.int .i64 1) (.int .u32 c) (.int .i64 (wrap64 ((IntKind.u64.wrap p).tmod 1000))) (.int .i64 (wrap64 (wrap64 (wrap64 ((IntKind.u64.wrap p).tmod 1000) + 1) + wrap64 ((IntKind.u64.wrap q).tmod 1000))))
          have rO10 := (((((rO9.other hbR 0 (.string ⟨#[112, 114, 111, 109]⟩)).other hbR 1 (.slice az F.length kz)).other hbR 2 (.int .i64 1)).other hbR 3 (.int .u32 c)).other hbR 4 (.int .i64 (wrap64 ((IntKind.u64.wrap p).tmod 1000)))).other hbR 5 (.int .i64 (wrap64 (wrap64 (wrap64 ((IntKind.u64.wrap p).tmod 1000) + 1) + wrap64 ((IntKind.u64.wrap q).tmod 1000))))
          have hz10 := hz9.keepN (S := fun j => j = bR) ((((((Asd.one D9 bR 0 (.string ⟨#[112, 114, 111, 109]⟩)).set1 1 (.slice az F.length kz)).set1 2 (.int .i64 1)).set1 3 (.int .u32 c)).set1 4 (.int .i64 (wrap64 ((IntKind.u64.wrap p).tmod 1000)))).set1 5 (.int .i64 (wrap64 (wrap64 (wrap64 ((IntKind.u64.wrap p).tmod 1000) + 1) + wrap64 ((IntKind.u64.wrap q).tmod 1000))))) (fun i hi _ e => hi.2 e)
          have hB10 := below_set6 (hB.trans (hB9.mono hB.size)) hgeR (.string ⟨#[112, 114, 111, 109]⟩) (.slice az F.length kz) (.int .i64 1) (.int .u32 c) (.int .i64 (wrap64 ((IntKind.u64.wrap p).tmod 1000))) (.int .i64 (wrap64 (wrap64 (wrap64 ((IntKind.u64.wrap p).tmod 1000) + 1) + wrap64 ((IntKind.u64.wrap q).tmod 1000))))
          refine held_one 5 (by kernel_rfl) rfl (by rfl) ?_
          refine wp_skip (w' := (((((D9.setCell ⟨bR, 0, none⟩ (.string ⟨#[112, 114, 111, 109]⟩)).setCell ⟨bR, 1, none⟩ (.slice az F.length kz)).setCell ⟨bR, 2, none⟩ (.int .i64 1)).setCell ⟨bR, 3, none⟩ (.int .u32 c)).setCell ⟨bR, 4, none⟩ (.int .i64 (wrap64 ((IntKind.u64.wrap p).tmod 1000)))).setCell ⟨bR, 5, none⟩ (.int .i64 (wrap64 (wrap64 (wrap64 ((IntKind.u64.wrap p).tmod 1000) + 1) + wrap64 ((IntKind.u64.wrap q).tmod 1000))))) ?_ rfl ?_
          · go_simp
            done
          generalize (((((D9.setCell ⟨bR, 0, none⟩ (.string ⟨#[112, 114, 111, 109]⟩)).setCell ⟨bR, 1, none⟩ (.slice az F.length kz)).setCell ⟨bR, 2, none⟩ (.int .i64 1)).setCell ⟨bR, 3, none⟩ (.int .u32 c)).setCell ⟨bR, 4, none⟩ (.int .i64 (wrap64 ((IntKind.u64.wrap p).tmod 1000)))).setCell ⟨bR, 5, none⟩ (.int .i64 (wrap64 (wrap64 (wrap64 ((IntKind.u64.wrap p).tmod 1000) + 1) + wrap64 ((IntKind.u64.wrap q).tmod 1000)))) = D10 at *
          clear hS z0 z1 z2 z3 z4 z5 u0 u1 u2 u3 u4 u5
          have hS : CS [(⟨b, 0, none⟩, .string ⟨#[112, 114, 111, 109]⟩), (⟨b, 1, none⟩, .slice az F.length kz), (⟨b, 2, none⟩, .int .i64 1), (⟨b, 3, none⟩, .int .u32 c), (⟨b, 4, none⟩, .int .i64 (wrap64 ((IntKind.u64.wrap p).tmod 1000))), (⟨b, 5, none⟩, .int .i64 (wrap64 (wrap64 (wrap64 ((IntKind.u64.wrap p).tmod 1000) + 1) + wrap64 ((IntKind.u64.wrap q).tmod 1000))))] D10 := ((((((CS.nil D10).row rO10 5 rfl).row rO10 4 rfl).row rO10 3 rfl).row rO10 2 rfl).row rO10 1 rfl).row rO10 0 rfl
          refine ⟨hS, ?_⟩
          refine held_val 6 rfl (by kernel_rfl) (by kernel_rfl) (by kernel_rfl) (fun _ _ _ _ h => h) (by rfl) hS ?_
          apply Exists.intro
          refine ⟨fun w' hw' => ?_, ?_⟩
          · skip
            go_simp
            first | done | rfl | exact ⟨rfl, rfl⟩
          simp only [Act.put, List.setIfInBounds_toArray, List.set_cons_zero, List.set_cons_succ]
          refine wpAnyH_done (by kernel_rfl) ?_ _
          have u0 := Rw.cell rB9 0
          have u1 := Rw.cell rB9 1
          have u2 := Rw.cell rB9 2
          have u3 := Rw.cell rB9 3
          have u4 := Rw.cell rB9 4
          have u5 := Rw.cell rB9 5
          simp only [List.getElem?_cons_zero, List.getElem?_cons_succ] at u0 u1 u2 u3 u4 u5
          go_wp2_with fail
          refine bodyPost_ret (v := .tuple #[.agg #[.string ⟨#[112, 114, 111, 109]⟩, .slice az F.length kz, .int .i64 1, .int .u32 c, .int .i64 (wrap64 ((IntKind.u64.wrap p).tmod 1000)), .int .i64 (wrap64 (wrap64 (wrap64 ((IntKind.u64.wrap p).tmod 1000) + 1) + wrap64 ((IntKind.u64.wrap q).tmod 1000)))], .bool (decide ((0 : Int) < (F.length : Int)))]) (by simp [results, Tryd.results31, go_sem, u0, u1, u2, u3, u4, u5]) rfl ?_
          refine ⟨⟨az, F.length, kz⟩, (wrap64 (wrap64 (wrap64 ((IntKind.u64.wrap p).tmod 1000) + 1) + wrap64 ((IntKind.u64.wrap q).tmod 1000))), ?_, hz10.mono (fun _ _ _ => trivial), hB10, gQ_yes p q⟩
          rw [show decide ((0 : Int) < (F.length : Int)) = decide (0 < F.length) by simp]
          rw [gS_no hnb, gL_no hlb]
          rfl
      | true =>
        go_upto_region 6 with fail
        clear o2 o3 f2
        have rI9 := rI.stay hBW
        have i4 := Rw.cell rI9 4
        simp only [List.getElem?_cons_zero, List.getElem?_cons_succ] at i4
        have o4 := Rw.cell rO 4
        simp only [List.getElem?_cons_zero, List.getElem?_cons_succ] at o4
        have f4 := Rw.frozen rO 4
        go_upto_region 7 with fail
        have hz' := hz.keepN (S := fun j => j = b) (Asd.one v8 b 4 (.int .i64 (wrap64 ((IntKind.u64.wrap p).tmod 1000)))) (fun i hi _ e => hi.1 e)
        have rO' := rO.setCell 4 (.int .i64 (wrap64 ((IntKind.u64.wrap p).tmod 1000)))
        have hBW' := hBW.setCell (p := ⟨b, 4, none⟩) hb1 (.int .i64 (wrap64 ((IntKind.u64.wrap p).tmod 1000)))
        simp only [List.set_cons_zero, List.set_cons_succ] at rO'
        generalize v8.setCell ⟨b, 4, none⟩ (.int .i64 (wrap64 ((IntKind.u64.wrap p).tmod 1000))) = v12 at *
        clear rO hz hBW o4 f4 i4 rI9
        have rO := rO'
        have hz := hz'
        have hBW := hBW'
        clear rO' hz' hBW'
        have rI9 := rI.stay hBW
        have i5 := Rw.cell rI9 5
        simp only [List.getElem?_cons_zero, List.getElem?_cons_succ] at i5
        by_cases hq : q = 0
        · subst hq
          go_upto_region 9 with fail
          clear i5 rI9
          have rRk := rR.stay hBW
          have hbR : b ≠ bR := by omega
          refine wp_region_held (S := CS [(⟨b, 0, none⟩, .string ⟨#[112, 114, 111, 109]⟩), (⟨b, 1, none⟩, .slice az F.length kz), (⟨b, 2, none⟩, .int .i64 l), (⟨b, 3, none⟩, .int .u32 c), (⟨b, 4, none⟩, .int .i64 (wrap64 ((IntKind.u64.wrap p).tmod 1000))), (⟨b, 5, none⟩, .int .i64 0)]) (by kernel_rfl) ?_
          have hS : CS [(⟨b, 0, none⟩, .string ⟨#[112, 114, 111, 109]⟩), (⟨b, 1, none⟩, .slice az F.length kz), (⟨b, 2, none⟩, .int .i64 l), (⟨b, 3, none⟩, .int .u32 c), (⟨b, 4, none⟩, .int .i64 (wrap64 ((IntKind.u64.wrap p).tmod 1000))), (⟨b, 5, none⟩, .int .i64 0)] v12.drew := ((((((CS.nil v12).row rO 5 rfl).row rO 4 rfl).row rO 3 rfl).row rO 2 rfl).row rO 1 rfl).row rO 0 rfl
          have rO9 := rO.stay ((Below.refl v12.heap.size v12).drew)
          have rR9 := rRk.stay ((Below.refl v12.heap.size v12).drew)
          have hz9 := hz.stay ((Below.refl v12.heap.size v12).drew)
          have hB9 := hBW.drew
          change wpAnyH _ _ _ _ _ _ _ _ v12.drew
          generalize v12.drew = D9 at *
          clear rO rRk hz hBW
          refine held_val 0 rfl (by kernel_rfl) (by kernel_rfl) (by kernel_rfl) (fun _ _ _ _ h => h) (by rfl) hS ?_
          apply Exists.intro
          refine ⟨fun w' hw' => ?_, ?_⟩
          · have e0 := hw'.at 0 rfl; have e1 := hw'.at 1 rfl; have e2 := hw'.at 2 rfl; have e3 := hw'.at 3 rfl; have e4 := hw'.at 4 rfl; have e5 := hw'.at 5 rfl
            go_simp
            first | done | rfl | exact ⟨rfl, rfl⟩
          simp only [Act.put, List.setIfInBounds_toArray, List.set_cons_zero, List.set_cons_succ]
          refine held_val 1 rfl (by kernel_rfl) (by kernel_rfl) (by kernel_rfl) (fun _ _ _ _ h => h) (by rfl) hS ?_
          apply Exists.intro
          refine ⟨fun w' hw' => ?_, ?_⟩
          · have e0 := hw'.at 0 rfl; have e1 := hw'.at 1 rfl; have e2 := hw'.at 2 rfl; have e3 := hw'.at 3 rfl; have e4 := hw'.at 4 rfl; have e5 := hw'.at 5 rfl
            go_simp
            first | done | rfl | exact ⟨rfl, rfl⟩
          simp only [Act.put, List.setIfInBounds_toArray, List.set_cons_zero, List.set_cons_succ]
          refine held_val 2 rfl (by kernel_rfl) (by kernel_rfl) (by kernel_rfl) (fun _ _ _ _ h => h) (by rfl) hS ?_
          apply Exists.intro
          refine ⟨fun w' hw' => ?_, ?_⟩
          · have e0 := hw'.at 0 rfl; have e1 := hw'.at 1 rfl; have e2 := hw'.at 2 rfl; have e3 := hw'.at 3 rfl; have e4 := hw'.at 4 rfl; have e5 := hw'.at 5 rfl
            go_simp
            first | done | rfl | exact ⟨rfl, rfl⟩
          simp only [Act.put, List.setIfInBounds_toArray, List.set_cons_zero, List.set_cons_succ]
          refine held_val 3 rfl (by kernel_rfl) (by kernel_rfl) (by kernel_rfl) (fun _ _ _ _ h => h) (by rfl) hS ?_
          apply Exists.intro
          refine ⟨fun w' hw' => ?_, ?_⟩
          · have e0 := hw'.at 0 rfl; have e1 := hw'.at 1 rfl; have e2 := hw'.at 2 rfl; have e3 := hw'.at 3 rfl; have e4 := hw'.at 4 rfl; have e5 := hw'.at 5 rfl
            go_simp
            first | done | rfl | exact ⟨rfl, rfl⟩
          simp only [Act.put, List.setIfInBounds_toArray, List.set_cons_zero, List.set_cons_succ]
          refine held_val 4 rfl (by kernel_rfl) (by kernel_rfl) (by kernel_rfl) (fun _ _ _ _ h => h) (by rfl) hS ?_
          apply Exists.intro
          refine ⟨fun w' hw' => ?_, ?_⟩
          · have e0 := hw'.at 0 rfl; have e1 := hw'.at 1 rfl; have e2 := hw'.at 2 rfl; have e3 := hw'.at 3 rfl; have e4 := hw'.at 4 rfl; have e5 := hw'.at 5 rfl
            go_simp
            first | done | rfl | exact ⟨rfl, rfl⟩
          simp only [Act.put, List.setIfInBounds_toArray, List.set_cons_zero, List.set_cons_succ]
          have z0 := Rw.frozen rR9 0
          have z1 := Rw.frozen rR9 1
          have z2 := Rw.frozen rR9 2
          have z3 := Rw.frozen rR9 3
          have z4 := Rw.frozen rR9 4
          have z5 := Rw.frozen rR9 5
          have u0 := Rw.cell rR9 0
          have u1 := Rw.cell rR9 1
          have u2 := Rw.cell rR9 2
          have u3 := Rw.cell rR9 3
          have u4 := Rw.cell rR9 4
          have u5 := Rw.cell rR9 5
          simp only [List.getElem?_cons_zero, List.getElem?_cons_succ] at u0 u1 u2 u3 u4 u5
          have rB9 := rR9.set6 (.string ⟨#[112, 114, 111, 109]⟩) (.slice az F.length kz) (.int .i64 l) (.int .u32 c) (.int .i64 (wrap64 ((IntKind.u64.wrap p).tmod 1000))) (.int .i64 0)
          have rO10 := (((((rO9.other hbR 0 (.string ⟨#[112, 114, 111, 109]⟩)).other hbR 1 (.slice az F.length kz)).other hbR 2 (.int .i64 l)).other hbR 3 (.int .u32 c)).other hbR 4 (.int .i64 (wrap64 ((IntKind.u64.wrap p).tmod 1000)))).other hbR 5 (.int .i64 0)
          have hz10 := hz9.keepN (S := fun j => j = bR) ((((((Asd.one D9 bR 0 (.string ⟨#[112, 114, 111, 109]⟩)).set1 1 (.slice az F.length kz)).set1 2 (.int .i64 l)).set1 3 (.int .u32 c)).set1 4 (.int .i64 (wrap64 ((IntKind.u64.wrap p).tmod 1000)))).set1 5 (.int .i64 0)) (fun i hi _ e => hi.2 e)
          have hB10 := below_set6 (hB.trans (hB9.mono hB.size)) hgeR (.string ⟨#[112, 114, 111, 109]⟩) (.slice az F.length kz) (.int .i64 l) (.int .u32 c) (.int .i64 (wrap64 ((IntKind.u64.wrap p).tmod 1000))) (.int .i64 0)
          refine held_one 5 (by kernel_rfl) rfl (by rfl) ?_
          refine wp_skip (w' := (((((D9.setCell ⟨bR, 0, none⟩ (.string ⟨#[112, 114, 111, 109]⟩)).setCell ⟨bR, 1, none⟩ (.slice az F.length kz)).setCell ⟨bR, 2, none⟩ (.int .i64 l)).setCell ⟨bR, 3, none⟩ (.int .u32 c)).setCell ⟨bR, 4, none⟩ (.int .i64 (wrap64 ((IntKind.u64.wrap p).tmod 1000)))).setCell ⟨bR, 5, none⟩ (.int .i64 0)) ?_ rfl ?_
          · go_simp
            done
          generalize (((((D9.setCell ⟨bR, 0, none⟩ (.string ⟨#[112, 114, 111, 109]⟩)).setCell ⟨bR, 1, none⟩ (.slice az F.length kz)).setCell ⟨bR, 2, none⟩ (.int .i64 l)).setCell ⟨bR, 3, none⟩ (.int .u32 c)).setCell ⟨bR, 4, none⟩ (.int .i64 (wrap64 ((IntKind.u64.wrap p).tmod 1000)))).setCell ⟨bR, 5, none⟩ (.int .i64 0) = D10 at *
          clear hS z0 z1 z2 z3 z4 z5 u0 u1 u2 u3 u4 u5
          have hS : CS [(⟨b, 0, none⟩, .string ⟨#[112, 114, 111, 109]⟩), (⟨b, 1, none⟩, .slice az F.length kz), (⟨b, 2, none⟩, .int .i64 l), (⟨b, 3, none⟩, .int .u32 c), (⟨b, 4, none⟩, .int .i64 (wrap64 ((IntKind.u64.wrap p).tmod 1000))), (⟨b, 5, none⟩, .int .i64 0)] D10 := ((((((CS.nil D10).row rO10 5 rfl).row rO10 4 rfl).row rO10 3 rfl).row rO10 2 rfl).row rO10 1 rfl).row rO10 0 rfl
          refine ⟨hS, ?_⟩
          refine held_val 6 rfl (by kernel_rfl) (by kernel_rfl) (by kernel_rfl) (fun _ _ _ _ h => h) (by rfl) hS ?_
          apply Exists.intro
          refine ⟨fun w' hw' => ?_, ?_⟩
          · skip
            go_simp
            first | done | rfl | exact ⟨rfl, rfl⟩
          simp only [Act.put, List.setIfInBounds_toArray, List.set_cons_zero, List.set_cons_succ]
          refine wpAnyH_done (by kernel_rfl) ?_ _
          have u0 := Rw.cell rB9 0
          have u1 := Rw.cell rB9 1
          have u2 := Rw.cell rB9 2
          have u3 := Rw.cell rB9 3
          have u4 := Rw.cell rB9 4
          have u5 := Rw.cell rB9 5
          simp only [List.getElem?_cons_zero, List.getElem?_cons_succ] at u0 u1 u2 u3 u4 u5
          go_wp2_with fail
          refine bodyPost_ret (v := .tuple #[.agg #[.string ⟨#[112, 114, 111, 109]⟩, .slice az F.length kz, .int .i64 l, .int .u32 c, .int .i64 (wrap64 ((IntKind.u64.wrap p).tmod 1000)), .int .i64 0], .bool (decide ((0 : Int) < (F.length : Int)))]) (by simp [results, Tryd.results31, go_sem, u0, u1, u2, u3, u4, u5]) rfl ?_
          refine ⟨⟨az, F.length, kz⟩, 0, ?_, hz10.mono (fun _ _ _ => trivial), hB10, gQ_no p⟩
          rw [show decide ((0 : Int) < (F.length : Int)) = decide (0 < F.length) by simp]
          rw [gS_no hnb, gL_yes hlb]
          rfl
        · have hq2 : (q == 0) = false := beq_false_of_ne hq
          have o4 := Rw.cell rO 4
          have o5 := Rw.cell rO 5
          simp only [List.getElem?_cons_zero, List.getElem?_cons_succ] at o4 o5
          have f5 := Rw.frozen rO 5
          go_upto_region 9 with fail
          have hz' := hz.keepN (S := fun j => j = b) (Asd.one v12 b 5 (.int .i64 (wrap64 (wrap64 (wrap64 ((IntKind.u64.wrap p).tmod 1000) + 1) + wrap64 ((IntKind.u64.wrap q).tmod 1000))))) (fun i hi _ e => hi.1 e)
          have rO' := rO.setCell 5 (.int .i64 (wrap64 (wrap64 (wrap64 ((IntKind.u64.wrap p).tmod 1000) + 1) + wrap64 ((IntKind.u64.wrap q).tmod 1000))))
          have hBW' := hBW.setCell (p := ⟨b, 5, none⟩) hb1 (.int .i64 (wrap64 (wrap64 (wrap64 ((IntKind.u64.wrap p).tmod 1000) + 1) + wrap64 ((IntKind.u64.wrap q).tmod 1000))))
          simp only [List.set_cons_zero, List.set_cons_succ] at rO'
          generalize v12.setCell ⟨b, 5, none⟩ (.int .i64 (wrap64 (wrap64 (wrap64 ((IntKind.u64.wrap p).tmod 1000) + 1) + wrap64 ((IntKind.u64.wrap q).tmod 1000)))) = v13 at *
          clear rO hz hBW o4 o5 f5 i5 rI9
          have rO := rO'
          have hz := hz'
          have hBW := hBW'
          clear rO' hz' hBW'
          have rRk := rR.stay hBW
          have hbR : b ≠ bR := by omega
          refine wp_region_held (S := CS [(⟨b, 0, none⟩, .string ⟨#[112, 114, 111, 109]⟩), (⟨b, 1, none⟩, .slice az F.length kz), (⟨b, 2, none⟩, .int .i64 l), (⟨b, 3, none⟩, .int .u32 c), (⟨b, 4, none⟩, .int .i64 (wrap64 ((IntKind.u64.wrap p).tmod 1000))), (⟨b, 5, none⟩, .int .i64 (wrap64 (wrap64 (wrap64 ((IntKind.u64.wrap p).tmod 1000) + 1) + wrap64 ((IntKind.u64.wrap q).tmod 1000))))]) (by kernel_rfl) ?_
          have hS : CS [(⟨b, 0, none⟩, .string ⟨#[112, 114, 111, 109]⟩), (⟨b, 1, none⟩, .slice az F.length kz), (⟨b, 2, none⟩, .int .i64 l), (⟨b, 3, none⟩, .int .u32 c), (⟨b, 4, none⟩, .int .i64 (wrap64 ((IntKind.u64.wrap p).tmod 1000))), (⟨b, 5, none⟩, .int .i64 (wrap64 (wrap64 (wrap64 ((IntKind.u64.wrap p).tmod 1000) + 1) + wrap64 ((IntKind.u64.wrap q).tmod 1000))))] v13.drew := ((((((CS.nil v13).row rO 5 rfl).row rO 4 rfl).row rO 3 rfl).row rO 2 rfl).row rO 1 rfl).row rO 0 rfl
          have rO9 := rO.stay ((Below.refl v13.heap.size v13).drew)
          have rR9 := rRk.stay ((Below.refl v13.heap.size v13).drew)
          have hz9 := hz.stay ((Below.refl v13.heap.size v13).drew)
          have hB9 := hBW.drew
          change wpAnyH _ _ _ _ _ _ _ _ v13.drew
          generalize v13.drew = D9 at *
          clear rO rRk hz hBW
          refine held_val 0 rfl (by kernel_rfl) (by kernel_rfl) (by kernel_rfl) (fun _ _ _ _ h => h) (by rfl) hS ?_
          apply Exists.intro
          refine ⟨fun w' hw' => ?_, ?_⟩
          · have e0 := hw'.at 0 rfl; have e1 := hw'.at 1 rfl; have e2 := hw'.at 2 rfl; have e3 := hw'.at 3 rfl; have e4 := hw'.at 4 rfl; have e5 := hw'.at 5 rfl
            go_simp
            first | done | rfl | exact ⟨rfl, rfl⟩
          simp only [Act.put, List.setIfInBounds_toArray, List.set_cons_zero, List.set_cons_succ]
          refine held_val 1 rfl (by kernel_rfl) (by kernel_rfl) (by kernel_rfl) (fun _ _ _ _ h => h) (by rfl) hS ?_
          apply Exists.intro
          refine ⟨fun w' hw' => ?_, ?_⟩
          · have e0 := hw'.at 0 rfl; have e1 := hw'.at 1 rfl; have e2 := hw'.at 2 rfl; have e3 := hw'.at 3 rfl; have e4 := hw'.at 4 rfl; have e5 := hw'.at 5 rfl
            go_simp
            first | done | rfl | exact ⟨rfl, rfl⟩
          simp only [Act.put, List.setIfInBounds_toArray, List.set_cons_zero, List.set_cons_succ]
          refine held_val 2 rfl (by kernel_rfl) (by kernel_rfl) (by kernel_rfl) (fun _ _ _ _ h => h) (by rfl) hS ?_
          apply Exists.intro
          refine ⟨fun w' hw' => ?_, ?_⟩
          · have e0 := hw'.at 0 rfl; have e1 := hw'.at 1 rfl; have e2 := hw'.at 2 rfl; have e3 := hw'.at 3 rfl; have e4 := hw'.at 4 rfl; have e5 := hw'.at 5 rfl
            go_simp
            first | done | rfl | exact ⟨rfl, rfl⟩
          simp only [Act.put, List.setIfInBounds_toArray, List.set_cons_zero, List.set_cons_succ]
          refine held_val 3 rfl (by kernel_rfl) (by kernel_rfl) (by kernel_rfl) (fun _ _ _ _ h => h) (by rfl) hS ?_
          apply Exists.intro
          refine ⟨fun w' hw' => ?_, ?_⟩
          · have e0 := hw'.at 0 rfl; have e1 := hw'.at 1 rfl; have e2 := hw'.at 2 rfl; have e3 := hw'.at 3 rfl; have e4 := hw'.at 4 rfl; have e5 := hw'.at 5 rfl
            go_simp
            first | done | rfl | exact ⟨rfl, rfl⟩
          simp only [Act.put, List.setIfInBounds_toArray, List.set_cons_zero, List.set_cons_succ]
          refine held_val 4 rfl (by kernel_rfl) (by kernel_rfl) (by kernel_rfl) (fun _ _ _ _ h => h) (by rfl) hS ?_
          apply Exists.intro
          refine ⟨fun w' hw' => ?_, ?_⟩
          · have e0 := hw'.at 0 rfl; have e1 := hw'.at 1 rfl; have e2 := hw'.at 2 rfl; have e3 := hw'.at 3 rfl; have e4 := hw'.at 4 rfl; have e5 := hw'.at 5 rfl
            go_simp
            first | done | rfl | exact ⟨rfl, rfl⟩
          simp only [Act.put, List.setIfInBounds_toArray, List.set_cons_zero, List.set_cons_succ]
          have z0 := Rw.frozen rR9 0
          have z1 := Rw.frozen rR9 1
          have z2 := Rw.frozen rR9 2
          have z3 := Rw.frozen rR9 3
          have z4 := Rw.frozen rR9 4
          have z5 := Rw.frozen rR9 5
          have u0 := Rw.cell rR9 0
          have u1 := Rw.cell rR9 1
          have u2 := Rw.cell rR9 2
          have u3 := Rw.cell rR9 3
          have u4 := Rw.cell rR9 4
          have u5 := Rw.cell rR9 5
          simp only [List.getElem?_cons_zero, List.getElem?_cons_succ] at u0 u1 u2 u3 u4 u5
          have rB9 := rR9.set6 (.string ⟨#[112, 114, 111, 109]⟩) (.slice az F.length kz) (.int .i64 l) (.int .u32 c) (.int .i64 (wrap64 ((IntKind.u64.wrap p).tmod 1000))) (.int .i64 (wrap64 (wrap64 (wrap64 ((IntKind.u64.wrap p).tmod 1000) + 1) + wrap64 ((IntKind.u64.wrap q).tmod 1000))))
          have rO10 := (((((rO9.other hbR 0 (.string ⟨#[112, 114, 111, 109]⟩)).other hbR 1 (.slice az F.length kz)).other hbR 2 (.int .i64 l)).other hbR 3 (.int .u32 c)).other hbR 4 (.int .i64 (wrap64 ((IntKind.u64.wrap p).tmod 1000)))).other hbR 5 (.int .i64 (wrap64 (wrap64 (wrap64 ((IntKind.u64.wrap p).tmod 1000) + 1) + wrap64 ((IntKind.u64.wrap q).tmod 1000))))
          have hz10 := hz9.keepN (S := fun j => j = bR) ((((((Asd.one D9 bR 0 (.string ⟨#[112, 114, 111, 109]⟩)).set1 1 (.slice az F.length kz)).set1 2 (.int .i64 l)).set1 3 (.int .u32 c)).set1 4 (.int .i64 (wrap64 ((IntKind.u64.wrap p).tmod 1000)))).set1 5 (.int .i64 (wrap64 (wrap64 (wrap64 ((IntKind.u64.wrap p).tmod 1000) + 1) + wrap64 ((IntKind.u64.wrap q).tmod 1000))))) (fun i hi _ e => hi.2 e)
          have hB10 := below_set6 (hB.trans (hB9.mono hB.size)) hgeR (.string ⟨#[112, 114, 111, 109]⟩) (.slice az F.length kz) (.int .i64 l) (.int .u32 c) (.int .i64 (wrap64 ((IntKind.u64.wrap p).tmod 1000))) (.int .i64 (wrap64 (wrap64 (wrap64 ((IntKind.u64.wrap p).tmod 1000) + 1) + wrap64 ((IntKind.u64.wrap q).tmod 1000))))
          refine held_one 5 (by kernel_rfl) rfl (by rfl) ?_
          refine wp_skip (w' := (((((D9.setCell ⟨bR, 0, none⟩ (.string ⟨#[112, 114, 111, 109]⟩)).setCell ⟨bR, 1, none⟩ (.slice az F.length kz)).setCell ⟨bR, 2, none⟩ (.int .i64 l)).setCell ⟨bR, 3, none⟩ (.int .u32 c)).setCell ⟨bR, 4, none⟩ (.int .i64 (wrap64 ((IntKind.u64.wrap p).tmod 1000)))).setCell ⟨bR, 5, none⟩ (.int .i64 (wrap64 (wrap64 (wrap64 ((IntKind.u64.wrap p).tmod 1000) + 1) + wrap64 ((IntKind.u64.wrap q).tmod 1000))))) ?_ rfl ?_
          · go_simp
            done
          generalize (((((D9.setCell ⟨bR, 0, none⟩ (.string ⟨#[112, 114, 111, 109]⟩)).setCell ⟨bR, 1, none⟩ (.slice az F.length kz)).setCell ⟨bR, 2, none⟩ (.int .i64 l)).setCell ⟨bR, 3, none⟩ (.int .u32 c)).setCell ⟨bR, 4, none⟩ (.int .i64 (wrap64 ((IntKind.u64.wrap p).tmod 1000)))).setCell ⟨bR, 5, none⟩ (.int .i64 (wrap64 (wrap64 (wrap64 ((IntKind.u64.wrap p).tmod 1000) + 1) + wrap64 ((IntKind.u64.wrap q).tmod 1000)))) = D10 at *
          clear hS z0 z1 z2 z3 z4 z5 u0 u1 u2 u3 u4 u5
          have hS : CS [(⟨b, 0, none⟩, .string ⟨#[112, 114, 111, 109]⟩), (⟨b, 1, none⟩, .slice az F.length kz), (⟨b, 2, none⟩, .int .i64 l), (⟨b, 3, none⟩, .int .u32 c), (⟨b, 4, none⟩, .int .i64 (wrap64 ((IntKind.u64.wrap p).tmod 1000))), (⟨b, 5, none⟩, .int .i64 (wrap64 (wrap64 (wrap64 ((IntKind.u64.wrap p).tmod 1000) + 1) + wrap64 ((IntKind.u64.wrap q).tmod 1000))))] D10 := ((((((CS.nil D10).row rO10 5 rfl).row rO10 4 rfl).row rO10 3 rfl).row rO10 2 rfl).row rO10 1 rfl).row rO10 0 rfl
          refine ⟨hS, ?_⟩
          refine held_val 6 rfl (by kernel_rfl) (by kernel_rfl) (by kernel_rfl) (fun _ _ _ _ h => h) (by rfl) hS ?_
          apply Exists.intro
          refine ⟨fun w' hw' => ?_, ?_⟩
          · skip
            go_simp
            first | done | rfl | exact ⟨rfl, rfl⟩
          simp only [Act.put, List.setIfInBounds_toArray, List.set_cons_zero, List.set_cons_succ]
          refine wpAnyH_done (by kernel_rfl) ?_ _
          have u0 := Rw.cell rB9 0
          have u1 := Rw.cell rB9 1
          have u2 := Rw.cell rB9 2
          have u3 := Rw.cell rB9 3
          have u4 := Rw.cell rB9 4
          have u5 := Rw.cell rB9 5
          simp only [List.getElem?_cons_zero, List.getElem?_cons_succ] at u0 u1 u2 u3 u4 u5
          go_wp2_with fail
          refine bodyPost_ret (v := .tuple #[.agg #[.string ⟨#[112, 114, 111, 109]⟩, .slice az F.length kz, .int .i64 l, .int .u32 c, .int .i64 (wrap64 ((IntKind.u64.wrap p).tmod 1000)), .int .i64 (wrap64 (wrap64 (wrap64 ((IntKind.u64.wrap p).tmod 1000) + 1) + wrap64 ((IntKind.u64.wrap q).tmod 1000)))], .bool (decide ((0 : Int) < (F.length : Int)))]) (by simp [results, Tryd.results31, go_sem, u0, u1, u2, u3, u4, u5]) rfl ?_
          refine ⟨⟨az, F.length, kz⟩, (wrap64 (wrap64 (wrap64 ((IntKind.u64.wrap p).tmod 1000) + 1) + wrap64 ((IntKind.u64.wrap q).tmod 1000))), ?_, hz10.mono (fun _ _ _ => trivial), hB10, gQ_yes p q⟩
          rw [show decide ((0 : Int) < (F.length : Int)) = decide (0 < F.length) by simp]
          rw [gS_no hnb, gL_yes hlb]
          rfl
    | true =>
      go_upto_region 4 with fail
      clear o0 f0
      have o2 := Rw.cell rO 2
      have o3 := Rw.cell rO 3
      simp only [List.getElem?_cons_zero, List.getElem?_cons_succ] at o2 o3
      go_wp2_with fail
      refine (KR.out _).mono ?_
      rintro e v14 ⟨rfl, hb⟩
      have hBW' := hBW.trans (hb.mono hBW.size)
      have rO' := rO.stay hb
      have hz' := hz.stay hb
      clear KR hb rO hz hBW o2 o3
      have rO := rO'
      have hz := hz'
      have hBW := hBW'
      clear rO' hz' hBW'
      have o2 := Rw.cell rO 2
      have o3 := Rw.cell rO 3
      simp only [List.getElem?_cons_zero, List.getElem?_cons_succ] at o2 o3
      have f2 := Rw.frozen rO 2
      cases hlb : rB l with
      | false =>
        go_upto_region 6 with fail
        have hz' := hz.keepN (S := fun j => j = b) (Asd.one v14 b 2 (.int .i64 1)) (fun i hi _ e => hi.1 e)
        have rO' := rO.setCell 2 (.int .i64 1)
        have hBW' := hBW.setCell (p := ⟨b, 2, none⟩) hb1 (.int .i64 1)
        simp only [List.set_cons_zero, List.set_cons_succ] at rO'
        generalize v14.setCell ⟨b, 2, none⟩ (.int .i64 1) = v15 at *
        clear rO hz hBW o2 o3 f2
        have rO := rO'
        have hz := hz'
        have hBW := hBW'
        clear rO' hz' hBW'
        have rI9 := rI.stay hBW
        have i4 := Rw.cell rI9 4
        simp only [List.getElem?_cons_zero, List.getElem?_cons_succ] at i4
        have o4 := Rw.cell rO 4
        simp only [List.getElem?_cons_zero, List.getElem?_cons_succ] at o4
        have f4 := Rw.frozen rO 4
        go_upto_region 7 with fail
        have hz' := hz.keepN (S := fun j => j = b) (Asd.one v15 b 4 (.int .i64 (wrap64 ((IntKind.u64.wrap p).tmod 1000)))) (fun i hi _ e => hi.1 e)
        have rO' := rO.setCell 4 (.int .i64 (wrap64 ((IntKind.u64.wrap p).tmod 1000)))
        have hBW' := hBW.setCell (p := ⟨b, 4, none⟩) hb1 (.int .i64 (wrap64 ((IntKind.u64.wrap p).tmod 1000)))
        simp only [List.set_cons_zero, List.set_cons_succ] at rO'
        generalize v15.setCell ⟨b, 4, none⟩ (.int .i64 (wrap64 ((IntKind.u64.wrap p).tmod 1000))) = v16 at *
        clear rO hz hBW o4 f4 i4 rI9
        have rO := rO'
        have hz := hz'
        have hBW := hBW'
        clear rO' hz' hBW'
        have rI9 := rI.stay hBW
        have i5 := Rw.cell rI9 5
        simp only [List.getElem?_cons_zero, List.getElem?_cons_succ] at i5
        by_cases hq : q = 0
        · subst hq
          go_upto_region 9 with fail
          clear i5 rI9
          have rRk := rR.stay hBW
          have hbR : b ≠ bR := by omega
          refine wp_region_held (S := CS [(⟨b, 0, none⟩, .string ⟨s.toArray⟩), (⟨b, 1, none⟩, .slice az F.length kz), (⟨b, 2, none⟩, .int .i64 1), (⟨b, 3, none⟩, .int .u32 c), (⟨b, 4, none⟩, .int .i64 (wrap64 ((IntKind.u64.wrap p).tmod 1000))), (⟨b, 5, none⟩, .int .i64 0)]) (by kernel_rfl) ?_
          have hS : CS [(⟨b, 0, none⟩, .string ⟨s.toArray⟩), (⟨b, 1, none⟩, .slice az F.length kz), (⟨b, 2, none⟩, .int .i64 1), (⟨b, 3, none⟩, .int .u32 c), (⟨b, 4, none⟩, .int .i64 (wrap64 ((IntKind.u64.wrap p).tmod 1000))), (⟨b, 5, none⟩, .int .i64 0)] v16.drew := ((((((CS.nil v16).row rO 5 rfl).row rO 4 rfl).row rO 3 rfl).row rO 2 rfl).row rO 1 rfl).row rO 0 rfl
          have rO9 := rO.stay ((Below.refl v16.heap.size v16).drew)
          have rR9 := rRk.stay ((Below.refl v16.heap.size v16).drew)
          have hz9 := hz.stay ((Below.refl v16.heap.size v16).drew)
          have hB9 := hBW.drew
          change wpAnyH _ _ _ _ _ _ _ _ v16.drew
          generalize v16.drew = D9 at *
          clear rO rRk hz hBW
          refine held_val 0 rfl (by kernel_rfl) (by kernel_rfl) (by kernel_rfl) (fun _ _ _ _ h => h) (by rfl) hS ?_
          apply Exists.intro
          refine ⟨fun w' hw' => ?_, ?_⟩
          · have e0 := hw'.at 0 rfl; have e1 := hw'.at 1 rfl; have e2 := hw'.at 2 rfl; have e3 := hw'.at 3 rfl; have e4 := hw'.at 4 rfl; have e5 := hw'.at 5 rfl
            go_simp
            first | done | rfl | exact ⟨rfl, rfl⟩
          simp only [Act.put, List.setIfInBounds_toArray, List.set_cons_zero, List.set_cons_succ]
          refine held_val 1 rfl (by kernel_rfl) (by kernel_rfl) (by kernel_rfl) (fun _ _ _ _ h => h) (by rfl) hS ?_
          apply Exists.intro
          refine ⟨fun w' hw' => ?_, ?_⟩
          · have e0 := hw'.at 0 rfl; have e1 := hw'.at 1 rfl; have e2 := hw'.at 2 rfl; have e3 := hw'.at 3 rfl; have e4 := hw'.at 4 rfl; have e5 := hw'.at 5 rfl
            go_simp
            first | done | rfl | exact ⟨rfl, rfl⟩
          simp only [Act.put, List.setIfInBounds_toArray, List.set_cons_zero, List.set_cons_succ]
          refine held_val 2 rfl (by kernel_rfl) (by kernel_rfl) (by kernel_rfl) (fun _ _ _ _ h => h) (by rfl) hS ?_
          apply Exists.intro
          refine ⟨fun w' hw' => ?_, ?_⟩
          · have e0 := hw'.at 0 rfl; have e1 := hw'.at 1 rfl; have e2 := hw'.at 2 rfl; have e3 := hw'.at 3 rfl; have e4 := hw'.at 4 rfl; have e5 := hw'.at 5 rfl
            go_simp
            first | done | rfl | exact ⟨rfl, rfl⟩
          simp only [Act.put, List.setIfInBounds_toArray, List.set_cons_zero, List.set_cons_succ]
          refine held_val 3 rfl (by kernel_rfl) (by kernel_rfl) (by kernel_rfl) (fun _ _ _ _ h => h) (by rfl) hS ?_
          apply Exists.intro
          refine ⟨fun w' hw' => ?_, ?_⟩
          · have e0 := hw'.at 0 rfl; have e1 := hw'.at 1 rfl; have e2 := hw'.at 2 rfl; have e3 := hw'.at 3 rfl; have e4 := hw'.at 4 rfl; have e5 := hw'.at 5 rfl
            go_simp
            first | done | rfl | exact ⟨rfl, rfl⟩
          simp only [Act.put, List.setIfInBounds_toArray, List.set_cons_zero, List.set_cons_succ]
          refine held_val 4 rfl (by kernel_rfl) (by kernel_rfl) (by kernel_rfl) (fun _ _ _ _ h => h) (by rfl) hS ?_
          apply Exists.intro
          refine ⟨fun w' hw' => ?_, ?_⟩
          · have e0 := hw'.at 0 rfl; have e1 := hw'.at 1 rfl; have e2 := hw'.at 2 rfl; have e3 := hw'.at 3 rfl; have e4 := hw'.at 4 rfl; have e5 := hw'.at 5 rfl
            go_simp
            first | done | rfl | exact ⟨rfl, rfl⟩
          simp only [Act.put, List.setIfInBounds_toArray, List.set_cons_zero, List.set_cons_succ]
          have z0 := Rw.frozen rR9 0
          have z1 := Rw.frozen rR9 1
          have z2 := Rw.frozen rR9 2
          have z3 := Rw.frozen rR9 3
          have z4 := Rw.frozen rR9 4
          have z5 := Rw.frozen rR9 5
          have u0 := Rw.cell rR9 0
          have u1 := Rw.cell rR9 1
          have u2 := Rw.cell rR9 2
          have u3 := Rw.cell rR9 3
          have u4 := Rw.cell rR9 4
          have u5 := Rw.cell rR9 5
          simp only [List.getElem?_cons_zero, List.getElem?_cons_succ] at u0 u1 u2 u3 u4 u5
          have rB9 := rR9.set6 (.string ⟨s.toArray⟩) (.slice az F.length kz) (.int .i64 1) (.int .u32 c) (.int .i64 (wrap64 ((IntKind.u64.wrap p).tmod 1000))) (.int .i64 0)
          have rO10 := (((((rO9.other hbR 0 (.string ⟨s.toArray⟩)).other hbR 1 (.slice az F.length kz)).other hbR 2 (.int .i64 1)).other hbR 3 (.int .u32 c)).other hbR 4 (.int .i64 (wrap64 ((IntKind.u64.wrap p).tmod 1000)))).other hbR 5 (.int .i64 0)
          have hz10 := hz9.keepN (S := fun j => j = bR) ((((((Asd.one D9 bR 0 (.string ⟨s.toArray⟩)).set1 1 (.slice az F.length kz)).set1 2 (.int .i64 1)).set1 3 (.int .u32 c)).set1 4 (.int .i64 (wrap64 ((IntKind.u64.wrap p).tmod 1000)))).set1 5 (.int .i64 0)) (fun i hi _ e => hi.2 e)
          have hB10 := below_set6 (hB.trans (hB9.mono hB.size)) hgeR (.string ⟨s.toArray⟩) (.slice az F.length kz) (.int .i64 1) (.int .u32 c) (.int .i64 (wrap64 ((IntKind.u64.wrap p).tmod 1000))) (.int .i64 0)
          refine held_one 5 (by kernel_rfl) rfl (by rfl) ?_
          refine wp_skip (w' := (((((D9.setCell ⟨bR, 0, none⟩ (.string ⟨s.toArray⟩)).setCell ⟨bR, 1, none⟩ (.slice az F.length kz)).setCell ⟨bR, 2, none⟩ (.int .i64 1)).setCell ⟨bR, 3, none⟩ (.int .u32 c)).setCell ⟨bR, 4, none⟩ (.int .i64 (wrap64 ((IntKind.u64.wrap p).tmod 1000)))).setCell ⟨bR, 5, none⟩ (.int .i64 0)) ?_ rfl ?_
          · go_simp
            done
          generalize (((((D9.setCell ⟨bR, 0, none⟩ (.string ⟨s.toArray⟩)).setCell ⟨bR, 1, none⟩ (.slice az F.length kz)).setCell ⟨bR, 2, none⟩ (.int .i64 1)).setCell ⟨bR, 3, none⟩ (.int .u32 c)).setCell ⟨bR, 4, none⟩ (.int .i64 (wrap64 ((IntKind.u64.wrap p).tmod 1000)))).setCell ⟨bR, 5, none⟩ (.int .i64 0) = D10 at *
          clear hS z0 z1 z2 z3 z4 z5 u0 u1 u2 u3 u4 u5
          have hS : CS [(⟨b, 0, none⟩, .string ⟨s.toArray⟩), (⟨b, 1, none⟩, .slice az F.length kz), (⟨b, 2, none⟩, .int .i64 1), (⟨b, 3, none⟩, .int .u32 c), (⟨b, 4, none⟩, .int .i64 (wrap64 ((IntKind.u64.wrap p).tmod 1000))), (⟨b, 5, none⟩, .int .i64 0)] D10 := ((((((CS.nil D10).row rO10 5 rfl).row rO10 4 rfl).row rO10 3 rfl).row rO10 2 rfl).row rO10 1 rfl).row rO10 0 rfl
          refine ⟨hS, ?_⟩
          refine held_val 6 rfl (by kernel_rfl) (by kernel_rfl) (by kernel_rfl) (fun _ _ _ _ h => h) (by rfl) hS ?_
          apply Exists.intro
          refine ⟨fun w' hw' => ?_, ?_⟩
          · skip
            go_simp
            first | done | rfl | exact ⟨rfl, rfl⟩
          simp only [Act.put, List.setIfInBounds_toArray, List.set_cons_zero, List.set_cons_succ]
          refine wpAnyH_done (by kernel_rfl) ?_ _
          have u0 := Rw.cell rB9 0
          have u1 := Rw.cell rB9 1
          have u2 := Rw.cell rB9 2
          have u3 := Rw.cell rB9 3
          have u4 := Rw.cell rB9 4
          have u5 := Rw.cell rB9 5
          simp only [List.getElem?_cons_zero, List.getElem?_cons_succ] at u0 u1 u2 u3 u4 u5
          go_wp2_with fail
          refine bodyPost_ret (v := .tuple #[.agg #[.string ⟨s.toArray⟩, .slice az F.length kz, .int .i64 1, .int .u32 c, .int .i64 (wrap64 ((IntKind.u64.wrap p).tmod 1000)), .int .i64 0], .bool (decide ((0 : Int) < (F.length : Int)))]) (by simp [results, Tryd.results31, go_sem, u0, u1, u2, u3, u4, u5]) rfl ?_
          refine ⟨⟨az, F.length, kz⟩, 0, ?_, hz10.mono (fun _ _ _ => trivial), hB10, gQ_no p⟩
          rw [show decide ((0 : Int) < (F.length : Int)) = decide (0 < F.length) by simp]
          rw [gS_yes hnb, gL_no hlb]
          rfl
        · have hq2 : (q == 0) = false := beq_false_of_ne hq
          have o4 := Rw.cell rO 4
          have o5 := Rw.cell rO 5
          simp only [List.getElem?_cons_zero, List.getElem?_cons_succ] at o4 o5
          have f5 := Rw.frozen rO 5
          go_upto_region 9 with fail
          have hz' := hz.keepN (S := fun j => j = b) (Asd.one v16 b 5 (.int .i64 (wrap64 (wrap64 (wrap64 ((IntKind.u64.wrap p).tmod 1000) + 1) + wrap64 ((IntKind.u64.wrap q).tmod 1000))))) (fun i hi _ e => hi.1 e)
          have rO' := rO.setCell 5 (.int .i64 (wrap64 (wrap64 (wrap64 ((IntKind.u64.wrap p).tmod 1000) + 1) + wrap64 ((IntKind.u64.wrap q).tmod 1000))))
          have hBW' := hBW.setCell (p := ⟨b, 5, none⟩) hb1 (.int .i64 (wrap64 (wrap64 (wrap64 ((IntKind.u64.wrap p).tmod 1000) + 1) + wrap64 ((IntKind.u64.wrap q).tmod 1000))))
          simp only [List.set_cons_zero, List.set_cons_succ] at rO'
          generalize v16.setCell ⟨b, 5, none⟩ (.int .i64 (wrap64 (wrap64 (wrap64 ((IntKind.u64.wrap p).tmod 1000) + 1) + wrap64 ((IntKind.u64.wrap q).tmod 1000)))) = v17 at *
          clear rO hz hBW o4 o5 f5 i5 rI9
          have rO := rO'
          have hz := hz'
          have hBW := hBW'
          clear rO' hz' hBW'
          have rRk := rR.stay hBW
          have hbR : b ≠ bR := by omega
          refine wp_region_held (S := CS [(⟨b, 0, none⟩, .string ⟨s.toArray⟩), (⟨b, 1, none⟩, .slice az F.length kz), (⟨b, 2, none⟩, .int .i64 1), (⟨b, 3, none⟩, .int .u32 c), (⟨b, 4, none⟩, .int .i64 (wrap64 ((IntKind.u64.wrap p).tmod 1000))), (⟨b, 5, none⟩, .int .i64 (wrap64 (wrap64 (wrap64 ((IntKind.u64.wrap p).tmod 1000) + 1) + wrap64 ((IntKind.u64.wrap q).tmod 1000))))]) (by kernel_rfl) ?_
          have hS : CS [(⟨b, 0, none⟩, .string ⟨s.toArray⟩), (⟨b, 1, none⟩, .slice az F.length kz), (⟨b, 2, none⟩, .int .i64 1), (⟨b, 3, none⟩, .int .u32 c), (⟨b, 4, none⟩, .int .i64 (wrap64 ((IntKind.u64.wrap p).tmod 1000))), (⟨b, 5, none⟩, .int .i64 (wrap64 (wrap64 (wrap64 ((IntKind.u64.wrap p).tmod 1000) + 1) + wrap64 ((IntKind.u64.wrap q).tmod 1000))))] v17.drew := ((((((CS.nil v17).row rO 5 rfl).row rO 4 rfl).row rO 3 rfl).row rO 2 rfl).row rO 1 rfl).row rO 0 rfl
          have rO9 := rO.stay ((Below.refl v17.heap.size v17).drew)
          have rR9 := rRk.stay ((Below.refl v17.heap.size v17).drew)
          have hz9 := hz.stay ((Below.refl v17.heap.size v17).drew)
          have hB9 := hBW.drew
          change wpAnyH _ _ _ _ _ _ _ _ v17.drew
          generalize v17.drew = D9 at *
          clear rO rRk hz hBW
          refine held_val 0 rfl (by kernel_rfl) (by kernel_rfl) (by kernel_rfl) (fun _ _ _ _ h => h) (by rfl) hS ?_
          apply Exists.intro
          refine ⟨fun w' hw' => ?_, ?_⟩
          · have e0 := hw'.at 0 rfl; have e1 := hw'.at 1 rfl; have e2 := hw'.at 2 rfl; have e3 := hw'.at 3 rfl; have e4 := hw'.at 4 rfl; have e5 := hw'.at 5 rfl
            go_simp
            first | done | rfl | exact ⟨rfl, rfl⟩
          simp only [Act.put, List.setIfInBounds_toArray, List.set_cons_zero, List.set_cons_succ]
          refine held_val 1 rfl (by kernel_rfl) (by kernel_rfl) (by kernel_rfl) (fun _ _ _ _ h => h) (by rfl) hS ?_
          apply Exists.intro
          refine ⟨fun w' hw' => ?_, ?_⟩
          · have e0 := hw'.at 0 rfl; have e1 := hw'.at 1 rfl; have e2 := hw'.at 2 rfl; have e3 := hw'.at 3 rfl; have e4 := hw'.at 4 rfl; have e5 := hw'.at 5 rfl
            go_simp
            first | done | rfl | exact ⟨rfl, rfl⟩
          simp only [Act.put, List.setIfInBounds_toArray, List.set_cons_zero, List.set_cons_succ]
          refine held_val 2 rfl (by kernel_rfl) (by kernel_rfl) (by kernel_rfl) (fun _ _ _ _ h => h) (by rfl) hS ?_
          apply Exists.intro
          refine ⟨fun w' hw' => ?_, ?_⟩
          · have e0 := hw'.at 0 rfl; have e1 := hw'.at 1 rfl; have e2 := hw'.at 2 rfl; have e3 := hw'.at 3 rfl; have e4 := hw'.at 4 rfl; have e5 := hw'.at 5 rfl
            go_simp
            first | done | rfl | exact ⟨rfl, rfl⟩
          simp only [Act.put, List.setIfInBounds_toArray, List.set_cons_zero, List.set_cons_succ]
          refine held_val 3 rfl (by kernel_rfl) (by kernel_rfl) (by kernel_rfl) (fun _ _ _ _ h => h) (by rfl) hS ?_
          apply Exists.intro
          refine ⟨fun w' hw' => ?_, ?_⟩
          · have e0 := hw'.at 0 rfl; have e1 := hw'.at 1 rfl; have e2 := hw'.at 2 rfl; have e3 := hw'.at 3 rfl; have e4 := hw'.at 4 rfl; have e5 := hw'.at 5 rfl
            go_simp
            first | done | rfl | exact ⟨rfl, rfl⟩
          simp only [Act.put, List.setIfInBounds_toArray, List.set_cons_zero, List.set_cons_succ]
          refine held_val 4 rfl (by kernel_rfl) (by kernel_rfl) (by kernel_rfl) (fun _ _ _ _ h => h) (by rfl) hS ?_
          apply Exists.intro
          refine ⟨fun w' hw' => ?_, ?_⟩
          · have e0 := hw'.at 0 rfl; have e1 := hw'.at 1 rfl; have e2 := hw'.at 2 rfl; have e3 := hw'.at 3 rfl; have e4 := hw'.at 4 rfl; have e5 := hw'.at 5 rfl
            go_simp
            first | done | rfl | exact ⟨rfl, rfl⟩
          simp only [Act.put, List.setIfInBounds_toArray, List.set_cons_zero, List.set_cons_succ]
          have z0 := Rw.frozen rR9 0
          have z1 := Rw.frozen rR9 1
          have z2 := Rw.frozen rR9 2
          have z3 := Rw.frozen rR9 3
          have z4 := Rw.frozen rR9 4
          have z5 := Rw.frozen rR9 5
          have u0 := Rw.cell rR9 0
          have u1 := Rw.cell rR9 1
          have u2 := Rw.cell rR9 2
          have u3 := Rw.cell rR9 3
          have u4 := Rw.cell rR9 4
          have u5 := Rw.cell rR9 5
          simp only [List.getElem?_cons_zero, List.getElem?_cons_succ] at u0 u1 u2 u3 u4 u5
          have rB9 := rR9.set6 (.string ⟨s.toArray⟩) (.slice az F.length kz) (.int .i64 1) (.int .u32 c) (.int .i64 (wrap64 ((IntKind.u64.wrap p).tmod 1000))) (.int .i64 (wrap64 (wrap64 (wrap64 ((IntKind.u64.wrap p).tmod 1000) + 1) + wrap64 ((IntKind.u64.wrap q).tmod 1000))))
          have rO10 := (((((rO9.other hbR 0 (.string ⟨s.toArray⟩)).other hbR 1 (.slice az F.length kz)).other hbR 2 (.int .i64 1)).other hbR 3 (.int .u32 c)).other hbR 4 (.int .i64 (wrap64 ((IntKind.u64.wrap p).tmod 1000)))).other hbR 5 (.int .i64 (wrap64 (wrap64 (wrap64 ((IntKind.u64.wrap p).tmod 1000) + 1) + wrap64 ((IntKind.u64.wrap q).tmod 1000))))
          have hz10 := hz9.keepN (S := fun j => j = bR) ((((((Asd.one D9 bR 0 (.string ⟨s.toArray⟩)).set1 1 (.slice az F.length kz)).set1 2 (.int .i64 1)).set1 3 (.int .u32 c)).set1 4 (.int .i64 (wrap64 ((IntKind.u64.wrap p).tmod 1000)))).set1 5 (.int .i64 (wrap64 (wrap64 (wrap64 ((IntKind.u64.wrap p).tmod 1000) + 1) + wrap64 ((IntKind.u64.wrap q).tmod 1000))))) (fun i hi _ e => hi.2 e)
          have hB10 := below_set6 (hB.trans (hB9.mono hB.size)) hgeR (.string ⟨s.toArray⟩) (.slice az F.length kz) (.int .i64 1) (.int .u32 c) (.int .i64 (wrap64 ((IntKind.u64.wrap p).tmod 1000))) (.int .i64 (wrap64 (wrap64 (wrap64 ((IntKind.u64.wrap p).tmod 1000) + 1) + wrap64 ((IntKind.u64.wrap q).tmod 1000))))
          refine held_one 5 (by kernel_rfl) rfl (by rfl) ?_
          refine wp_skip (w' := (((((D9.setCell ⟨bR, 0, none⟩ (.string ⟨s.toArray⟩)).setCell ⟨bR, 1, none⟩ (.slice az F.length kz)).setCell ⟨bR, 2, none⟩ (.int .i64 1)).setCell ⟨bR, 3, none⟩ (.int .u32 c)).setCell ⟨bR, 4, none⟩ (.int .i64 (wrap64 ((IntKind.u64.wrap p).tmod 1000)))).setCell ⟨bR, 5, none⟩ (.int .i64 (wrap64 (wrap64 (wrap64 ((IntKind.u64.wrap p).tmod 1000) + 1) + wrap64 ((IntKind.u64.wrap q).tmod 1000))))) ?_ rfl ?_
          · go_simp
            done
          generalize (((((D9.setCell ⟨bR, 0, none⟩ (.string ⟨s.toArray⟩)).setCell ⟨bR, 1, none⟩ (.slice az F.length kz)).setCell ⟨bR, 2, none⟩ (.int .i64 1)).setCell ⟨bR, 3, none⟩ (.int .u32 c)).setCell ⟨bR, 4, none⟩ (.int .i64 (wrap64 ((IntKind.u64.wrap p).tmod 1000)))).setCell ⟨bR, 5, none⟩ (.int .i64 (wrap64 (wrap64 (wrap64 ((IntKind.u64.wrap p).tmod 1000) + 1) + wrap64 ((IntKind.u64.wrap q).tmod 1000)))) = D10 at *
          clear hS z0 z1 z2 z3 z4 z5 u0 u1 u2 u3 u4 u5
          have hS : CS [(⟨b, 0, none⟩, .string ⟨s.toArray⟩), (⟨b, 1, none⟩, .slice az F.length kz), (⟨b, 2, none⟩, .int .i64 1), (⟨b, 3, none⟩, .int .u32 c), (⟨b, 4, none⟩, .int .i64 (wrap64 ((IntKind.u64.wrap p).tmod 1000))), (⟨b, 5, none⟩, .int .i64 (wrap64 (wrap64 (wrap64 ((IntKind.u64.wrap p).tmod 1000) + 1) + wrap64 ((IntKind.u64.wrap q).tmod 1000))))] D10 := ((((((CS.nil D10).row rO10 5 rfl).row rO10 4 rfl).row rO10 3 rfl).row rO10 2 rfl).row rO10 1 rfl).row rO10 0 rfl
          refine ⟨hS, ?_⟩
          refine held_val 6 rfl (by kernel_rfl) (by kernel_rfl) (by kernel_rfl) (fun _ _ _ _ h => h) (by rfl) hS ?_
          apply Exists.intro
          refine ⟨fun w' hw' => ?_, ?_⟩
          · skip
            go_simp
            first | done | rfl | exact ⟨rfl, rfl⟩
          simp only [Act.put, List.setIfInBounds_toArray, List.set_cons_zero, List.set_cons_succ]
          refine wpAnyH_done (by kernel_rfl) ?_ _
          have u0 := Rw.cell rB9 0
          have u1 := Rw.cell rB9 1
          have u2 := Rw.cell rB9 2
          have u3 := Rw.cell rB9 3
          have u4 := Rw.cell rB9 4
          have u5 := Rw.cell rB9 5
          simp only [List.getElem?_cons_zero, List.getElem?_cons_succ] at u0 u1 u2 u3 u4 u5
          go_wp2_with fail
          refine bodyPost_ret (v := .tuple #[.agg #[.string ⟨s.toArray⟩, .slice az F.length kz, .int .i64 1, .int .u32 c, .int .i64 (wrap64 ((IntKind.u64.wrap p).tmod 1000)), .int .i64 (wrap64 (wrap64 (wrap64 ((IntKind.u64.wrap p).tmod 1000) + 1) + wrap64 ((IntKind.u64.wrap q).tmod 1000)))], .bool (decide ((0 : Int) < (F.length : Int)))]) (by simp [results, Tryd.results31, go_sem, u0, u1, u2, u3, u4, u5]) rfl ?_
          refine ⟨⟨az, F.length, kz⟩, (wrap64 (wrap64 (wrap64 ((IntKind.u64.wrap p).tmod 1000) + 1) + wrap64 ((IntKind.u64.wrap q).tmod 1000))), ?_, hz10.mono (fun _ _ _ => trivial), hB10, gQ_yes p q⟩
          rw [show decide ((0 : Int) < (F.length : Int)) = decide (0 < F.length) by simp]
          rw [gS_yes hnb, gL_no hlb]
          rfl
      | true =>
        go_upto_region 6 with fail
        clear o2 o3 f2
        have rI9 := rI.stay hBW
        have i4 := Rw.cell rI9 4
        simp only [List.getElem?_cons_zero, List.getElem?_cons_succ] at i4
        have o4 := Rw.cell rO 4
        simp only [List.getElem?_cons_zero, List.getElem?_cons_succ] at o4
        have f4 := Rw.frozen rO 4
        go_upto_region 7 with fail
        have hz' := hz.keepN (S := fun j => j = b) (Asd.one v14 b 4 (.int .i64 (wrap64 ((IntKind.u64.wrap p).tmod 1000)))) (fun i hi _ e => hi.1 e)
        have rO' := rO.setCell 4 (.int .i64 (wrap64 ((IntKind.u64.wrap p).tmod 1000)))
        have hBW' := hBW.setCell (p := ⟨b, 4, none⟩) hb1 (.int .i64 (wrap64 ((IntKind.u64.wrap p).tmod 1000)))
        simp only [List.set_cons_zero, List.set_cons_succ] at rO'
        generalize v14.setCell ⟨b, 4, none⟩ (.int .i64 (wrap64 ((IntKind.u64.wrap p).tmod 1000))) = v18 at *
        clear rO hz hBW o4 f4 i4 rI9
        have rO := rO'
        have hz := hz'
        have hBW := hBW'
        clear rO' hz' hBW'
        have rI9 := rI.stay hBW
        have i5 := Rw.cell rI9 5
        simp only [List.getElem?_cons_zero, List.getElem?_cons_succ] at i5
        by_cases hq : q = 0
        · subst hq
          go_upto_region 9 with fail
          clear i5 rI9
          have rRk := rR.stay hBW
          have hbR : b ≠ bR := by omega
          refine wp_region_held (S := CS [(⟨b, 0, none⟩, .string ⟨s.toArray⟩), (⟨b, 1, none⟩, .slice az F.length kz), (⟨b, 2, none⟩, .int .i64 l), (⟨b, 3, none⟩, .int .u32 c), (⟨b, 4, none⟩, .int .i64 (wrap64 ((IntKind.u64.wrap p).tmod 1000))), (⟨b, 5, none⟩, .int .i64 0)]) (by kernel_rfl) ?_
          have hS : CS [(⟨b, 0, none⟩, .string ⟨s.toArray⟩), (⟨b, 1, none⟩, .slice az F.length kz), (⟨b, 2, none⟩, .int .i64 l), (⟨b, 3, none⟩, .int .u32 c), (⟨b, 4, none⟩, .int .i64 (wrap64 ((IntKind.u64.wrap p).tmod 1000))), (⟨b, 5, none⟩, .int .i64 0)] v18.drew := ((((((CS.nil v18).row rO 5 rfl).row rO 4 rfl).row rO 3 rfl).row rO 2 rfl).row rO 1 rfl).row rO 0 rfl
          have rO9 := rO.stay ((Below.refl v18.heap.size v18).drew)
          have rR9 := rRk.stay ((Below.refl v18.heap.size v18).drew)
          have hz9 := hz.stay ((Below.refl v18.heap.size v18).drew)
          have hB9 := hBW.drew
          change wpAnyH _ _ _ _ _ _ _ _ v18.drew
          generalize v18.drew = D9 at *
          clear rO rRk hz hBW
          refine held_val 0 rfl (by kernel_rfl) (by kernel_rfl) (by kernel_rfl) (fun _ _ _ _ h => h) (by rfl) hS ?_
          apply Exists.intro
          refine ⟨fun w' hw' => ?_, ?_⟩
          · have e0 := hw'.at 0 rfl; have e1 := hw'.at 1 rfl; have e2 := hw'.at 2 rfl; have e3 := hw'.at 3 rfl; have e4 := hw'.at 4 rfl; have e5 := hw'.at 5 rfl
            go_simp
            first | done | rfl | exact ⟨rfl, rfl⟩
          simp only [Act.put, List.setIfInBounds_toArray, List.set_cons_zero, List.set_cons_succ]
          refine held_val 1 rfl (by kernel_rfl) (by kernel_rfl) (by kernel_rfl) (fun _ _ _ _ h => h) (by rfl) hS ?_
          apply Exists.intro
          refine ⟨fun w' hw' => ?_, ?_⟩
          · have e0 := hw'.at 0 rfl; have e1 := hw'.at 1 rfl; have e2 := hw'.at 2 rfl; have e3 := hw'.at 3 rfl; have e4 := hw'.at 4 rfl; have e5 := hw'.at 5 rfl
            go_simp
            first | done | rfl | exact ⟨rfl, rfl⟩
          simp only [Act.put, List.setIfInBounds_toArray, List.set_cons_zero, List.set_cons_succ]
          refine held_val 2 rfl (by kernel_rfl) (by kernel_rfl) (by kernel_rfl) (fun _ _ _ _ h => h) (by rfl) hS ?_
          apply Exists.intro
          refine ⟨fun w' hw' => ?_, ?_⟩
          · have e0 := hw'.at 0 rfl; have e1 := hw'.at 1 rfl; have e2 := hw'.at 2 rfl; have e3 := hw'.at 3 rfl; have e4 := hw'.at 4 rfl; have e5 := hw'.at 5 rfl
            go_simp
            first | done | rfl | exact ⟨rfl, rfl⟩
          simp only [Act.put, List.setIfInBounds_toArray, List.set_cons_zero, List.set_cons_succ]
          refine held_val 3 rfl (by kernel_rfl) (by kernel_rfl) (by kernel_rfl) (fun _ _ _ _ h => h) (by rfl) hS ?_
          apply Exists.intro
          refine ⟨fun w' hw' => ?_, ?_⟩
          · have e0 := hw'.at 0 rfl; have e1 := hw'.at 1 rfl; have e2 := hw'.at 2 rfl; have e3 := hw'.at 3 rfl; have e4 := hw'.at 4 rfl; have e5 := hw'.at 5 rfl
            go_simp
            first | done | rfl | exact ⟨rfl, rfl⟩
          simp only [Act.put, List.setIfInBounds_toArray, List.set_cons_zero, List.set_cons_succ]
          refine held_val 4 rfl (by kernel_rfl) (by kernel_rfl) (by kernel_rfl) (fun _ _ _ _ h => h) (by rfl) hS ?_
          apply Exists.intro
          refine ⟨fun w' hw' => ?_, ?_⟩
          · have e0 := hw'.at 0 rfl; have e1 := hw'.at 1 rfl; have e2 := hw'.at 2 rfl; have e3 := hw'.at 3 rfl; have e4 := hw'.at 4 rfl; have e5 := hw'.at 5 rfl
            go_simp
            first | done | rfl | exact ⟨rfl, rfl⟩
          simp only [Act.put, List.setIfInBounds_toArray, List.set_cons_zero, List.set_cons_succ]
          have z0 := Rw.frozen rR9 0
          have z1 := Rw.frozen rR9 1
          have z2 := Rw.frozen rR9 2
          have z3 := Rw.frozen rR9 3
          have z4 := Rw.frozen rR9 4
          have z5 := Rw.frozen rR9 5
          have u0 := Rw.cell rR9 0
          have u1 := Rw.cell rR9 1
          have u2 := Rw.cell rR9 2
          have u3 := Rw.cell rR9 3
          have u4 := Rw.cell rR9 4
          have u5 := Rw.cell rR9 5
          simp only [List.getElem?_cons_zero, List.getElem?_cons_succ] at u0 u1 u2 u3 u4 u5
          have rB9 := rR9.set6 (.string ⟨s.toArray⟩) (.slice az F.length kz) (.int .i64 l) (.int .u32 c) (.int .i64 (wrap64 ((IntKind.u64.wrap p).tmod 1000))) (.int .i64 0)
          have rO10 := (((((rO9.other hbR 0 (.string ⟨s.toArray⟩)).other hbR 1 (.slice az F.length kz)).other hbR 2 (.int .i64 l)).other hbR 3 (.int .u32 c)).other hbR 4 (.int .i64 (wrap64 ((IntKind.u64.wrap p).tmod 1000)))).other hbR 5 (.int .i64 0)
          have hz10 := hz9.keepN (S := fun j => j = bR) ((((((Asd.one D9 bR 0 (.string ⟨s.toArray⟩)).set1 1 (.slice az F.length kz)).set1 2 (.int .i64 l)).set1 3 (.int .u32 c)).set1 4 (.int .i64 (wrap64 ((IntKind.u64.wrap p).tmod 1000)))).set1 5 (.int .i64 0)) (fun i hi _ e => hi.2 e)
          have hB10 := below_set6 (hB.trans (hB9.mono hB.size)) hgeR (.string ⟨s.toArray⟩) (.slice az F.length kz) (.int .i64 l) (.int .u32 c) (.int .i64 (wrap64 ((IntKind.u64.wrap p).tmod 1000))) (.int .i64 0)
          refine held_one 5 (by kernel_rfl) rfl (by rfl) ?_
          refine wp_skip (w' := (((((D9.setCell ⟨bR, 0, none⟩ (.string ⟨s.toArray⟩)).setCell ⟨bR, 1, none⟩ (.slice az F.length kz)).setCell ⟨bR, 2, none⟩ (.int .i64 l)).setCell ⟨bR, 3, none⟩ (.int .u32 c)).setCell ⟨bR, 4, none⟩ (.int .i64 (wrap64 ((IntKind.u64.wrap p).tmod 1000)))).setCell ⟨bR, 5, none⟩ (.int .i64 0)) ?_ rfl ?_
          · go_simp
            done
          generalize (((((D9.setCell ⟨bR, 0, none⟩ (.string ⟨s.toArray⟩)).setCell ⟨bR, 1, none⟩ (.slice az F.length kz)).setCell ⟨bR, 2, none⟩ (.int .i64 l)).setCell ⟨bR, 3, none⟩ (.int .u32 c)).setCell ⟨bR, 4, none⟩ (.int .i64 (wrap64 ((IntKind.u64.wrap p).tmod 1000)))).setCell ⟨bR, 5, none⟩ (.int .i64 0) = D10 at *
          clear hS z0 z1 z2 z3 z4 z5 u0 u1 u2 u3 u4 u5
          have hS : CS [(⟨b, 0, none⟩, .string ⟨s.toArray⟩), (⟨b, 1, none⟩, .slice az F.length kz), (⟨b, 2, none⟩, .int .i64 l), (⟨b, 3, none⟩, .int .u32 c), (⟨b, 4, none⟩, .int .i64 (wrap64 ((IntKind.u64.wrap p).tmod 1000))), (⟨b, 5, none⟩, .int .i64 0)] D10 := ((((((CS.nil D10).row rO10 5 rfl).row rO10 4 rfl).row rO10 3 rfl).row rO10 2 rfl).row rO10 1 rfl).row rO10 0 rfl
          refine ⟨hS, ?_⟩
          refine held_val 6 rfl (by kernel_rfl) (by kernel_rfl) (by kernel_rfl) (fun _ _ _ _ h => h) (by rfl) hS ?_
          apply Exists.intro
          refine ⟨fun w' hw' => ?_, ?_⟩
          · skip
            go_simp
            first | done | rfl | exact ⟨rfl, rfl⟩
          simp only [Act.put, List.setIfInBounds_toArray, List.set_cons_zero, List.set_cons_succ]
          refine wpAnyH_done (by kernel_rfl) ?_ _
          have u0 := Rw.cell rB9 0
          have u1 := Rw.cell rB9 1
          have u2 := Rw.cell rB9 2
          have u3 := Rw.cell rB9 3
          have u4 := Rw.cell rB9 4
          have u5 := Rw.cell rB9 5
          simp only [List.getElem?_cons_zero, List.getElem?_cons_succ] at u0 u1 u2 u3 u4 u5
          go_wp2_with fail
          refine bodyPost_ret (v := .tuple #[.agg #[.string ⟨s.toArray⟩, .slice az F.length kz, .int .i64 l, .int .u32 c, .int .i64 (wrap64 ((IntKind.u64.wrap p).tmod 1000)), .int .i64 0], .bool (decide ((0 : Int) < (F.length : Int)))]) (by simp [results, Tryd.results31, go_sem, u0, u1, u2, u3, u4, u5]) rfl ?_
          refine ⟨⟨az, F.length, kz⟩, 0, ?_, hz10.mono (fun _ _ _ => trivial), hB10, gQ_no p⟩
          rw [show decide ((0 : Int) < (F.length : Int)) = decide (0 < F.length) by simp]
          rw [gS_yes hnb, gL_yes hlb]
          rfl
        · have hq2 : (q == 0) = false := beq_false_of_ne hq
          have o4 := Rw.cell rO 4
          have o5 := Rw.cell rO 5
          simp only [List.getElem?_cons_zero, List.getElem?_cons_succ] at o4 o5
          have f5 := Rw.frozen rO 5
          go_upto_region 9 with fail
          have hz' := hz.keepN (S := fun j => j = b) (Asd.one v18 b 5 (.int .i64 (wrap64 (wrap64 (wrap64 ((IntKind.u64.wrap p).tmod 1000) + 1) + wrap64 ((IntKind.u64.wrap q).tmod 1000))))) (fun i hi _ e => hi.1 e)
          have rO' := rO.setCell 5 (.int .i64 (wrap64 (wrap64 (wrap64 ((IntKind.u64.wrap p).tmod 1000) + 1) + wrap64 ((IntKind.u64.wrap q).tmod 1000))))
          have hBW' := hBW.setCell (p := ⟨b, 5, none⟩) hb1 (.int .i64 (wrap64 (wrap64 (wrap64 ((IntKind.u64.wrap p).tmod 1000) + 1) + wrap64 ((IntKind.u64.wrap q).tmod 1000))))
          simp only [List.set_cons_zero, List.set_cons_succ] at rO'
          generalize v18.setCell ⟨b, 5, none⟩ (.int .i64 (wrap64 (wrap64 (wrap64 ((IntKind.u64.wrap p).tmod 1000) + 1) + wrap64 ((IntKind.u64.wrap q).tmod 1000)))) = v19 at *
          clear rO hz hBW o4 o5 f5 i5 rI9
          have rO := rO'
          have hz := hz'
          have hBW := hBW'
          clear rO' hz' hBW'
          have rRk := rR.stay hBW
          have hbR : b ≠ bR := by omega
          refine wp_region_held (S := CS [(⟨b, 0, none⟩, .string ⟨s.toArray⟩), (⟨b, 1, none⟩, .slice az F.length kz), (⟨b, 2, none⟩, .int .i64 l), (⟨b, 3, none⟩, .int .u32 c), (⟨b, 4, none⟩, .int .i64 (wrap64 ((IntKind.u64.wrap p).tmod 1000))), (⟨b, 5, none⟩, .int .i64 (wrap64 (wrap64 (wrap64 ((IntKind.u64.wrap p).tmod 1000) + 1) + wrap64 ((IntKind.u64.wrap q).tmod 1000))))]) (by kernel_rfl) ?_
          have hS : CS [(⟨b, 0, none⟩, .string ⟨s.toArray⟩), (⟨b, 1, none⟩, .slice az F.length kz), (⟨b, 2, none⟩, .int .i64 l), (⟨b, 3, none⟩, .int .u32 c), (⟨b, 4, none⟩, .int .i64 (wrap64 ((IntKind.u64.wrap p).tmod 1000))), (⟨b, 5, none⟩, .int .i64 (wrap64 (wrap64 (wrap64 ((IntKind.u64.wrap p).tmod 1000) + 1) + wrap64 ((IntKind.u64.wrap q).tmod 1000))))] v19.drew := ((((((CS.nil v19).row rO 5 rfl).row rO 4 rfl).row rO 3 rfl).row rO 2 rfl).row rO 1 rfl).row rO 0 rfl
          have rO9 := rO.stay ((Below.refl v19.heap.size v19).drew)
          have rR9 := rRk.stay ((Below.refl v19.heap.size v19).drew)
          have hz9 := hz.stay ((Below.refl v19.heap.size v19).drew)
          have hB9 := hBW.drew
          change wpAnyH _ _ _ _ _ _ _ _ v19.drew
          generalize v19.drew = D9 at *
          clear rO rRk hz hBW
          refine held_val 0 rfl (by kernel_rfl) (by kernel_rfl) (by kernel_rfl) (fun _ _ _ _ h => h) (by rfl) hS ?_
          apply Exists.intro
          refine ⟨fun w' hw' => ?_, ?_⟩
          · have e0 := hw'.at 0 rfl; have e1 := hw'.at 1 rfl; have e2 := hw'.at 2 rfl; have e3 := hw'.at 3 rfl; have e4 := hw'.at 4 rfl; have e5 := hw'.at 5 rfl
            go_simp
            first | done | rfl | exact ⟨rfl, rfl⟩
          simp only [Act.put, List.setIfInBounds_toArray, List.set_cons_zero, List.set_cons_succ]
          refine held_val 1 rfl (by kernel_rfl) (by kernel_rfl) (by kernel_rfl) (fun _ _ _ _ h => h) (by rfl) hS ?_
          apply Exists.intro
          refine ⟨fun w' hw' => ?_, ?_⟩
          · have e0 := hw'.at 0 rfl; have e1 := hw'.at 1 rfl; have e2 := hw'.at 2 rfl; have e3 := hw'.at 3 rfl; have e4 := hw'.at 4 rfl; have e5 := hw'.at 5 rfl
            go_simp
            first | done | rfl | exact ⟨rfl, rfl⟩
          simp only [Act.put, List.setIfInBounds_toArray, List.set_cons_zero, List.set_cons_succ]
          refine held_val 2 rfl (by kernel_rfl) (by kernel_rfl) (by kernel_rfl) (fun _ _ _ _ h => h) (by rfl) hS ?_
          apply Exists.intro
          refine ⟨fun w' hw' => ?_, ?_⟩
          · have e0 := hw'.at 0 rfl; have e1 := hw'.at 1 rfl; have e2 := hw'.at 2 rfl; have e3 := hw'.at 3 rfl; have e4 := hw'.at 4 rfl; have e5 := hw'.at 5 rfl
            go_simp
            first | done | rfl | exact ⟨rfl, rfl⟩
          simp only [Act.put, List.setIfInBounds_toArray, List.set_cons_zero, List.set_cons_succ]
          refine held_val 3 rfl (by kernel_rfl) (by kernel_rfl) (by kernel_rfl) (fun _ _ _ _ h => h) (by rfl) hS ?_
          apply Exists.intro
          refine ⟨fun w' hw' => ?_, ?_⟩
          · have e0 := hw'.at 0 rfl; have e1 := hw'.at 1 rfl; have e2 := hw'.at 2 rfl; have e3 := hw'.at 3 rfl; have e4 := hw'.at 4 rfl; have e5 := hw'.at 5 rfl
            go_simp
            first | done | rfl | exact ⟨rfl, rfl⟩
          simp only [Act.put, List.setIfInBounds_toArray, List.set_cons_zero, List.set_cons_succ]
          refine held_val 4 rfl (by kernel_rfl) (by kernel_rfl) (by kernel_rfl) (fun _ _ _ _ h => h) (by rfl) hS ?_
          apply Exists.intro
          refine ⟨fun w' hw' => ?_, ?_⟩
          · have e0 := hw'.at 0 rfl; have e1 := hw'.at 1 rfl; have e2 := hw'.at 2 rfl; have e3 := hw'.at 3 rfl; have e4 := hw'.at 4 rfl; have e5 := hw'.at 5 rfl
            go_simp
            first | done | rfl | exact ⟨rfl, rfl⟩
          simp only [Act.put, List.setIfInBounds_toArray, List.set_cons_zero, List.set_cons_succ]
          have z0 := Rw.frozen rR9 0
          have z1 := Rw.frozen rR9 1
          have z2 := Rw.frozen rR9 2
          have z3 := Rw.frozen rR9 3
          have z4 := Rw.frozen rR9 4
          have z5 := Rw.frozen rR9 5
          have u0 := Rw.cell rR9 0
          have u1 := Rw.cell rR9 1
          have u2 := Rw.cell rR9 2
          have u3 := Rw.cell rR9 3
          have u4 := Rw.cell rR9 4
          have u5 := Rw.cell rR9 5
          simp only [List.getElem?_cons_zero, List.getElem?_cons_succ] at u0 u1 u2 u3 u4 u5
          have rB9 := rR9.set6 (.string ⟨s.toArray⟩) (.slice az F.length kz) (.int .i64 l) (.int .u32 c) (.int .i64 (wrap64 ((IntKind.u64.wrap p).tmod 1000))) (.int .i64 (wrap64 (wrap64 (wrap64 ((IntKind.u64.wrap p).tmod 1000) + 1) + wrap64 ((IntKind.u64.wrap q).tmod 1000))))
          have rO10 := (((((rO9.other hbR 0 (.string ⟨s.toArray⟩)).other hbR 1 (.slice az F.length kz)).other hbR 2 (.int .i64 l)).other hbR 3 (.int .u32 c)).other hbR 4 (.int .i64 (wrap64 ((IntKind.u64.wrap p).tmod 1000)))).other hbR 5 (.int .i64 (wrap64 (wrap64 (wrap64 ((IntKind.u64.wrap p).tmod 1000) + 1) + wrap64 ((IntKind.u64.wrap q).tmod 1000))))
          have hz10 := hz9.keepN (S := fun j => j = bR) ((((((Asd.one D9 bR 0 (.string ⟨s.toArray⟩)).set1 1 (.slice az F.length kz)).set1 2 (.int .i64 l)).set1 3 (.int .u32 c)).set1 4 (.int .i64 (wrap64 ((IntKind.u64.wrap p).tmod 1000)))).set1 5 (.int .i64 (wrap64 (wrap64 (wrap64 ((IntKind.u64.wrap p).tmod 1000) + 1) + wrap64 ((IntKind.u64.wrap q).tmod 1000))))) (fun i hi _ e => hi.2 e)
          have hB10 := below_set6 (hB.trans (hB9.mono hB.size)) hgeR (.string ⟨s.toArray⟩) (.slice az F.length kz) (.int .i64 l) (.int .u32 c) (.int .i64 (wrap64 ((IntKind.u64.wrap p).tmod 1000))) (.int .i64 (wrap64 (wrap64 (wrap64 ((IntKind.u64.wrap p).tmod 1000) + 1) + wrap64 ((IntKind.u64.wrap q).tmod 1000))))
          refine held_one 5 (by kernel_rfl) rfl (by rfl) ?_
          refine wp_skip (w' := (((((D9.setCell ⟨bR, 0, none⟩ (.string ⟨s.toArray⟩)).setCell ⟨bR, 1, none⟩ (.slice az F.length kz)).setCell ⟨bR, 2, none⟩ (.int .i64 l)).setCell ⟨bR, 3, none⟩ (.int .u32 c)).setCell ⟨bR, 4, none⟩ (.int .i64 (wrap64 ((IntKind.u64.wrap p).tmod 1000)))).setCell ⟨bR, 5, none⟩ (.int .i64 (wrap64 (wrap64 (wrap64 ((IntKind.u64.wrap p).tmod 1000) + 1) + wrap64 ((IntKind.u64.wrap q).tmod 1000))))) ?_ rfl ?_
          · go_simp
            done
          generalize (((((D9.setCell ⟨bR, 0, none⟩ (.string ⟨s.toArray⟩)).setCell ⟨bR, 1, none⟩ (.slice az F.length kz)).setCell ⟨bR, 2, none⟩ (.int .i64 l)).setCell ⟨bR, 3, none⟩ (.int .u32 c)).setCell ⟨bR, 4, none⟩ (.int .i64 (wrap64 ((IntKind.u64.wrap p).tmod 1000)))).setCell ⟨bR, 5, none⟩ (.int .i64 (wrap64 (wrap64 (wrap64 ((IntKind.u64.wrap p).tmod 1000) + 1) + wrap64 ((IntKind.u64.wrap q).tmod 1000)))) = D10 at *
          clear hS z0 z1 z2 z3 z4 z5 u0 u1 u2 u3 u4 u5
          have hS : CS [(⟨b, 0, none⟩, .string ⟨s.toArray⟩), (⟨b, 1, none⟩, .slice az F.length kz), (⟨b, 2, none⟩, .int .i64 l), (⟨b, 3, none⟩, .int .u32 c), (⟨b, 4, none⟩, .int .i64 (wrap64 ((IntKind.u64.wrap p).tmod 1000))), (⟨b, 5, none⟩, .int .i64 (wrap64 (wrap64 (wrap64 ((IntKind.u64.wrap p).tmod 1000) + 1) + wrap64 ((IntKind.u64.wrap q).tmod 1000))))] D10 := ((((((CS.nil D10).row rO10 5 rfl).row rO10 4 rfl).row rO10 3 rfl).row rO10 2 rfl).row rO10 1 rfl).row rO10 0 rfl
          refine ⟨hS, ?_⟩
          refine held_val 6 rfl (by kernel_rfl) (by kernel_rfl) (by kernel_rfl) (fun _ _ _ _ h => h) (by rfl) hS ?_
          apply Exists.intro
          refine ⟨fun w' hw' => ?_, ?_⟩
          · skip
            go_simp
            first | done | rfl | exact ⟨rfl, rfl⟩
          simp only [Act.put, List.setIfInBounds_toArray, List.set_cons_zero, List.set_cons_succ]
          refine wpAnyH_done (by kernel_rfl) ?_ _
          have u0 := Rw.cell rB9 0
          have u1 := Rw.cell rB9 1
          have u2 := Rw.cell rB9 2
          have u3 := Rw.cell rB9 3
          have u4 := Rw.cell rB9 4
          have u5 := Rw.cell rB9 5
          simp only [List.getElem?_cons_zero, List.getElem?_cons_succ] at u0 u1 u2 u3 u4 u5
          go_wp2_with fail
          refine bodyPost_ret (v := .tuple #[.agg #[.string ⟨s.toArray⟩, .slice az F.length kz, .int .i64 l, .int .u32 c, .int .i64 (wrap64 ((IntKind.u64.wrap p).tmod 1000)), .int .i64 (wrap64 (wrap64 (wrap64 ((IntKind.u64.wrap p).tmod 1000) + 1) + wrap64 ((IntKind.u64.wrap q).tmod 1000)))], .bool (decide ((0 : Int) < (F.length : Int)))]) (by simp [results, Tryd.results31, go_sem, u0, u1, u2, u3, u4, u5]) rfl ?_
          refine ⟨⟨az, F.length, kz⟩, (wrap64 (wrap64 (wrap64 ((IntKind.u64.wrap p).tmod 1000) + 1) + wrap64 ((IntKind.u64.wrap q).tmod 1000))), ?_, hz10.mono (fun _ _ _ => trivial), hB10, gQ_yes p q⟩
          rw [show decide ((0 : Int) < (F.length : Int)) = decide (0 < F.length) by simp]
          rw [gS_yes hnb, gL_yes hlb]
          rfl
theorem good9_any (P : Nat → Prop) (s : Bs) (y : Sl) (fs : List (Bs × Bs)) (l c p q : Int) (w : World) (h : FldsAt P w y.v fs) (hs : s.length ≤ 9223372036854775807) (hl : fs.length ≤ 9223372036854775807) (hfl : ∀ f ∈ fs, f.1.length ≤ 9223372036854775807 ∧ f.2.length ≤ 9223372036854775807) :
    Calls Tryd.prog 31 #[alV s y.v l c p q] w fun e w' => ∃ (z : Sl) (q' : Int), e = .returned (.tuple #[alV (gS s) z.v (gL l) c (gP p) q', .bool (decide (0 < (goodN fs).length))]) ∧ FldsAt (fun _ => True) w' z.v (goodN fs) ∧ Below w.heap.size w w' :=
  (good9_full P s y fs l c p q w h hs hl hfl).mono fun _ _ ⟨z, q', h1, h2, h3, _⟩ => ⟨z, q', h1, h2, h3⟩
end Go.Proofs.YtknhkmlihbgjpaaDoor
