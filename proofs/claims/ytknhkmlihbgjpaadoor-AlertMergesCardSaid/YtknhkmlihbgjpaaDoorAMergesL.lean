/- AlertMerges returns true: the law. -/
import Derived.Test.YtknhkmlihbgjpaaDoorAMgB
import Derived.Test.YtknhkmlihbgjpaaDoorARSame
import Derived.Test.YtknhkmlihbgjpaaDoorALives
import Derived.Test.YtknhkmlihbgjpaaDoorABack
namespace Go.Proofs.YtknhkmlihbgjpaaDoor
open Go.ChangeShapes Go.WideShapes Go.RowKit

/-- Cells that are told, and what was made since. -/
def CN (W : World) (X : List (Addr × Value)) (t : TypeId) (zs : List Value) (L : Marks) (w : World) : Prop :=
  CL W X w ∧ (∀ i v, L i = some v → ∃ g, v = .pointer (some ⟨g, 0, none⟩) ∧ W.heap.size ≤ g ∧ Rw w g t zs) ∧ (∀ i j v, L i = some v → L j = some v → i = j)
section
variable {W w w' : World} {X : List (Addr × Value)} {t : TypeId} {zs : List Value} {L : Marks}
theorem CN.start (h : CL W X w) : CN W X t zs (fun _ => none) w := ⟨h, fun _ _ e => (by cases e), fun _ _ _ e => (by cases e)⟩
theorem CN.go (h : CN W X t zs L w) (k : Below w.heap.size w w') : CN W X t zs L w' := by
  obtain ⟨h1, h2, h3⟩ := h
  refine ⟨h1.go k, fun i v e => ?_, h3⟩
  obtain ⟨g, e2, hg, hr⟩ := h2 i v e
  exact ⟨g, e2, hg, hr.stay k⟩
theorem CN.new (i : Nat) (h : CN W X t zs L w) : CN W X t zs (upd L i (.pointer (some ⟨w.heap.size, 0, none⟩))) (w.alloc (.cells zs.toArray t)) := by
  obtain ⟨h1, h2, h3⟩ := h
  have hal := (Below.refl w.heap.size w).alloc (Nat.le_refl _) (.cells zs.toArray t)
  have hno : ∀ k, L k ≠ some (.pointer (some ⟨w.heap.size, 0, none⟩)) := fun k e => by
    obtain ⟨g, e2, _, hr⟩ := h2 k _ e
    injection e2 with e2
    injection e2 with e2
    injection e2 with e2
    have := hr.lt
    omega
  refine ⟨h1.go hal, fun k v e => ?_, fun k j v e e' => ?_⟩
  · unfold upd at e
    split at e
    · injection e with e
      subst e
      exact ⟨_, rfl, h1.1.size, Rw.new w t zs⟩
    · obtain ⟨g, e2, hg, hr⟩ := h2 k v e
      exact ⟨g, e2, hg, hr.stay hal⟩
  · unfold upd at e e'
    split at e <;> split at e'
    · omega
    · injection e with e
      subst e
      exact absurd e' (hno j)
    · injection e' with e'
      subst e'
      exact absurd e (hno k)
    · exact h3 k j v e e'
theorem CN.two {u v : Value} (h : CN W X t zs (upd (upd (fun _ => none) 4 u) 5 v) w) : ∃ g k : Nat, u = .pointer (some ⟨g, 0, none⟩) ∧ v = .pointer (some ⟨k, 0, none⟩) ∧ g ≠ k ∧ W.heap.size ≤ g ∧ W.heap.size ≤ k ∧ Rw w g t zs ∧ Rw w k t zs ∧ Below W.heap.size W w := by
  obtain ⟨h1, h2, h3⟩ := h
  obtain ⟨g, rfl, hg, rg⟩ := h2 4 u (by simp [upd])
  obtain ⟨k, rfl, hk, rk⟩ := h2 5 v (by simp [upd])
  refine ⟨g, k, rfl, rfl, fun e => ?_, hg, hk, rg, rk, h1.1⟩
  subst e
  have := h3 4 5 (.pointer (some ⟨g, 0, none⟩)) (by simp [upd]) (by simp [upd])
  omega
end
set_option maxHeartbeats 800000 in
set_option maxRecDepth 100000 in
theorem merges_law (P : Nat → Prop) (s : Bs) (y : Sl) (fs : List (Bs × Bs)) (l c p q b0 b1 b2 lm cm : Int) (w : World) (ht : Dg.Tabs w) (h : FldsAt P w y.v fs) (hs : s.length ≤ 9223372036854775807) (hl : fs.length ≤ 9223372036854775807) (hfl : ∀ f ∈ fs, f.1.length ≤ 9223372036854775807 ∧ f.2.length ≤ 9223372036854775807) (hc : U32 c) (hd : U32 cm) :
    Calls Tryd.prog 7 #[alV s y.v l c p q, .agg #[.int .i64 b0, .int .i64 b1, .int .i64 b2], .agg #[.int .i64 lm, .int .u32 cm]] w fun e w' => e = .returned (.bool true) ∧ Below w.heap.size w w' := by
  have KL := Lib.hid fun w' (hb : Below w.heap.size w w') => lives_any w' (ht.keep hb)
  have KG := Lib.hid fun w' (hb : Below w.heap.size w w') => good9_full P s y fs l c p q w' (h.stay hb) hs hl hfl
  have HT := Lib.hid fun w' (hb : Below w.heap.size w w') => ht.keep hb
  obtain ⟨ay, ny, ky⟩ := y
  clear h hl hfl ht hs
  unfold alV at *
  simp only [Sl.v] at KG ⊢
  have hGd := good_gd fs
  generalize goodN fs = F at *
  have hS := gS_name s
  generalize gS s = S at *
  have hM := gL_right l
  generalize gL l = M at *
  generalize gP p = P0 at *
  have hS12 := (name_len12 hS).2
  have h8 := hGd.len
  have hF200 : ∀ f ∈ F, f.1.length ≤ 12 ∧ f.2.length ≤ 200 := fun f hf => ⟨(name_len12 (hGd.name hf)).2, by have := hGd.2 f hf; omega⟩
  have hFm : ∀ f ∈ F, f.1.length ≤ 9223372036854775807 ∧ f.2.length ≤ 9223372036854775807 := fun f hf => by have := hF200 f hf; omega
  have hid := id_len hS12 hF200
  have KH := Lib.hid fun (z : Sl) (w' : World) (hz : FldsAt (fun _ => True) w' z.v F) => good9_full (fun _ => True) S z F lm cm b0 b1 w' hz (by omega) (by omega) hFm
  rw [good_same hGd, gS_yes hS] at KH
  have hN := gL_right lm
  generalize gL lm = N at *
  generalize gP b0 = P1 at *
  go_enter Tryd.func7, Tryd.ntmps7
  go_upto_region 1 with fail
  obtain ⟨rI, rT, rL, hB⟩ := put3n w 27 74 25 [.string ⟨s.toArray⟩, .slice ay ny ky, .int .i64 l, .int .u32 c, .int .i64 p, .int .i64 q] [.int .i64 b0, .int .i64 b1, .int .i64 b2] [.int .i64 lm, .int .u32 cm]
  generalize ((w.alloc (.cells #[.string ⟨s.toArray⟩, .slice ay ny ky, .int .i64 l, .int .u32 c, .int .i64 p, .int .i64 q] 27)).alloc (.cells #[.int .i64 b0, .int .i64 b1, .int .i64 b2] 74)).alloc (.cells #[.int .i64 lm, .int .u32 cm] 25) = w1 at *
  go_wp2_with fail
  refine (KL.out _ hB).mono ?_
  rintro e w2 ⟨rfl, hb⟩
  have hB2 := hB.trans (hb.mono hB.size)
  replace rI := rI.stay hb
  replace rT := rT.stay hb
  replace rL := rL.stay hb
  clear KL hb hB
  have a0 := Rw.cell rI 0
  have a1 := Rw.cell rI 1
  have a2 := Rw.cell rI 2
  have a3 := Rw.cell rI 3
  have a4 := Rw.cell rI 4
  have a5 := Rw.cell rI 5
  simp only [List.getElem?_cons_zero, List.getElem?_cons_succ] at a0 a1 a2 a3 a4 a5
  go_wp2_with fail
  refine (KG.out _ hB2).mono ?_
  rintro e w3 ⟨⟨ag, ng, kg⟩, Q0, rfl, hz, hb, hq0⟩
  have hB3 := hB2.trans (hb.mono hB2.size)
  replace rT := rT.stay hb
  replace rL := rL.stay hb
  clear KG hb hB2 rI a0 a1 a2 a3 a4 a5
  simp only at hz ⊢
  have hal : Below w3.heap.size w3 (w3.alloc (.cells #[.string ⟨S.toArray⟩, .slice ag ng kg, .int .i64 M, .int .u32 c, .int .i64 P0, .int .i64 Q0] 27)) := (Below.refl _ _).alloc (Nat.le_refl _) _
  have rG : Rw (w3.alloc (.cells #[.string ⟨S.toArray⟩, .slice ag ng kg, .int .i64 M, .int .u32 c, .int .i64 P0, .int .i64 Q0] 27)) w3.heap.size 27 [.string ⟨S.toArray⟩, .slice ag ng kg, .int .i64 M, .int .u32 c, .int .i64 P0, .int .i64 Q0] := Rw.new w3 27 [.string ⟨S.toArray⟩, .slice ag ng kg, .int .i64 M, .int .u32 c, .int .i64 P0, .int .i64 Q0]
  have hB4 := hB3.trans (hal.mono hB3.size)
  replace hz := hz.stay hal
  replace rT := rT.stay hal
  replace rL := rL.stay hal
  go_upto_region 4 with fail
  generalize w3.alloc (.cells #[.string ⟨S.toArray⟩, .slice ag ng kg, .int .i64 M, .int .u32 c, .int .i64 P0, .int .i64 Q0] 27) = w4 at *
  generalize w3.heap.size = bG at *
  clear hal hB3
  by_cases hp : 0 < F.length
  · rw [decide_eq_true hp] at KH ⊢
    have hG := good_right0 hGd hp hS hM hq0
    have a0 := Rw.cell rG 0
    have a1 := Rw.cell rG 1
    simp only [List.getElem?_cons_zero, List.getElem?_cons_succ] at a0 a1
    have l0 := Rw.cell rL 0
    have l1 := Rw.cell rL 1
    simp only [List.getElem?_cons_zero, List.getElem?_cons_succ] at l0 l1
    have t0 := Rw.cell rT 0
    have t1 := Rw.cell rT 1
    simp only [List.getElem?_cons_zero, List.getElem?_cons_succ] at t0 t1
    have KHz := KH.out ⟨ag, ng, kg⟩ w4 hz
    unfold alV at KHz
    simp only [Sl.v] at KHz
    replace KHz := Lib.hid KHz
    go_wp2_with fail
    refine KHz.out.mono ?_
    rintro e w5 ⟨⟨ah, nh, kh⟩, Q1, rfl, hy, hb, hq1⟩
    have hB5 := hB4.trans (hb.mono hB4.size)
    replace hz := hz.stay hb
    replace rT := rT.stay hb
    replace rG := rG.stay hb
    clear KH KHz hb hB4 rL a0 a1 l0 l1 t0 t1
    simp only at hy ⊢
    have hH := good_right0 hGd hp hS hN hq1
    have hal : Below w5.heap.size w5 (w5.alloc (.cells #[.string ⟨S.toArray⟩, .slice ah nh kh, .int .i64 N, .int .u32 cm, .int .i64 P1, .int .i64 Q1] 27)) := (Below.refl _ _).alloc (Nat.le_refl _) _
    have rH : Rw (w5.alloc (.cells #[.string ⟨S.toArray⟩, .slice ah nh kh, .int .i64 N, .int .u32 cm, .int .i64 P1, .int .i64 Q1] 27)) w5.heap.size 27 [.string ⟨S.toArray⟩, .slice ah nh kh, .int .i64 N, .int .u32 cm, .int .i64 P1, .int .i64 Q1] := Rw.new w5 27 [.string ⟨S.toArray⟩, .slice ah nh kh, .int .i64 N, .int .u32 cm, .int .i64 P1, .int .i64 Q1]
    have hB6 := hB5.trans (hal.mono hB5.size)
    replace hz := hz.stay hal
    replace hy := hy.stay hal
    replace rT := rT.stay hal
    replace rG := rG.stay hal
    go_upto_region 7 with fail
    generalize w5.alloc (.cells #[.string ⟨S.toArray⟩, .slice ah nh kh, .int .i64 N, .int .u32 cm, .int .i64 P1, .int .i64 Q1] 27) = w6 at *
    generalize w5.heap.size = bH at *
    clear hal hB5
    have K1 := fun (L : Marks) (w' : World) (hw' : CN w6 [(⟨bG, 0, none⟩, .string ⟨S.toArray⟩), (⟨bG, 1, none⟩, .slice ag ng kg), (⟨bG, 2, none⟩, .int .i64 M), (⟨bG, 3, none⟩, .int .u32 c), (⟨bG, 4, none⟩, .int .i64 P0), (⟨bG, 5, none⟩, .int .i64 Q0), (⟨bH, 0, none⟩, .string ⟨S.toArray⟩), (⟨bH, 1, none⟩, .slice ah nh kh), (⟨bH, 2, none⟩, .int .i64 N), (⟨bH, 3, none⟩, .int .u32 cm), (⟨bH, 4, none⟩, .int .i64 P1), (⟨bH, 5, none⟩, .int .i64 Q1)] 29 [.string ⟨#[]⟩, .slice none 0 0, .int .i64 0, .int .u32 0, .int .i64 0, .int .i64 0] L w') => back_full (fun _ => True) S ⟨ag, ng, kg⟩ F M c P0 Q0 w' (hz.stay hw'.1.1) (by omega)
    have K2 := fun (L : Marks) (w' : World) (hw' : CN w6 [(⟨bG, 0, none⟩, .string ⟨S.toArray⟩), (⟨bG, 1, none⟩, .slice ag ng kg), (⟨bG, 2, none⟩, .int .i64 M), (⟨bG, 3, none⟩, .int .u32 c), (⟨bG, 4, none⟩, .int .i64 P0), (⟨bG, 5, none⟩, .int .i64 Q0), (⟨bH, 0, none⟩, .string ⟨S.toArray⟩), (⟨bH, 1, none⟩, .slice ah nh kh), (⟨bH, 2, none⟩, .int .i64 N), (⟨bH, 3, none⟩, .int .u32 cm), (⟨bH, 4, none⟩, .int .i64 P1), (⟨bH, 5, none⟩, .int .i64 Q1)] 29 [.string ⟨#[]⟩, .slice none 0 0, .int .i64 0, .int .u32 0, .int .i64 0, .int .i64 0] L w') => back_full (fun _ => True) S ⟨ah, nh, kh⟩ F N cm P1 Q1 w' (hy.stay hw'.1.1) (by omega)
    have hmg : min ng 12 = ng := by obtain ⟨_, _, e⟩ := hz.shape; injection e; omega
    have hmh : min nh 12 = nh := by obtain ⟨_, _, e⟩ := hy.shape; injection e; omega
    unfold alV at K1 K2
    simp only [Sl.v, hmg, hmh] at K1 K2
    replace K1 := Lib.hid K1
    replace K2 := Lib.hid K2
    clear hmg hmh
    have hCL : CL w6 [(⟨bG, 0, none⟩, .string ⟨S.toArray⟩), (⟨bG, 1, none⟩, .slice ag ng kg), (⟨bG, 2, none⟩, .int .i64 M), (⟨bG, 3, none⟩, .int .u32 c), (⟨bG, 4, none⟩, .int .i64 P0), (⟨bG, 5, none⟩, .int .i64 Q0), (⟨bH, 0, none⟩, .string ⟨S.toArray⟩), (⟨bH, 1, none⟩, .slice ah nh kh), (⟨bH, 2, none⟩, .int .i64 N), (⟨bH, 3, none⟩, .int .u32 cm), (⟨bH, 4, none⟩, .int .i64 P1), (⟨bH, 5, none⟩, .int .i64 Q1)] w6.drew := (((((((((((((CL.nil w6).row rH 5 rfl).row rH 4 rfl).row rH 3 rfl).row rH 2 rfl).row rH 1 rfl).row rH 0 rfl).row rG 5 rfl).row rG 4 rfl).row rG 3 rfl).row rG 2 rfl).row rG 1 rfl).row rG 0 rfl).drew
    refine region_loose (fun L w' => CN w6 [(⟨bG, 0, none⟩, .string ⟨S.toArray⟩), (⟨bG, 1, none⟩, .slice ag ng kg), (⟨bG, 2, none⟩, .int .i64 M), (⟨bG, 3, none⟩, .int .u32 c), (⟨bG, 4, none⟩, .int .i64 P0), (⟨bG, 5, none⟩, .int .i64 Q0), (⟨bH, 0, none⟩, .string ⟨S.toArray⟩), (⟨bH, 1, none⟩, .slice ah nh kh), (⟨bH, 2, none⟩, .int .i64 N), (⟨bH, 3, none⟩, .int .u32 cm), (⟨bH, 4, none⟩, .int .i64 P1), (⟨bH, 5, none⟩, .int .i64 Q1)] 29 [.string ⟨#[]⟩, .slice none 0 0, .int .i64 0, .int .u32 0, .int .i64 0, .int .i64 0] L w') 4 6 2 #[true, true, true, true, true, true, false, false] rfl (by kernel_rfl) (by kernel_rfl) (by kernel_rfl) (CN.start hCL) ?_
    simp only [List.take_succ_cons, List.take_zero]
    repeat
      first
      | (refine loose_val (by decide) rfl ?_; apply Exists.intro; refine ⟨fun L' w' hw' => ?_, ?_⟩; focus (have e0 := hw'.1.at 0 rfl; have e1 := hw'.1.at 1 rfl; have e2 := hw'.1.at 2 rfl; have e3 := hw'.1.at 3 rfl; have e4 := hw'.1.at 4 rfl; have e5 := hw'.1.at 5 rfl; have e6 := hw'.1.at 6 rfl; have e7 := hw'.1.at 7 rfl; have e8 := hw'.1.at 8 rfl; have e9 := hw'.1.at 9 rfl; have e10 := hw'.1.at 10 rfl; have e11 := hw'.1.at 11 rfl; go_simp; first | done | rfl)
         simp only [Act.put, List.setIfInBounds_toArray, List.set_cons_zero, List.set_cons_succ])
      | (refine loose_val (by decide) rfl ?_
         apply Exists.intro
         refine ⟨fun L' w' hw' => ?_, ?_⟩
         · obtain hhh := hw'
           go_simp
           first | done | rfl | exact ⟨rfl, rfl⟩
         simp only [Act.put, List.setIfInBounds_toArray, List.set_cons_zero, List.set_cons_succ])
      | (refine loose_call (by decide) rfl ?_
         apply Exists.intro
         apply Exists.intro
         refine ⟨fun w' => ?_, ?_⟩
         · go_simp
           first | done | rfl | exact ⟨rfl, rfl⟩
         apply Exists.intro
         refine ⟨fun L' w' hw' => ?_, ?_⟩
         · first
           | (with_reducible refine (K1.out L' w' hw').mono ?_); (rintro e w'' ⟨he, _, hq⟩; exact ⟨he, CN.go hw' hq⟩)
           | (with_reducible refine (K2.out L' w' hw').mono ?_); (rintro e w'' ⟨he, _, hq⟩; exact ⟨he, CN.go hw' hq⟩)
         simp only [Act.put, List.setIfInBounds_toArray, List.set_cons_zero, List.set_cons_succ])
      | (refine loose_new (by decide) rfl (fun L' w' hw' => ?_) (fun v => ?_)
         · exact ⟨.pointer (some ⟨w'.heap.size, 0, none⟩), w'.alloc (.cells [.string ⟨#[]⟩, .slice none 0 0, .int .i64 0, .int .u32 0, .int .i64 0, .int .i64 0].toArray 29), by (go_simp; try rfl), CN.new _ hw'⟩
         simp only [Act.put, List.setIfInBounds_toArray, List.set_cons_zero, List.set_cons_succ])
    intro w5 hw5
    obtain ⟨bX, bY, rfl, rfl, hxy, hbX, hbY, rX, rY, hb⟩ := hw5.two
    replace hz := (hz.mono (P' := fun k => k < w6.heap.size) (fun i _ h2 => h2)).stay hb
    replace hy := (hy.mono (P' := fun k => k < w6.heap.size) (fun i _ h2 => h2)).stay hb
    have hTl := rT.lt
    have hTX : w.heap.size + 1 ≠ bX := by omega
    have hTY : w.heap.size + 1 ≠ bY := by omega
    replace rT := rT.stay hb
    have hge := hB6.size
    have hB7 := hB6.trans (hb.mono hB6.size)
    have hwX : w.heap.size ≤ bX := by omega
    have hwY : w.heap.size ≤ bY := by omega
    clear hb hw5 K1 K2 rG rH hB6 hTl hge
    have z0 := Rw.frozen rX 0
    have z1 := Rw.frozen rX 1
    have z2 := Rw.frozen rX 2
    have z3 := Rw.frozen rX 3
    have z4 := Rw.frozen rX 4
    have z5 := Rw.frozen rX 5
    have u0 := Rw.cell rX 0
    have u1 := Rw.cell rX 1
    have u2 := Rw.cell rX 2
    have u3 := Rw.cell rX 3
    have u4 := Rw.cell rX 4
    have u5 := Rw.cell rX 5
    simp only [List.getElem?_cons_zero, List.getElem?_cons_succ] at u0 u1 u2 u3 u4 u5
    refine wpAny_ready (rs := [6]) (by kernel_rfl) (by simp) ?_
    refine AllReady.cons rfl (fun K hK => ?_) AllReady.nil
    go_simp
    refine hK _ _ ?_
    clear hK K z0 z1 z2 z3 z4 z5 u0 u1 u2 u3 u4 u5
    replace rY := ((((((rY.other (hxy.symm) 0 (.string ⟨S.toArray⟩)).other (hxy.symm) 1 (.slice ag ng kg)).other (hxy.symm) 2 (.int .i64 M)).other (hxy.symm) 3 (.int .u32 c)).other (hxy.symm) 4 (.int .i64 P0)).other (hxy.symm) 5 (.int .i64 Q0))
    replace rT := ((((((rT.other (hTX) 0 (.string ⟨S.toArray⟩)).other (hTX) 1 (.slice ag ng kg)).other (hTX) 2 (.int .i64 M)).other (hTX) 3 (.int .u32 c)).other (hTX) 4 (.int .i64 P0)).other (hTX) 5 (.int .i64 Q0))
    replace hz := hz.keepN (S := fun j => j = bX) ((((((Asd.one w5 bX 0 (.string ⟨S.toArray⟩)).set1 1 (.slice ag ng kg)).set1 2 (.int .i64 M)).set1 3 (.int .u32 c)).set1 4 (.int .i64 P0)).set1 5 (.int .i64 Q0)) (fun i hi _ e => by have h0 : i < w6.heap.size := hi; omega)
    replace hy := hy.keepN (S := fun j => j = bX) ((((((Asd.one w5 bX 0 (.string ⟨S.toArray⟩)).set1 1 (.slice ag ng kg)).set1 2 (.int .i64 M)).set1 3 (.int .u32 c)).set1 4 (.int .i64 P0)).set1 5 (.int .i64 Q0)) (fun i hi _ e => by have h0 : i < w6.heap.size := hi; omega)
    have hB8 := below_set6 hB7 hwX (.string ⟨S.toArray⟩) (.slice ag ng kg) (.int .i64 M) (.int .u32 c) (.int .i64 P0) (.int .i64 Q0)
    replace rX := rX.set6 (.string ⟨S.toArray⟩) (.slice ag ng kg) (.int .i64 M) (.int .u32 c) (.int .i64 P0) (.int .i64 Q0)
    clear hB7
    generalize ((((((w5.setCell ⟨bX, 0, none⟩ (.string ⟨S.toArray⟩)).setCell ⟨bX, 1, none⟩ (.slice ag ng kg)).setCell ⟨bX, 2, none⟩ (.int .i64 M)).setCell ⟨bX, 3, none⟩ (.int .u32 c)).setCell ⟨bX, 4, none⟩ (.int .i64 P0)).setCell ⟨bX, 5, none⟩ (.int .i64 Q0)) = w7 at *
    have z0 := Rw.frozen rY 0
    have z1 := Rw.frozen rY 1
    have z2 := Rw.frozen rY 2
    have z3 := Rw.frozen rY 3
    have z4 := Rw.frozen rY 4
    have z5 := Rw.frozen rY 5
    have u0 := Rw.cell rY 0
    have u1 := Rw.cell rY 1
    have u2 := Rw.cell rY 2
    have u3 := Rw.cell rY 3
    have u4 := Rw.cell rY 4
    have u5 := Rw.cell rY 5
    simp only [List.getElem?_cons_zero, List.getElem?_cons_succ] at u0 u1 u2 u3 u4 u5
    refine wpAny_ready (rs := [7]) (by kernel_rfl) (by simp) ?_
    refine AllReady.cons rfl (fun K hK => ?_) AllReady.nil
    go_simp
    refine hK _ _ ?_
    clear hK K z0 z1 z2 z3 z4 z5 u0 u1 u2 u3 u4 u5
    replace rX := ((((((rX.other (hxy) 0 (.string ⟨S.toArray⟩)).other (hxy) 1 (.slice ah nh kh)).other (hxy) 2 (.int .i64 N)).other (hxy) 3 (.int .u32 cm)).other (hxy) 4 (.int .i64 P1)).other (hxy) 5 (.int .i64 Q1))
    replace rT := ((((((rT.other (hTY) 0 (.string ⟨S.toArray⟩)).other (hTY) 1 (.slice ah nh kh)).other (hTY) 2 (.int .i64 N)).other (hTY) 3 (.int .u32 cm)).other (hTY) 4 (.int .i64 P1)).other (hTY) 5 (.int .i64 Q1))
    replace hz := hz.keepN (S := fun j => j = bY) ((((((Asd.one w7 bY 0 (.string ⟨S.toArray⟩)).set1 1 (.slice ah nh kh)).set1 2 (.int .i64 N)).set1 3 (.int .u32 cm)).set1 4 (.int .i64 P1)).set1 5 (.int .i64 Q1)) (fun i hi _ e => by have h0 : i < w6.heap.size := hi; omega)
    replace hy := hy.keepN (S := fun j => j = bY) ((((((Asd.one w7 bY 0 (.string ⟨S.toArray⟩)).set1 1 (.slice ah nh kh)).set1 2 (.int .i64 N)).set1 3 (.int .u32 cm)).set1 4 (.int .i64 P1)).set1 5 (.int .i64 Q1)) (fun i hi _ e => by have h0 : i < w6.heap.size := hi; omega)
    have hBw8 := below_set6 hB8 hwY (.string ⟨S.toArray⟩) (.slice ah nh kh) (.int .i64 N) (.int .u32 cm) (.int .i64 P1) (.int .i64 Q1)
    replace rY := rY.set6 (.string ⟨S.toArray⟩) (.slice ah nh kh) (.int .i64 N) (.int .u32 cm) (.int .i64 P1) (.int .i64 Q1)
    clear hB8
    generalize ((((((w7.setCell ⟨bY, 0, none⟩ (.string ⟨S.toArray⟩)).setCell ⟨bY, 1, none⟩ (.slice ah nh kh)).setCell ⟨bY, 2, none⟩ (.int .i64 N)).setCell ⟨bY, 3, none⟩ (.int .u32 cm)).setCell ⟨bY, 4, none⟩ (.int .i64 P1)).setCell ⟨bY, 5, none⟩ (.int .i64 Q1)) = w8 at *
    refine wpAny_done (by kernel_rfl) ?_ _
    replace hz := hz.mono (P' := fun _ => True) (fun _ _ _ => trivial)
    replace hy := hy.mono (P' := fun _ => True) (fun _ _ _ => trivial)
    clear hbX hbY hTX hTY hwX hwY
    have hM1 := (ar_parts hG).2.2.2.1
    have hN1 := (ar_parts hH).2.2.2.1
    have hJ := mg_right hG hH
    have hup := jL_up (c := c) (d := cm) hM1 hN1
    have hfi : firesB P0 Q0 b2 = true ∨ firesB P1 Q1 b2 = true → firesB (min P0 P1) (laterN Q0 Q1) b2 = true := later_fires
    have KXY := fun (w' : World) (hb : Below w.heap.size w w') (h1 : FldsAt (fun _ => True) w' (.slice ag ng kg) F) (h2 : FldsAt (fun _ => True) w' (.slice ah nh kh) F) => merge_yes (fun _ => True) (fun _ => True) S ⟨ag, ng, kg⟩ ⟨ah, nh, kh⟩ F M c P0 Q0 N cm P1 Q1 w' (HT.out w' hb) h1 h2 hGd hG hH hc hd
    have KYX := fun (w' : World) (hb : Below w.heap.size w w') (h1 : FldsAt (fun _ => True) w' (.slice ah nh kh) F) (h2 : FldsAt (fun _ => True) w' (.slice ag ng kg) F) => merge_yes (fun _ => True) (fun _ => True) S ⟨ah, nh, kh⟩ ⟨ag, ng, kg⟩ F N cm P1 Q1 M c P0 Q0 w' (HT.out w' hb) h1 h2 hGd hH hG hd hc
    have KXX := fun (w' : World) (hb : Below w.heap.size w w') (h1 : FldsAt (fun _ => True) w' (.slice ag ng kg) F) (h2 : FldsAt (fun _ => True) w' (.slice ag ng kg) F) => merge_yes (fun _ => True) (fun _ => True) S ⟨ag, ng, kg⟩ ⟨ag, ng, kg⟩ F M c P0 Q0 M c P0 Q0 w' (HT.out w' hb) h1 h2 hGd hG hG hc hc
    rw [jL_comm N M, jC_comm N cm M c, Int.min_comm P1 P0, laterN_comm Q1 Q0] at KYX
    rw [jL_self hM1, jC_self hM1 hc.1, Int.min_self, laterN_self] at KXX
    have hJU := jC_u32 (l := M) (m := N) hc hd
    replace KXY := Lib.hid KXY
    replace KYX := Lib.hid KYX
    replace KXX := Lib.hid KXX
    generalize jL M N = JL at *
    generalize jC M c N cm = JC at *
    generalize min P0 P1 = PM at *
    generalize laterN Q0 Q1 = QM at *
    have a0 := Rw.cell rX 0
    have a1 := Rw.cell rX 1
    have a2 := Rw.cell rX 2
    have a3 := Rw.cell rX 3
    have a4 := Rw.cell rX 4
    have a5 := Rw.cell rX 5
    simp only [List.getElem?_cons_zero, List.getElem?_cons_succ] at a0 a1 a2 a3 a4 a5
    have c0 := Rw.cell rY 0
    have c1 := Rw.cell rY 1
    have c2 := Rw.cell rY 2
    have c3 := Rw.cell rY 3
    have c4 := Rw.cell rY 4
    have c5 := Rw.cell rY 5
    simp only [List.getElem?_cons_zero, List.getElem?_cons_succ] at c0 c1 c2 c3 c4 c5
    have KM := KXY.out w8 hBw8 hz hy
    unfold alV at KM
    simp only [Sl.v] at KM
    replace KM := Lib.hid KM
    go_wp2_with fail
    refine KM.out.mono ?_
    rintro e v8 ⟨⟨am, nm, km⟩, rfl, hm, hb⟩
    have hBv8 := hBw8.trans (hb.mono hBw8.size)
    replace rX := rX.stay hb
    replace rY := rY.stay hb
    replace rT := rT.stay hb
    replace hz := hz.stay hb
    replace hy := hy.stay hb
    clear KM hb hBw8 a0 a1 a2 a3 a4 a5 c0 c1 c2 c3 c4 c5
    simp only at hm ⊢
    have hal : Below v8.heap.size v8 (v8.alloc (.cells #[.string ⟨S.toArray⟩, .slice am nm km, .int .i64 JL, .int .u32 JC, .int .i64 PM, .int .i64 QM] 29)) := (Below.refl _ _).alloc (Nat.le_refl _) _
    have rm : Rw (v8.alloc (.cells #[.string ⟨S.toArray⟩, .slice am nm km, .int .i64 JL, .int .u32 JC, .int .i64 PM, .int .i64 QM] 29)) v8.heap.size 29 [.string ⟨S.toArray⟩, .slice am nm km, .int .i64 JL, .int .u32 JC, .int .i64 PM, .int .i64 QM] := Rw.new v8 29 [.string ⟨S.toArray⟩, .slice am nm km, .int .i64 JL, .int .u32 JC, .int .i64 PM, .int .i64 QM]
    have hBw9 := hBv8.trans (hal.mono hBv8.size)
    replace hm := hm.stay hal
    replace rX := rX.stay hal
    replace rY := rY.stay hal
    replace rT := rT.stay hal
    replace hz := hz.stay hal
    replace hy := hy.stay hal
    go_upto_region 9 with fail
    generalize v8.alloc (.cells #[.string ⟨S.toArray⟩, .slice am nm km, .int .i64 JL, .int .u32 JC, .int .i64 PM, .int .i64 QM] 29) = w9 at *
    generalize v8.heap.size = bm at *
    clear hal hBv8
    have a0 := Rw.cell rX 0
    have a1 := Rw.cell rX 1
    have a2 := Rw.cell rX 2
    have a3 := Rw.cell rX 3
    have a4 := Rw.cell rX 4
    have a5 := Rw.cell rX 5
    simp only [List.getElem?_cons_zero, List.getElem?_cons_succ] at a0 a1 a2 a3 a4 a5
    have c0 := Rw.cell rY 0
    have c1 := Rw.cell rY 1
    have c2 := Rw.cell rY 2
    have c3 := Rw.cell rY 3
    have c4 := Rw.cell rY 4
    have c5 := Rw.cell rY 5
    simp only [List.getElem?_cons_zero, List.getElem?_cons_succ] at c0 c1 c2 c3 c4 c5
    have KM := KYX.out w9 hBw9 hy hz
    unfold alV at KM
    simp only [Sl.v] at KM
    replace KM := Lib.hid KM
    go_wp2_with fail
    refine KM.out.mono ?_
    rintro e v9 ⟨⟨an, nn, kn⟩, rfl, hn, hb⟩
    have hBv9 := hBw9.trans (hb.mono hBw9.size)
    replace rX := rX.stay hb
    replace rY := rY.stay hb
    replace rT := rT.stay hb
    replace hz := hz.stay hb
    replace hy := hy.stay hb
    replace rm := rm.stay hb
    replace hm := hm.stay hb
    clear KM hb hBw9 a0 a1 a2 a3 a4 a5 c0 c1 c2 c3 c4 c5
    simp only at hn ⊢
    have hal : Below v9.heap.size v9 (v9.alloc (.cells #[.string ⟨S.toArray⟩, .slice an nn kn, .int .i64 JL, .int .u32 JC, .int .i64 PM, .int .i64 QM] 29)) := (Below.refl _ _).alloc (Nat.le_refl _) _
    have rn : Rw (v9.alloc (.cells #[.string ⟨S.toArray⟩, .slice an nn kn, .int .i64 JL, .int .u32 JC, .int .i64 PM, .int .i64 QM] 29)) v9.heap.size 29 [.string ⟨S.toArray⟩, .slice an nn kn, .int .i64 JL, .int .u32 JC, .int .i64 PM, .int .i64 QM] := Rw.new v9 29 [.string ⟨S.toArray⟩, .slice an nn kn, .int .i64 JL, .int .u32 JC, .int .i64 PM, .int .i64 QM]
    have hBw10 := hBv9.trans (hal.mono hBv9.size)
    replace hn := hn.stay hal
    replace rX := rX.stay hal
    replace rY := rY.stay hal
    replace rT := rT.stay hal
    replace hz := hz.stay hal
    replace hy := hy.stay hal
    replace rm := rm.stay hal
    replace hm := hm.stay hal
    go_upto_region 10 with fail
    generalize v9.alloc (.cells #[.string ⟨S.toArray⟩, .slice an nn kn, .int .i64 JL, .int .u32 JC, .int .i64 PM, .int .i64 QM] 29) = w10 at *
    generalize v9.heap.size = bn at *
    clear hal hBv9
    have a0 := Rw.cell rX 0
    have a1 := Rw.cell rX 1
    have a2 := Rw.cell rX 2
    have a3 := Rw.cell rX 3
    have a4 := Rw.cell rX 4
    have a5 := Rw.cell rX 5
    simp only [List.getElem?_cons_zero, List.getElem?_cons_succ] at a0 a1 a2 a3 a4 a5
    have KM := KXX.out w10 hBw10 hz hz
    unfold alV at KM
    simp only [Sl.v] at KM
    replace KM := Lib.hid KM
    go_wp2_with fail
    refine KM.out.mono ?_
    rintro e v10 ⟨⟨ao, no, ko⟩, rfl, ho, hb⟩
    have hBv10 := hBw10.trans (hb.mono hBw10.size)
    replace rX := rX.stay hb
    replace rY := rY.stay hb
    replace rT := rT.stay hb
    replace hz := hz.stay hb
    replace hy := hy.stay hb
    replace rm := rm.stay hb
    replace hm := hm.stay hb
    replace rn := rn.stay hb
    replace hn := hn.stay hb
    clear KM hb hBw10 a0 a1 a2 a3 a4 a5
    simp only at ho ⊢
    have hal : Below v10.heap.size v10 (v10.alloc (.cells #[.string ⟨S.toArray⟩, .slice ao no ko, .int .i64 M, .int .u32 c, .int .i64 P0, .int .i64 Q0] 29)) := (Below.refl _ _).alloc (Nat.le_refl _) _
    have ro : Rw (v10.alloc (.cells #[.string ⟨S.toArray⟩, .slice ao no ko, .int .i64 M, .int .u32 c, .int .i64 P0, .int .i64 Q0] 29)) v10.heap.size 29 [.string ⟨S.toArray⟩, .slice ao no ko, .int .i64 M, .int .u32 c, .int .i64 P0, .int .i64 Q0] := Rw.new v10 29 [.string ⟨S.toArray⟩, .slice ao no ko, .int .i64 M, .int .u32 c, .int .i64 P0, .int .i64 Q0]
    have hBw11 := hBv10.trans (hal.mono hBv10.size)
    replace ho := ho.stay hal
    replace rX := rX.stay hal
    replace rY := rY.stay hal
    replace rT := rT.stay hal
    replace hz := hz.stay hal
    replace hy := hy.stay hal
    replace rm := rm.stay hal
    replace hm := hm.stay hal
    replace rn := rn.stay hal
    replace hn := hn.stay hal
    go_upto_region 11 with fail
    generalize v10.alloc (.cells #[.string ⟨S.toArray⟩, .slice ao no ko, .int .i64 M, .int .u32 c, .int .i64 P0, .int .i64 Q0] 29) = w11 at *
    generalize v10.heap.size = bo at *
    clear hal hBv10
    have t2 := Rw.cell rT 2
    simp only [List.getElem?_cons_zero, List.getElem?_cons_succ] at t2
    go_upto_region 12 with fail
    clear t2 KXY KYX KXX
    have hidF := gd_id hGd hS
    have a0 := Rw.cell rX 0
    have a1 := Rw.cell rX 1
    have a2 := Rw.cell rX 2
    have a3 := Rw.cell rX 3
    have a4 := Rw.cell rX 4
    have a5 := Rw.cell rX 5
    simp only [List.getElem?_cons_zero, List.getElem?_cons_succ] at a0 a1 a2 a3 a4 a5
    have KF := fires_any S ⟨ag, ng, kg⟩ M c P0 Q0 b2 w11
    unfold alV at KF
    simp only [Sl.v] at KF
    obtain ⟨f0, hf0⟩ : ∃ f0, firesB P0 Q0 b2 = f0 := ⟨_, rfl⟩
    rw [hf0] at KF hfi
    replace KF := Lib.hid KF
    go_wp2_with fail
    refine KF.out.mono ?_
    rintro e x12 ⟨rfl, hb⟩
    have hBx12 := hBw11.trans (hb.mono hBw11.size)
    replace rX := rX.stay hb
    replace rY := rY.stay hb
    replace rT := rT.stay hb
    replace hz := hz.stay hb
    replace hy := hy.stay hb
    replace rm := rm.stay hb
    replace hm := hm.stay hb
    replace rn := rn.stay hb
    replace hn := hn.stay hb
    replace ro := ro.stay hb
    replace ho := ho.stay hb
    clear KF hb hBw11 a0 a1 a2 a3 a4 a5 hf0
    cases f0 with
    | true =>
      have hfm := hfi (.inl rfl)
      clear hfi
      go_upto_region 13 with fail
      have hBw12 := hBx12
      generalize x12 = w12 at *
      refine wp_region_held (S := CL w12 [(⟨bm, 0, none⟩, .string ⟨S.toArray⟩), (⟨bm, 1, none⟩, .slice am nm km), (⟨bm, 2, none⟩, .int .i64 JL), (⟨bm, 3, none⟩, .int .u32 JC), (⟨bm, 4, none⟩, .int .i64 PM), (⟨bm, 5, none⟩, .int .i64 QM), (⟨bn, 0, none⟩, .string ⟨S.toArray⟩), (⟨bn, 1, none⟩, .slice an nn kn), (⟨bn, 2, none⟩, .int .i64 JL), (⟨bn, 3, none⟩, .int .u32 JC), (⟨bn, 4, none⟩, .int .i64 PM), (⟨bn, 5, none⟩, .int .i64 QM), (⟨bo, 0, none⟩, .string ⟨S.toArray⟩), (⟨bo, 1, none⟩, .slice ao no ko), (⟨bo, 2, none⟩, .int .i64 M), (⟨bo, 3, none⟩, .int .u32 c), (⟨bo, 4, none⟩, .int .i64 P0), (⟨bo, 5, none⟩, .int .i64 Q0), (⟨bX, 0, none⟩, .string ⟨S.toArray⟩), (⟨bX, 1, none⟩, .slice ag ng kg), (⟨bX, 2, none⟩, .int .i64 M), (⟨bX, 3, none⟩, .int .u32 c), (⟨bX, 4, none⟩, .int .i64 P0), (⟨bX, 5, none⟩, .int .i64 Q0), (⟨bY, 0, none⟩, .string ⟨S.toArray⟩), (⟨bY, 1, none⟩, .slice ah nh kh), (⟨bY, 2, none⟩, .int .i64 N), (⟨bY, 3, none⟩, .int .u32 cm), (⟨bY, 4, none⟩, .int .i64 P1), (⟨bY, 5, none⟩, .int .i64 Q1)]) (by kernel_rfl) ?_
      have hS : CL w12 [(⟨bm, 0, none⟩, .string ⟨S.toArray⟩), (⟨bm, 1, none⟩, .slice am nm km), (⟨bm, 2, none⟩, .int .i64 JL), (⟨bm, 3, none⟩, .int .u32 JC), (⟨bm, 4, none⟩, .int .i64 PM), (⟨bm, 5, none⟩, .int .i64 QM), (⟨bn, 0, none⟩, .string ⟨S.toArray⟩), (⟨bn, 1, none⟩, .slice an nn kn), (⟨bn, 2, none⟩, .int .i64 JL), (⟨bn, 3, none⟩, .int .u32 JC), (⟨bn, 4, none⟩, .int .i64 PM), (⟨bn, 5, none⟩, .int .i64 QM), (⟨bo, 0, none⟩, .string ⟨S.toArray⟩), (⟨bo, 1, none⟩, .slice ao no ko), (⟨bo, 2, none⟩, .int .i64 M), (⟨bo, 3, none⟩, .int .u32 c), (⟨bo, 4, none⟩, .int .i64 P0), (⟨bo, 5, none⟩, .int .i64 Q0), (⟨bX, 0, none⟩, .string ⟨S.toArray⟩), (⟨bX, 1, none⟩, .slice ag ng kg), (⟨bX, 2, none⟩, .int .i64 M), (⟨bX, 3, none⟩, .int .u32 c), (⟨bX, 4, none⟩, .int .i64 P0), (⟨bX, 5, none⟩, .int .i64 Q0), (⟨bY, 0, none⟩, .string ⟨S.toArray⟩), (⟨bY, 1, none⟩, .slice ah nh kh), (⟨bY, 2, none⟩, .int .i64 N), (⟨bY, 3, none⟩, .int .u32 cm), (⟨bY, 4, none⟩, .int .i64 P1), (⟨bY, 5, none⟩, .int .i64 Q1)] w12.drew := (((((((((((((((((((((((((((((((CL.nil w12).row rY 5 rfl).row rY 4 rfl).row rY 3 rfl).row rY 2 rfl).row rY 1 rfl).row rY 0 rfl).row rX 5 rfl).row rX 4 rfl).row rX 3 rfl).row rX 2 rfl).row rX 1 rfl).row rX 0 rfl).row ro 5 rfl).row ro 4 rfl).row ro 3 rfl).row ro 2 rfl).row ro 1 rfl).row ro 0 rfl).row rn 5 rfl).row rn 4 rfl).row rn 3 rfl).row rn 2 rfl).row rn 1 rfl).row rn 0 rfl).row rm 5 rfl).row rm 4 rfl).row rm 3 rfl).row rm 2 rfl).row rm 1 rfl).row rm 0 rfl).drew
      have HEND := Lib.hid fun D (h : CL w12 [(⟨bm, 0, none⟩, .string ⟨S.toArray⟩), (⟨bm, 1, none⟩, .slice am nm km), (⟨bm, 2, none⟩, .int .i64 JL), (⟨bm, 3, none⟩, .int .u32 JC), (⟨bm, 4, none⟩, .int .i64 PM), (⟨bm, 5, none⟩, .int .i64 QM), (⟨bn, 0, none⟩, .string ⟨S.toArray⟩), (⟨bn, 1, none⟩, .slice an nn kn), (⟨bn, 2, none⟩, .int .i64 JL), (⟨bn, 3, none⟩, .int .u32 JC), (⟨bn, 4, none⟩, .int .i64 PM), (⟨bn, 5, none⟩, .int .i64 QM), (⟨bo, 0, none⟩, .string ⟨S.toArray⟩), (⟨bo, 1, none⟩, .slice ao no ko), (⟨bo, 2, none⟩, .int .i64 M), (⟨bo, 3, none⟩, .int .u32 c), (⟨bo, 4, none⟩, .int .i64 P0), (⟨bo, 5, none⟩, .int .i64 Q0), (⟨bX, 0, none⟩, .string ⟨S.toArray⟩), (⟨bX, 1, none⟩, .slice ag ng kg), (⟨bX, 2, none⟩, .int .i64 M), (⟨bX, 3, none⟩, .int .u32 c), (⟨bX, 4, none⟩, .int .i64 P0), (⟨bX, 5, none⟩, .int .i64 Q0), (⟨bY, 0, none⟩, .string ⟨S.toArray⟩), (⟨bY, 1, none⟩, .slice ah nh kh), (⟨bY, 2, none⟩, .int .i64 N), (⟨bY, 3, none⟩, .int .u32 cm), (⟨bY, 4, none⟩, .int .i64 P1), (⟨bY, 5, none⟩, .int .i64 Q1)] D) => hBw12.trans (h.1.mono hBw12.size)
      have HTD := Lib.hid fun D (h : CL w12 [(⟨bm, 0, none⟩, .string ⟨S.toArray⟩), (⟨bm, 1, none⟩, .slice am nm km), (⟨bm, 2, none⟩, .int .i64 JL), (⟨bm, 3, none⟩, .int .u32 JC), (⟨bm, 4, none⟩, .int .i64 PM), (⟨bm, 5, none⟩, .int .i64 QM), (⟨bn, 0, none⟩, .string ⟨S.toArray⟩), (⟨bn, 1, none⟩, .slice an nn kn), (⟨bn, 2, none⟩, .int .i64 JL), (⟨bn, 3, none⟩, .int .u32 JC), (⟨bn, 4, none⟩, .int .i64 PM), (⟨bn, 5, none⟩, .int .i64 QM), (⟨bo, 0, none⟩, .string ⟨S.toArray⟩), (⟨bo, 1, none⟩, .slice ao no ko), (⟨bo, 2, none⟩, .int .i64 M), (⟨bo, 3, none⟩, .int .u32 c), (⟨bo, 4, none⟩, .int .i64 P0), (⟨bo, 5, none⟩, .int .i64 Q0), (⟨bX, 0, none⟩, .string ⟨S.toArray⟩), (⟨bX, 1, none⟩, .slice ag ng kg), (⟨bX, 2, none⟩, .int .i64 M), (⟨bX, 3, none⟩, .int .u32 c), (⟨bX, 4, none⟩, .int .i64 P0), (⟨bX, 5, none⟩, .int .i64 Q0), (⟨bY, 0, none⟩, .string ⟨S.toArray⟩), (⟨bY, 1, none⟩, .slice ah nh kh), (⟨bY, 2, none⟩, .int .i64 N), (⟨bY, 3, none⟩, .int .u32 cm), (⟨bY, 4, none⟩, .int .i64 P1), (⟨bY, 5, none⟩, .int .i64 Q1)] D) => HT.out D (hBw12.trans (h.1.mono hBw12.size))
      clear rm rn ro rX rY rT HT hBw12
      change wpAnyH _ _ _ _ _ _ _ _ w12.drew
      generalize w12.drew = D0 at *
      refine held_val 0 rfl (by kernel_rfl) (by kernel_rfl) (by kernel_rfl) (fun _ _ _ _ h => h) (by rfl) hS ?_
      apply Exists.intro
      refine ⟨fun w' hw' => ?_, ?_⟩
      · skip
        go_simp
        first | done | rfl | exact ⟨rfl, rfl⟩
      simp only [Act.put, List.setIfInBounds_toArray, List.set_cons_zero, List.set_cons_succ]
      refine held_val 1 rfl (by kernel_rfl) (by kernel_rfl) (by kernel_rfl) (fun _ _ _ _ h => h) (by rfl) hS ?_
      apply Exists.intro
      refine ⟨fun w' hw' => ?_, ?_⟩
      · skip
        go_simp
        first | done | rfl | exact ⟨rfl, rfl⟩
      simp only [Act.put, List.setIfInBounds_toArray, List.set_cons_zero, List.set_cons_succ]
      refine held_val 2 rfl (by kernel_rfl) (by kernel_rfl) (by kernel_rfl) (fun _ _ _ _ h => h) (by rfl) hS ?_
      apply Exists.intro
      refine ⟨fun w' hw' => ?_, ?_⟩
      · skip
        go_simp
        first | done | rfl | exact ⟨rfl, rfl⟩
      simp only [Act.put, List.setIfInBounds_toArray, List.set_cons_zero, List.set_cons_succ]
      refine held_val 3 rfl (by kernel_rfl) (by kernel_rfl) (by kernel_rfl) (fun _ _ _ _ h => h) (by rfl) hS ?_
      apply Exists.intro
      refine ⟨fun w' hw' => ?_, ?_⟩
      · skip
        go_simp
        first | done | rfl | exact ⟨rfl, rfl⟩
      simp only [Act.put, List.setIfInBounds_toArray, List.set_cons_zero, List.set_cons_succ]
      refine held_val 4 rfl (by kernel_rfl) (by kernel_rfl) (by kernel_rfl) (fun _ _ _ _ h => h) (by rfl) hS ?_
      apply Exists.intro
      refine ⟨fun w' hw' => ?_, ?_⟩
      · skip
        go_simp
        first | done | rfl | exact ⟨rfl, rfl⟩
      simp only [Act.put, List.setIfInBounds_toArray, List.set_cons_zero, List.set_cons_succ]
      refine held_val 5 rfl (by kernel_rfl) (by kernel_rfl) (by kernel_rfl) (fun _ _ _ _ h => h) (by rfl) hS ?_
      apply Exists.intro
      refine ⟨fun w' hw' => ?_, ?_⟩
      · skip
        go_simp
        first | done | rfl | exact ⟨rfl, rfl⟩
      simp only [Act.put, List.setIfInBounds_toArray, List.set_cons_zero, List.set_cons_succ]
      refine held_val 6 rfl (by kernel_rfl) (by kernel_rfl) (by kernel_rfl) (fun _ _ _ _ h => h) (by rfl) hS ?_
      apply Exists.intro
      refine ⟨fun w' hw' => ?_, ?_⟩
      · skip
        go_simp
        first | done | rfl | exact ⟨rfl, rfl⟩
      simp only [Act.put, List.setIfInBounds_toArray, List.set_cons_zero, List.set_cons_succ]
      refine held_val 7 rfl (by kernel_rfl) (by kernel_rfl) (by kernel_rfl) (fun _ _ _ _ h => h) (by rfl) hS ?_
      apply Exists.intro
      refine ⟨fun w' hw' => ?_, ?_⟩
      · skip
        go_simp
        first | done | rfl | exact ⟨rfl, rfl⟩
      simp only [Act.put, List.setIfInBounds_toArray, List.set_cons_zero, List.set_cons_succ]
      refine held_val 8 rfl (by kernel_rfl) (by kernel_rfl) (by kernel_rfl) (fun _ _ _ _ h => h) (by rfl) hS ?_
      apply Exists.intro
      refine ⟨fun w' hw' => ?_, ?_⟩
      · have e0 := hw'.at 0 rfl; have e1 := hw'.at 1 rfl; have e2 := hw'.at 2 rfl; have e3 := hw'.at 3 rfl; have e4 := hw'.at 4 rfl; have e5 := hw'.at 5 rfl
        go_simp
        first | done | rfl | exact ⟨rfl, rfl⟩
      simp only [Act.put, List.setIfInBounds_toArray, List.set_cons_zero, List.set_cons_succ]
      refine held_val 9 rfl (by kernel_rfl) (by kernel_rfl) (by kernel_rfl) (fun _ _ _ _ h => h) (by rfl) hS ?_
      apply Exists.intro
      refine ⟨fun w' hw' => ?_, ?_⟩
      · have e6 := hw'.at 6 rfl; have e7 := hw'.at 7 rfl; have e8 := hw'.at 8 rfl; have e9 := hw'.at 9 rfl; have e10 := hw'.at 10 rfl; have e11 := hw'.at 11 rfl
        go_simp
        first | done | rfl | exact ⟨rfl, rfl⟩
      simp only [Act.put, List.setIfInBounds_toArray, List.set_cons_zero, List.set_cons_succ]
      have KC := samea_any (fun _ => True) (fun _ => True) S S ⟨am, nm, km⟩ ⟨an, nn, kn⟩ F F JL JC PM QM JL JC PM QM D0 (hm.stay hS.1) (hn.stay hS.1) (by omega)
      rw [samea_self] at KC
      unfold alV at KC
      simp only [Sl.v] at KC
      replace KC := Lib.hid KC
      refine held_call 10 (by kernel_rfl) rfl (by rfl) ?_
      apply Exists.intro
      apply Exists.intro
      refine ⟨?_, ?_⟩
      · go_simp
        first | done | rfl | exact ⟨rfl, rfl⟩
      refine KC.out.mono ?_
      rintro e D1 ⟨rfl, hb⟩
      replace hS := hS.go hb
      refine ⟨_, rfl, hS, ?_⟩
      clear KC hb
      simp only [Act.put, List.setIfInBounds_toArray, List.set_cons_zero, List.set_cons_succ]
      refine held_val 11 rfl (by kernel_rfl) (by kernel_rfl) (by kernel_rfl) (fun _ _ _ _ h => h) (by rfl) hS ?_
      apply Exists.intro
      refine ⟨fun w' hw' => ?_, ?_⟩
      · skip
        go_simp
        first | done | rfl | exact ⟨rfl, rfl⟩
      simp only [Act.put, List.setIfInBounds_toArray, List.set_cons_zero, List.set_cons_succ]
      refine held_val 12 rfl (by kernel_rfl) (by kernel_rfl) (by kernel_rfl) (fun _ _ _ _ h => h) (by rfl) hS ?_
      apply Exists.intro
      refine ⟨fun w' hw' => ?_, ?_⟩
      · skip
        go_simp
        first | done | rfl | exact ⟨rfl, rfl⟩
      simp only [Act.put, List.setIfInBounds_toArray, List.set_cons_zero, List.set_cons_succ]
      refine held_val 13 rfl (by kernel_rfl) (by kernel_rfl) (by kernel_rfl) (fun _ _ _ _ h => h) (by rfl) hS ?_
      apply Exists.intro
      refine ⟨fun w' hw' => ?_, ?_⟩
      · have e12 := hw'.at 12 rfl; have e13 := hw'.at 13 rfl; have e14 := hw'.at 14 rfl; have e15 := hw'.at 15 rfl; have e16 := hw'.at 16 rfl; have e17 := hw'.at 17 rfl
        go_simp
        first | done | rfl | exact ⟨rfl, rfl⟩
      simp only [Act.put, List.setIfInBounds_toArray, List.set_cons_zero, List.set_cons_succ]
      refine held_val 14 rfl (by kernel_rfl) (by kernel_rfl) (by kernel_rfl) (fun _ _ _ _ h => h) (by rfl) hS ?_
      apply Exists.intro
      refine ⟨fun w' hw' => ?_, ?_⟩
      · have e18 := hw'.at 18 rfl; have e19 := hw'.at 19 rfl; have e20 := hw'.at 20 rfl; have e21 := hw'.at 21 rfl; have e22 := hw'.at 22 rfl; have e23 := hw'.at 23 rfl
        go_simp
        first | done | rfl | exact ⟨rfl, rfl⟩
      simp only [Act.put, List.setIfInBounds_toArray, List.set_cons_zero, List.set_cons_succ]
      have KC := samea_any (fun _ => True) (fun _ => True) S S ⟨ao, no, ko⟩ ⟨ag, ng, kg⟩ F F M c P0 Q0 M c P0 Q0 D1 (ho.stay hS.1) (hz.stay hS.1) (by omega)
      rw [samea_self] at KC
      unfold alV at KC
      simp only [Sl.v] at KC
      replace KC := Lib.hid KC
      refine held_call 15 (by kernel_rfl) rfl (by rfl) ?_
      apply Exists.intro
      apply Exists.intro
      refine ⟨?_, ?_⟩
      · go_simp
        first | done | rfl | exact ⟨rfl, rfl⟩
      refine KC.out.mono ?_
      rintro e D2 ⟨rfl, hb⟩
      replace hS := hS.go hb
      refine ⟨_, rfl, hS, ?_⟩
      clear KC hb
      simp only [Act.put, List.setIfInBounds_toArray, List.set_cons_zero, List.set_cons_succ]
      refine held_val 16 rfl (by kernel_rfl) (by kernel_rfl) (by kernel_rfl) (fun _ _ _ _ h => h) (by rfl) hS ?_
      apply Exists.intro
      refine ⟨fun w' hw' => ?_, ?_⟩
      · skip
        go_simp
        first | done | rfl | exact ⟨rfl, rfl⟩
      simp only [Act.put, List.setIfInBounds_toArray, List.set_cons_zero, List.set_cons_succ]
      refine held_val 17 rfl (by kernel_rfl) (by kernel_rfl) (by kernel_rfl) (fun _ _ _ _ h => h) (by rfl) hS ?_
      apply Exists.intro
      refine ⟨fun w' hw' => ?_, ?_⟩
      · skip
        go_simp
        first | done | rfl | exact ⟨rfl, rfl⟩
      simp only [Act.put, List.setIfInBounds_toArray, List.set_cons_zero, List.set_cons_succ]
      refine held_val 18 rfl (by kernel_rfl) (by kernel_rfl) (by kernel_rfl) (fun _ _ _ _ h => h) (by rfl) hS ?_
      apply Exists.intro
      refine ⟨fun w' hw' => ?_, ?_⟩
      · skip
        go_simp
        first | done | rfl | exact ⟨rfl, rfl⟩
      simp only [Act.put, List.setIfInBounds_toArray, List.set_cons_zero, List.set_cons_succ]
      refine held_val 19 rfl (by kernel_rfl) (by kernel_rfl) (by kernel_rfl) (fun _ _ _ _ h => h) (by rfl) hS ?_
      apply Exists.intro
      refine ⟨fun w' hw' => ?_, ?_⟩
      · skip
        go_simp
        first | done | rfl | exact ⟨rfl, rfl⟩
      simp only [Act.put, List.setIfInBounds_toArray, List.set_cons_zero, List.set_cons_succ]
      refine held_val 20 rfl (by kernel_rfl) (by kernel_rfl) (by kernel_rfl) (fun _ _ _ _ h => h) (by rfl) hS ?_
      apply Exists.intro
      refine ⟨fun w' hw' => ?_, ?_⟩
      · skip
        go_simp
        first | done | rfl | exact ⟨rfl, rfl⟩
      simp only [Act.put, List.setIfInBounds_toArray, List.set_cons_zero, List.set_cons_succ]
      refine held_val 21 rfl (by kernel_rfl) (by kernel_rfl) (by kernel_rfl) (fun _ _ _ _ h => h) (by rfl) hS ?_
      apply Exists.intro
      refine ⟨fun w' hw' => ?_, ?_⟩
      · have e0 := hw'.at 0 rfl; have e1 := hw'.at 1 rfl; have e2 := hw'.at 2 rfl; have e3 := hw'.at 3 rfl; have e4 := hw'.at 4 rfl; have e5 := hw'.at 5 rfl
        go_simp
        first | done | rfl | exact ⟨rfl, rfl⟩
      simp only [Act.put, List.setIfInBounds_toArray, List.set_cons_zero, List.set_cons_succ]
      refine held_val 22 rfl (by kernel_rfl) (by kernel_rfl) (by kernel_rfl) (fun _ _ _ _ h => h) (by rfl) hS ?_
      apply Exists.intro
      refine ⟨fun w' hw' => ?_, ?_⟩
      · skip
        go_simp
        first | done | rfl | exact ⟨rfl, rfl⟩
      simp only [Act.put, List.setIfInBounds_toArray, List.set_cons_zero, List.set_cons_succ]
      have KC := fires_any S ⟨am, nm, km⟩ JL JC PM QM b2 D2
      rw [hfm] at KC
      unfold alV at KC
      simp only [Sl.v] at KC
      replace KC := Lib.hid KC
      refine held_call 23 (by kernel_rfl) rfl (by rfl) ?_
      apply Exists.intro
      apply Exists.intro
      refine ⟨?_, ?_⟩
      · go_simp
        first | done | rfl | exact ⟨rfl, rfl⟩
      refine KC.out.mono ?_
      rintro e D3 ⟨rfl, hb⟩
      replace hS := hS.go hb
      refine ⟨_, rfl, hS, ?_⟩
      clear KC hb
      simp only [Act.put, List.setIfInBounds_toArray, List.set_cons_zero, List.set_cons_succ]
      refine held_val 24 rfl (by kernel_rfl) (by kernel_rfl) (by kernel_rfl) (fun _ _ _ _ h => h) (by rfl) hS ?_
      apply Exists.intro
      refine ⟨fun w' hw' => ?_, ?_⟩
      · skip
        go_simp
        first | done | rfl | exact ⟨rfl, rfl⟩
      simp only [Act.put, List.setIfInBounds_toArray, List.set_cons_zero, List.set_cons_succ]
      refine held_val 25 rfl (by kernel_rfl) (by kernel_rfl) (by kernel_rfl) (fun _ _ _ _ h => h) (by rfl) hS ?_
      apply Exists.intro
      refine ⟨fun w' hw' => ?_, ?_⟩
      · skip
        go_simp
        first | done | rfl | exact ⟨rfl, rfl⟩
      simp only [Act.put, List.setIfInBounds_toArray, List.set_cons_zero, List.set_cons_succ]
      refine held_val 26 rfl (by kernel_rfl) (by kernel_rfl) (by kernel_rfl) (fun _ _ _ _ h => h) (by rfl) hS ?_
      apply Exists.intro
      refine ⟨fun w' hw' => ?_, ?_⟩
      · skip
        go_simp
        first | done | rfl | exact ⟨rfl, rfl⟩
      simp only [Act.put, List.setIfInBounds_toArray, List.set_cons_zero, List.set_cons_succ]
      refine held_val 27 rfl (by kernel_rfl) (by kernel_rfl) (by kernel_rfl) (fun _ _ _ _ h => h) (by rfl) hS ?_
      apply Exists.intro
      refine ⟨fun w' hw' => ?_, ?_⟩
      · have e0 := hw'.at 0 rfl; have e1 := hw'.at 1 rfl; have e2 := hw'.at 2 rfl; have e3 := hw'.at 3 rfl; have e4 := hw'.at 4 rfl; have e5 := hw'.at 5 rfl
        go_simp
        first | done | rfl | exact ⟨rfl, rfl⟩
      simp only [Act.put, List.setIfInBounds_toArray, List.set_cons_zero, List.set_cons_succ]
      refine held_val 29 rfl (by kernel_rfl) (by kernel_rfl) (by kernel_rfl) (fun _ _ _ _ h => h) (by rfl) hS ?_
      apply Exists.intro
      refine ⟨fun w' hw' => ?_, ?_⟩
      · have e18 := hw'.at 18 rfl; have e19 := hw'.at 19 rfl; have e20 := hw'.at 20 rfl; have e21 := hw'.at 21 rfl; have e22 := hw'.at 22 rfl; have e23 := hw'.at 23 rfl
        go_simp
        first | done | rfl | exact ⟨rfl, rfl⟩
      simp only [Act.put, List.setIfInBounds_toArray, List.set_cons_zero, List.set_cons_succ]
      have KC := id_any (fun _ => True) S ⟨am, nm, km⟩ F JL JC PM QM D3 (HTD.out D3 hS) (hm.stay hS.1) (by omega) (by omega)
      unfold alV at KC
      simp only [Sl.v] at KC
      replace KC := Lib.hid KC
      refine held_call 28 (by kernel_rfl) rfl (by rfl) ?_
      apply Exists.intro
      apply Exists.intro
      refine ⟨?_, ?_⟩
      · go_simp
        first | done | rfl | exact ⟨rfl, rfl⟩
      refine KC.out.mono ?_
      rintro e D4 ⟨rfl, hb⟩
      replace hS := hS.go hb
      refine ⟨_, rfl, hS, ?_⟩
      clear KC hb
      simp only [Act.put, List.setIfInBounds_toArray, List.set_cons_zero, List.set_cons_succ]
      have KC := id_any (fun _ => True) S ⟨ag, ng, kg⟩ F M c P0 Q0 D4 (HTD.out D4 hS) (hz.stay hS.1) (by omega) (by omega)
      unfold alV at KC
      simp only [Sl.v] at KC
      replace KC := Lib.hid KC
      refine held_call 30 (by kernel_rfl) rfl (by rfl) ?_
      apply Exists.intro
      apply Exists.intro
      refine ⟨?_, ?_⟩
      · go_simp
        first | done | rfl | exact ⟨rfl, rfl⟩
      refine KC.out.mono ?_
      rintro e D5 ⟨rfl, hb⟩
      replace hS := hS.go hb
      refine ⟨_, rfl, hS, ?_⟩
      clear KC hb
      simp only [Act.put, List.setIfInBounds_toArray, List.set_cons_zero, List.set_cons_succ]
      refine held_val 31 rfl (by kernel_rfl) (by kernel_rfl) (by kernel_rfl) (fun _ _ _ _ h => h) (by rfl) hS ?_
      apply Exists.intro
      refine ⟨fun w' hw' => ?_, ?_⟩
      · skip
        go_simp
        first | done | rfl | exact ⟨rfl, rfl⟩
      simp only [Act.put, List.setIfInBounds_toArray, List.set_cons_zero, List.set_cons_succ]
      refine held_val 32 rfl (by kernel_rfl) (by kernel_rfl) (by kernel_rfl) (fun _ _ _ _ h => h) (by rfl) hS ?_
      apply Exists.intro
      refine ⟨fun w' hw' => ?_, ?_⟩
      · skip
        go_simp
        first | done | rfl | exact ⟨rfl, rfl⟩
      simp only [Act.put, List.setIfInBounds_toArray, List.set_cons_zero, List.set_cons_succ]
      refine held_val 33 rfl (by kernel_rfl) (by kernel_rfl) (by kernel_rfl) (fun _ _ _ _ h => h) (by rfl) hS ?_
      apply Exists.intro
      refine ⟨fun w' hw' => ?_, ?_⟩
      · skip
        go_simp
        first | done | rfl | exact ⟨rfl, rfl⟩
      simp only [Act.put, List.setIfInBounds_toArray, List.set_cons_zero, List.set_cons_succ]
      refine held_val 34 rfl (by kernel_rfl) (by kernel_rfl) (by kernel_rfl) (fun _ _ _ _ h => h) (by rfl) hS ?_
      apply Exists.intro
      refine ⟨fun w' hw' => ?_, ?_⟩
      · skip
        go_simp
        first | done | rfl | exact ⟨rfl, rfl⟩
      simp only [Act.put, List.setIfInBounds_toArray, List.set_cons_zero, List.set_cons_succ]
      refine held_val 35 rfl (by kernel_rfl) (by kernel_rfl) (by kernel_rfl) (fun _ _ _ _ h => h) (by rfl) hS ?_
      apply Exists.intro
      refine ⟨fun w' hw' => ?_, ?_⟩
      · have e20 := hw'.at 20 rfl; have e21 := hw'.at 21 rfl
        go_simp
        first | done | rfl | exact ⟨rfl, rfl⟩
      simp only [Act.put, List.setIfInBounds_toArray, List.set_cons_zero, List.set_cons_succ]
      refine held_val 36 rfl (by kernel_rfl) (by kernel_rfl) (by kernel_rfl) (fun _ _ _ _ h => h) (by rfl) hS ?_
      apply Exists.intro
      refine ⟨fun w' hw' => ?_, ?_⟩
      · skip
        go_simp
        first | done | rfl | exact ⟨rfl, rfl⟩
      simp only [Act.put, List.setIfInBounds_toArray, List.set_cons_zero, List.set_cons_succ]
      refine held_val 37 rfl (by kernel_rfl) (by kernel_rfl) (by kernel_rfl) (fun _ _ _ _ h => h) (by rfl) hS ?_
      apply Exists.intro
      refine ⟨fun w' hw' => ?_, ?_⟩
      · have e2 := hw'.at 2 rfl; have e3 := hw'.at 3 rfl
        go_simp
        first | done | rfl | exact ⟨rfl, rfl⟩
      simp only [Act.put, List.setIfInBounds_toArray, List.set_cons_zero, List.set_cons_succ]
      have KC := Lb.rflows_any M c JL JC hc.1 hc.2 hJU.1 hJU.2 D5
      rw [hup.1] at KC
      replace KC := Lib.hid KC
      refine held_call 38 (by kernel_rfl) rfl (by rfl) ?_
      apply Exists.intro
      apply Exists.intro
      refine ⟨?_, ?_⟩
      · go_simp
        first | done | rfl | exact ⟨rfl, rfl⟩
      refine KC.out.mono ?_
      rintro e D6 ⟨rfl, hb⟩
      replace hS := hS.go hb
      refine ⟨_, rfl, hS, ?_⟩
      clear KC hb
      simp only [Act.put, List.setIfInBounds_toArray, List.set_cons_zero, List.set_cons_succ]
      refine held_val 39 rfl (by kernel_rfl) (by kernel_rfl) (by kernel_rfl) (fun _ _ _ _ h => h) (by rfl) hS ?_
      apply Exists.intro
      refine ⟨fun w' hw' => ?_, ?_⟩
      · skip
        go_simp
        first | done | rfl | exact ⟨rfl, rfl⟩
      simp only [Act.put, List.setIfInBounds_toArray, List.set_cons_zero, List.set_cons_succ]
      refine held_val 40 rfl (by kernel_rfl) (by kernel_rfl) (by kernel_rfl) (fun _ _ _ _ h => h) (by rfl) hS ?_
      apply Exists.intro
      refine ⟨fun w' hw' => ?_, ?_⟩
      · skip
        go_simp
        first | done | rfl | exact ⟨rfl, rfl⟩
      simp only [Act.put, List.setIfInBounds_toArray, List.set_cons_zero, List.set_cons_succ]
      refine held_val 41 rfl (by kernel_rfl) (by kernel_rfl) (by kernel_rfl) (fun _ _ _ _ h => h) (by rfl) hS ?_
      apply Exists.intro
      refine ⟨fun w' hw' => ?_, ?_⟩
      · skip
        go_simp
        first | done | rfl | exact ⟨rfl, rfl⟩
      simp only [Act.put, List.setIfInBounds_toArray, List.set_cons_zero, List.set_cons_succ]
      refine held_val 42 rfl (by kernel_rfl) (by kernel_rfl) (by kernel_rfl) (fun _ _ _ _ h => h) (by rfl) hS ?_
      apply Exists.intro
      refine ⟨fun w' hw' => ?_, ?_⟩
      · have e26 := hw'.at 26 rfl; have e27 := hw'.at 27 rfl
        go_simp
        first | done | rfl | exact ⟨rfl, rfl⟩
      simp only [Act.put, List.setIfInBounds_toArray, List.set_cons_zero, List.set_cons_succ]
      refine held_val 43 rfl (by kernel_rfl) (by kernel_rfl) (by kernel_rfl) (fun _ _ _ _ h => h) (by rfl) hS ?_
      apply Exists.intro
      refine ⟨fun w' hw' => ?_, ?_⟩
      · skip
        go_simp
        first | done | rfl | exact ⟨rfl, rfl⟩
      simp only [Act.put, List.setIfInBounds_toArray, List.set_cons_zero, List.set_cons_succ]
      refine held_val 44 rfl (by kernel_rfl) (by kernel_rfl) (by kernel_rfl) (fun _ _ _ _ h => h) (by rfl) hS ?_
      apply Exists.intro
      refine ⟨fun w' hw' => ?_, ?_⟩
      · have e2 := hw'.at 2 rfl; have e3 := hw'.at 3 rfl
        go_simp
        first | done | rfl | exact ⟨rfl, rfl⟩
      simp only [Act.put, List.setIfInBounds_toArray, List.set_cons_zero, List.set_cons_succ]
      have KC := Lb.rflows_any N cm JL JC hd.1 hd.2 hJU.1 hJU.2 D6
      rw [hup.2] at KC
      replace KC := Lib.hid KC
      refine held_call 45 (by kernel_rfl) rfl (by rfl) ?_
      apply Exists.intro
      apply Exists.intro
      refine ⟨?_, ?_⟩
      · go_simp
        first | done | rfl | exact ⟨rfl, rfl⟩
      refine KC.out.mono ?_
      rintro e D7 ⟨rfl, hb⟩
      replace hS := hS.go hb
      refine ⟨_, rfl, hS, ?_⟩
      clear KC hb
      simp only [Act.put, List.setIfInBounds_toArray, List.set_cons_zero, List.set_cons_succ]
      refine held_val 46 rfl (by kernel_rfl) (by kernel_rfl) (by kernel_rfl) (fun _ _ _ _ h => h) (by rfl) hS ?_
      apply Exists.intro
      refine ⟨fun w' hw' => ?_, ?_⟩
      · skip
        go_simp
        first | done | rfl | exact ⟨rfl, rfl⟩
      simp only [Act.put, List.setIfInBounds_toArray, List.set_cons_zero, List.set_cons_succ]
      refine held_val 47 rfl (by kernel_rfl) (by kernel_rfl) (by kernel_rfl) (fun _ _ _ _ h => h) (by rfl) hS ?_
      apply Exists.intro
      refine ⟨fun w' hw' => ?_, ?_⟩
      · skip
        go_simp
        first | done | rfl | exact ⟨rfl, rfl⟩
      simp only [Act.put, List.setIfInBounds_toArray, List.set_cons_zero, List.set_cons_succ]
      refine held_val 48 rfl (by kernel_rfl) (by kernel_rfl) (by kernel_rfl) (fun _ _ _ _ h => h) (by rfl) hS ?_
      apply Exists.intro
      refine ⟨fun w' hw' => ?_, ?_⟩
      · have e0 := hw'.at 0 rfl; have e1 := hw'.at 1 rfl; have e2 := hw'.at 2 rfl; have e3 := hw'.at 3 rfl; have e4 := hw'.at 4 rfl; have e5 := hw'.at 5 rfl
        go_simp
        first | done | rfl | exact ⟨rfl, rfl⟩
      simp only [Act.put, List.setIfInBounds_toArray, List.set_cons_zero, List.set_cons_succ]
      have KC := aright_any (fun _ => True) S ⟨am, nm, km⟩ F JL JC PM QM D7 (hm.stay hS.1) (by omega) (by omega) hFm
      rw [hJ] at KC
      unfold alV at KC
      simp only [Sl.v] at KC
      replace KC := Lib.hid KC
      refine held_call 49 (by kernel_rfl) rfl (by rfl) ?_
      apply Exists.intro
      apply Exists.intro
      refine ⟨?_, ?_⟩
      · go_simp
        first | done | rfl | exact ⟨rfl, rfl⟩
      refine KC.out.mono ?_
      rintro e D8 ⟨rfl, hb⟩
      replace hS := hS.go hb
      refine ⟨_, rfl, hS, ?_⟩
      clear KC hb
      simp only [Act.put, List.setIfInBounds_toArray, List.set_cons_zero, List.set_cons_succ]
      refine held_val 50 rfl (by kernel_rfl) (by kernel_rfl) (by kernel_rfl) (fun _ _ _ _ h => h) (by rfl) hS ?_
      apply Exists.intro
      refine ⟨fun w' hw' => ?_, ?_⟩
      · skip
        go_simp
        first | done | rfl | exact ⟨rfl, rfl⟩
      simp only [Act.put, List.setIfInBounds_toArray, List.set_cons_zero, List.set_cons_succ]
      refine held_val 51 rfl (by kernel_rfl) (by kernel_rfl) (by kernel_rfl) (fun _ _ _ _ h => h) (by rfl) hS ?_
      apply Exists.intro
      refine ⟨fun w' hw' => ?_, ?_⟩
      · skip
        go_simp
        first | done | rfl | exact ⟨rfl, rfl⟩
      simp only [Act.put, List.setIfInBounds_toArray, List.set_cons_zero, List.set_cons_succ]
      refine held_val 52 rfl (by kernel_rfl) (by kernel_rfl) (by kernel_rfl) (fun _ _ _ _ h => h) (by rfl) hS ?_
      apply Exists.intro
      refine ⟨fun w' hw' => ?_, ?_⟩
      · skip
        go_simp
        first | done | rfl | exact ⟨rfl, rfl⟩
      simp only [Act.put, List.setIfInBounds_toArray, List.set_cons_zero, List.set_cons_succ]
      refine held_val 53 rfl (by kernel_rfl) (by kernel_rfl) (by kernel_rfl) (fun _ _ _ _ h => h) (by rfl) hS ?_
      apply Exists.intro
      refine ⟨fun w' hw' => ?_, ?_⟩
      · have e1 := hw'.at 1 rfl
        go_simp
        first | done | rfl | exact ⟨rfl, rfl⟩
      simp only [Act.put, List.setIfInBounds_toArray, List.set_cons_zero, List.set_cons_succ]
      refine held_val 54 rfl (by kernel_rfl) (by kernel_rfl) (by kernel_rfl) (fun _ _ _ _ h => h) (by rfl) hS ?_
      apply Exists.intro
      refine ⟨fun w' hw' => ?_, ?_⟩
      · skip
        go_simp
        first | done | rfl | exact ⟨rfl, rfl⟩
      simp only [Act.put, List.setIfInBounds_toArray, List.set_cons_zero, List.set_cons_succ]
      refine held_val 55 rfl (by kernel_rfl) (by kernel_rfl) (by kernel_rfl) (fun _ _ _ _ h => h) (by rfl) hS ?_
      apply Exists.intro
      refine ⟨fun w' hw' => ?_, ?_⟩
      · have e19 := hw'.at 19 rfl
        go_simp
        first | done | rfl | exact ⟨rfl, rfl⟩
      simp only [Act.put, List.setIfInBounds_toArray, List.set_cons_zero, List.set_cons_succ]
      have KC := same_any (fun _ => True) (fun _ => True) (.slice am nm km) (.slice ag ng kg) F F D8 (hm.stay hS.1) (hz.stay hS.1) (by omega)
      rw [beq_self_eq_true] at KC
      replace KC := Lib.hid KC
      refine held_call 56 (by kernel_rfl) rfl (by rfl) ?_
      apply Exists.intro
      apply Exists.intro
      refine ⟨?_, ?_⟩
      · go_simp
        first | done | rfl | exact ⟨rfl, rfl⟩
      refine KC.out.mono ?_
      rintro e D9 ⟨rfl, hb⟩
      replace hS := hS.go hb
      refine ⟨_, rfl, hS, ?_⟩
      clear KC hb
      simp only [Act.put, List.setIfInBounds_toArray, List.set_cons_zero, List.set_cons_succ]
      refine held_val 57 rfl (by kernel_rfl) (by kernel_rfl) (by kernel_rfl) (fun _ _ _ _ h => h) (by rfl) hS ?_
      apply Exists.intro
      refine ⟨fun w' hw' => ?_, ?_⟩
      · skip
        go_simp
        first | done | rfl | exact ⟨rfl, rfl⟩
      simp only [Act.put, List.setIfInBounds_toArray, List.set_cons_zero, List.set_cons_succ]
      refine held_val 58 rfl (by kernel_rfl) (by kernel_rfl) (by kernel_rfl) (fun _ _ _ _ h => h) (by rfl) hS ?_
      apply Exists.intro
      refine ⟨fun w' hw' => ?_, ?_⟩
      · skip
        go_simp
        first | done | rfl | exact ⟨rfl, rfl⟩
      simp only [Act.put, List.setIfInBounds_toArray, List.set_cons_zero, List.set_cons_succ]
      refine wpAnyH_done (by kernel_rfl) ?_ _
      have hBE := HEND.out D9 hS
      clear hS HEND HTD
      go_wp2_with fail
      go_ret
      exact ⟨rfl, hBE⟩
    | false =>
      have c0 := Rw.cell rY 0
      have c1 := Rw.cell rY 1
      have c2 := Rw.cell rY 2
      have c3 := Rw.cell rY 3
      have c4 := Rw.cell rY 4
      have c5 := Rw.cell rY 5
      simp only [List.getElem?_cons_zero, List.getElem?_cons_succ] at c0 c1 c2 c3 c4 c5
      have KF := fires_any S ⟨ah, nh, kh⟩ N cm P1 Q1 b2 x12
      unfold alV at KF
      simp only [Sl.v] at KF
      obtain ⟨f1, hf1⟩ : ∃ f1, firesB P1 Q1 b2 = f1 := ⟨_, rfl⟩
      rw [hf1] at KF hfi
      replace KF := Lib.hid KF
      go_wp2_with fail
      refine KF.out.mono ?_
      rintro e w12 ⟨rfl, hb⟩
      have hBw12 := hBx12.trans (hb.mono hBx12.size)
      replace rX := rX.stay hb
      replace rY := rY.stay hb
      replace rT := rT.stay hb
      replace hz := hz.stay hb
      replace hy := hy.stay hb
      replace rm := rm.stay hb
      replace hm := hm.stay hb
      replace rn := rn.stay hb
      replace hn := hn.stay hb
      replace ro := ro.stay hb
      replace ho := ho.stay hb
      clear KF hb hBx12 c0 c1 c2 c3 c4 c5 hf1
      cases f1 with
      | true =>
        have hfm := hfi (.inr rfl)
        clear hfi
        go_upto_region 13 with fail
        refine wp_region_held (S := CL w12 [(⟨bm, 0, none⟩, .string ⟨S.toArray⟩), (⟨bm, 1, none⟩, .slice am nm km), (⟨bm, 2, none⟩, .int .i64 JL), (⟨bm, 3, none⟩, .int .u32 JC), (⟨bm, 4, none⟩, .int .i64 PM), (⟨bm, 5, none⟩, .int .i64 QM), (⟨bn, 0, none⟩, .string ⟨S.toArray⟩), (⟨bn, 1, none⟩, .slice an nn kn), (⟨bn, 2, none⟩, .int .i64 JL), (⟨bn, 3, none⟩, .int .u32 JC), (⟨bn, 4, none⟩, .int .i64 PM), (⟨bn, 5, none⟩, .int .i64 QM), (⟨bo, 0, none⟩, .string ⟨S.toArray⟩), (⟨bo, 1, none⟩, .slice ao no ko), (⟨bo, 2, none⟩, .int .i64 M), (⟨bo, 3, none⟩, .int .u32 c), (⟨bo, 4, none⟩, .int .i64 P0), (⟨bo, 5, none⟩, .int .i64 Q0), (⟨bX, 0, none⟩, .string ⟨S.toArray⟩), (⟨bX, 1, none⟩, .slice ag ng kg), (⟨bX, 2, none⟩, .int .i64 M), (⟨bX, 3, none⟩, .int .u32 c), (⟨bX, 4, none⟩, .int .i64 P0), (⟨bX, 5, none⟩, .int .i64 Q0), (⟨bY, 0, none⟩, .string ⟨S.toArray⟩), (⟨bY, 1, none⟩, .slice ah nh kh), (⟨bY, 2, none⟩, .int .i64 N), (⟨bY, 3, none⟩, .int .u32 cm), (⟨bY, 4, none⟩, .int .i64 P1), (⟨bY, 5, none⟩, .int .i64 Q1)]) (by kernel_rfl) ?_
        have hS : CL w12 [(⟨bm, 0, none⟩, .string ⟨S.toArray⟩), (⟨bm, 1, none⟩, .slice am nm km), (⟨bm, 2, none⟩, .int .i64 JL), (⟨bm, 3, none⟩, .int .u32 JC), (⟨bm, 4, none⟩, .int .i64 PM), (⟨bm, 5, none⟩, .int .i64 QM), (⟨bn, 0, none⟩, .string ⟨S.toArray⟩), (⟨bn, 1, none⟩, .slice an nn kn), (⟨bn, 2, none⟩, .int .i64 JL), (⟨bn, 3, none⟩, .int .u32 JC), (⟨bn, 4, none⟩, .int .i64 PM), (⟨bn, 5, none⟩, .int .i64 QM), (⟨bo, 0, none⟩, .string ⟨S.toArray⟩), (⟨bo, 1, none⟩, .slice ao no ko), (⟨bo, 2, none⟩, .int .i64 M), (⟨bo, 3, none⟩, .int .u32 c), (⟨bo, 4, none⟩, .int .i64 P0), (⟨bo, 5, none⟩, .int .i64 Q0), (⟨bX, 0, none⟩, .string ⟨S.toArray⟩), (⟨bX, 1, none⟩, .slice ag ng kg), (⟨bX, 2, none⟩, .int .i64 M), (⟨bX, 3, none⟩, .int .u32 c), (⟨bX, 4, none⟩, .int .i64 P0), (⟨bX, 5, none⟩, .int .i64 Q0), (⟨bY, 0, none⟩, .string ⟨S.toArray⟩), (⟨bY, 1, none⟩, .slice ah nh kh), (⟨bY, 2, none⟩, .int .i64 N), (⟨bY, 3, none⟩, .int .u32 cm), (⟨bY, 4, none⟩, .int .i64 P1), (⟨bY, 5, none⟩, .int .i64 Q1)] w12.drew := (((((((((((((((((((((((((((((((CL.nil w12).row rY 5 rfl).row rY 4 rfl).row rY 3 rfl).row rY 2 rfl).row rY 1 rfl).row rY 0 rfl).row rX 5 rfl).row rX 4 rfl).row rX 3 rfl).row rX 2 rfl).row rX 1 rfl).row rX 0 rfl).row ro 5 rfl).row ro 4 rfl).row ro 3 rfl).row ro 2 rfl).row ro 1 rfl).row ro 0 rfl).row rn 5 rfl).row rn 4 rfl).row rn 3 rfl).row rn 2 rfl).row rn 1 rfl).row rn 0 rfl).row rm 5 rfl).row rm 4 rfl).row rm 3 rfl).row rm 2 rfl).row rm 1 rfl).row rm 0 rfl).drew
        have HEND := Lib.hid fun D (h : CL w12 [(⟨bm, 0, none⟩, .string ⟨S.toArray⟩), (⟨bm, 1, none⟩, .slice am nm km), (⟨bm, 2, none⟩, .int .i64 JL), (⟨bm, 3, none⟩, .int .u32 JC), (⟨bm, 4, none⟩, .int .i64 PM), (⟨bm, 5, none⟩, .int .i64 QM), (⟨bn, 0, none⟩, .string ⟨S.toArray⟩), (⟨bn, 1, none⟩, .slice an nn kn), (⟨bn, 2, none⟩, .int .i64 JL), (⟨bn, 3, none⟩, .int .u32 JC), (⟨bn, 4, none⟩, .int .i64 PM), (⟨bn, 5, none⟩, .int .i64 QM), (⟨bo, 0, none⟩, .string ⟨S.toArray⟩), (⟨bo, 1, none⟩, .slice ao no ko), (⟨bo, 2, none⟩, .int .i64 M), (⟨bo, 3, none⟩, .int .u32 c), (⟨bo, 4, none⟩, .int .i64 P0), (⟨bo, 5, none⟩, .int .i64 Q0), (⟨bX, 0, none⟩, .string ⟨S.toArray⟩), (⟨bX, 1, none⟩, .slice ag ng kg), (⟨bX, 2, none⟩, .int .i64 M), (⟨bX, 3, none⟩, .int .u32 c), (⟨bX, 4, none⟩, .int .i64 P0), (⟨bX, 5, none⟩, .int .i64 Q0), (⟨bY, 0, none⟩, .string ⟨S.toArray⟩), (⟨bY, 1, none⟩, .slice ah nh kh), (⟨bY, 2, none⟩, .int .i64 N), (⟨bY, 3, none⟩, .int .u32 cm), (⟨bY, 4, none⟩, .int .i64 P1), (⟨bY, 5, none⟩, .int .i64 Q1)] D) => hBw12.trans (h.1.mono hBw12.size)
        have HTD := Lib.hid fun D (h : CL w12 [(⟨bm, 0, none⟩, .string ⟨S.toArray⟩), (⟨bm, 1, none⟩, .slice am nm km), (⟨bm, 2, none⟩, .int .i64 JL), (⟨bm, 3, none⟩, .int .u32 JC), (⟨bm, 4, none⟩, .int .i64 PM), (⟨bm, 5, none⟩, .int .i64 QM), (⟨bn, 0, none⟩, .string ⟨S.toArray⟩), (⟨bn, 1, none⟩, .slice an nn kn), (⟨bn, 2, none⟩, .int .i64 JL), (⟨bn, 3, none⟩, .int .u32 JC), (⟨bn, 4, none⟩, .int .i64 PM), (⟨bn, 5, none⟩, .int .i64 QM), (⟨bo, 0, none⟩, .string ⟨S.toArray⟩), (⟨bo, 1, none⟩, .slice ao no ko), (⟨bo, 2, none⟩, .int .i64 M), (⟨bo, 3, none⟩, .int .u32 c), (⟨bo, 4, none⟩, .int .i64 P0), (⟨bo, 5, none⟩, .int .i64 Q0), (⟨bX, 0, none⟩, .string ⟨S.toArray⟩), (⟨bX, 1, none⟩, .slice ag ng kg), (⟨bX, 2, none⟩, .int .i64 M), (⟨bX, 3, none⟩, .int .u32 c), (⟨bX, 4, none⟩, .int .i64 P0), (⟨bX, 5, none⟩, .int .i64 Q0), (⟨bY, 0, none⟩, .string ⟨S.toArray⟩), (⟨bY, 1, none⟩, .slice ah nh kh), (⟨bY, 2, none⟩, .int .i64 N), (⟨bY, 3, none⟩, .int .u32 cm), (⟨bY, 4, none⟩, .int .i64 P1), (⟨bY, 5, none⟩, .int .i64 Q1)] D) => HT.out D (hBw12.trans (h.1.mono hBw12.size))
        clear rm rn ro rX rY rT HT hBw12
        change wpAnyH _ _ _ _ _ _ _ _ w12.drew
        generalize w12.drew = D0 at *
        refine held_val 0 rfl (by kernel_rfl) (by kernel_rfl) (by kernel_rfl) (fun _ _ _ _ h => h) (by rfl) hS ?_
        apply Exists.intro
        refine ⟨fun w' hw' => ?_, ?_⟩
        · skip
          go_simp
          first | done | rfl | exact ⟨rfl, rfl⟩
        simp only [Act.put, List.setIfInBounds_toArray, List.set_cons_zero, List.set_cons_succ]
        refine held_val 1 rfl (by kernel_rfl) (by kernel_rfl) (by kernel_rfl) (fun _ _ _ _ h => h) (by rfl) hS ?_
        apply Exists.intro
        refine ⟨fun w' hw' => ?_, ?_⟩
        · skip
          go_simp
          first | done | rfl | exact ⟨rfl, rfl⟩
        simp only [Act.put, List.setIfInBounds_toArray, List.set_cons_zero, List.set_cons_succ]
        refine held_val 2 rfl (by kernel_rfl) (by kernel_rfl) (by kernel_rfl) (fun _ _ _ _ h => h) (by rfl) hS ?_
        apply Exists.intro
        refine ⟨fun w' hw' => ?_, ?_⟩
        · skip
          go_simp
          first | done | rfl | exact ⟨rfl, rfl⟩
        simp only [Act.put, List.setIfInBounds_toArray, List.set_cons_zero, List.set_cons_succ]
        refine held_val 3 rfl (by kernel_rfl) (by kernel_rfl) (by kernel_rfl) (fun _ _ _ _ h => h) (by rfl) hS ?_
        apply Exists.intro
        refine ⟨fun w' hw' => ?_, ?_⟩
        · skip
          go_simp
          first | done | rfl | exact ⟨rfl, rfl⟩
        simp only [Act.put, List.setIfInBounds_toArray, List.set_cons_zero, List.set_cons_succ]
        refine held_val 4 rfl (by kernel_rfl) (by kernel_rfl) (by kernel_rfl) (fun _ _ _ _ h => h) (by rfl) hS ?_
        apply Exists.intro
        refine ⟨fun w' hw' => ?_, ?_⟩
        · skip
          go_simp
          first | done | rfl | exact ⟨rfl, rfl⟩
        simp only [Act.put, List.setIfInBounds_toArray, List.set_cons_zero, List.set_cons_succ]
        refine held_val 5 rfl (by kernel_rfl) (by kernel_rfl) (by kernel_rfl) (fun _ _ _ _ h => h) (by rfl) hS ?_
        apply Exists.intro
        refine ⟨fun w' hw' => ?_, ?_⟩
        · skip
          go_simp
          first | done | rfl | exact ⟨rfl, rfl⟩
        simp only [Act.put, List.setIfInBounds_toArray, List.set_cons_zero, List.set_cons_succ]
        refine held_val 6 rfl (by kernel_rfl) (by kernel_rfl) (by kernel_rfl) (fun _ _ _ _ h => h) (by rfl) hS ?_
        apply Exists.intro
        refine ⟨fun w' hw' => ?_, ?_⟩
        · skip
          go_simp
          first | done | rfl | exact ⟨rfl, rfl⟩
        simp only [Act.put, List.setIfInBounds_toArray, List.set_cons_zero, List.set_cons_succ]
        refine held_val 7 rfl (by kernel_rfl) (by kernel_rfl) (by kernel_rfl) (fun _ _ _ _ h => h) (by rfl) hS ?_
        apply Exists.intro
        refine ⟨fun w' hw' => ?_, ?_⟩
        · skip
          go_simp
          first | done | rfl | exact ⟨rfl, rfl⟩
        simp only [Act.put, List.setIfInBounds_toArray, List.set_cons_zero, List.set_cons_succ]
        refine held_val 8 rfl (by kernel_rfl) (by kernel_rfl) (by kernel_rfl) (fun _ _ _ _ h => h) (by rfl) hS ?_
        apply Exists.intro
        refine ⟨fun w' hw' => ?_, ?_⟩
        · have e0 := hw'.at 0 rfl; have e1 := hw'.at 1 rfl; have e2 := hw'.at 2 rfl; have e3 := hw'.at 3 rfl; have e4 := hw'.at 4 rfl; have e5 := hw'.at 5 rfl
          go_simp
          first | done | rfl | exact ⟨rfl, rfl⟩
        simp only [Act.put, List.setIfInBounds_toArray, List.set_cons_zero, List.set_cons_succ]
        refine held_val 9 rfl (by kernel_rfl) (by kernel_rfl) (by kernel_rfl) (fun _ _ _ _ h => h) (by rfl) hS ?_
        apply Exists.intro
        refine ⟨fun w' hw' => ?_, ?_⟩
        · have e6 := hw'.at 6 rfl; have e7 := hw'.at 7 rfl; have e8 := hw'.at 8 rfl; have e9 := hw'.at 9 rfl; have e10 := hw'.at 10 rfl; have e11 := hw'.at 11 rfl
          go_simp
          first | done | rfl | exact ⟨rfl, rfl⟩
        simp only [Act.put, List.setIfInBounds_toArray, List.set_cons_zero, List.set_cons_succ]
        have KC := samea_any (fun _ => True) (fun _ => True) S S ⟨am, nm, km⟩ ⟨an, nn, kn⟩ F F JL JC PM QM JL JC PM QM D0 (hm.stay hS.1) (hn.stay hS.1) (by omega)
        rw [samea_self] at KC
        unfold alV at KC
        simp only [Sl.v] at KC
        replace KC := Lib.hid KC
        refine held_call 10 (by kernel_rfl) rfl (by rfl) ?_
        apply Exists.intro
        apply Exists.intro
        refine ⟨?_, ?_⟩
        · go_simp
          first | done | rfl | exact ⟨rfl, rfl⟩
        refine KC.out.mono ?_
        rintro e D1 ⟨rfl, hb⟩
        replace hS := hS.go hb
        refine ⟨_, rfl, hS, ?_⟩
        clear KC hb
        simp only [Act.put, List.setIfInBounds_toArray, List.set_cons_zero, List.set_cons_succ]
        refine held_val 11 rfl (by kernel_rfl) (by kernel_rfl) (by kernel_rfl) (fun _ _ _ _ h => h) (by rfl) hS ?_
        apply Exists.intro
        refine ⟨fun w' hw' => ?_, ?_⟩
        · skip
          go_simp
          first | done | rfl | exact ⟨rfl, rfl⟩
        simp only [Act.put, List.setIfInBounds_toArray, List.set_cons_zero, List.set_cons_succ]
        refine held_val 12 rfl (by kernel_rfl) (by kernel_rfl) (by kernel_rfl) (fun _ _ _ _ h => h) (by rfl) hS ?_
        apply Exists.intro
        refine ⟨fun w' hw' => ?_, ?_⟩
        · skip
          go_simp
          first | done | rfl | exact ⟨rfl, rfl⟩
        simp only [Act.put, List.setIfInBounds_toArray, List.set_cons_zero, List.set_cons_succ]
        refine held_val 13 rfl (by kernel_rfl) (by kernel_rfl) (by kernel_rfl) (fun _ _ _ _ h => h) (by rfl) hS ?_
        apply Exists.intro
        refine ⟨fun w' hw' => ?_, ?_⟩
        · have e12 := hw'.at 12 rfl; have e13 := hw'.at 13 rfl; have e14 := hw'.at 14 rfl; have e15 := hw'.at 15 rfl; have e16 := hw'.at 16 rfl; have e17 := hw'.at 17 rfl
          go_simp
          first | done | rfl | exact ⟨rfl, rfl⟩
        simp only [Act.put, List.setIfInBounds_toArray, List.set_cons_zero, List.set_cons_succ]
        refine held_val 14 rfl (by kernel_rfl) (by kernel_rfl) (by kernel_rfl) (fun _ _ _ _ h => h) (by rfl) hS ?_
        apply Exists.intro
        refine ⟨fun w' hw' => ?_, ?_⟩
        · have e18 := hw'.at 18 rfl; have e19 := hw'.at 19 rfl; have e20 := hw'.at 20 rfl; have e21 := hw'.at 21 rfl; have e22 := hw'.at 22 rfl; have e23 := hw'.at 23 rfl
          go_simp
          first | done | rfl | exact ⟨rfl, rfl⟩
        simp only [Act.put, List.setIfInBounds_toArray, List.set_cons_zero, List.set_cons_succ]
        have KC := samea_any (fun _ => True) (fun _ => True) S S ⟨ao, no, ko⟩ ⟨ag, ng, kg⟩ F F M c P0 Q0 M c P0 Q0 D1 (ho.stay hS.1) (hz.stay hS.1) (by omega)
        rw [samea_self] at KC
        unfold alV at KC
        simp only [Sl.v] at KC
        replace KC := Lib.hid KC
        refine held_call 15 (by kernel_rfl) rfl (by rfl) ?_
        apply Exists.intro
        apply Exists.intro
        refine ⟨?_, ?_⟩
        · go_simp
          first | done | rfl | exact ⟨rfl, rfl⟩
        refine KC.out.mono ?_
        rintro e D2 ⟨rfl, hb⟩
        replace hS := hS.go hb
        refine ⟨_, rfl, hS, ?_⟩
        clear KC hb
        simp only [Act.put, List.setIfInBounds_toArray, List.set_cons_zero, List.set_cons_succ]
        refine held_val 16 rfl (by kernel_rfl) (by kernel_rfl) (by kernel_rfl) (fun _ _ _ _ h => h) (by rfl) hS ?_
        apply Exists.intro
        refine ⟨fun w' hw' => ?_, ?_⟩
        · skip
          go_simp
          first | done | rfl | exact ⟨rfl, rfl⟩
        simp only [Act.put, List.setIfInBounds_toArray, List.set_cons_zero, List.set_cons_succ]
        refine held_val 17 rfl (by kernel_rfl) (by kernel_rfl) (by kernel_rfl) (fun _ _ _ _ h => h) (by rfl) hS ?_
        apply Exists.intro
        refine ⟨fun w' hw' => ?_, ?_⟩
        · skip
          go_simp
          first | done | rfl | exact ⟨rfl, rfl⟩
        simp only [Act.put, List.setIfInBounds_toArray, List.set_cons_zero, List.set_cons_succ]
        refine held_val 18 rfl (by kernel_rfl) (by kernel_rfl) (by kernel_rfl) (fun _ _ _ _ h => h) (by rfl) hS ?_
        apply Exists.intro
        refine ⟨fun w' hw' => ?_, ?_⟩
        · skip
          go_simp
          first | done | rfl | exact ⟨rfl, rfl⟩
        simp only [Act.put, List.setIfInBounds_toArray, List.set_cons_zero, List.set_cons_succ]
        refine held_val 19 rfl (by kernel_rfl) (by kernel_rfl) (by kernel_rfl) (fun _ _ _ _ h => h) (by rfl) hS ?_
        apply Exists.intro
        refine ⟨fun w' hw' => ?_, ?_⟩
        · skip
          go_simp
          first | done | rfl | exact ⟨rfl, rfl⟩
        simp only [Act.put, List.setIfInBounds_toArray, List.set_cons_zero, List.set_cons_succ]
        refine held_val 20 rfl (by kernel_rfl) (by kernel_rfl) (by kernel_rfl) (fun _ _ _ _ h => h) (by rfl) hS ?_
        apply Exists.intro
        refine ⟨fun w' hw' => ?_, ?_⟩
        · skip
          go_simp
          first | done | rfl | exact ⟨rfl, rfl⟩
        simp only [Act.put, List.setIfInBounds_toArray, List.set_cons_zero, List.set_cons_succ]
        refine held_val 21 rfl (by kernel_rfl) (by kernel_rfl) (by kernel_rfl) (fun _ _ _ _ h => h) (by rfl) hS ?_
        apply Exists.intro
        refine ⟨fun w' hw' => ?_, ?_⟩
        · have e0 := hw'.at 0 rfl; have e1 := hw'.at 1 rfl; have e2 := hw'.at 2 rfl; have e3 := hw'.at 3 rfl; have e4 := hw'.at 4 rfl; have e5 := hw'.at 5 rfl
          go_simp
          first | done | rfl | exact ⟨rfl, rfl⟩
        simp only [Act.put, List.setIfInBounds_toArray, List.set_cons_zero, List.set_cons_succ]
        refine held_val 22 rfl (by kernel_rfl) (by kernel_rfl) (by kernel_rfl) (fun _ _ _ _ h => h) (by rfl) hS ?_
        apply Exists.intro
        refine ⟨fun w' hw' => ?_, ?_⟩
        · skip
          go_simp
          first | done | rfl | exact ⟨rfl, rfl⟩
        simp only [Act.put, List.setIfInBounds_toArray, List.set_cons_zero, List.set_cons_succ]
        have KC := fires_any S ⟨am, nm, km⟩ JL JC PM QM b2 D2
        rw [hfm] at KC
        unfold alV at KC
        simp only [Sl.v] at KC
        replace KC := Lib.hid KC
        refine held_call 23 (by kernel_rfl) rfl (by rfl) ?_
        apply Exists.intro
        apply Exists.intro
        refine ⟨?_, ?_⟩
        · go_simp
          first | done | rfl | exact ⟨rfl, rfl⟩
        refine KC.out.mono ?_
        rintro e D3 ⟨rfl, hb⟩
        replace hS := hS.go hb
        refine ⟨_, rfl, hS, ?_⟩
        clear KC hb
        simp only [Act.put, List.setIfInBounds_toArray, List.set_cons_zero, List.set_cons_succ]
        refine held_val 24 rfl (by kernel_rfl) (by kernel_rfl) (by kernel_rfl) (fun _ _ _ _ h => h) (by rfl) hS ?_
        apply Exists.intro
        refine ⟨fun w' hw' => ?_, ?_⟩
        · skip
          go_simp
          first | done | rfl | exact ⟨rfl, rfl⟩
        simp only [Act.put, List.setIfInBounds_toArray, List.set_cons_zero, List.set_cons_succ]
        refine held_val 25 rfl (by kernel_rfl) (by kernel_rfl) (by kernel_rfl) (fun _ _ _ _ h => h) (by rfl) hS ?_
        apply Exists.intro
        refine ⟨fun w' hw' => ?_, ?_⟩
        · skip
          go_simp
          first | done | rfl | exact ⟨rfl, rfl⟩
        simp only [Act.put, List.setIfInBounds_toArray, List.set_cons_zero, List.set_cons_succ]
        refine held_val 26 rfl (by kernel_rfl) (by kernel_rfl) (by kernel_rfl) (fun _ _ _ _ h => h) (by rfl) hS ?_
        apply Exists.intro
        refine ⟨fun w' hw' => ?_, ?_⟩
        · skip
          go_simp
          first | done | rfl | exact ⟨rfl, rfl⟩
        simp only [Act.put, List.setIfInBounds_toArray, List.set_cons_zero, List.set_cons_succ]
        refine held_val 27 rfl (by kernel_rfl) (by kernel_rfl) (by kernel_rfl) (fun _ _ _ _ h => h) (by rfl) hS ?_
        apply Exists.intro
        refine ⟨fun w' hw' => ?_, ?_⟩
        · have e0 := hw'.at 0 rfl; have e1 := hw'.at 1 rfl; have e2 := hw'.at 2 rfl; have e3 := hw'.at 3 rfl; have e4 := hw'.at 4 rfl; have e5 := hw'.at 5 rfl
          go_simp
          first | done | rfl | exact ⟨rfl, rfl⟩
        simp only [Act.put, List.setIfInBounds_toArray, List.set_cons_zero, List.set_cons_succ]
        refine held_val 29 rfl (by kernel_rfl) (by kernel_rfl) (by kernel_rfl) (fun _ _ _ _ h => h) (by rfl) hS ?_
        apply Exists.intro
        refine ⟨fun w' hw' => ?_, ?_⟩
        · have e18 := hw'.at 18 rfl; have e19 := hw'.at 19 rfl; have e20 := hw'.at 20 rfl; have e21 := hw'.at 21 rfl; have e22 := hw'.at 22 rfl; have e23 := hw'.at 23 rfl
          go_simp
          first | done | rfl | exact ⟨rfl, rfl⟩
        simp only [Act.put, List.setIfInBounds_toArray, List.set_cons_zero, List.set_cons_succ]
        have KC := id_any (fun _ => True) S ⟨am, nm, km⟩ F JL JC PM QM D3 (HTD.out D3 hS) (hm.stay hS.1) (by omega) (by omega)
        unfold alV at KC
        simp only [Sl.v] at KC
        replace KC := Lib.hid KC
        refine held_call 28 (by kernel_rfl) rfl (by rfl) ?_
        apply Exists.intro
        apply Exists.intro
        refine ⟨?_, ?_⟩
        · go_simp
          first | done | rfl | exact ⟨rfl, rfl⟩
        refine KC.out.mono ?_
        rintro e D4 ⟨rfl, hb⟩
        replace hS := hS.go hb
        refine ⟨_, rfl, hS, ?_⟩
        clear KC hb
        simp only [Act.put, List.setIfInBounds_toArray, List.set_cons_zero, List.set_cons_succ]
        have KC := id_any (fun _ => True) S ⟨ag, ng, kg⟩ F M c P0 Q0 D4 (HTD.out D4 hS) (hz.stay hS.1) (by omega) (by omega)
        unfold alV at KC
        simp only [Sl.v] at KC
        replace KC := Lib.hid KC
        refine held_call 30 (by kernel_rfl) rfl (by rfl) ?_
        apply Exists.intro
        apply Exists.intro
        refine ⟨?_, ?_⟩
        · go_simp
          first | done | rfl | exact ⟨rfl, rfl⟩
        refine KC.out.mono ?_
        rintro e D5 ⟨rfl, hb⟩
        replace hS := hS.go hb
        refine ⟨_, rfl, hS, ?_⟩
        clear KC hb
        simp only [Act.put, List.setIfInBounds_toArray, List.set_cons_zero, List.set_cons_succ]
        refine held_val 31 rfl (by kernel_rfl) (by kernel_rfl) (by kernel_rfl) (fun _ _ _ _ h => h) (by rfl) hS ?_
        apply Exists.intro
        refine ⟨fun w' hw' => ?_, ?_⟩
        · skip
          go_simp
          first | done | rfl | exact ⟨rfl, rfl⟩
        simp only [Act.put, List.setIfInBounds_toArray, List.set_cons_zero, List.set_cons_succ]
        refine held_val 32 rfl (by kernel_rfl) (by kernel_rfl) (by kernel_rfl) (fun _ _ _ _ h => h) (by rfl) hS ?_
        apply Exists.intro
        refine ⟨fun w' hw' => ?_, ?_⟩
        · skip
          go_simp
          first | done | rfl | exact ⟨rfl, rfl⟩
        simp only [Act.put, List.setIfInBounds_toArray, List.set_cons_zero, List.set_cons_succ]
        refine held_val 33 rfl (by kernel_rfl) (by kernel_rfl) (by kernel_rfl) (fun _ _ _ _ h => h) (by rfl) hS ?_
        apply Exists.intro
        refine ⟨fun w' hw' => ?_, ?_⟩
        · skip
          go_simp
          first | done | rfl | exact ⟨rfl, rfl⟩
        simp only [Act.put, List.setIfInBounds_toArray, List.set_cons_zero, List.set_cons_succ]
        refine held_val 34 rfl (by kernel_rfl) (by kernel_rfl) (by kernel_rfl) (fun _ _ _ _ h => h) (by rfl) hS ?_
        apply Exists.intro
        refine ⟨fun w' hw' => ?_, ?_⟩
        · skip
          go_simp
          first | done | rfl | exact ⟨rfl, rfl⟩
        simp only [Act.put, List.setIfInBounds_toArray, List.set_cons_zero, List.set_cons_succ]
        refine held_val 35 rfl (by kernel_rfl) (by kernel_rfl) (by kernel_rfl) (fun _ _ _ _ h => h) (by rfl) hS ?_
        apply Exists.intro
        refine ⟨fun w' hw' => ?_, ?_⟩
        · have e20 := hw'.at 20 rfl; have e21 := hw'.at 21 rfl
          go_simp
          first | done | rfl | exact ⟨rfl, rfl⟩
        simp only [Act.put, List.setIfInBounds_toArray, List.set_cons_zero, List.set_cons_succ]
        refine held_val 36 rfl (by kernel_rfl) (by kernel_rfl) (by kernel_rfl) (fun _ _ _ _ h => h) (by rfl) hS ?_
        apply Exists.intro
        refine ⟨fun w' hw' => ?_, ?_⟩
        · skip
          go_simp
          first | done | rfl | exact ⟨rfl, rfl⟩
        simp only [Act.put, List.setIfInBounds_toArray, List.set_cons_zero, List.set_cons_succ]
        refine held_val 37 rfl (by kernel_rfl) (by kernel_rfl) (by kernel_rfl) (fun _ _ _ _ h => h) (by rfl) hS ?_
        apply Exists.intro
        refine ⟨fun w' hw' => ?_, ?_⟩
        · have e2 := hw'.at 2 rfl; have e3 := hw'.at 3 rfl
          go_simp
          first | done | rfl | exact ⟨rfl, rfl⟩
        simp only [Act.put, List.setIfInBounds_toArray, List.set_cons_zero, List.set_cons_succ]
        have KC := Lb.rflows_any M c JL JC hc.1 hc.2 hJU.1 hJU.2 D5
        rw [hup.1] at KC
        replace KC := Lib.hid KC
        refine held_call 38 (by kernel_rfl) rfl (by rfl) ?_
        apply Exists.intro
        apply Exists.intro
        refine ⟨?_, ?_⟩
        · go_simp
          first | done | rfl | exact ⟨rfl, rfl⟩
        refine KC.out.mono ?_
        rintro e D6 ⟨rfl, hb⟩
        replace hS := hS.go hb
        refine ⟨_, rfl, hS, ?_⟩
        clear KC hb
        simp only [Act.put, List.setIfInBounds_toArray, List.set_cons_zero, List.set_cons_succ]
        refine held_val 39 rfl (by kernel_rfl) (by kernel_rfl) (by kernel_rfl) (fun _ _ _ _ h => h) (by rfl) hS ?_
        apply Exists.intro
        refine ⟨fun w' hw' => ?_, ?_⟩
        · skip
          go_simp
          first | done | rfl | exact ⟨rfl, rfl⟩
        simp only [Act.put, List.setIfInBounds_toArray, List.set_cons_zero, List.set_cons_succ]
        refine held_val 40 rfl (by kernel_rfl) (by kernel_rfl) (by kernel_rfl) (fun _ _ _ _ h => h) (by rfl) hS ?_
        apply Exists.intro
        refine ⟨fun w' hw' => ?_, ?_⟩
        · skip
          go_simp
          first | done | rfl | exact ⟨rfl, rfl⟩
        simp only [Act.put, List.setIfInBounds_toArray, List.set_cons_zero, List.set_cons_succ]
        refine held_val 41 rfl (by kernel_rfl) (by kernel_rfl) (by kernel_rfl) (fun _ _ _ _ h => h) (by rfl) hS ?_
        apply Exists.intro
        refine ⟨fun w' hw' => ?_, ?_⟩
        · skip
          go_simp
          first | done | rfl | exact ⟨rfl, rfl⟩
        simp only [Act.put, List.setIfInBounds_toArray, List.set_cons_zero, List.set_cons_succ]
        refine held_val 42 rfl (by kernel_rfl) (by kernel_rfl) (by kernel_rfl) (fun _ _ _ _ h => h) (by rfl) hS ?_
        apply Exists.intro
        refine ⟨fun w' hw' => ?_, ?_⟩
        · have e26 := hw'.at 26 rfl; have e27 := hw'.at 27 rfl
          go_simp
          first | done | rfl | exact ⟨rfl, rfl⟩
        simp only [Act.put, List.setIfInBounds_toArray, List.set_cons_zero, List.set_cons_succ]
        refine held_val 43 rfl (by kernel_rfl) (by kernel_rfl) (by kernel_rfl) (fun _ _ _ _ h => h) (by rfl) hS ?_
        apply Exists.intro
        refine ⟨fun w' hw' => ?_, ?_⟩
        · skip
          go_simp
          first | done | rfl | exact ⟨rfl, rfl⟩
        simp only [Act.put, List.setIfInBounds_toArray, List.set_cons_zero, List.set_cons_succ]
        refine held_val 44 rfl (by kernel_rfl) (by kernel_rfl) (by kernel_rfl) (fun _ _ _ _ h => h) (by rfl) hS ?_
        apply Exists.intro
        refine ⟨fun w' hw' => ?_, ?_⟩
        · have e2 := hw'.at 2 rfl; have e3 := hw'.at 3 rfl
          go_simp
          first | done | rfl | exact ⟨rfl, rfl⟩
        simp only [Act.put, List.setIfInBounds_toArray, List.set_cons_zero, List.set_cons_succ]
        have KC := Lb.rflows_any N cm JL JC hd.1 hd.2 hJU.1 hJU.2 D6
        rw [hup.2] at KC
        replace KC := Lib.hid KC
        refine held_call 45 (by kernel_rfl) rfl (by rfl) ?_
        apply Exists.intro
        apply Exists.intro
        refine ⟨?_, ?_⟩
        · go_simp
          first | done | rfl | exact ⟨rfl, rfl⟩
        refine KC.out.mono ?_
        rintro e D7 ⟨rfl, hb⟩
        replace hS := hS.go hb
        refine ⟨_, rfl, hS, ?_⟩
        clear KC hb
        simp only [Act.put, List.setIfInBounds_toArray, List.set_cons_zero, List.set_cons_succ]
        refine held_val 46 rfl (by kernel_rfl) (by kernel_rfl) (by kernel_rfl) (fun _ _ _ _ h => h) (by rfl) hS ?_
        apply Exists.intro
        refine ⟨fun w' hw' => ?_, ?_⟩
        · skip
          go_simp
          first | done | rfl | exact ⟨rfl, rfl⟩
        simp only [Act.put, List.setIfInBounds_toArray, List.set_cons_zero, List.set_cons_succ]
        refine held_val 47 rfl (by kernel_rfl) (by kernel_rfl) (by kernel_rfl) (fun _ _ _ _ h => h) (by rfl) hS ?_
        apply Exists.intro
        refine ⟨fun w' hw' => ?_, ?_⟩
        · skip
          go_simp
          first | done | rfl | exact ⟨rfl, rfl⟩
        simp only [Act.put, List.setIfInBounds_toArray, List.set_cons_zero, List.set_cons_succ]
        refine held_val 48 rfl (by kernel_rfl) (by kernel_rfl) (by kernel_rfl) (fun _ _ _ _ h => h) (by rfl) hS ?_
        apply Exists.intro
        refine ⟨fun w' hw' => ?_, ?_⟩
        · have e0 := hw'.at 0 rfl; have e1 := hw'.at 1 rfl; have e2 := hw'.at 2 rfl; have e3 := hw'.at 3 rfl; have e4 := hw'.at 4 rfl; have e5 := hw'.at 5 rfl
          go_simp
          first | done | rfl | exact ⟨rfl, rfl⟩
        simp only [Act.put, List.setIfInBounds_toArray, List.set_cons_zero, List.set_cons_succ]
        have KC := aright_any (fun _ => True) S ⟨am, nm, km⟩ F JL JC PM QM D7 (hm.stay hS.1) (by omega) (by omega) hFm
        rw [hJ] at KC
        unfold alV at KC
        simp only [Sl.v] at KC
        replace KC := Lib.hid KC
        refine held_call 49 (by kernel_rfl) rfl (by rfl) ?_
        apply Exists.intro
        apply Exists.intro
        refine ⟨?_, ?_⟩
        · go_simp
          first | done | rfl | exact ⟨rfl, rfl⟩
        refine KC.out.mono ?_
        rintro e D8 ⟨rfl, hb⟩
        replace hS := hS.go hb
        refine ⟨_, rfl, hS, ?_⟩
        clear KC hb
        simp only [Act.put, List.setIfInBounds_toArray, List.set_cons_zero, List.set_cons_succ]
        refine held_val 50 rfl (by kernel_rfl) (by kernel_rfl) (by kernel_rfl) (fun _ _ _ _ h => h) (by rfl) hS ?_
        apply Exists.intro
        refine ⟨fun w' hw' => ?_, ?_⟩
        · skip
          go_simp
          first | done | rfl | exact ⟨rfl, rfl⟩
        simp only [Act.put, List.setIfInBounds_toArray, List.set_cons_zero, List.set_cons_succ]
        refine held_val 51 rfl (by kernel_rfl) (by kernel_rfl) (by kernel_rfl) (fun _ _ _ _ h => h) (by rfl) hS ?_
        apply Exists.intro
        refine ⟨fun w' hw' => ?_, ?_⟩
        · skip
          go_simp
          first | done | rfl | exact ⟨rfl, rfl⟩
        simp only [Act.put, List.setIfInBounds_toArray, List.set_cons_zero, List.set_cons_succ]
        refine held_val 52 rfl (by kernel_rfl) (by kernel_rfl) (by kernel_rfl) (fun _ _ _ _ h => h) (by rfl) hS ?_
        apply Exists.intro
        refine ⟨fun w' hw' => ?_, ?_⟩
        · skip
          go_simp
          first | done | rfl | exact ⟨rfl, rfl⟩
        simp only [Act.put, List.setIfInBounds_toArray, List.set_cons_zero, List.set_cons_succ]
        refine held_val 53 rfl (by kernel_rfl) (by kernel_rfl) (by kernel_rfl) (fun _ _ _ _ h => h) (by rfl) hS ?_
        apply Exists.intro
        refine ⟨fun w' hw' => ?_, ?_⟩
        · have e1 := hw'.at 1 rfl
          go_simp
          first | done | rfl | exact ⟨rfl, rfl⟩
        simp only [Act.put, List.setIfInBounds_toArray, List.set_cons_zero, List.set_cons_succ]
        refine held_val 54 rfl (by kernel_rfl) (by kernel_rfl) (by kernel_rfl) (fun _ _ _ _ h => h) (by rfl) hS ?_
        apply Exists.intro
        refine ⟨fun w' hw' => ?_, ?_⟩
        · skip
          go_simp
          first | done | rfl | exact ⟨rfl, rfl⟩
        simp only [Act.put, List.setIfInBounds_toArray, List.set_cons_zero, List.set_cons_succ]
        refine held_val 55 rfl (by kernel_rfl) (by kernel_rfl) (by kernel_rfl) (fun _ _ _ _ h => h) (by rfl) hS ?_
        apply Exists.intro
        refine ⟨fun w' hw' => ?_, ?_⟩
        · have e19 := hw'.at 19 rfl
          go_simp
          first | done | rfl | exact ⟨rfl, rfl⟩
        simp only [Act.put, List.setIfInBounds_toArray, List.set_cons_zero, List.set_cons_succ]
        have KC := same_any (fun _ => True) (fun _ => True) (.slice am nm km) (.slice ag ng kg) F F D8 (hm.stay hS.1) (hz.stay hS.1) (by omega)
        rw [beq_self_eq_true] at KC
        replace KC := Lib.hid KC
        refine held_call 56 (by kernel_rfl) rfl (by rfl) ?_
        apply Exists.intro
        apply Exists.intro
        refine ⟨?_, ?_⟩
        · go_simp
          first | done | rfl | exact ⟨rfl, rfl⟩
        refine KC.out.mono ?_
        rintro e D9 ⟨rfl, hb⟩
        replace hS := hS.go hb
        refine ⟨_, rfl, hS, ?_⟩
        clear KC hb
        simp only [Act.put, List.setIfInBounds_toArray, List.set_cons_zero, List.set_cons_succ]
        refine held_val 57 rfl (by kernel_rfl) (by kernel_rfl) (by kernel_rfl) (fun _ _ _ _ h => h) (by rfl) hS ?_
        apply Exists.intro
        refine ⟨fun w' hw' => ?_, ?_⟩
        · skip
          go_simp
          first | done | rfl | exact ⟨rfl, rfl⟩
        simp only [Act.put, List.setIfInBounds_toArray, List.set_cons_zero, List.set_cons_succ]
        refine held_val 58 rfl (by kernel_rfl) (by kernel_rfl) (by kernel_rfl) (fun _ _ _ _ h => h) (by rfl) hS ?_
        apply Exists.intro
        refine ⟨fun w' hw' => ?_, ?_⟩
        · skip
          go_simp
          first | done | rfl | exact ⟨rfl, rfl⟩
        simp only [Act.put, List.setIfInBounds_toArray, List.set_cons_zero, List.set_cons_succ]
        refine wpAnyH_done (by kernel_rfl) ?_ _
        have hBE := HEND.out D9 hS
        clear hS HEND HTD
        go_wp2_with fail
        go_ret
        exact ⟨rfl, hBE⟩
      | false =>
        clear hfi
        go_upto_region 13 with fail
        refine wp_region_held (S := CL w12 [(⟨bm, 0, none⟩, .string ⟨S.toArray⟩), (⟨bm, 1, none⟩, .slice am nm km), (⟨bm, 2, none⟩, .int .i64 JL), (⟨bm, 3, none⟩, .int .u32 JC), (⟨bm, 4, none⟩, .int .i64 PM), (⟨bm, 5, none⟩, .int .i64 QM), (⟨bn, 0, none⟩, .string ⟨S.toArray⟩), (⟨bn, 1, none⟩, .slice an nn kn), (⟨bn, 2, none⟩, .int .i64 JL), (⟨bn, 3, none⟩, .int .u32 JC), (⟨bn, 4, none⟩, .int .i64 PM), (⟨bn, 5, none⟩, .int .i64 QM), (⟨bo, 0, none⟩, .string ⟨S.toArray⟩), (⟨bo, 1, none⟩, .slice ao no ko), (⟨bo, 2, none⟩, .int .i64 M), (⟨bo, 3, none⟩, .int .u32 c), (⟨bo, 4, none⟩, .int .i64 P0), (⟨bo, 5, none⟩, .int .i64 Q0), (⟨bX, 0, none⟩, .string ⟨S.toArray⟩), (⟨bX, 1, none⟩, .slice ag ng kg), (⟨bX, 2, none⟩, .int .i64 M), (⟨bX, 3, none⟩, .int .u32 c), (⟨bX, 4, none⟩, .int .i64 P0), (⟨bX, 5, none⟩, .int .i64 Q0), (⟨bY, 0, none⟩, .string ⟨S.toArray⟩), (⟨bY, 1, none⟩, .slice ah nh kh), (⟨bY, 2, none⟩, .int .i64 N), (⟨bY, 3, none⟩, .int .u32 cm), (⟨bY, 4, none⟩, .int .i64 P1), (⟨bY, 5, none⟩, .int .i64 Q1)]) (by kernel_rfl) ?_
        have hS : CL w12 [(⟨bm, 0, none⟩, .string ⟨S.toArray⟩), (⟨bm, 1, none⟩, .slice am nm km), (⟨bm, 2, none⟩, .int .i64 JL), (⟨bm, 3, none⟩, .int .u32 JC), (⟨bm, 4, none⟩, .int .i64 PM), (⟨bm, 5, none⟩, .int .i64 QM), (⟨bn, 0, none⟩, .string ⟨S.toArray⟩), (⟨bn, 1, none⟩, .slice an nn kn), (⟨bn, 2, none⟩, .int .i64 JL), (⟨bn, 3, none⟩, .int .u32 JC), (⟨bn, 4, none⟩, .int .i64 PM), (⟨bn, 5, none⟩, .int .i64 QM), (⟨bo, 0, none⟩, .string ⟨S.toArray⟩), (⟨bo, 1, none⟩, .slice ao no ko), (⟨bo, 2, none⟩, .int .i64 M), (⟨bo, 3, none⟩, .int .u32 c), (⟨bo, 4, none⟩, .int .i64 P0), (⟨bo, 5, none⟩, .int .i64 Q0), (⟨bX, 0, none⟩, .string ⟨S.toArray⟩), (⟨bX, 1, none⟩, .slice ag ng kg), (⟨bX, 2, none⟩, .int .i64 M), (⟨bX, 3, none⟩, .int .u32 c), (⟨bX, 4, none⟩, .int .i64 P0), (⟨bX, 5, none⟩, .int .i64 Q0), (⟨bY, 0, none⟩, .string ⟨S.toArray⟩), (⟨bY, 1, none⟩, .slice ah nh kh), (⟨bY, 2, none⟩, .int .i64 N), (⟨bY, 3, none⟩, .int .u32 cm), (⟨bY, 4, none⟩, .int .i64 P1), (⟨bY, 5, none⟩, .int .i64 Q1)] w12.drew := (((((((((((((((((((((((((((((((CL.nil w12).row rY 5 rfl).row rY 4 rfl).row rY 3 rfl).row rY 2 rfl).row rY 1 rfl).row rY 0 rfl).row rX 5 rfl).row rX 4 rfl).row rX 3 rfl).row rX 2 rfl).row rX 1 rfl).row rX 0 rfl).row ro 5 rfl).row ro 4 rfl).row ro 3 rfl).row ro 2 rfl).row ro 1 rfl).row ro 0 rfl).row rn 5 rfl).row rn 4 rfl).row rn 3 rfl).row rn 2 rfl).row rn 1 rfl).row rn 0 rfl).row rm 5 rfl).row rm 4 rfl).row rm 3 rfl).row rm 2 rfl).row rm 1 rfl).row rm 0 rfl).drew
        have HEND := Lib.hid fun D (h : CL w12 [(⟨bm, 0, none⟩, .string ⟨S.toArray⟩), (⟨bm, 1, none⟩, .slice am nm km), (⟨bm, 2, none⟩, .int .i64 JL), (⟨bm, 3, none⟩, .int .u32 JC), (⟨bm, 4, none⟩, .int .i64 PM), (⟨bm, 5, none⟩, .int .i64 QM), (⟨bn, 0, none⟩, .string ⟨S.toArray⟩), (⟨bn, 1, none⟩, .slice an nn kn), (⟨bn, 2, none⟩, .int .i64 JL), (⟨bn, 3, none⟩, .int .u32 JC), (⟨bn, 4, none⟩, .int .i64 PM), (⟨bn, 5, none⟩, .int .i64 QM), (⟨bo, 0, none⟩, .string ⟨S.toArray⟩), (⟨bo, 1, none⟩, .slice ao no ko), (⟨bo, 2, none⟩, .int .i64 M), (⟨bo, 3, none⟩, .int .u32 c), (⟨bo, 4, none⟩, .int .i64 P0), (⟨bo, 5, none⟩, .int .i64 Q0), (⟨bX, 0, none⟩, .string ⟨S.toArray⟩), (⟨bX, 1, none⟩, .slice ag ng kg), (⟨bX, 2, none⟩, .int .i64 M), (⟨bX, 3, none⟩, .int .u32 c), (⟨bX, 4, none⟩, .int .i64 P0), (⟨bX, 5, none⟩, .int .i64 Q0), (⟨bY, 0, none⟩, .string ⟨S.toArray⟩), (⟨bY, 1, none⟩, .slice ah nh kh), (⟨bY, 2, none⟩, .int .i64 N), (⟨bY, 3, none⟩, .int .u32 cm), (⟨bY, 4, none⟩, .int .i64 P1), (⟨bY, 5, none⟩, .int .i64 Q1)] D) => hBw12.trans (h.1.mono hBw12.size)
        have HTD := Lib.hid fun D (h : CL w12 [(⟨bm, 0, none⟩, .string ⟨S.toArray⟩), (⟨bm, 1, none⟩, .slice am nm km), (⟨bm, 2, none⟩, .int .i64 JL), (⟨bm, 3, none⟩, .int .u32 JC), (⟨bm, 4, none⟩, .int .i64 PM), (⟨bm, 5, none⟩, .int .i64 QM), (⟨bn, 0, none⟩, .string ⟨S.toArray⟩), (⟨bn, 1, none⟩, .slice an nn kn), (⟨bn, 2, none⟩, .int .i64 JL), (⟨bn, 3, none⟩, .int .u32 JC), (⟨bn, 4, none⟩, .int .i64 PM), (⟨bn, 5, none⟩, .int .i64 QM), (⟨bo, 0, none⟩, .string ⟨S.toArray⟩), (⟨bo, 1, none⟩, .slice ao no ko), (⟨bo, 2, none⟩, .int .i64 M), (⟨bo, 3, none⟩, .int .u32 c), (⟨bo, 4, none⟩, .int .i64 P0), (⟨bo, 5, none⟩, .int .i64 Q0), (⟨bX, 0, none⟩, .string ⟨S.toArray⟩), (⟨bX, 1, none⟩, .slice ag ng kg), (⟨bX, 2, none⟩, .int .i64 M), (⟨bX, 3, none⟩, .int .u32 c), (⟨bX, 4, none⟩, .int .i64 P0), (⟨bX, 5, none⟩, .int .i64 Q0), (⟨bY, 0, none⟩, .string ⟨S.toArray⟩), (⟨bY, 1, none⟩, .slice ah nh kh), (⟨bY, 2, none⟩, .int .i64 N), (⟨bY, 3, none⟩, .int .u32 cm), (⟨bY, 4, none⟩, .int .i64 P1), (⟨bY, 5, none⟩, .int .i64 Q1)] D) => HT.out D (hBw12.trans (h.1.mono hBw12.size))
        clear rm rn ro rX rY rT HT hBw12
        change wpAnyH _ _ _ _ _ _ _ _ w12.drew
        generalize w12.drew = D0 at *
        refine held_val 0 rfl (by kernel_rfl) (by kernel_rfl) (by kernel_rfl) (fun _ _ _ _ h => h) (by rfl) hS ?_
        apply Exists.intro
        refine ⟨fun w' hw' => ?_, ?_⟩
        · skip
          go_simp
          first | done | rfl | exact ⟨rfl, rfl⟩
        simp only [Act.put, List.setIfInBounds_toArray, List.set_cons_zero, List.set_cons_succ]
        refine held_val 1 rfl (by kernel_rfl) (by kernel_rfl) (by kernel_rfl) (fun _ _ _ _ h => h) (by rfl) hS ?_
        apply Exists.intro
        refine ⟨fun w' hw' => ?_, ?_⟩
        · skip
          go_simp
          first | done | rfl | exact ⟨rfl, rfl⟩
        simp only [Act.put, List.setIfInBounds_toArray, List.set_cons_zero, List.set_cons_succ]
        refine held_val 2 rfl (by kernel_rfl) (by kernel_rfl) (by kernel_rfl) (fun _ _ _ _ h => h) (by rfl) hS ?_
        apply Exists.intro
        refine ⟨fun w' hw' => ?_, ?_⟩
        · skip
          go_simp
          first | done | rfl | exact ⟨rfl, rfl⟩
        simp only [Act.put, List.setIfInBounds_toArray, List.set_cons_zero, List.set_cons_succ]
        refine held_val 3 rfl (by kernel_rfl) (by kernel_rfl) (by kernel_rfl) (fun _ _ _ _ h => h) (by rfl) hS ?_
        apply Exists.intro
        refine ⟨fun w' hw' => ?_, ?_⟩
        · skip
          go_simp
          first | done | rfl | exact ⟨rfl, rfl⟩
        simp only [Act.put, List.setIfInBounds_toArray, List.set_cons_zero, List.set_cons_succ]
        refine held_val 4 rfl (by kernel_rfl) (by kernel_rfl) (by kernel_rfl) (fun _ _ _ _ h => h) (by rfl) hS ?_
        apply Exists.intro
        refine ⟨fun w' hw' => ?_, ?_⟩
        · skip
          go_simp
          first | done | rfl | exact ⟨rfl, rfl⟩
        simp only [Act.put, List.setIfInBounds_toArray, List.set_cons_zero, List.set_cons_succ]
        refine held_val 5 rfl (by kernel_rfl) (by kernel_rfl) (by kernel_rfl) (fun _ _ _ _ h => h) (by rfl) hS ?_
        apply Exists.intro
        refine ⟨fun w' hw' => ?_, ?_⟩
        · skip
          go_simp
          first | done | rfl | exact ⟨rfl, rfl⟩
        simp only [Act.put, List.setIfInBounds_toArray, List.set_cons_zero, List.set_cons_succ]
        refine held_val 6 rfl (by kernel_rfl) (by kernel_rfl) (by kernel_rfl) (fun _ _ _ _ h => h) (by rfl) hS ?_
        apply Exists.intro
        refine ⟨fun w' hw' => ?_, ?_⟩
        · skip
          go_simp
          first | done | rfl | exact ⟨rfl, rfl⟩
        simp only [Act.put, List.setIfInBounds_toArray, List.set_cons_zero, List.set_cons_succ]
        refine held_val 7 rfl (by kernel_rfl) (by kernel_rfl) (by kernel_rfl) (fun _ _ _ _ h => h) (by rfl) hS ?_
        apply Exists.intro
        refine ⟨fun w' hw' => ?_, ?_⟩
        · skip
          go_simp
          first | done | rfl | exact ⟨rfl, rfl⟩
        simp only [Act.put, List.setIfInBounds_toArray, List.set_cons_zero, List.set_cons_succ]
        refine held_val 8 rfl (by kernel_rfl) (by kernel_rfl) (by kernel_rfl) (fun _ _ _ _ h => h) (by rfl) hS ?_
        apply Exists.intro
        refine ⟨fun w' hw' => ?_, ?_⟩
        · have e0 := hw'.at 0 rfl; have e1 := hw'.at 1 rfl; have e2 := hw'.at 2 rfl; have e3 := hw'.at 3 rfl; have e4 := hw'.at 4 rfl; have e5 := hw'.at 5 rfl
          go_simp
          first | done | rfl | exact ⟨rfl, rfl⟩
        simp only [Act.put, List.setIfInBounds_toArray, List.set_cons_zero, List.set_cons_succ]
        refine held_val 9 rfl (by kernel_rfl) (by kernel_rfl) (by kernel_rfl) (fun _ _ _ _ h => h) (by rfl) hS ?_
        apply Exists.intro
        refine ⟨fun w' hw' => ?_, ?_⟩
        · have e6 := hw'.at 6 rfl; have e7 := hw'.at 7 rfl; have e8 := hw'.at 8 rfl; have e9 := hw'.at 9 rfl; have e10 := hw'.at 10 rfl; have e11 := hw'.at 11 rfl
          go_simp
          first | done | rfl | exact ⟨rfl, rfl⟩
        simp only [Act.put, List.setIfInBounds_toArray, List.set_cons_zero, List.set_cons_succ]
        have KC := samea_any (fun _ => True) (fun _ => True) S S ⟨am, nm, km⟩ ⟨an, nn, kn⟩ F F JL JC PM QM JL JC PM QM D0 (hm.stay hS.1) (hn.stay hS.1) (by omega)
        rw [samea_self] at KC
        unfold alV at KC
        simp only [Sl.v] at KC
        replace KC := Lib.hid KC
        refine held_call 10 (by kernel_rfl) rfl (by rfl) ?_
        apply Exists.intro
        apply Exists.intro
        refine ⟨?_, ?_⟩
        · go_simp
          first | done | rfl | exact ⟨rfl, rfl⟩
        refine KC.out.mono ?_
        rintro e D1 ⟨rfl, hb⟩
        replace hS := hS.go hb
        refine ⟨_, rfl, hS, ?_⟩
        clear KC hb
        simp only [Act.put, List.setIfInBounds_toArray, List.set_cons_zero, List.set_cons_succ]
        refine held_val 11 rfl (by kernel_rfl) (by kernel_rfl) (by kernel_rfl) (fun _ _ _ _ h => h) (by rfl) hS ?_
        apply Exists.intro
        refine ⟨fun w' hw' => ?_, ?_⟩
        · skip
          go_simp
          first | done | rfl | exact ⟨rfl, rfl⟩
        simp only [Act.put, List.setIfInBounds_toArray, List.set_cons_zero, List.set_cons_succ]
        refine held_val 12 rfl (by kernel_rfl) (by kernel_rfl) (by kernel_rfl) (fun _ _ _ _ h => h) (by rfl) hS ?_
        apply Exists.intro
        refine ⟨fun w' hw' => ?_, ?_⟩
        · skip
          go_simp
          first | done | rfl | exact ⟨rfl, rfl⟩
        simp only [Act.put, List.setIfInBounds_toArray, List.set_cons_zero, List.set_cons_succ]
        refine held_val 13 rfl (by kernel_rfl) (by kernel_rfl) (by kernel_rfl) (fun _ _ _ _ h => h) (by rfl) hS ?_
        apply Exists.intro
        refine ⟨fun w' hw' => ?_, ?_⟩
        · have e12 := hw'.at 12 rfl; have e13 := hw'.at 13 rfl; have e14 := hw'.at 14 rfl; have e15 := hw'.at 15 rfl; have e16 := hw'.at 16 rfl; have e17 := hw'.at 17 rfl
          go_simp
          first | done | rfl | exact ⟨rfl, rfl⟩
        simp only [Act.put, List.setIfInBounds_toArray, List.set_cons_zero, List.set_cons_succ]
        refine held_val 14 rfl (by kernel_rfl) (by kernel_rfl) (by kernel_rfl) (fun _ _ _ _ h => h) (by rfl) hS ?_
        apply Exists.intro
        refine ⟨fun w' hw' => ?_, ?_⟩
        · have e18 := hw'.at 18 rfl; have e19 := hw'.at 19 rfl; have e20 := hw'.at 20 rfl; have e21 := hw'.at 21 rfl; have e22 := hw'.at 22 rfl; have e23 := hw'.at 23 rfl
          go_simp
          first | done | rfl | exact ⟨rfl, rfl⟩
        simp only [Act.put, List.setIfInBounds_toArray, List.set_cons_zero, List.set_cons_succ]
        have KC := samea_any (fun _ => True) (fun _ => True) S S ⟨ao, no, ko⟩ ⟨ag, ng, kg⟩ F F M c P0 Q0 M c P0 Q0 D1 (ho.stay hS.1) (hz.stay hS.1) (by omega)
        rw [samea_self] at KC
        unfold alV at KC
        simp only [Sl.v] at KC
        replace KC := Lib.hid KC
        refine held_call 15 (by kernel_rfl) rfl (by rfl) ?_
        apply Exists.intro
        apply Exists.intro
        refine ⟨?_, ?_⟩
        · go_simp
          first | done | rfl | exact ⟨rfl, rfl⟩
        refine KC.out.mono ?_
        rintro e D2 ⟨rfl, hb⟩
        replace hS := hS.go hb
        refine ⟨_, rfl, hS, ?_⟩
        clear KC hb
        simp only [Act.put, List.setIfInBounds_toArray, List.set_cons_zero, List.set_cons_succ]
        refine held_val 16 rfl (by kernel_rfl) (by kernel_rfl) (by kernel_rfl) (fun _ _ _ _ h => h) (by rfl) hS ?_
        apply Exists.intro
        refine ⟨fun w' hw' => ?_, ?_⟩
        · skip
          go_simp
          first | done | rfl | exact ⟨rfl, rfl⟩
        simp only [Act.put, List.setIfInBounds_toArray, List.set_cons_zero, List.set_cons_succ]
        refine held_val 17 rfl (by kernel_rfl) (by kernel_rfl) (by kernel_rfl) (fun _ _ _ _ h => h) (by rfl) hS ?_
        apply Exists.intro
        refine ⟨fun w' hw' => ?_, ?_⟩
        · skip
          go_simp
          first | done | rfl | exact ⟨rfl, rfl⟩
        simp only [Act.put, List.setIfInBounds_toArray, List.set_cons_zero, List.set_cons_succ]
        refine held_val 18 rfl (by kernel_rfl) (by kernel_rfl) (by kernel_rfl) (fun _ _ _ _ h => h) (by rfl) hS ?_
        apply Exists.intro
        refine ⟨fun w' hw' => ?_, ?_⟩
        · skip
          go_simp
          first | done | rfl | exact ⟨rfl, rfl⟩
        simp only [Act.put, List.setIfInBounds_toArray, List.set_cons_zero, List.set_cons_succ]
        refine held_val 19 rfl (by kernel_rfl) (by kernel_rfl) (by kernel_rfl) (fun _ _ _ _ h => h) (by rfl) hS ?_
        apply Exists.intro
        refine ⟨fun w' hw' => ?_, ?_⟩
        · skip
          go_simp
          first | done | rfl | exact ⟨rfl, rfl⟩
        simp only [Act.put, List.setIfInBounds_toArray, List.set_cons_zero, List.set_cons_succ]
        refine held_val 20 rfl (by kernel_rfl) (by kernel_rfl) (by kernel_rfl) (fun _ _ _ _ h => h) (by rfl) hS ?_
        apply Exists.intro
        refine ⟨fun w' hw' => ?_, ?_⟩
        · skip
          go_simp
          first | done | rfl | exact ⟨rfl, rfl⟩
        simp only [Act.put, List.setIfInBounds_toArray, List.set_cons_zero, List.set_cons_succ]
        refine held_skip 21 rfl (by kernel_rfl) (by kernel_rfl) (by kernel_rfl) (fun _ _ _ _ h => h) (by rfl) hS ?_
        simp only [Act.put, List.setIfInBounds_toArray, List.set_cons_zero, List.set_cons_succ]
        refine held_skip 22 rfl (by kernel_rfl) (by kernel_rfl) (by kernel_rfl) (fun _ _ _ _ h => h) (by rfl) hS ?_
        simp only [Act.put, List.setIfInBounds_toArray, List.set_cons_zero, List.set_cons_succ]
        refine held_skip 23 rfl (by kernel_rfl) (by kernel_rfl) (by kernel_rfl) (fun _ _ _ _ h => h) (by rfl) hS ?_
        simp only [Act.put, List.setIfInBounds_toArray, List.set_cons_zero, List.set_cons_succ]
        refine held_val 24 rfl (by kernel_rfl) (by kernel_rfl) (by kernel_rfl) (fun _ _ _ _ h => h) (by rfl) hS ?_
        apply Exists.intro
        refine ⟨fun w' hw' => ?_, ?_⟩
        · skip
          go_simp
          first | done | rfl | exact ⟨rfl, rfl⟩
        simp only [Act.put, List.setIfInBounds_toArray, List.set_cons_zero, List.set_cons_succ]
        refine held_val 25 rfl (by kernel_rfl) (by kernel_rfl) (by kernel_rfl) (fun _ _ _ _ h => h) (by rfl) hS ?_
        apply Exists.intro
        refine ⟨fun w' hw' => ?_, ?_⟩
        · skip
          go_simp
          first | done | rfl | exact ⟨rfl, rfl⟩
        simp only [Act.put, List.setIfInBounds_toArray, List.set_cons_zero, List.set_cons_succ]
        refine held_val 26 rfl (by kernel_rfl) (by kernel_rfl) (by kernel_rfl) (fun _ _ _ _ h => h) (by rfl) hS ?_
        apply Exists.intro
        refine ⟨fun w' hw' => ?_, ?_⟩
        · skip
          go_simp
          first | done | rfl | exact ⟨rfl, rfl⟩
        simp only [Act.put, List.setIfInBounds_toArray, List.set_cons_zero, List.set_cons_succ]
        refine held_val 27 rfl (by kernel_rfl) (by kernel_rfl) (by kernel_rfl) (fun _ _ _ _ h => h) (by rfl) hS ?_
        apply Exists.intro
        refine ⟨fun w' hw' => ?_, ?_⟩
        · have e0 := hw'.at 0 rfl; have e1 := hw'.at 1 rfl; have e2 := hw'.at 2 rfl; have e3 := hw'.at 3 rfl; have e4 := hw'.at 4 rfl; have e5 := hw'.at 5 rfl
          go_simp
          first | done | rfl | exact ⟨rfl, rfl⟩
        simp only [Act.put, List.setIfInBounds_toArray, List.set_cons_zero, List.set_cons_succ]
        refine held_val 29 rfl (by kernel_rfl) (by kernel_rfl) (by kernel_rfl) (fun _ _ _ _ h => h) (by rfl) hS ?_
        apply Exists.intro
        refine ⟨fun w' hw' => ?_, ?_⟩
        · have e18 := hw'.at 18 rfl; have e19 := hw'.at 19 rfl; have e20 := hw'.at 20 rfl; have e21 := hw'.at 21 rfl; have e22 := hw'.at 22 rfl; have e23 := hw'.at 23 rfl
          go_simp
          first | done | rfl | exact ⟨rfl, rfl⟩
        simp only [Act.put, List.setIfInBounds_toArray, List.set_cons_zero, List.set_cons_succ]
        have KC := id_any (fun _ => True) S ⟨am, nm, km⟩ F JL JC PM QM D2 (HTD.out D2 hS) (hm.stay hS.1) (by omega) (by omega)
        unfold alV at KC
        simp only [Sl.v] at KC
        replace KC := Lib.hid KC
        refine held_call 28 (by kernel_rfl) rfl (by rfl) ?_
        apply Exists.intro
        apply Exists.intro
        refine ⟨?_, ?_⟩
        · go_simp
          first | done | rfl | exact ⟨rfl, rfl⟩
        refine KC.out.mono ?_
        rintro e D3 ⟨rfl, hb⟩
        replace hS := hS.go hb
        refine ⟨_, rfl, hS, ?_⟩
        clear KC hb
        simp only [Act.put, List.setIfInBounds_toArray, List.set_cons_zero, List.set_cons_succ]
        have KC := id_any (fun _ => True) S ⟨ag, ng, kg⟩ F M c P0 Q0 D3 (HTD.out D3 hS) (hz.stay hS.1) (by omega) (by omega)
        unfold alV at KC
        simp only [Sl.v] at KC
        replace KC := Lib.hid KC
        refine held_call 30 (by kernel_rfl) rfl (by rfl) ?_
        apply Exists.intro
        apply Exists.intro
        refine ⟨?_, ?_⟩
        · go_simp
          first | done | rfl | exact ⟨rfl, rfl⟩
        refine KC.out.mono ?_
        rintro e D4 ⟨rfl, hb⟩
        replace hS := hS.go hb
        refine ⟨_, rfl, hS, ?_⟩
        clear KC hb
        simp only [Act.put, List.setIfInBounds_toArray, List.set_cons_zero, List.set_cons_succ]
        refine held_val 31 rfl (by kernel_rfl) (by kernel_rfl) (by kernel_rfl) (fun _ _ _ _ h => h) (by rfl) hS ?_
        apply Exists.intro
        refine ⟨fun w' hw' => ?_, ?_⟩
        · skip
          go_simp
          first | done | rfl | exact ⟨rfl, rfl⟩
        simp only [Act.put, List.setIfInBounds_toArray, List.set_cons_zero, List.set_cons_succ]
        refine held_val 32 rfl (by kernel_rfl) (by kernel_rfl) (by kernel_rfl) (fun _ _ _ _ h => h) (by rfl) hS ?_
        apply Exists.intro
        refine ⟨fun w' hw' => ?_, ?_⟩
        · skip
          go_simp
          first | done | rfl | exact ⟨rfl, rfl⟩
        simp only [Act.put, List.setIfInBounds_toArray, List.set_cons_zero, List.set_cons_succ]
        refine held_val 33 rfl (by kernel_rfl) (by kernel_rfl) (by kernel_rfl) (fun _ _ _ _ h => h) (by rfl) hS ?_
        apply Exists.intro
        refine ⟨fun w' hw' => ?_, ?_⟩
        · skip
          go_simp
          first | done | rfl | exact ⟨rfl, rfl⟩
        simp only [Act.put, List.setIfInBounds_toArray, List.set_cons_zero, List.set_cons_succ]
        refine held_val 34 rfl (by kernel_rfl) (by kernel_rfl) (by kernel_rfl) (fun _ _ _ _ h => h) (by rfl) hS ?_
        apply Exists.intro
        refine ⟨fun w' hw' => ?_, ?_⟩
        · skip
          go_simp
          first | done | rfl | exact ⟨rfl, rfl⟩
        simp only [Act.put, List.setIfInBounds_toArray, List.set_cons_zero, List.set_cons_succ]
        refine held_val 35 rfl (by kernel_rfl) (by kernel_rfl) (by kernel_rfl) (fun _ _ _ _ h => h) (by rfl) hS ?_
        apply Exists.intro
        refine ⟨fun w' hw' => ?_, ?_⟩
        · have e20 := hw'.at 20 rfl; have e21 := hw'.at 21 rfl
          go_simp
          first | done | rfl | exact ⟨rfl, rfl⟩
        simp only [Act.put, List.setIfInBounds_toArray, List.set_cons_zero, List.set_cons_succ]
        refine held_val 36 rfl (by kernel_rfl) (by kernel_rfl) (by kernel_rfl) (fun _ _ _ _ h => h) (by rfl) hS ?_
        apply Exists.intro
        refine ⟨fun w' hw' => ?_, ?_⟩
        · skip
          go_simp
          first | done | rfl | exact ⟨rfl, rfl⟩
        simp only [Act.put, List.setIfInBounds_toArray, List.set_cons_zero, List.set_cons_succ]
        refine held_val 37 rfl (by kernel_rfl) (by kernel_rfl) (by kernel_rfl) (fun _ _ _ _ h => h) (by rfl) hS ?_
        apply Exists.intro
        refine ⟨fun w' hw' => ?_, ?_⟩
        · have e2 := hw'.at 2 rfl; have e3 := hw'.at 3 rfl
          go_simp
          first | done | rfl | exact ⟨rfl, rfl⟩
        simp only [Act.put, List.setIfInBounds_toArray, List.set_cons_zero, List.set_cons_succ]
        have KC := Lb.rflows_any M c JL JC hc.1 hc.2 hJU.1 hJU.2 D4
        rw [hup.1] at KC
        replace KC := Lib.hid KC
        refine held_call 38 (by kernel_rfl) rfl (by rfl) ?_
        apply Exists.intro
        apply Exists.intro
        refine ⟨?_, ?_⟩
        · go_simp
          first | done | rfl | exact ⟨rfl, rfl⟩
        refine KC.out.mono ?_
        rintro e D5 ⟨rfl, hb⟩
        replace hS := hS.go hb
        refine ⟨_, rfl, hS, ?_⟩
        clear KC hb
        simp only [Act.put, List.setIfInBounds_toArray, List.set_cons_zero, List.set_cons_succ]
        refine held_val 39 rfl (by kernel_rfl) (by kernel_rfl) (by kernel_rfl) (fun _ _ _ _ h => h) (by rfl) hS ?_
        apply Exists.intro
        refine ⟨fun w' hw' => ?_, ?_⟩
        · skip
          go_simp
          first | done | rfl | exact ⟨rfl, rfl⟩
        simp only [Act.put, List.setIfInBounds_toArray, List.set_cons_zero, List.set_cons_succ]
        refine held_val 40 rfl (by kernel_rfl) (by kernel_rfl) (by kernel_rfl) (fun _ _ _ _ h => h) (by rfl) hS ?_
        apply Exists.intro
        refine ⟨fun w' hw' => ?_, ?_⟩
        · skip
          go_simp
          first | done | rfl | exact ⟨rfl, rfl⟩
        simp only [Act.put, List.setIfInBounds_toArray, List.set_cons_zero, List.set_cons_succ]
        refine held_val 41 rfl (by kernel_rfl) (by kernel_rfl) (by kernel_rfl) (fun _ _ _ _ h => h) (by rfl) hS ?_
        apply Exists.intro
        refine ⟨fun w' hw' => ?_, ?_⟩
        · skip
          go_simp
          first | done | rfl | exact ⟨rfl, rfl⟩
        simp only [Act.put, List.setIfInBounds_toArray, List.set_cons_zero, List.set_cons_succ]
        refine held_val 42 rfl (by kernel_rfl) (by kernel_rfl) (by kernel_rfl) (fun _ _ _ _ h => h) (by rfl) hS ?_
        apply Exists.intro
        refine ⟨fun w' hw' => ?_, ?_⟩
        · have e26 := hw'.at 26 rfl; have e27 := hw'.at 27 rfl
          go_simp
          first | done | rfl | exact ⟨rfl, rfl⟩
        simp only [Act.put, List.setIfInBounds_toArray, List.set_cons_zero, List.set_cons_succ]
        refine held_val 43 rfl (by kernel_rfl) (by kernel_rfl) (by kernel_rfl) (fun _ _ _ _ h => h) (by rfl) hS ?_
        apply Exists.intro
        refine ⟨fun w' hw' => ?_, ?_⟩
        · skip
          go_simp
          first | done | rfl | exact ⟨rfl, rfl⟩
        simp only [Act.put, List.setIfInBounds_toArray, List.set_cons_zero, List.set_cons_succ]
        refine held_val 44 rfl (by kernel_rfl) (by kernel_rfl) (by kernel_rfl) (fun _ _ _ _ h => h) (by rfl) hS ?_
        apply Exists.intro
        refine ⟨fun w' hw' => ?_, ?_⟩
        · have e2 := hw'.at 2 rfl; have e3 := hw'.at 3 rfl
          go_simp
          first | done | rfl | exact ⟨rfl, rfl⟩
        simp only [Act.put, List.setIfInBounds_toArray, List.set_cons_zero, List.set_cons_succ]
        have KC := Lb.rflows_any N cm JL JC hd.1 hd.2 hJU.1 hJU.2 D5
        rw [hup.2] at KC
        replace KC := Lib.hid KC
        refine held_call 45 (by kernel_rfl) rfl (by rfl) ?_
        apply Exists.intro
        apply Exists.intro
        refine ⟨?_, ?_⟩
        · go_simp
          first | done | rfl | exact ⟨rfl, rfl⟩
        refine KC.out.mono ?_
        rintro e D6 ⟨rfl, hb⟩
        replace hS := hS.go hb
        refine ⟨_, rfl, hS, ?_⟩
        clear KC hb
        simp only [Act.put, List.setIfInBounds_toArray, List.set_cons_zero, List.set_cons_succ]
        refine held_val 46 rfl (by kernel_rfl) (by kernel_rfl) (by kernel_rfl) (fun _ _ _ _ h => h) (by rfl) hS ?_
        apply Exists.intro
        refine ⟨fun w' hw' => ?_, ?_⟩
        · skip
          go_simp
          first | done | rfl | exact ⟨rfl, rfl⟩
        simp only [Act.put, List.setIfInBounds_toArray, List.set_cons_zero, List.set_cons_succ]
        refine held_val 47 rfl (by kernel_rfl) (by kernel_rfl) (by kernel_rfl) (fun _ _ _ _ h => h) (by rfl) hS ?_
        apply Exists.intro
        refine ⟨fun w' hw' => ?_, ?_⟩
        · skip
          go_simp
          first | done | rfl | exact ⟨rfl, rfl⟩
        simp only [Act.put, List.setIfInBounds_toArray, List.set_cons_zero, List.set_cons_succ]
        refine held_val 48 rfl (by kernel_rfl) (by kernel_rfl) (by kernel_rfl) (fun _ _ _ _ h => h) (by rfl) hS ?_
        apply Exists.intro
        refine ⟨fun w' hw' => ?_, ?_⟩
        · have e0 := hw'.at 0 rfl; have e1 := hw'.at 1 rfl; have e2 := hw'.at 2 rfl; have e3 := hw'.at 3 rfl; have e4 := hw'.at 4 rfl; have e5 := hw'.at 5 rfl
          go_simp
          first | done | rfl | exact ⟨rfl, rfl⟩
        simp only [Act.put, List.setIfInBounds_toArray, List.set_cons_zero, List.set_cons_succ]
        have KC := aright_any (fun _ => True) S ⟨am, nm, km⟩ F JL JC PM QM D6 (hm.stay hS.1) (by omega) (by omega) hFm
        rw [hJ] at KC
        unfold alV at KC
        simp only [Sl.v] at KC
        replace KC := Lib.hid KC
        refine held_call 49 (by kernel_rfl) rfl (by rfl) ?_
        apply Exists.intro
        apply Exists.intro
        refine ⟨?_, ?_⟩
        · go_simp
          first | done | rfl | exact ⟨rfl, rfl⟩
        refine KC.out.mono ?_
        rintro e D7 ⟨rfl, hb⟩
        replace hS := hS.go hb
        refine ⟨_, rfl, hS, ?_⟩
        clear KC hb
        simp only [Act.put, List.setIfInBounds_toArray, List.set_cons_zero, List.set_cons_succ]
        refine held_val 50 rfl (by kernel_rfl) (by kernel_rfl) (by kernel_rfl) (fun _ _ _ _ h => h) (by rfl) hS ?_
        apply Exists.intro
        refine ⟨fun w' hw' => ?_, ?_⟩
        · skip
          go_simp
          first | done | rfl | exact ⟨rfl, rfl⟩
        simp only [Act.put, List.setIfInBounds_toArray, List.set_cons_zero, List.set_cons_succ]
        refine held_val 51 rfl (by kernel_rfl) (by kernel_rfl) (by kernel_rfl) (fun _ _ _ _ h => h) (by rfl) hS ?_
        apply Exists.intro
        refine ⟨fun w' hw' => ?_, ?_⟩
        · skip
          go_simp
          first | done | rfl | exact ⟨rfl, rfl⟩
        simp only [Act.put, List.setIfInBounds_toArray, List.set_cons_zero, List.set_cons_succ]
        refine held_val 52 rfl (by kernel_rfl) (by kernel_rfl) (by kernel_rfl) (fun _ _ _ _ h => h) (by rfl) hS ?_
        apply Exists.intro
        refine ⟨fun w' hw' => ?_, ?_⟩
        · skip
          go_simp
          first | done | rfl | exact ⟨rfl, rfl⟩
        simp only [Act.put, List.setIfInBounds_toArray, List.set_cons_zero, List.set_cons_succ]
        refine held_val 53 rfl (by kernel_rfl) (by kernel_rfl) (by kernel_rfl) (fun _ _ _ _ h => h) (by rfl) hS ?_
        apply Exists.intro
        refine ⟨fun w' hw' => ?_, ?_⟩
        · have e1 := hw'.at 1 rfl
          go_simp
          first | done | rfl | exact ⟨rfl, rfl⟩
        simp only [Act.put, List.setIfInBounds_toArray, List.set_cons_zero, List.set_cons_succ]
        refine held_val 54 rfl (by kernel_rfl) (by kernel_rfl) (by kernel_rfl) (fun _ _ _ _ h => h) (by rfl) hS ?_
        apply Exists.intro
        refine ⟨fun w' hw' => ?_, ?_⟩
        · skip
          go_simp
          first | done | rfl | exact ⟨rfl, rfl⟩
        simp only [Act.put, List.setIfInBounds_toArray, List.set_cons_zero, List.set_cons_succ]
        refine held_val 55 rfl (by kernel_rfl) (by kernel_rfl) (by kernel_rfl) (fun _ _ _ _ h => h) (by rfl) hS ?_
        apply Exists.intro
        refine ⟨fun w' hw' => ?_, ?_⟩
        · have e19 := hw'.at 19 rfl
          go_simp
          first | done | rfl | exact ⟨rfl, rfl⟩
        simp only [Act.put, List.setIfInBounds_toArray, List.set_cons_zero, List.set_cons_succ]
        have KC := same_any (fun _ => True) (fun _ => True) (.slice am nm km) (.slice ag ng kg) F F D7 (hm.stay hS.1) (hz.stay hS.1) (by omega)
        rw [beq_self_eq_true] at KC
        replace KC := Lib.hid KC
        refine held_call 56 (by kernel_rfl) rfl (by rfl) ?_
        apply Exists.intro
        apply Exists.intro
        refine ⟨?_, ?_⟩
        · go_simp
          first | done | rfl | exact ⟨rfl, rfl⟩
        refine KC.out.mono ?_
        rintro e D8 ⟨rfl, hb⟩
        replace hS := hS.go hb
        refine ⟨_, rfl, hS, ?_⟩
        clear KC hb
        simp only [Act.put, List.setIfInBounds_toArray, List.set_cons_zero, List.set_cons_succ]
        refine held_val 57 rfl (by kernel_rfl) (by kernel_rfl) (by kernel_rfl) (fun _ _ _ _ h => h) (by rfl) hS ?_
        apply Exists.intro
        refine ⟨fun w' hw' => ?_, ?_⟩
        · skip
          go_simp
          first | done | rfl | exact ⟨rfl, rfl⟩
        simp only [Act.put, List.setIfInBounds_toArray, List.set_cons_zero, List.set_cons_succ]
        refine held_val 58 rfl (by kernel_rfl) (by kernel_rfl) (by kernel_rfl) (fun _ _ _ _ h => h) (by rfl) hS ?_
        apply Exists.intro
        refine ⟨fun w' hw' => ?_, ?_⟩
        · skip
          go_simp
          first | done | rfl | exact ⟨rfl, rfl⟩
        simp only [Act.put, List.setIfInBounds_toArray, List.set_cons_zero, List.set_cons_succ]
        refine wpAnyH_done (by kernel_rfl) ?_ _
        have hBE := HEND.out D8 hS
        clear hS HEND HTD
        go_wp2_with fail
        go_ret
        exact ⟨rfl, hBE⟩
  · rw [decide_eq_false hp]
    go_wp2_with fail
    go_ret
    exact ⟨rfl, hB4⟩
end Go.Proofs.YtknhkmlihbgjpaaDoor
