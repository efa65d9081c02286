/- Joins and meets: the statement's own function returns true, of whatever three labels. -/
import Derived.Test.YtkmbllnnaljepaaDoorOrder
import Derived.Test.YtkmbllnnaljepaaDoorSized
import Derived.Test.YtkmbllnnaljepaaDoorLattice
import Derived.Test.YtkmbllnnaljepaaDoorLoose
import Derived.Deep.DeepCutAuto
import Derived.RegionTactic
namespace Go.Proofs.YtkmbllnnaljepaaDoor
open Go.ChangeShapes Go.WideShapes Go.RowKit
attribute [local go_sem ↓] Go.wp_at_zero Go.wp_at_succ

/-- Three labels lie in the three blocks from N on, and may be written. -/
abbrev U3 (N : Nat) (w : World) (la ca lb cb lc cc : Int) (w' : World) : Prop :=
  S3 N w la ca lb cb lc cc w' ∧ N + 1 + 1 < w'.heap.size ∧ w'.frozen? ⟨N, 0, none⟩ = false ∧ w'.frozen? ⟨N + 1, 0, none⟩ = false ∧ w'.frozen? ⟨N + 1 + 1, 0, none⟩ = false
theorem U3.keep {N : Nat} {w w1 w2 : World} {la ca lb cb lc cc : Int} (h : U3 N w la ca lb cb lc cc w1) (hb : Below w1.heap.size w1 w2) : U3 N w la ca lb cb lc cc w2 :=
  ⟨h.1.keep hb, Nat.lt_of_lt_of_le h.2.1 hb.size, (hb.frozen (p := ⟨N, 0, none⟩) (by have := h.2.1; simp; omega)).trans h.2.2.1, (hb.frozen (p := ⟨N + 1, 0, none⟩) (by have := h.2.1; simp; omega)).trans h.2.2.2.1, (hb.frozen (p := ⟨N + 1 + 1, 0, none⟩) (by have := h.2.1; simp; omega)).trans h.2.2.2.2⟩
theorem U3.start (w : World) (la ca lb cb lc cc : Int) : U3 w.heap.size w la ca lb cb lc cc (((w.alloc (.cells #[.int .i64 la, .int .u32 ca] 24)).alloc (.cells #[.int .i64 lb, .int .u32 cb] 24)).alloc (.cells #[.int .i64 lc, .int .u32 cc] 24)) := by
  have h1 := ((LabU.one w la ca).later (.cells #[.int .i64 lb, .int .u32 cb] 24)).later (.cells #[.int .i64 lc, .int .u32 cc] 24)
  have h2 := (LabU.one (w.alloc (.cells #[.int .i64 la, .int .u32 ca] 24)) lb cb).later (.cells #[.int .i64 lc, .int .u32 cc] 24)
  have h3 := LabU.one ((w.alloc (.cells #[.int .i64 la, .int .u32 ca] 24)).alloc (.cells #[.int .i64 lb, .int .u32 cb] 24)) lc cc
  simp only [World.size_alloc] at h2 h3
  exact ⟨S3.start w la ca lb cb lc cc, by simp, h1.2.2.1, h2.2.2.1, h3.2.2.1⟩

theorem U3.drew {N : Nat} {w w1 : World} {la ca lb cb lc cc : Int} (h : U3 N w la ca lb cb lc cc w1) : U3 N w la ca lb cb lc cc w1.drew := ⟨h.1.drew, h.2⟩
theorem U3.alloc {N : Nat} {w w1 : World} {la ca lb cb lc cc : Int} (h : U3 N w la ca lb cb lc cc w1) (o : Obj) : U3 N w la ca lb cb lc cc (w1.alloc o) := h.keep ((Below.refl _ _).alloc (Nat.le_refl _) _)
theorem cell_set_far {w : World} {a b : Addr} {v : Value} (h : a.block ≠ b.block) : (w.setCell a v).cell? b = w.cell? b := World.cell?_of_block (Below.heap_setCell w a v b.block (Ne.symm h))
/-- A store into a block behind the three. -/
theorem U3.set {N : Nat} {w w1 : World} {la ca lb cb lc cc : Int} (h : U3 N w la ca lb cb lc cc w1) (g o : Nat) (hg : N + 1 + 1 < g) (v : Value) : U3 N w la ca lb cb lc cc (w1.setCell ⟨g, o, none⟩ v) := by
  obtain ⟨⟨hB, hsz, c0, c1, c2, c3, c4, c5⟩, h3, f0, f1, f2⟩ := h
  refine ⟨⟨hB.setCell (p := ⟨g, o, none⟩) (by simp; omega) _, by simpa [World.setCell] using hsz, ?_, ?_, ?_, ?_, ?_, ?_⟩, by simpa [World.setCell] using h3, ?_, ?_, ?_⟩
  all_goals first | (rw [cell_set_far (by simp; omega)]; assumption) | (rw [World.frozen?_setCell]; assumption)
theorem lev (x : Int) : wrap64 ((IntKind.u64.wrap x).tmod 8) = x % 8 := by
  simp only [wrap64, IntKind.wrap, IntKind.bits, IntKind.signed]
  simp
  rw [Int.tmod_eq_emod_of_nonneg (by omega)]
  omega
theorem U3.levels {N : Nat} {w w1 : World} {la ca lb cb lc cc x y : Int} (h : U3 N w la ca lb cb lc cc w1) :
    U3 N w x ca y cb lc cc ((w1.setCell ⟨N, 0, none⟩ (.int .i64 x)).setCell ⟨N + 1, 0, none⟩ (.int .i64 y)).drew := by
  obtain ⟨⟨hB, hsz, c0, c1, c2, c3, c4, c5⟩, h3, f0, f1, f2⟩ := h
  refine U3.drew ⟨⟨(hB.setCell (p := ⟨N, 0, none⟩) (by simp) _).setCell (p := ⟨N + 1, 0, none⟩) (by simp) _, by simpa [World.setCell] using hsz, ?_, ?_, ?_, ?_, ?_, ?_⟩, by simpa [World.setCell] using h3, ?_, ?_, ?_⟩
  · rw [cell_set_far (by simp)]; exact World.cell?_setCell_same' _ _ _ (by rw [c0]; rfl)
  · rw [cell_set_far (by simp), World.cell?_setCell_other _ _ _ _ (by simp)]; exact c1
  · exact World.cell?_setCell_same' _ _ _ (by rw [cell_set_far (by simp), c2]; rfl)
  · rw [World.cell?_setCell_other _ _ _ _ (by simp), cell_set_far (by simp)]; exact c3
  · rw [cell_set_far (by simp), cell_set_far (by simp; omega)]; exact c4
  · rw [cell_set_far (by simp), cell_set_far (by simp; omega)]; exact c5
  · rw [World.frozen?_setCell, World.frozen?_setCell]; exact f0
  · rw [World.frozen?_setCell, World.frozen?_setCell]; exact f1
  · rw [World.frozen?_setCell, World.frozen?_setCell]; exact f2

/-- The three labels, and two more in the blocks g and h. -/
abbrev S5 (N : Nat) (w : World) (la ca lb cb lc cc : Int) (g h : Nat) (lg cg lh ch : Int) (w' : World) : Prop :=
  S3 N w la ca lb cb lc cc w' ∧ w'.cell? ⟨g, 0, none⟩ = some (.int .i64 lg) ∧ w'.cell? ⟨g, 1, none⟩ = some (.int .u32 cg) ∧ w'.cell? ⟨h, 0, none⟩ = some (.int .i64 lh) ∧ w'.cell? ⟨h, 1, none⟩ = some (.int .u32 ch)
theorem S5.keep {N : Nat} {w w1 w2 : World} {la ca lb cb lc cc : Int} {g h : Nat} {lg cg lh ch : Int} (k : S5 N w la ca lb cb lc cc g h lg cg lh ch w1) (hb : Below w1.heap.size w1 w2) : S5 N w la ca lb cb lc cc g h lg cg lh ch w2 :=
  ⟨k.1.keep hb, Below.keeps hb k.2.1, Below.keeps hb k.2.2.1, Below.keeps hb k.2.2.2.1, Below.keeps hb k.2.2.2.2⟩
theorem S5.drew {N : Nat} {w w1 : World} {la ca lb cb lc cc : Int} {g h : Nat} {lg cg lh ch : Int} (k : S5 N w la ca lb cb lc cc g h lg cg lh ch w1) : S5 N w la ca lb cb lc cc g h lg cg lh ch w1.drew := ⟨k.1.drew, k.2⟩

/-- The class of worlds of a region that makes new labels: what B says, and the marked values are new labels, each in a block of its own, from M on. -/
def CL (B : World → Prop) (M : Nat) (L : Marks) (w : World) : Prop :=
  B w ∧ M ≤ w.heap.size ∧ (∀ i v, L i = some v → ∃ g, v = .pointer (some ⟨g, 0, none⟩) ∧ M ≤ g ∧ LabU w g 0 0) ∧ (∀ i j v, L i = some v → L j = some v → i = j)
theorem CL.keep {B : World → Prop} {M : Nat} {L : Marks} {w w' : World} (hB : ∀ w w', B w → Below w.heap.size w w' → B w') (h : CL B M L w) (hb : Below w.heap.size w w') : CL B M L w' :=
  ⟨hB _ _ h.1 hb, Nat.le_trans h.2.1 hb.size, fun i v hv => let ⟨g, e, hg, hu⟩ := h.2.2.1 i v hv; ⟨g, e, hg, hu.keep hb⟩, h.2.2.2⟩
theorem CL.new {B : World → Prop} {M : Nat} {L : Marks} {w : World} (i : Nat) (hB : ∀ w w', B w → Below w.heap.size w w' → B w') (h : CL B M L w) :
    CL B M (upd L i (.pointer (some ⟨w.heap.size, 0, none⟩))) (w.alloc (.cells #[.int .i64 0, .int .u32 0] 24)) := by
  have h1 := CL.keep hB h ((Below.refl _ w).alloc (Nat.le_refl _) (.cells #[.int .i64 0, .int .u32 0] 24))
  have far : ∀ j v, L j = some v → v ≠ .pointer (some ⟨w.heap.size, 0, none⟩) := fun j v hv he => by
    obtain ⟨g, e, _, hu⟩ := h.2.2.1 j v hv
    have hlt := World.block_lt_of_cell? w _ hu.1
    rw [he] at e
    injection e with e
    injection e with e
    injection e with e
    simp at hlt
    omega
  refine ⟨h1.1, h1.2.1, fun j v hv => ?_, fun j x v hj hx => ?_⟩
  · unfold upd at hv
    split at hv
    · injection hv with hv
      exact ⟨w.heap.size, hv.symm, h.2.1, LabU.one w 0 0⟩
    · exact h1.2.2.1 j v hv
  · unfold upd at hj hx
    split at hj <;> split at hx
    · omega
    · injection hj with hj; exact absurd hj.symm (far x v hx)
    · injection hx with hx; exact absurd hx.symm (far j v hj)
    · exact h.2.2.2 j x v hj hx
theorem CL.start {B : World → Prop} {M : Nat} {w : World} (h : B w) (hM : M ≤ w.heap.size) : CL B M (fun _ => none) w := ⟨h, hM, fun _ _ h => (by cases h), fun _ _ _ h => (by cases h)⟩
theorem CL.two {B : World → Prop} {M : Nat} {w : World} {i j : Nat} {u v : Value} (hij : i ≠ j) (h : CL B M (upd (upd (fun _ => none) i u) j v) w) :
    ∃ g x, u = .pointer (some ⟨g, 0, none⟩) ∧ v = .pointer (some ⟨x, 0, none⟩) ∧ g ≠ x ∧ M ≤ g ∧ M ≤ x ∧ LabU w g 0 0 ∧ LabU w x 0 0 ∧ B w := by
  have hi : upd (upd (fun _ => none) i u) j v i = some u := by simp [upd, hij]
  have hj : upd (upd (fun _ => none) i u) j v j = some v := by simp [upd]
  obtain ⟨g, rfl, hg, hu⟩ := h.2.2.1 i u hi
  obtain ⟨x, rfl, hx, hv⟩ := h.2.2.1 j v hj
  refine ⟨g, x, rfl, rfl, fun e => ?_, hg, hx, hu, hv, h.1⟩
  subst e
  exact hij (h.2.2.2 i j _ hi hj)

theorem eq_two_false {α : Type} {p q : Prop} [Decidable p] [Decidable q] {x y : α} (h : ¬(p ∧ q)) : (if p then if q then x else y else y) = y := by
  by_cases h1 : p
  · have h2 : ¬q := fun hq => h ⟨h1, hq⟩
    simp [h2]
  · simp [h1]
theorem LabU.put {w : World} {g : Nat} {l c : Int} (h : LabU w g l c) (m d : Int) : LabU ((w.setCell ⟨g, 0, none⟩ (.int .i64 m)).setCell ⟨g, 1, none⟩ (.int .u32 d)) g m d := by
  obtain ⟨h0, h1, h2, h3⟩ := h
  refine ⟨?_, ?_, ?_, ?_⟩
  · rw [World.cell?_setCell_other _ _ _ _ (by simp)]; exact World.cell?_setCell_same' _ _ _ (by rw [h0]; rfl)
  · exact World.cell?_setCell_same' _ _ _ (by rw [World.cell?_setCell_other _ _ _ _ (by simp), h1]; rfl)
  · rw [World.frozen?_setCell, World.frozen?_setCell]; exact h2
  · rw [World.frozen?_setCell, World.frozen?_setCell]; exact h3
theorem LabU.far {w : World} {g x : Nat} {l c : Int} (h : LabU w x l c) (hgx : g ≠ x) (v u : Value) : LabU ((w.setCell ⟨g, 0, none⟩ v).setCell ⟨g, 1, none⟩ u) x l c := by
  obtain ⟨h0, h1, h2, h3⟩ := h
  refine ⟨?_, ?_, ?_, ?_⟩
  · rw [cell_set_far (by simpa using hgx), cell_set_far (by simpa using hgx)]; exact h0
  · rw [cell_set_far (by simpa using hgx), cell_set_far (by simpa using hgx)]; exact h1
  · rw [World.frozen?_setCell, World.frozen?_setCell]; exact h2
  · rw [World.frozen?_setCell, World.frozen?_setCell]; exact h3

set_option maxHeartbeats 12000000 in
set_option maxRecDepth 100000 in
theorem least_any (la ca lb cb lc cc : Int) (ha0 : 0 ≤ ca) (ha1 : ca < 4294967296) (hb0 : 0 ≤ cb) (hb1 : cb < 4294967296) (hc0 : 0 ≤ cc) (hc1 : cc < 4294967296) (w : World) (he : Errs w) :
    Calls Tryd.prog 6 #[.agg #[.int .i64 la, .int .u32 ca], .agg #[.int .i64 lb, .int .u32 cb], .agg #[.int .i64 lc, .int .u32 cc]] w fun e w' => e = .returned (.bool true) ∧ Below w.heap.size w w' := by
  have h0 := U3.start w la ca lb cb lc cc
  have he1 := he.keep (((((Below.refl _ w).alloc (Nat.le_refl _) (.cells #[.int .i64 la, .int .u32 ca] 24)).alloc (by simp) (.cells #[.int .i64 lb, .int .u32 cb] 24)).alloc (by simp; omega) (.cells #[.int .i64 lc, .int .u32 cc] 24)))
  go_enter Tryd.func6, Tryd.ntmps6
  go_wp2_with fail
  refine (lives_any _ he1).mono ?_
  rintro e w1 ⟨rfl, hb⟩
  have hS := h0.keep hb
  clear h0 hb he1
  generalize hN : w.heap.size = N at *
  have HN := Lib.hid hN
  clear hN
  go_upto_region 3 with fail
  go_cut [6] (fun s6 wx => s6 = .bool false ∧ U3 N w (la % 8) ca (lb % 8) cb lc cc wx)
  case first =>
    go_region
    go_wp2_with fail
    go_meet
    rw [lev, lev]
    exact ⟨rfl, hS.levels⟩
  case rest =>
    obtain ⟨rfl, hS1⟩ := hcut
    clear hS
    have ra : 0 ≤ la % 8 ∧ la % 8 < 8 := by omega
    have rb : 0 ≤ lb % 8 ∧ lb % 8 < 8 := by omega
    generalize la % 8 = la at *
    generalize lb % 8 = lb at *
    go_upto_region 4 with fail
    have hra := rB_true.2 ra
    have hrb := rB_true.2 rb
    go_cut [7, 8] (fun s7 s8 wx => ∃ g h : Nat, N + 1 + 1 < g ∧ N + 1 + 1 < h ∧ s7 = .pointer (some ⟨g, 0, none⟩) ∧ s8 = .pointer (some ⟨h, 0, none⟩) ∧ U3 N w la ca lb cb lc cc wx ∧ LabAt wx g (max la lb) ((ca.toNat ||| cb.toNat : Nat) : Int) ∧ LabAt wx h (min la lb) ((ca.toNat &&& cb.toNat : Nat) : Int))
    case first =>
      have hz := hS1.2.1
      refine region_loose (CL (fun w' => U3 N w la ca lb cb lc cc w') (N + 1 + 1 + 1)) 6 8 2 #[true, true, true, true, true, true, true, true, false, false] rfl (by kernel_rfl) (by kernel_rfl) (by kernel_rfl) (CL.start hS1.drew hz) ?_
      simp only [List.take_succ_cons, List.take_zero]
      repeat
        first
        | (refine loose_val (by decide) rfl ?_
           apply Exists.intro
           refine ⟨fun L' w' hw' => ?_, ?_⟩
           · obtain ⟨⟨⟨_, _, q0, q1, q2, q3, q4, q5⟩, _⟩, _⟩ := hw'
             go_simp
             first | done | rfl | exact ⟨rfl, rfl⟩
           simp only [Act.put, List.setIfInBounds_toArray, List.set_cons_zero, List.set_cons_succ])
        | (refine loose_call (by decide) rfl ?_
           apply Exists.intro
           apply Exists.intro
           refine ⟨fun w' => ?_, ?_⟩
           · go_simp
             first | done | rfl | exact ⟨rfl, rfl⟩
           apply Exists.intro
           refine ⟨fun L' w' hw' => ?_, ?_⟩
           · first
             | (go_at_call 16; exact (join_five _ _ _ _ hra hrb (by omega) (by omega) (by omega) (by omega) w').mono fun e w2 ⟨he, hb, _⟩ => ⟨he, hw'.keep (fun _ _ => U3.keep) hb⟩)
             | (go_at_call 18; exact (meet_five _ _ _ _ hra hrb (by omega) (by omega) (by omega) (by omega) w').mono fun e w2 ⟨he, hb, _⟩ => ⟨he, hw'.keep (fun _ _ => U3.keep) hb⟩)
           simp only [Act.put, List.setIfInBounds_toArray, List.set_cons_zero, List.set_cons_succ])
        | (refine loose_new (by decide) rfl (fun L' w' hw' => ?_) (fun v => ?_)
           · exact ⟨.pointer (some ⟨w'.heap.size, 0, none⟩), w'.alloc (.cells #[.int .i64 0, .int .u32 0] 24), by go_simp, CL.new _ (fun _ _ => U3.keep) hw'⟩
           simp only [Act.put, List.setIfInBounds_toArray, List.set_cons_zero, List.set_cons_succ])
      intro w5 hw5
      obtain ⟨g, x, rfl, rfl, hgx, hg, hx, hG, hX, hU⟩ := CL.two (by decide) hw5
      clear hw5
      have hG1 := hG.put (max la lb) ((ca.toNat ||| cb.toNat : Nat) : Int)
      have hX1 := hX.far hgx (.int .i64 (max la lb)) (.int .u32 ((ca.toNat ||| cb.toNat : Nat) : Int))
      have hU1 := (hU.set g 0 hg (.int .i64 (max la lb))).set g 1 hg (.int .u32 ((ca.toNat ||| cb.toNat : Nat) : Int))
      obtain ⟨g0, g1, g2, g3⟩ := hG
      refine wpAny_ready (rs := [8]) (by kernel_rfl) (by simp) ?_
      refine AllReady.cons rfl (fun K hK => ?_) AllReady.nil
      go_simp
      refine hK _ _ ?_
      clear hK K g0 g1 g2 g3 hX hU
      generalize (w5.setCell ⟨g, 0, none⟩ (.int .i64 (max la lb))).setCell ⟨g, 1, none⟩ (.int .u32 ((ca.toNat ||| cb.toNat : Nat) : Int)) = w6 at *
      have hX2 := hX1.put (min la lb) ((ca.toNat &&& cb.toNat : Nat) : Int)
      have hG2 := hG1.far (Ne.symm hgx) (.int .i64 (min la lb)) (.int .u32 ((ca.toNat &&& cb.toNat : Nat) : Int))
      have hU2 := (hU1.set x 0 hx (.int .i64 (min la lb))).set x 1 hx (.int .u32 ((ca.toNat &&& cb.toNat : Nat) : Int))
      obtain ⟨x0, x1, x2, x3⟩ := hX1
      refine wpAny_ready (rs := [9]) (by kernel_rfl) (by simp) ?_
      refine AllReady.cons rfl (fun K hK => ?_) AllReady.nil
      go_simp
      refine hK _ _ ?_
      clear hK K x0 x1 x2 x3
      refine wpAny_done (by kernel_rfl) ?_ _
      go_wp2_with fail
      go_meet
      exact ⟨g, x, hg, hx, rfl, rfl, hU2, ⟨hG2.1, hG2.2.1⟩, ⟨hX2.1, hX2.2.1⟩⟩
    case rest =>
      obtain ⟨g, h, hg, hh, rfl, rfl, hU, hG, hH⟩ := hcut
      have hS : S5 N w la ca lb cb lc cc g h _ _ _ _ _ := ⟨hU.1, hG.1, hG.2, hH.1, hH.2⟩
      clear hS1 hU hG hH
      have cJ : Hid (∀ w' : World, Calls Tryd.prog 16 #[.agg #[.int .i64 lb, .int .u32 cb], .agg #[.int .i64 la, .int .u32 ca]] w' fun e w2 => e = .returned (.agg #[.int .i64 (max la lb), .int .u32 ((ca.toNat ||| cb.toNat : Nat) : Int)]) ∧ Below w'.heap.size w' w2) := fun w' => by
        have h := join_five lb cb la ca hrb hra hb0 hb1 ha0 ha1 w'
        rw [Int.max_comm, Nat.or_comm] at h
        exact h.mono fun e w2 ⟨he, hb, _⟩ => ⟨he, hb⟩
      have cM : Hid (∀ w' : World, Calls Tryd.prog 18 #[.agg #[.int .i64 lb, .int .u32 cb], .agg #[.int .i64 la, .int .u32 ca]] w' fun e w2 => e = .returned (.agg #[.int .i64 (min la lb), .int .u32 ((ca.toNat &&& cb.toNat : Nat) : Int)]) ∧ Below w'.heap.size w' w2) := fun w' => by
        have h := meet_five lb cb la ca hrb hra hb0 hb1 ha0 ha1 w'
        rw [Int.min_comm, Nat.and_comm] at h
        exact h.mono fun e w2 ⟨he, hb, _⟩ => ⟨he, hb⟩
      have hup := flB_join la ca lb cb lc cc hra hrb
      have hdn := flB_meet la ca lb cb lc cc hra hrb
      obtain ⟨u1, u2⟩ := flB_up la ca lb cb hra hrb
      obtain ⟨d1, d2⟩ := flB_down la ca lb cb hra hrb
      have hj := flB_iff_join la ca lb cb hb0 hra hrb
      have hm := flB_iff_meet la ca lb cb ha0 hra hrb
      obtain ⟨j0, j1⟩ := or_range ca cb ha1 hb1
      obtain ⟨m0, m1⟩ := and_range ca cb ha1
      generalize ((ca.toNat ||| cb.toNat : Nat) : Int) = cj at *
      generalize ((ca.toNat &&& cb.toNat : Nat) : Int) = cm at *
      generalize max la lb = lj at *
      generalize min la lb = lm at *
      go_upto_region 5 with fail
      go_cut [9] (fun s9 wx => s9 = .bool (flB lj cj lc cc) ∧ S5 N w la ca lb cb lc cc g h lj cj lm cm wx)
      case first =>
        cases x1 : flB la ca lc cc
        case' true => cases x2 : flB lb cb lc cc
        all_goals
          go_wp2_with (go_at_call 14; refine (flows_any _ _ _ _ (by omega) (by omega) (by omega) (by omega) _).mono ?_; rintro e w' ⟨rfl, hb⟩; replace hS := hS.keep hb; clear hb)
          go_meet
          exact ⟨by rw [hup, x1]; simp [*], hS⟩
      case rest =>
        clear hS
        obtain ⟨rfl, hS⟩ := hcut
        clear hup
        generalize hx : flB lj cj lc cc = t1
        go_upto_region 6 with fail
        go_cut [10] (fun s10 wx => s10 = .bool (flB lc cc lm cm) ∧ S5 N w la ca lb cb lc cc g h lj cj lm cm wx)
        case first =>
          cases x1 : flB lc cc la ca
          case' true => cases x2 : flB lc cc lb cb
          all_goals
            go_wp2_with (go_at_call 14; refine (flows_any _ _ _ _ (by omega) (by omega) (by omega) (by omega) _).mono ?_; rintro e w' ⟨rfl, hb⟩; replace hS := hS.keep hb; clear hb)
            go_meet
            exact ⟨by rw [hdn, x1]; simp [*], hS⟩
        case rest =>
          clear hS
          obtain ⟨rfl, hS⟩ := hcut
          clear hdn
          generalize hy : flB lc cc lm cm = t2
          cases hab : flB la ca lb cb
          · have nj : Hid (¬(lj = lb ∧ cj = cb)) := fun hc => by rw [hj.2 hc] at hab; cases hab
            have nm : Hid (¬(lm = la ∧ cm = ca)) := fun hc => by rw [hm.2 hc] at hab; cases hab
            clear hj hm
            go_upto_region 7 with fail
            try simp only [List.append_eq, List.cons_append, List.nil_append]
            refine region_class (fun w' => S5 N w la ca lb cb lc cc g h lj cj lm cm w') (by kernel_rfl) (by kernel_rfl) (hS.drew) ?_
            repeat
              first
              | go_big_quiet_skip
              | (go_big_quiet_want
                 refine quiet_val ?_
                 apply Exists.intro
                 refine ⟨fun w' hw' => ?_, ?_⟩
                 · obtain ⟨⟨_, _, q0, q1, q2, q3, q4, q5⟩, q6, q7, q8, q9⟩ := hw'
                   go_simp
                   first | done | rfl | exact ⟨rfl, rfl⟩ | exact eq_two_false nj.out | exact eq_two_false nm.out
                 simp only [Act.put, List.setIfInBounds_toArray, List.set_cons_zero, List.set_cons_succ]
                 go_big_quiet_on)
              | (go_big_quiet_want
                 refine quiet_call ?_
                 apply Exists.intro
                 apply Exists.intro
                 refine ⟨fun w' => ?_, ?_⟩
                 · go_simp
                   first | done | rfl | exact ⟨rfl, rfl⟩
                 apply Exists.intro
                 refine ⟨fun w' hw' => ?_, ?_⟩
                 · first
                   | (go_at_call 14; exact (flows_any _ _ _ _ (by omega) (by omega) (by omega) (by omega) w').mono fun e w2 ⟨he, hb⟩ => ⟨he, hw'.keep hb⟩)
                   | (go_at_call 16; exact (cJ.out w').mono fun e w2 ⟨he, hb⟩ => ⟨he, hw'.keep hb⟩)
                   | (go_at_call 18; exact (cM.out w').mono fun e w2 ⟨he, hb⟩ => ⟨he, hw'.keep hb⟩)
                 simp only [Act.put, List.setIfInBounds_toArray, List.set_cons_zero, List.set_cons_succ, hab, u1, u2, d1, d2, hx, hy]
                 go_big_quiet_on)
            refine wpQuiet_nil ?_
            intro w5 hw5
            have hBf := hw5.1.1
            clear hw5 hS
            go_wp2
            go_ret
            exact ⟨rfl, by rw [HN.out]; exact hBf⟩
          · obtain ⟨rfl, rfl⟩ := hj.1 hab
            obtain ⟨rfl, rfl⟩ := hm.1 hab
            clear hj hm
            go_upto_region 7 with fail
            try simp only [List.append_eq, List.cons_append, List.nil_append]
            refine region_class (fun w' => S5 N w lm cm lj cj lc cc g h lj cj lm cm w') (by kernel_rfl) (by kernel_rfl) (hS.drew) ?_
            repeat
              first
              | go_big_quiet_skip
              | (go_big_quiet_want
                 refine quiet_val ?_
                 apply Exists.intro
                 refine ⟨fun w' hw' => ?_, ?_⟩
                 · obtain ⟨⟨_, _, q0, q1, q2, q3, q4, q5⟩, q6, q7, q8, q9⟩ := hw'
                   go_simp
                   first | done | rfl | exact ⟨rfl, rfl⟩
                 simp only [Act.put, List.setIfInBounds_toArray, List.set_cons_zero, List.set_cons_succ]
                 go_big_quiet_on)
              | (go_big_quiet_want
                 refine quiet_call ?_
                 apply Exists.intro
                 apply Exists.intro
                 refine ⟨fun w' => ?_, ?_⟩
                 · go_simp
                   first | done | rfl | exact ⟨rfl, rfl⟩
                 apply Exists.intro
                 refine ⟨fun w' hw' => ?_, ?_⟩
                 · first
                   | (go_at_call 14; exact (flows_any _ _ _ _ (by omega) (by omega) (by omega) (by omega) w').mono fun e w2 ⟨he, hb⟩ => ⟨he, hw'.keep hb⟩)
                   | (go_at_call 16; exact (cJ.out w').mono fun e w2 ⟨he, hb⟩ => ⟨he, hw'.keep hb⟩)
                   | (go_at_call 18; exact (cM.out w').mono fun e w2 ⟨he, hb⟩ => ⟨he, hw'.keep hb⟩)
                 simp only [Act.put, List.setIfInBounds_toArray, List.set_cons_zero, List.set_cons_succ, hab, u2, d1, hx, hy]
                 go_big_quiet_on)
            refine wpQuiet_nil ?_
            intro w5 hw5
            have hBf := hw5.1.1
            clear hw5 hS
            go_wp2
            go_ret
            exact ⟨rfl, by rw [HN.out]; exact hBf⟩
end Go.Proofs.YtkmbllnnaljepaaDoor
