/- Joins and meets, mixed: the statement's own function returns true, of whatever three labels. -/
import Derived.Test.YtkmbllnnaljepaaDoorAll
namespace Go.Proofs.YtkmbllnnaljepaaDoor
open Go.ChangeShapes Go.WideShapes Go.RowKit
attribute [local go_sem ↓] Go.wp_at_zero Go.wp_at_succ

theorem U3.levels3 {N : Nat} {w w1 : World} {la ca lb cb lc cc x y z : Int} (h : U3 N w la ca lb cb lc cc w1) :
    U3 N w x ca y cb z cc (((w1.setCell ⟨N, 0, none⟩ (.int .i64 x)).setCell ⟨N + 1, 0, none⟩ (.int .i64 y)).setCell ⟨N + 1 + 1, 0, none⟩ (.int .i64 z)).drew := by
  obtain ⟨⟨hB, hsz, c0, c1, c2, c3, c4, c5⟩, h3, f0, f1, f2⟩ := h
  refine U3.drew ⟨⟨((hB.setCell (p := ⟨N, 0, none⟩) (by simp) _).setCell (p := ⟨N + 1, 0, none⟩) (by simp) _).setCell (p := ⟨N + 1 + 1, 0, none⟩) (by simp; omega) _, by simpa [World.setCell] using hsz, ?_, ?_, ?_, ?_, ?_, ?_⟩, by simpa [World.setCell] using h3, ?_, ?_, ?_⟩
  · rw [cell_set_far (by simp; omega), cell_set_far (by simp)]; exact World.cell?_setCell_same' _ _ _ (by rw [c0]; rfl)
  · rw [cell_set_far (by simp; omega), cell_set_far (by simp), World.cell?_setCell_other _ _ _ _ (by simp)]; exact c1
  · rw [cell_set_far (by simp)]; exact World.cell?_setCell_same' _ _ _ (by rw [cell_set_far (by simp), c2]; rfl)
  · rw [cell_set_far (by simp), World.cell?_setCell_other _ _ _ _ (by simp), cell_set_far (by simp)]; exact c3
  · exact World.cell?_setCell_same' _ _ _ (by rw [cell_set_far (by simp), cell_set_far (by simp; omega), c4]; rfl)
  · rw [World.cell?_setCell_other _ _ _ _ (by simp), cell_set_far (by simp), cell_set_far (by simp; omega)]; exact c5
  · rw [World.frozen?_setCell, World.frozen?_setCell, World.frozen?_setCell]; exact f0
  · rw [World.frozen?_setCell, World.frozen?_setCell, World.frozen?_setCell]; exact f1
  · rw [World.frozen?_setCell, World.frozen?_setCell, World.frozen?_setCell]; exact f2

abbrev lab (l c : Int) : Value := .agg #[.int .i64 l, .int .u32 c]
/-- The call gives this label, in whatever world, and leaves what lay. -/
abbrev Gives (f : Nat) (args : Array Value) (l c : Int) : Prop := ∀ w' : World, Calls Tryd.prog f args w' fun e w2 => e = .returned (.agg #[.int .i64 l, .int .u32 c]) ∧ Below w'.heap.size w' w2
theorem gives_join {l c m d r s : Int} (hl : rB l = true) (hm : rB m = true) (hc : 0 ≤ c ∧ c < 4294967296) (hd : 0 ≤ d ∧ d < 4294967296) (hr : max l m = r) (hs : ((c.toNat ||| d.toNat : Nat) : Int) = s) : Gives 16 #[.agg #[.int .i64 l, .int .u32 c], .agg #[.int .i64 m, .int .u32 d]] r s := fun w' => by
  subst hr hs
  exact (join_five l c m d hl hm hc.1 hc.2 hd.1 hd.2 w').mono fun e w2 ⟨he, hb, _⟩ => ⟨he, hb⟩
theorem gives_meet {l c m d r s : Int} (hl : rB l = true) (hm : rB m = true) (hc : 0 ≤ c ∧ c < 4294967296) (hd : 0 ≤ d ∧ d < 4294967296) (hr : min l m = r) (hs : ((c.toNat &&& d.toNat : Nat) : Int) = s) : Gives 18 #[.agg #[.int .i64 l, .int .u32 c], .agg #[.int .i64 m, .int .u32 d]] r s := fun w' => by
  subst hr hs
  exact (meet_five l c m d hl hm hc.1 hc.2 hd.1 hd.2 w').mono fun e w2 ⟨he, hb, _⟩ => ⟨he, hb⟩
theorem rB_max {l m : Int} (hl : rB l = true) (hm : rB m = true) : rB (max l m) = true := by rw [rB_true] at *; omega
theorem rB_min {l m : Int} (hl : rB l = true) (hm : rB m = true) : rB (min l m) = true := by rw [rB_true] at *; omega

theorem nat_dist1 (a b c : Nat) : (a &&& b) ||| (a &&& c) = a &&& (b ||| c) := by
  apply Nat.eq_of_testBit_eq; intro i; simp only [Nat.testBit_or, Nat.testBit_and]; cases a.testBit i <;> simp
theorem nat_dist2 (a b c : Nat) : (a ||| b) &&& (a ||| c) = a ||| (b &&& c) := by
  apply Nat.eq_of_testBit_eq; intro i; simp only [Nat.testBit_or, Nat.testBit_and]; cases a.testBit i <;> simp
theorem nat_abs1 (a b : Nat) : a ||| (a &&& b) = a := by
  apply Nat.eq_of_testBit_eq; intro i; simp only [Nat.testBit_or, Nat.testBit_and]; cases a.testBit i <;> simp
theorem nat_abs2 (a b : Nat) : a &&& (a ||| b) = a := by
  apply Nat.eq_of_testBit_eq; intro i; simp only [Nat.testBit_or, Nat.testBit_and]; cases a.testBit i <;> simp

/-- All that the statement calls, with the labels that it gets. -/
theorem mixed_vals (la ca lb cb lc cc : Int) (hra : rB la = true) (hrb : rB lb = true) (hrc : rB lc = true) (ha : 0 ≤ ca ∧ ca < 4294967296) (hb : 0 ≤ cb ∧ cb < 4294967296) (hc : 0 ≤ cc ∧ cc < 4294967296) :
    ∃ l1 c1 l2 c2 l3 c3 l4 c4 l5 c5 l6 c6 l7 c7 lx cx lv cv : Int,
      Hid (Gives 16 #[lab lb cb, lab lc cc] l1 c1) ∧ Hid (Gives 18 #[lab la ca, lab l1 c1] lx cx) ∧ Hid (Gives 18 #[lab la ca, lab lb cb] l2 c2) ∧
      Hid (Gives 18 #[lab la ca, lab lc cc] l3 c3) ∧ Hid (Gives 16 #[lab l2 c2, lab l3 c3] lx cx) ∧ Hid (Gives 18 #[lab lb cb, lab lc cc] l4 c4) ∧
      Hid (Gives 16 #[lab la ca, lab l4 c4] lv cv) ∧ Hid (Gives 16 #[lab la ca, lab lb cb] l5 c5) ∧ Hid (Gives 16 #[lab la ca, lab lc cc] l6 c6) ∧
      Hid (Gives 18 #[lab l5 c5, lab l6 c6] lv cv) ∧ Hid (Gives 16 #[lab la ca, lab l2 c2] la ca) ∧ Hid (Gives 18 #[lab la ca, lab l5 c5] la ca) ∧
      Hid (Gives 16 #[lab l5 c5, lab lc cc] l7 c7) ∧ Hid (Gives 16 #[lab la ca, lab l1 c1] l7 c7) ∧ Hid (allP [(la, ca), (lb, cb), (lc, cc)] = (l7, c7)) := by
  have xa := Int.toNat_of_nonneg ha.1
  refine ⟨max lb lc, ((cb.toNat ||| cc.toNat : Nat) : Int), min la lb, ((ca.toNat &&& cb.toNat : Nat) : Int), min la lc, ((ca.toNat &&& cc.toNat : Nat) : Int), min lb lc, ((cb.toNat &&& cc.toNat : Nat) : Int),
    max la lb, ((ca.toNat ||| cb.toNat : Nat) : Int), max la lc, ((ca.toNat ||| cc.toNat : Nat) : Int), max la (max lb lc), ((ca.toNat ||| (cb.toNat ||| cc.toNat) : Nat) : Int), min la (max lb lc), ((ca.toNat &&& (cb.toNat ||| cc.toNat) : Nat) : Int), max la (min lb lc), ((ca.toNat ||| (cb.toNat &&& cc.toNat) : Nat) : Int), ?_⟩
  have r1 := or_range cb cc hb.2 hc.2
  have r2 := and_range ca cb ha.2
  have r3 := and_range ca cc ha.2
  have r4 := and_range cb cc hb.2
  have r5 := or_range ca cb ha.2 hb.2
  have r6 := or_range ca cc ha.2 hc.2
  refine ⟨gives_join hrb hrc hb hc rfl rfl, gives_meet hra (rB_max hrb hrc) ha r1 rfl (by rw [Int.toNat_natCast]), gives_meet hra hrb ha hb rfl rfl, gives_meet hra hrc ha hc rfl rfl,
    gives_join (rB_min hra hrb) (rB_min hra hrc) r2 r3 (by omega) (by rw [Int.toNat_natCast, Int.toNat_natCast, nat_dist1]), gives_meet hrb hrc hb hc rfl rfl, gives_join hra (rB_min hrb hrc) ha r4 rfl (by rw [Int.toNat_natCast]),
    gives_join hra hrb ha hb rfl rfl, gives_join hra hrc ha hc rfl rfl, gives_meet (rB_max hra hrb) (rB_max hra hrc) r5 r6 (by omega) (by rw [Int.toNat_natCast, Int.toNat_natCast, nat_dist2]),
    gives_join hra (rB_min hra hrb) ha r2 (by omega) (by rw [Int.toNat_natCast, nat_abs1]; exact xa), gives_meet hra (rB_max hra hrb) ha r5 (by omega) (by rw [Int.toNat_natCast, nat_abs2]; exact xa),
    gives_join (rB_max hra hrb) hrc r5 hc (by omega) (by rw [Int.toNat_natCast, Nat.or_assoc]), gives_join hra (rB_max hrb hrc) ha r1 rfl (by rw [Int.toNat_natCast]), ?_⟩
  have z : rB 0 = true := by decide
  have hra' := rB_true.1 hra
  have e1 : jL 0 la = la := by unfold jL; rw [z, hra]; simp; omega
  have e2 : jC 0 0 la ca = ca := by unfold jC; rw [z, hra]; simp; omega
  show allP _ = _
  unfold allP
  simp only [List.foldl_cons, List.foldl_nil, e1, e2]
  have m1 := rB_max hra hrb
  refine Prod.ext ?_ ?_
  · simp only [jL, hra, hrb, Bool.and_self, if_true, m1, hrc]; omega
  · simp only [jL, jC, hra, hrb, Bool.and_self, if_true, m1, hrc, Int.toNat_natCast, Nat.or_assoc]
end Go.Proofs.YtkmbllnnaljepaaDoor
