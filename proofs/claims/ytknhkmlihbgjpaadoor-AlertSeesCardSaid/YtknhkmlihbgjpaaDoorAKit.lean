/- Six cells stored; a class of worlds of six cells and more; a call that may come up among others. -/
import Derived.Test.YtknhkmlihbgjpaaDoorAOwn
namespace Go.Proofs.YtknhkmlihbgjpaaDoor
open Go.ChangeShapes Go.WideShapes Go.RowKit

theorem Rw.set6 {w : World} {b : Nat} {t : TypeId} {x0 x1 x2 x3 x4 x5 : Value} (h : Rw w b t [x0, x1, x2, x3, x4, x5]) (y0 y1 y2 y3 y4 y5 : Value) :
    Rw ((((((w.setCell ⟨b, 0, none⟩ y0).setCell ⟨b, 1, none⟩ y1).setCell ⟨b, 2, none⟩ y2).setCell ⟨b, 3, none⟩ y3).setCell ⟨b, 4, none⟩ y4).setCell ⟨b, 5, none⟩ y5) b t [y0, y1, y2, y3, y4, y5] :=
  (((((h.setCell 0 y0).setCell 1 y1).setCell 2 y2).setCell 3 y3).setCell 4 y4).setCell 5 y5
theorem below_set6 {B : Nat} {a w : World} (h : Below B a w) {b : Nat} (hb : B ≤ b) (y0 y1 y2 y3 y4 y5 : Value) :
    Below B a ((((((w.setCell ⟨b, 0, none⟩ y0).setCell ⟨b, 1, none⟩ y1).setCell ⟨b, 2, none⟩ y2).setCell ⟨b, 3, none⟩ y3).setCell ⟨b, 4, none⟩ y4).setCell ⟨b, 5, none⟩ y5) :=
  (((((h.setCell (p := ⟨b, 0, none⟩) hb y0).setCell (p := ⟨b, 1, none⟩) hb y1).setCell (p := ⟨b, 2, none⟩) hb y2).setCell (p := ⟨b, 3, none⟩) hb y3).setCell (p := ⟨b, 4, none⟩) hb y4).setCell (p := ⟨b, 5, none⟩) hb y5
theorem CL.bare {W w : World} (k : Below W.heap.size W w) : CL W [] w := ⟨k, fun _ h => by cases h⟩
theorem CL.six {W w : World} {b : Nat} {t : TypeId} {x0 x1 x2 x3 x4 x5 : Value} (h : Rw W b t [x0, x1, x2, x3, x4, x5]) (k : Below W.heap.size W w) :
    CL W [(⟨b, 0, none⟩, x0), (⟨b, 1, none⟩, x1), (⟨b, 2, none⟩, x2), (⟨b, 3, none⟩, x3), (⟨b, 4, none⟩, x4), (⟨b, 5, none⟩, x5)] w :=
  ((((((CL.bare k).row (h.stay k) 5 rfl).row (h.stay k) 4 rfl).row (h.stay k) 3 rfl).row (h.stay k) 2 rfl).row (h.stay k) 1 rfl).row (h.stay k) 0 rfl
theorem wp_enter {o : Oper} {a : Act} {w : World} {K : Act → World → Prop} {Q : Exit → Act → World → Prop}
    (h : ∃ f args, (execOp a.eval o).run Tryd.prog w = .ok (.enter f args) w ∧ Calls Tryd.prog f args w fun e w' => ∃ v, e = .returned v ∧ K (a.put o.dst v) w') : o.wp Tryd.prog a w K Q := by
  obtain ⟨f, args, h1, h2⟩ := h
  unfold Oper.wp
  rw [h1]
  simp only [Oper.upon]
  exact h2.mono fun e w' ⟨v, he, h3⟩ => by subst he; exact h3
end Go.Proofs.YtknhkmlihbgjpaaDoor
