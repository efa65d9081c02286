/- A call, as a step of a region that draws its order; the first bytes of a text. -/
import Derived.Test.YtbkkcojfgdjbhaaDoorJSame
import Derived.Test.YtbkkcojfgdjbhaaDoorJNumbers
namespace Go.Proofs.YtbkkcojfgdjbhaaDoor
open Go.ChangeShapes Go.WideShapes Go.RowKit

theorem wp_call2 {o : Oper} {a : Act} {w : World} {K : Act → World → Prop} {Q : Exit → Act → World → Prop} (h : ∃ f args, (execOp a.eval o).run Tryd.prog w = .ok (.enter f args) w ∧ Calls Tryd.prog f args w fun e w' => ∃ v, e = .returned v ∧ K (a.put o.dst v) w') : o.wp Tryd.prog a w K Q := by
  obtain ⟨f, args, h1, h2⟩ := h
  unfold Oper.wp
  rw [h1]
  simp only [Oper.upon]
  exact h2.mono fun e w' ⟨v, he, h3⟩ => by subst he; exact h3
theorem take_early2 (l0 : Bs) (m : Nat) (z : Int) (hz : z = (m : Int)) : (⟨l0.toArray⟩ : ByteArray).extract 0 (min (l0.length : Int) z).toNat = ⟨(l0.take m).toArray⟩ := by
  subst hz
  rw [extract_text, List.drop_zero, show (min (l0.length : Int) (m : Int)).toNat = min l0.length m by omega]
  congr 2
  rw [Nat.min_comm, ← List.take_take, List.take_length]
end Go.Proofs.YtbkkcojfgdjbhaaDoor
