/- What is there or not, as one case. -/
import Derived.Test.YtknhkmlihbgjpaaDoorAS
import Derived.Test.YtknhkmlihbgjpaaDoorAKit
namespace Go.Proofs.YtknhkmlihbgjpaaDoor
open Go.ChangeShapes Go.WideShapes Go.RowKit

def outI (b : Bool) (x : Int) : Int := if b then x else 0
def outS {α : Type} (b : Bool) (x : List α) : List α := if b then x else []
def outZ (b : Bool) (y : Sl) : Sl := if b then y else ⟨none, 0, 0⟩
theorem outS_len {α : Type} (b : Bool) (x : List α) : (outS b x).length ≤ x.length := by
  unfold outS
  cases b <;> simp
theorem same_self9 (s : Bs) (F : List (Bs × Bs)) (l c p q : Int) : sameB s s F F l c p q l c p q = true := by
  unfold sameB
  simp
theorem out_flds {P : Nat → Prop} {w : World} {y : Sl} {fs : List (Bs × Bs)} (b : Bool) (h : FldsAt P w y.v fs) : FldsAt P w (outZ b y).v (outS b fs) := by
  cases b with
  | true => exact h
  | false => exact .inl ⟨rfl, none, 0, rfl⟩
end Go.Proofs.YtknhkmlihbgjpaaDoor
