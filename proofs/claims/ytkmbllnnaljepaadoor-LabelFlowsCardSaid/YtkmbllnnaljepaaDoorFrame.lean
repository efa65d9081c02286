/- What the rows' lists of variables give: the two errors of strconv; a memory that fits them; a label among the arguments. -/
import Derived.Test.YtkmbllnnaljepaaDoorCards
import Derived.Test.YtkmbllnnaljepaaDoorTie
import Derived.Test.YtkmbllnnaljepaaDoorCut
import Derived.WalkKit
import Derived.ProofKit
import Derived.OpenShut
import Derived.LaidMore
import Derived.Stop.Joined
import Derived.Stop.LaidErr
import Derived.Deep.DeepHandedRow
import Derived.Deep.DeepWitnessRowRef
import Derived.Lib.SmallJoins
namespace Go.Proofs.YtkmbllnnaljepaaDoor
open Go.ChangeShapes Go.WideShapes Go.ChangeAt Go.RowKit Go.Joins

theorem own : ownKnob Tryd.prog.godebug = none := by kernel_rfl
theorem gSyn : Tryd.prog.globalNamed "strconv.ErrSyntax" = some 2 := by kernel_rfl
theorem gRan : Tryd.prog.globalNamed "strconv.ErrRange" = some 3 := by kernel_rfl
theorem tSyn : (Tryd.prog.globals[2]?).map (·.type) = some 62 := by kernel_rfl
theorem tRan : (Tryd.prog.globals[3]?).map (·.type) = some 62 := by kernel_rfl
theorem starS : "*" ++ "errors.errorString" = "*errors.errorString" := by decide
theorem rowES (u : TypeId) (h : Tryd.prog.typeName? 3 u = some "*errors.errorString") : u = 99 :=
  typeName_ptr_named (nm := "errors.errorString") (by rw [starS]; kernel_rfl) (by kernel_rfl) (by decide) u (by rw [starS]; exact h)
theorem cellsES : Tryd.prog.cellsOf 101 = 1 := by kernel_rfl
theorem cellsStr : Tryd.prog.cellsOf 9 = 1 := by kernel_rfl

/-- The two variables hold errors. -/
theorem errs_of_laid {W : World} (h : laidMetH Tryd.prog Rows.labelOrderRow.laid W) : Errs W := by
  rw [MakeChecks.laidMetH_plain _ _ _ (by kernel_rfl)] at h
  have h3 : laidMet Tryd.prog [("strconv.ErrRange", Rows.laid_strconv_ErrRange), ("strconv.ErrSyntax", Rows.laid_strconv_ErrSyntax)] W := laidMet.tail (laidMet.tail (laidMet.tail h))
  obtain ⟨a1, s1, hv1, _⟩ := laid_sentinel h3 gRan tRan Tryd.underlying62 rowES Tryd.underlying99 Tryd.underlying101 rfl rfl Tryd.underlying9 cellsES cellsStr
  obtain ⟨a2, s2, hv2, _⟩ := laid_sentinel (laidMet.tail h3) gSyn tSyn Tryd.underlying62 rowES Tryd.underlying99 Tryd.underlying101 rfl rfl Tryd.underlying9 cellsES cellsStr
  exact ⟨⟨_, _, by simpa using World.var?_cell gSyn hv2 0⟩, _, _, by simpa using World.var?_cell gRan hv1 0⟩

/-- A start that meets the list. -/
theorem door_met (os : Os) (args : Array Value) : laidMetH Tryd.prog Rows.labelOrderRow.laid ((World.doorLaid Tryd.prog 200 os).forCall (fun _ _ => 0) ⟨#[], args, []⟩).memory :=
  laidMetH_of_parts3 (fuel := 8) (laidMet_of_run' 8 (by kernel_rfl) (by kernel_rfl)) (by kernel_rfl) (by kernel_rfl)

theorem cellsL : Tryd.prog.cellsOf 24 = 2 := by kernel_rfl
section
variable {H : Type} {enc : TypeId × Value → H} {w : World} {base : Nat} {spare : Nat → Bool} {held : Bool}
/-- A label among the arguments: its two numbers. -/
theorem open_label {r : Reach} {b0 : Nat} {v : Value} {d : DataW H} {p : List MemPlace} (hv : Value.okWide Tryd.prog w r b0 24 v) (h : DataW.Trod enc Tryd.prog w base spare held 24 v d p) :
    ∃ l c : Int, v = .agg #[.int .i64 l, .int .u32 c] ∧ d = .agg [.lit (.int .i64 l), .lit (.int .u32 c)] ∧ p = [] ∧ (Lit.int .i64 l).wf = true ∧ (Lit.int .u32 c).wf = true ∧ 0 ≤ c ∧ c < 4294967296 := by
  obtain ⟨c0, c1, y0, y1, m, rfl, rfl, rfl, hy0, hy1⟩ := open_agg2 Tryd.underlying24 (by kernel_rfl) cellsL hv h
  obtain ⟨l, e0, rfl, wl⟩ := DataW.trod_int Tryd.underlying3 hy0
  obtain ⟨c, e1, rfl, wc⟩ := DataW.trod_int Tryd.underlying22 hy1
  simp at e0 e1
  subst e0 e1
  have hb := bounds_u32 wc
  exact ⟨l, c, rfl, rfl, rfl, wl, wc, by omega, by omega⟩
theorem shut_label {l c : Int} (wl : (Lit.int .i64 l).wf = true) (wc : (Lit.int .u32 c).wf = true) : DataW.Trod enc Tryd.prog w base spare held 24 (.agg #[.int .i64 l, .int .u32 c]) (.agg [.lit (.int .i64 l), .lit (.int .u32 c)]) [] :=
  shut_agg2 (y0 := (.lit (.int .i64 l), [])) (y1 := (.lit (.int .u32 c), [])) Tryd.underlying24 (by kernel_rfl) cellsL ⟨1, by simp [DataW.trod, Tryd.underlying3, wl]⟩ ⟨1, by simp [DataW.trod, Tryd.underlying22, wc]⟩
end
end Go.Proofs.YtkmbllnnaljepaaDoor
