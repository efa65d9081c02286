/- What the rows' list of variables gives: the tables and the errors; a memory that fits it. -/
import Derived.Test.YtbkkcojfgdjbhaaDoorCards
import Derived.Test.YtbkkcojfgdjbhaaDoorTie
import Derived.Test.YtbkkcojfgdjbhaaDoorJFit
import Derived.WalkKit
import Derived.ProofKit
import Derived.OpenShut
import Derived.LaidMore
import Derived.Stop.Joined
import Derived.Stop.LaidErr
import Derived.Deep.DeepHandedRow
import Derived.Deep.DeepWitnessRowRef
import Derived.Lib.SmallJoins
import Derived.Lib.LaidTab
import Derived.Lib.LaidU8T
import Derived.Carry
import Derived.Lay
namespace Go.Proofs.YtbkkcojfgdjbhaaDoor
open Go.ChangeShapes Go.WideShapes Go.ChangeAt Go.RowKit Go.Joins

theorem own : ownKnob Tryd.prog.godebug = none := by kernel_rfl
theorem gSyn : Tryd.prog.globalNamed "strconv.ErrSyntax" = some 5 := by kernel_rfl
theorem gRan : Tryd.prog.globalNamed "strconv.ErrRange" = some 6 := by kernel_rfl
theorem tSyn : (Tryd.prog.globals[5]?).map (·.type) = some 105 := by kernel_rfl
theorem tRan : (Tryd.prog.globals[6]?).map (·.type) = some 105 := by kernel_rfl
theorem starS : "*" ++ "errors.errorString" = "*errors.errorString" := by decide
theorem rowES (u : TypeId) (h : Tryd.prog.typeName? 3 u = some "*errors.errorString") : u = 153 :=
  typeName_ptr_named (nm := "errors.errorString") (by rw [starS]; kernel_rfl) (by kernel_rfl) (by decide) u (by rw [starS]; exact h)
theorem cellsES : Tryd.prog.cellsOf 155 = 1 := by kernel_rfl
theorem cellsStr : Tryd.prog.cellsOf 9 = 1 := by kernel_rfl
theorem cells8 : Tryd.prog.cellsOf 5 = 1 := by kernel_rfl
theorem cells64 : Tryd.prog.cellsOf 114 = 1 := by kernel_rfl
theorem gPow : Tryd.prog.globalNamed "internal/strconv.uint64pow10" = some 4 := by kernel_rfl
theorem tPow : (Tryd.prog.globals[4]?).map (·.type) = some 141 := by kernel_rfl
theorem gOpn : Tryd.prog.globalNamed "lychgate/json.opening" = some 0 := by kernel_rfl
theorem tOpn : (Tryd.prog.globals[0]?).map (·.type) = some 80 := by kernel_rfl
theorem gCls : Tryd.prog.globalNamed "lychgate/json.closing" = some 1 := by kernel_rfl
theorem tCls : (Tryd.prog.globals[1]?).map (·.type) = some 80 := by kernel_rfl
theorem g64 : Tryd.prog.globalNamed "math/bits.deBruijn64tab" = some 9 := by kernel_rfl
theorem t64 : (Tryd.prog.globals[9]?).map (·.type) = some 157 := by kernel_rfl
theorem cells7 : Tryd.prog.cellsOf 80 = 7 := by kernel_rfl
theorem cells20 : Tryd.prog.cellsOf 141 = 20 := by kernel_rfl
theorem cellsT64 : Tryd.prog.cellsOf 157 = 64 := by kernel_rfl
theorem first_is : Rows.laid_unicode_utf8_first = Lib.firstData := by kernel_rfl
theorem accept_is : (Rows.laid_unicode_utf8_acceptRanges : DataW Unit) = Lib.acceptData := by kernel_rfl
theorem pow_is : (Rows.laid_internal_strconv_uint64pow10 : DataW Unit) = Lib.tabData .u64 Lib.pow10Tab := by kernel_rfl
theorem opn_is : (Rows.laid_lychgate_json_opening : DataW Unit) = Lib.tabData .u8 ([0, 0, 0, 0, 0, 91, 123].map Int.ofNat) := by kernel_rfl
theorem cls_is : (Rows.laid_lychgate_json_closing : DataW Unit) = Lib.tabData .u8 ([0, 0, 0, 0, 0, 93, 125].map Int.ofNat) := by kernel_rfl
theorem bru_is : (Rows.laid_math_bits_deBruijn64tab : DataW Unit) = Lib.tabData .u8 [0, 1, 56, 2, 57, 49, 28, 3, 61, 58, 42, 50, 38, 29, 17, 4, 62, 47, 59, 36, 45, 43, 51, 22, 53, 39, 33, 30, 24, 18, 12, 5, 63, 55, 48, 27, 60, 41, 37, 16, 46, 35, 44, 21, 52, 32, 23, 11, 54, 26, 40, 15, 34, 20, 31, 10, 25, 14, 19, 9, 13, 8, 7, 6] := by kernel_rfl
theorem u8x : U8Extra Tryd.prog Tryd.lays196_ren := ⟨by kernel_rfl, by kernel_rfl, by kernel_rfl, by kernel_rfl, by kernel_rfl, by kernel_rfl, by kernel_rfl⟩
theorem var_below {P : Program} {B g : Nat} {W W' : World} {n : String} {cs : Array Value} (h : Below B W W') (hg : P.globalNamed n = some g) (hgB : g < B) (hv : W.var? P n = some cs) : W'.var? P n = some cs := by
  unfold World.var? at hv ⊢
  simp only [hg, Option.bind_some] at hv ⊢
  rw [h.block g hgB]
  exact hv
theorem tab_cells {w : World} {name : String} {g : Nat} {xs : List Nat} (h : Lib.TabIs Tryd.prog w name .u8 (xs.map Int.ofNat)) (hg : Tryd.prog.globalNamed name = some g) : ∀ (j c : Nat), xs[j]? = some c → w.cell? ⟨g, j, none⟩ = some (.int .u8 (c : Int)) := fun j c hc => by
  have hj := (List.getElem?_eq_some_iff.1 hc).1
  rw [h.cell hg j (by simpa using hj)]
  have := (List.getElem?_eq_some_iff.1 hc).2
  simp [List.getD, hc]
/-- The variables hold what they hold. -/
theorem env_of_laid {W : World} (h : laidMetH Tryd.prog Rows.jsonNumbersRow.laid W) : Env W := by
  rw [MakeChecks.laidMetH_plain _ _ _ (by kernel_rfl)] at h
  have h0 : laidMet Tryd.prog [("math/bits.deBruijn32tab", Rows.laid_math_bits_deBruijn32tab), ("math/bits.deBruijn64tab", Rows.laid_math_bits_deBruijn64tab), ("internal/strconv.uint64pow10", Rows.laid_internal_strconv_uint64pow10), ("unicode/utf8.acceptRanges", Rows.laid_unicode_utf8_acceptRanges), ("strconv.ErrRange", Rows.laid_strconv_ErrRange), ("strconv.ErrSyntax", Rows.laid_strconv_ErrSyntax), ("lychgate/json.opening", Rows.laid_lychgate_json_opening), ("lychgate/json.closing", Rows.laid_lychgate_json_closing), ("unicode/utf8.first", Rows.laid_unicode_utf8_first)] W := h
  have rAcc := Lib.laidMet.reads h0 (n := "unicode/utf8.acceptRanges") (d := Rows.laid_unicode_utf8_acceptRanges) (by simp)
  have rFst := Lib.laidMet.reads h0 (n := "unicode/utf8.first") (d := Rows.laid_unicode_utf8_first) (by simp)
  rw [accept_is] at rAcc
  rw [first_is] at rFst
  have h1 := laidMet.tail h0
  have h2 := laidMet.tail h1
  have h4 := laidMet.tail (laidMet.tail h2)
  obtain ⟨a1, s1, hv1, _⟩ := laid_sentinel h4 gRan tRan Tryd.underlying105 rowES Tryd.underlying153 Tryd.underlying155 rfl rfl Tryd.underlying9 cellsES cellsStr
  have h5 := laidMet.tail h4
  obtain ⟨a2, s2, hv2, _⟩ := laid_sentinel h5 gSyn tSyn Tryd.underlying105 rowES Tryd.underlying153 Tryd.underlying155 rfl rfl Tryd.underlying9 cellsES cellsStr
  have h6 := laidMet.tail h5
  have h7 := laidMet.tail h6
  rw [bru_is] at h1
  rw [pow_is] at h2
  rw [opn_is] at h6
  rw [cls_is] at h7
  have tB := Lib.tabIs_of_head g64 t64 Tryd.underlying157 Tryd.underlying5 cells8 cellsT64 h1
  have tP := Lib.tabIs_of_head gPow tPow Tryd.underlying141 Tryd.underlying114 cells64 cells20 h2
  have tO := Lib.tabIs_of_head gOpn tOpn Tryd.underlying80 Tryd.underlying5 cells8 cells7 h6
  have tC := Lib.tabIs_of_head gCls tCls Tryd.underlying80 Tryd.underlying5 cells8 cells7 h7
  have hbig : 9 < W.heap.size := World.block_lt_of_cell? W _ (tB.cell g64 0 (by decide))
  exact ⟨utf8Tabs_of_readsT (U8Types.of196 Tryd.lays196) u8x rFst rAcc, ⟨_, _, by simpa using World.var?_cell gSyn hv2 0⟩, ⟨_, _, by simpa using World.var?_cell gRan hv1 0⟩,
    fun w' hb => var_below hb gPow (by decide) tP, tab_cells tO gOpn, tab_cells tC gCls, hbig⟩

theorem ba_list (s : ByteArray) : (⟨s.data.toList.toArray⟩ : ByteArray) = s := by cases s; simp
theorem ba_len {s : ByteArray} (h : s.size ≤ maxLen) : s.data.toList.length ≤ 9223372036854775807 := by
  unfold maxLen at h
  rw [Array.length_toList]
  exact h
/-- A start that meets the list. -/
theorem door_met (os : Os) (args : Array Value) : laidMetH Tryd.prog Rows.jsonNumbersRow.laid ((World.laidAll Tryd.prog os Rows.jsonNumbersRow.laid).forCall (fun _ _ => 0) ⟨#[], args, []⟩).memory := by
  rw [MakeChecks.laidMetH_plain _ _ _ (by kernel_rfl)]
  exact laidMet_laidAll _ (by kernel_rfl) (by kernel_rfl)
theorem witness_zip {H : Type} {enc : TypeId × Value → H} {C : Checked} {os : Os} {f : FuncId} {fn : Func} {s : OpenSpec} {conds : List PathCond} {apart : Bool} {laid : List (String × DataW Unit)} (modest : Bool) (w0 : World) (args : Array Value) (hos : w0.os = os)
    (hsh : (w0.forCall (fun _ _ => 0) ⟨#[], args, []⟩).Shaped C.prog) (hok : Input.okWideB C.prog (w0.forCall (fun _ _ => 0) ⟨#[], args, []⟩) f ⟨#[], args, []⟩ = true)
    (hrow : s.preRow enc C.prog fn conds apart laid (w0.forCall (fun _ _ => 0) ⟨#[], args, []⟩).memory args) :
    ∃ (w : World) (tape : Tape) (i : Input), w.os = os ∧ (w.forCall tape i).Shaped C.prog ∧ i.vars = [] ∧ Input.okWide C.prog (w.forCall tape i) .any w.heap.size f i ∧
      s.preRow enc C.prog fn conds apart laid (w.forCall tape i).memory i.args ∧ ({ modest := modest } : Assume).holds C.prog (lone (Frame.enter C.prog f i.args .normal) [] (w.forCall tape i)) :=
  ⟨w0, fun _ _ => 0, ⟨#[], args, []⟩, hos, hsh, (Input.okWide_of_okWideB (base := 0) hok).1, (Input.okWide_of_okWideB hok).2, hrow, by
    simp only [Assume.holds]
    exact ⟨by simp, by simp, fun _ => Modest.zero, by simp, by simp⟩⟩
end Go.Proofs.YtbkkcojfgdjbhaaDoor
