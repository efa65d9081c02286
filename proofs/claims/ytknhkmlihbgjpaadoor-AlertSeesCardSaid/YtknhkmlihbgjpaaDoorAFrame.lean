/- What stage 9's cards share: a memory that fits the list of variables; alerts that come in. -/
import Derived.Test.YtknhkmlihbgjpaaDoorCards
import Derived.Test.YtknhkmlihbgjpaaDoorTie
import Derived.Test.YtknhkmlihbgjpaaDoorABack
import Derived.WalkKit
import Derived.ProofKit
import Derived.OpenShut
import Derived.LaidMore
import Derived.Stop.Joined
import Derived.Stop.LaidErr
import Derived.Deep.DeepHandedRow
import Derived.Deep.DeepWitnessRowRef
import Derived.Lib.SmallJoins
import Derived.Lib.LaidTab
import Derived.Carry
import Derived.Lay
import Derived.Deep.Slices
import Derived.Deep.Strs
namespace Go.Proofs.YtknhkmlihbgjpaaDoor
open Go.ChangeShapes Go.WideShapes Go.ChangeAt Go.RowKit Go.Joins

theorem own : ownKnob Tryd.prog.godebug = none := by kernel_rfl
theorem ba_list (s : ByteArray) : (⟨s.data.toList.toArray⟩ : ByteArray) = s := by cases s; simp
theorem ba_len {s : ByteArray} (h : s.size ≤ maxLen) : s.data.toList.length ≤ 9223372036854775807 := by
  unfold maxLen at h
  rw [Array.length_toList]
  exact h
theorem gStart : Tryd.prog.globalNamed "lychgate/digest.startWords" = some 0 := by kernel_rfl
theorem gRound : Tryd.prog.globalNamed "lychgate/digest.roundWords" = some 1 := by kernel_rfl
theorem tStart : (Tryd.prog.globals[0]?).map (·.type) = some 115 := by kernel_rfl
theorem tRound : (Tryd.prog.globals[1]?).map (·.type) = some 117 := by kernel_rfl
theorem cells32 : Tryd.prog.cellsOf 23 = 1 := by kernel_rfl
theorem cellsStart : Tryd.prog.cellsOf 115 = 8 := by kernel_rfl
theorem cellsRound : Tryd.prog.cellsOf 117 = 64 := by kernel_rfl
theorem start_is : (Rows.laid_lychgate_digest_startWords : DataW Unit) = Lib.tabData .u32 (Dg.startL.map Int.ofNat) := rfl
theorem round_is : (Rows.laid_lychgate_digest_roundWords : DataW Unit) = Lib.tabData .u32 (Dg.keyL.map Int.ofNat) := rfl
theorem cls_of_tab {w : World} {name : String} {g : Nat} {xs : List Nat} (h : Lib.TabIs Tryd.prog w name .u32 (xs.map Int.ofNat)) (hg : Tryd.prog.globalNamed name = some g) : Dg.Cls w g 0 (xs.map Dg.v32) := fun j v hv => by
  have hj : j < xs.length := by have := (List.getElem?_eq_some_iff.1 hv).1; simpa using this
  rw [Nat.zero_add, h.cell hg j (by simpa using hj), ← hv]
  simp [hj, Dg.v32]
/-- The two variables hold their tables. -/
theorem tabs_of_laid {W : World} (h : laidMetH Tryd.prog Rows.alertTimesRow.laid W) : Dg.Tabs W := by
  rw [MakeChecks.laidMetH_plain _ _ _ (by kernel_rfl)] at h
  have h1 : laidMet Tryd.prog [("lychgate/digest.startWords", Lib.tabData .u32 (Dg.startL.map Int.ofNat)), ("lychgate/digest.roundWords", Lib.tabData .u32 (Dg.keyL.map Int.ofNat))] W := h
  exact ⟨cls_of_tab (Lib.tabIs_of_head gStart tStart Tryd.underlying115 Tryd.underlying23 cells32 cellsStart h1) gStart,
    cls_of_tab (Lib.tabIs_of_head gRound tRound Tryd.underlying117 Tryd.underlying23 cells32 cellsRound (laidMet.tail h1)) gRound⟩

/-- A start that meets the list. -/
theorem door_met (os : Os) (args : Array Value) : laidMetH Tryd.prog Rows.alertTimesRow.laid ((World.laidAll Tryd.prog os Rows.alertTimesRow.laid).forCall (fun _ _ => 0) ⟨#[], args, []⟩).memory := by
  rw [MakeChecks.laidMetH_plain _ _ _ (by kernel_rfl)]
  exact laidMet_laidAll _ (by kernel_rfl) (by kernel_rfl)
theorem witness_zip {H : Type} {enc : TypeId × Value → H} {C : Checked} {os : Os} {f : FuncId} {fn : Func} {s : OpenSpec} {conds : List PathCond} {apart : Bool} {laid : List (String × DataW Unit)} (modest : Bool) (w0 : World) (args : Array Value) (hos : w0.os = os)
    (hsh : (w0.forCall (fun _ _ => 0) ⟨#[], args, []⟩).Shaped C.prog) (hok : Input.okWideB C.prog (w0.forCall (fun _ _ => 0) ⟨#[], args, []⟩) f ⟨#[], args, []⟩ = true)
    (hrow : s.preRow enc C.prog fn conds apart laid (w0.forCall (fun _ _ => 0) ⟨#[], args, []⟩).memory args) :
    ∃ (w : World) (tape : Tape) (i : Input), w.os = os ∧ (w.forCall tape i).Shaped C.prog ∧ i.vars = [] ∧ Input.okWide C.prog (w.forCall tape i) .any w.heap.size f i ∧
      s.preRow enc C.prog fn conds apart laid (w.forCall tape i).memory i.args ∧ ({ modest := modest } : Assume).holds C.prog (lone (Frame.enter C.prog f i.args .normal) [] (w.forCall tape i)) :=
  ⟨w0, fun _ _ => 0, ⟨#[], args, []⟩, hos, hsh, (Input.okWide_of_okWideB (base := 0) hok).1, (Input.okWide_of_okWideB hok).2, hrow, by
    simp only [Assume.holds]
    exact ⟨by simp, by simp, fun _ => Modest.zero, by simp, by simp⟩⟩
theorem post_new {H : Type} {enc : TypeId × Value → H} {P : Program} {f : Func} {s : ChangeSpec} {apart fresh handsOn : Bool} {W W' : World} {args : Array Value} {v : Value} {ds gs : List (DataW H)} {before pa pv : List MemPlace}
    (hW : DataW.Whole enc P f.params.toList s.vars apart W args.toList ds gs before)
    (hres : ∀ (b : Nat) (sp : Nat → Bool) (hd : Bool), DataW.TrodAll enc P W' b sp hd f.resultTypes.toList (v.resultList f.resultTypes.size) (s.fn H (ds ++ gs)).results [])
    (hargs : ∀ sp : Nat → Bool, (∀ p ∈ before, sp p.block = true) → DataW.TrodAll enc P W' 0 sp true f.params.toList args.toList (s.fn H (ds ++ gs)).args pa)
    (hvars : ∀ sp : Nat → Bool, DataW.TrodVars enc P W' sp s.vars (s.fn H (ds ++ gs)).vars pv) (hb : Below W.heap.size W W') :
    s.post enc P f apart fresh handsOn false W args v W' :=
  ⟨ds, gs, before, [], pa, pv, hW, hres _ _ _, hargs _ (fun p hp => by simpa using hW.lt p hp), hvars _, hb.frame _, fun h => by cases h⟩
theorem ad_at {a : Addr} (hs : a.spot = none) (n : Nat) : a.add n = ⟨a.block, a.off + n, none⟩ := by
  obtain ⟨b, o, s⟩ := a
  cases hs
  unfold Addr.add
  split
  · rename_i h; subst h; rfl
  · rfl
theorem mapped {α : Type} {n i : Nat} {f : Nat → α} {x : α} (h : ((List.range n).map f)[i]? = some x) : i < n ∧ f i = x := by
  rw [List.getElem?_map] at h
  by_cases hi : i < n
  · rw [List.getElem?_range hi] at h
    exact ⟨hi, by simpa using h⟩
  · rw [List.getElem?_eq_none (by simpa using hi)] at h
    simp at h
section
variable {H : Type} {enc : TypeId × Value → H} {w : World} {base : Nat} {spare : Nat → Bool} {held : Bool}
theorem open_rows {k : Nat} (hk : 0 < k) {t e : TypeId} (ht : Tryd.prog.underlying t = some (.slice e)) (ce : Tryd.prog.cellsOf e = k) {α : Type} [Inhabited α] (en : α → List Value) (Ok : α → Prop) (hlen : ∀ y, (en y).length = k)
    (hel : ∀ (fuel : Nat) (cs : List Value) (x : DataW H × List MemPlace), DataW.trod enc Tryd.prog w base spare held fuel e cs = some x → ∃ y, cs = en y ∧ Ok y) {fuel : Nat} {cs : List Value} {x : DataW H × List MemPlace} (h : DataW.trod enc Tryd.prog w base spare held fuel t cs = some x) :
    ∃ (v : Value) (ys : List α), cs = [v] ∧ RowsAt k (fun _ => True) w v (ys.map en) ∧ (∀ y ∈ ys, Ok y) ∧ ys.length ≤ 9223372036854775807 := by
  rcases Go.Deep.open_slice ht h with ⟨rfl, _⟩ | ⟨a, len, cap, m, n, D, Pl, rfl, _, hl, hm, hmm, _, hx⟩
  · exact ⟨_, [], rfl, .inl ⟨rfl, none, 0, rfl⟩, by simp, by simp⟩
  · have hle : len ≤ m := by rw [hmm]; split <;> omega
    have hml : maxLen = 9223372036854775807 := rfl
    obtain ⟨F, hF⟩ := Go.Deep.choose_lt (α := α) (n := len) (p := fun i y => w.cells? base (a.add (i * k)) k = some (en y) ∧ Ok y) (fun i hi => by
      obtain ⟨cs', h1, h2⟩ := hx i (by omega)
      rw [ce] at h1
      obtain ⟨y, rfl, hy⟩ := hel _ _ _ h2
      exact ⟨y, h1, hy⟩)
    rcases Nat.eq_zero_or_pos len with h0 | h0
    · subst h0
      exact ⟨_, [], rfl, .inl ⟨rfl, _, _, rfl⟩, by simp, by simp⟩
    · have hcell0 : ∃ v, w.cell? a = some v := by
        obtain ⟨_, h5, h6⟩ := World.cells?_some (hF 0 h0).1
        have h7 := h6 0 (by omega)
        simp only [Nat.zero_mul, Addr.add] at h7
        exact ⟨_, h7.trans (List.getElem?_eq_getElem (by rw [hlen]; omega))⟩
      obtain ⟨v0, hv0⟩ := hcell0
      have hs : a.spot = none := World.cell?_spot hv0
      have hlt : a.block < w.heap.size := World.block_lt_of_cell? w _ hv0
      have hlen2 : (((List.range len).map F).map en).length = len := by simp
      refine ⟨_, (List.range len).map F, rfl, .inr ⟨a.block, a.off, cap, ?_, by rw [hlen2]; exact hl, trivial, hlt, fun j cs hj i u hi => ?_⟩, fun y hy => ?_, by simp; omega⟩
      · rw [hlen2]
        obtain ⟨b, o, sp⟩ := a
        cases hs
        rfl
      · rw [List.map_map] at hj
        obtain ⟨hj1, rfl⟩ := mapped hj
        obtain ⟨_, h5, h6⟩ := World.cells?_some (hF j hj1).1
        have hi2 : i < k := by have := (List.getElem?_eq_some_iff.1 hi).1; simp only [Function.comp, hlen] at this; exact this
        have h7 := h6 i hi2
        rw [Go.Deep.add_add, ad_at hs] at h7
        rw [show a.off + j * k + i = a.off + (j * k + i) by omega]
        exact h7.trans hi
      · obtain ⟨i, hi, rfl⟩ := List.mem_map.1 hy
        exact (hF i (by simpa using hi)).2
theorem cellsF : Tryd.prog.cellsOf 64 = 2 := by kernel_rfl
set_option maxRecDepth 100000 in
theorem open_fcells (fuel : Nat) (cs : List Value) (x : DataW H × List MemPlace) (h : DataW.trod enc Tryd.prog w base spare held fuel 64 cs = some x) : ∃ f : Bs × Bs, cs = encF f ∧ f.1.length ≤ 9223372036854775807 ∧ f.2.length ≤ 9223372036854775807 := by
  obtain ⟨xs, n, rfl, hx, hlen, hsz, hf⟩ := DataW.trod_struct Tryd.underlying64 h
  rw [cellsF] at hlen
  match cs, hlen with
  | [c0, c1], _ =>
  match xs, hsz with
  | [y0, y1], _ =>
  have f0 := hf 0 _ rfl
  have f1 := hf 1 _ rfl
  replace f0 : DataW.trod enc Tryd.prog w base spare held n 9 [c0] = some y0 := f0
  replace f1 : DataW.trod enc Tryd.prog w base spare held n 9 [c1] = some y1 := f1
  obtain ⟨s, e0, _, ws⟩ := DataW.trod_string Tryd.underlying9 f0
  obtain ⟨t, e1, _, wt⟩ := DataW.trod_string Tryd.underlying9 f1
  simp only [List.cons.injEq, and_true] at e0 e1
  subst e0 e1
  exact ⟨(s.data.toList, t.data.toList), by simp [encF], ba_len ws, ba_len wt⟩
theorem cellsA : Tryd.prog.cellsOf 27 = 6 := by kernel_rfl
theorem cellsL : Tryd.prog.cellsOf 25 = 2 := by kernel_rfl
set_option maxRecDepth 100000 in
theorem open_lcells (fuel : Nat) (cs : List Value) (x : DataW H × List MemPlace) (h : DataW.trod enc Tryd.prog w base spare held fuel 25 cs = some x) : ∃ l c : Int, cs = [.int .i64 l, .int .u32 c] ∧ U32 c := by
  obtain ⟨xs, n, rfl, hx, hlen, hsz, hf⟩ := DataW.trod_struct Tryd.underlying25 h
  rw [cellsL] at hlen
  match cs, hlen with
  | [c0, c1], _ =>
  match xs, hsz with
  | [y0, y1], _ =>
  have f0 := hf 0 _ rfl
  have f1 := hf 1 _ rfl
  replace f0 : DataW.trod enc Tryd.prog w base spare held n 3 [c0] = some y0 := f0
  replace f1 : DataW.trod enc Tryd.prog w base spare held n 23 [c1] = some y1 := f1
  obtain ⟨l, e0, _, wl⟩ := DataW.trod_int Tryd.underlying3 f0
  obtain ⟨c, e1, _, wc⟩ := DataW.trod_int Tryd.underlying23 f1
  simp only [List.cons.injEq, and_true] at e0 e1
  subst e0 e1
  have hb := bounds_u32 wc
  exact ⟨l, c, rfl, hb.1, by omega⟩
set_option maxRecDepth 100000 in
theorem open_acells (fuel : Nat) (cs : List Value) (x : DataW H × List MemPlace) (h : DataW.trod enc Tryd.prog w base spare held fuel 27 cs = some x) : ∃ (s : Bs) (y : Sl) (fs : List (Bs × Bs)) (l c p q : Int), cs = [.string ⟨s.toArray⟩, y.v, .int .i64 l, .int .u32 c, .int .i64 p, .int .i64 q] ∧ FldsAt (fun _ => True) w y.v fs ∧ s.length ≤ 9223372036854775807 ∧ (∀ f ∈ fs, f.1.length ≤ 9223372036854775807 ∧ f.2.length ≤ 9223372036854775807) ∧ fs.length ≤ 9223372036854775807 ∧ U32 c := by
  obtain ⟨xs, n, rfl, hx, hlen, hsz, hf⟩ := DataW.trod_struct Tryd.underlying27 h
  rw [cellsA] at hlen
  match cs, hlen with
  | [c0, c1, c2, c3, c4, c5], _ =>
  match xs, hsz with
  | [y0, y1, y2, y3, y4], _ =>
  have f0 := hf 0 _ rfl
  have f1 := hf 1 _ rfl
  have f2 := hf 2 _ rfl
  have f3 := hf 3 _ rfl
  have f4 := hf 4 _ rfl
  replace f0 : DataW.trod enc Tryd.prog w base spare held n 9 [c0] = some y0 := f0
  replace f1 : DataW.trod enc Tryd.prog w base spare held n 22 [c1] = some y1 := f1
  replace f2 : DataW.trod enc Tryd.prog w base spare held n 25 [c2, c3] = some y2 := f2
  replace f3 : DataW.trod enc Tryd.prog w base spare held n 3 [c4] = some y3 := f3
  replace f4 : DataW.trod enc Tryd.prog w base spare held n 3 [c5] = some y4 := f4
  obtain ⟨s, e0, _, ws⟩ := DataW.trod_string Tryd.underlying9 f0
  obtain ⟨v, fs, e1, hv, hfl, hl⟩ := open_rows (k := 2) (by decide) Tryd.underlying22 cellsF encF _ (fun _ => rfl) open_fcells f1
  obtain ⟨l, c, e2, hc⟩ := open_lcells _ _ _ f2
  obtain ⟨p, e3, _, wp⟩ := DataW.trod_int Tryd.underlying3 f3
  obtain ⟨q, e4, _, wq⟩ := DataW.trod_int Tryd.underlying3 f4
  simp only [List.cons.injEq, and_true] at e0 e1 e2 e3 e4
  obtain ⟨e2, e5⟩ := e2
  subst e0 e1 e2 e3 e4 e5
  obtain ⟨a, k, rfl⟩ := FldsAt.shape (fs := fs) hv
  exact ⟨s.data.toList, ⟨a, fs.length, k⟩, fs, l, c, p, q, by rw [ba_list]; rfl, hv, ba_len ws, hfl, hl, hc⟩
set_option maxRecDepth 100000 in
/-- An alert among the arguments. -/
theorem open_alert {r : Reach} {b0 : Nat} {v : Value} {d : DataW H} {p : List MemPlace} (hv : Value.okWide Tryd.prog w r b0 27 v) (h : DataW.Trod enc Tryd.prog w base spare held 27 v d p) :
    ∃ (s : Bs) (y : Sl) (fs : List (Bs × Bs)) (l c p q : Int), v = alV s y.v l c p q ∧ FldsAt (fun _ => True) w y.v fs ∧ s.length ≤ 9223372036854775807 ∧ (∀ f ∈ fs, f.1.length ≤ 9223372036854775807 ∧ f.2.length ≤ 9223372036854775807) ∧ fs.length ≤ 9223372036854775807 ∧ U32 c := by
  obtain ⟨cs, rfl, hsz⟩ := okWide_struct Tryd.underlying27 hv
  obtain ⟨l⟩ := cs
  obtain ⟨fuel, hf⟩ := h
  obtain ⟨s, y, fs, l1, c, p, q, e, h1⟩ := open_acells fuel _ _ hf
  exact ⟨s, y, fs, l1, c, p, q, by unfold alV; rw [← e]; simp [Value.cells], h1⟩
end
end Go.Proofs.YtknhkmlihbgjpaaDoor
