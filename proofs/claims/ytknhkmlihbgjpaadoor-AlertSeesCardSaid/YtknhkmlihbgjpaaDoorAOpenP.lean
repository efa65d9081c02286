/- A policy among the arguments. -/
import Derived.Test.YtknhkmlihbgjpaaDoorAFrame
import Derived.Test.YtknhkmlihbgjpaaDoorAR
namespace Go.Proofs.YtknhkmlihbgjpaaDoor
open Go.ChangeShapes Go.WideShapes Go.ChangeAt Go.RowKit Go.Joins
theorem RowsAt.cap {k : Nat} {P : Nat → Prop} {w : World} {a : Option Addr} {n c : Nat} {css : List (List Value)} (h : RowsAt k P w (.slice a n c) css) : n = css.length ∧ n ≤ c ∨ n = 0 := by
  rcases h with ⟨e, a', c', e2⟩ | ⟨g, o, c', e, hle, _⟩
  · injection e2 with _ e4 _
    exact .inr e4
  · injection e with _ e1 e3
    exact .inl ⟨e1, by omega⟩
instance : Inhabited Nd := ⟨⟨[], 0, 0⟩⟩
section
variable {H : Type} {enc : TypeId × Value → H} {w : World} {base : Nat} {spare : Nat → Bool} {held : Bool}
theorem cellsNd : Tryd.prog.cellsOf 82 = 3 := by kernel_rfl
theorem cellsPol : Tryd.prog.cellsOf 50 = 6 := by kernel_rfl
set_option maxRecDepth 100000 in
theorem open_ncells (fuel : Nat) (cs : List Value) (x : DataW H × List MemPlace) (h : DataW.trod enc Tryd.prog w base spare held fuel 82 cs = some x) : ∃ m : Nd, cs = encN m ∧ m.n.length ≤ 9223372036854775807 ∧ U32 m.c := by
  obtain ⟨xs, n, rfl, hx, hlen, hsz, hf⟩ := DataW.trod_struct Tryd.underlying82 h
  rw [cellsNd] at hlen
  match cs, hlen with
  | [c0, c1, c2], _ =>
  match xs, hsz with
  | [y0, y1], _ =>
  have f0 := hf 0 _ rfl
  have f1 := hf 1 _ rfl
  replace f0 : DataW.trod enc Tryd.prog w base spare held n 9 [c0] = some y0 := f0
  replace f1 : DataW.trod enc Tryd.prog w base spare held n 25 [c1, c2] = some y1 := f1
  obtain ⟨s, e0, _, ws⟩ := DataW.trod_string Tryd.underlying9 f0
  obtain ⟨l, c, e1, hc⟩ := open_lcells _ _ _ f1
  simp only [List.cons.injEq, and_true] at e0 e1
  obtain ⟨e1, e2⟩ := e1
  subst e0 e1 e2
  exact ⟨⟨s.data.toList, l, c⟩, by simp [encN], ba_len ws, hc⟩
/-- A slice of anything: its place and size. -/
theorem open_shape {t e : TypeId} (ht : Tryd.prog.underlying t = some (.slice e)) {fuel : Nat} {cs : List Value} {x : DataW H × List MemPlace} (h : DataW.trod enc Tryd.prog w base spare held fuel t cs = some x) : ∃ y : Sl, cs = [y.v] ∧ SlOk y := by
  rcases Go.Deep.open_slice ht h with ⟨rfl, _⟩ | ⟨a, len, cap, m, n, D, Pl, rfl, _, hl, hm, hmm, _, hx⟩
  · exact ⟨⟨none, 0, 0⟩, rfl, Nat.le_refl _, by simp⟩
  · have hle : len ≤ m := by rw [hmm]; split <;> omega
    have hml : maxLen = 9223372036854775807 := rfl
    exact ⟨⟨some a, len, cap⟩, rfl, hl, by simp only; omega⟩
/-- A list of names with labels. -/
theorem open_nds {fuel : Nat} {cs : List Value} {x : DataW H × List MemPlace} (h : DataW.trod enc Tryd.prog w base spare held fuel 46 cs = some x) : ∃ (y : Sl) (ns : List Nd), cs = [y.v] ∧ NdsAt (fun _ => True) w y.v ns ∧ (∀ m ∈ ns, m.n.length ≤ 9223372036854775807 ∧ U32 m.c) ∧ ns.length ≤ 9223372036854775807 ∧ y.n = ns.length ∧ SlOk y := by
  obtain ⟨y, e, hn⟩ := open_shape Tryd.underlying46 h
  obtain ⟨v, ns, e1, hv, hfl, hl⟩ := open_rows (k := 3) (by decide) Tryd.underlying46 cellsNd encN _ (fun _ => rfl) open_ncells h
  rw [e] at e1
  injection e1 with e1 _
  subst e1
  obtain ⟨a, c, e2⟩ := NdsAt.shape (ns := ns) hv
  obtain ⟨ya, yn, yc⟩ := y
  injection e2 with _ e3 _
  exact ⟨⟨ya, yn, yc⟩, ns, e, hv, hfl, hl, e3, hn⟩
set_option maxRecDepth 100000 in
/-- A policy: its raises as they are, of the other lists where they lie. -/
theorem open_policy {r : Reach} {b0 : Nat} {v : Value} {d : DataW H} {p : List MemPlace} (hv : Value.okWide Tryd.prog w r b0 50 v) (h : DataW.Trod enc Tryd.prog w base spare held 50 v d p) :
    ∃ (x0 x1 x2 x3 x4 x5 : Sl) (ns : List Nd), v = .agg #[x0.v, x1.v, x2.v, x3.v, x4.v, x5.v] ∧ NdsAt (fun _ => True) w x3.v ns ∧ (∀ m ∈ ns, m.n.length ≤ 9223372036854775807 ∧ U32 m.c) ∧ ns.length ≤ 9223372036854775807 ∧ x3.n = ns.length ∧ SlOk x0 ∧ SlOk x1 ∧ SlOk x2 ∧ SlOk x3 ∧ SlOk x4 ∧ SlOk x5 := by
  obtain ⟨cs, rfl, hsz⟩ := okWide_struct Tryd.underlying50 hv
  obtain ⟨l⟩ := cs
  obtain ⟨fuel, hf⟩ := h
  obtain ⟨xs, n, rfl, hx, hlen, hsz2, hf⟩ := DataW.trod_struct Tryd.underlying50 hf
  rw [cellsPol] at hlen
  simp only [Value.cells] at hlen hf
  match l, hlen with
  | [c0, c1, c2, c3, c4, c5], _ =>
  match xs, hsz2 with
  | [y0, y1, y2, y3, y4, y5], _ =>
  have f0 := hf 0 _ rfl
  have f1 := hf 1 _ rfl
  have f2 := hf 2 _ rfl
  have f3 := hf 3 _ rfl
  have f4 := hf 4 _ rfl
  have f5 := hf 5 _ rfl
  replace f0 : DataW.trod enc Tryd.prog w base spare held n 46 [c0] = some y0 := f0
  replace f1 : DataW.trod enc Tryd.prog w base spare held n 46 [c1] = some y1 := f1
  replace f2 : DataW.trod enc Tryd.prog w base spare held n 46 [c2] = some y2 := f2
  replace f3 : DataW.trod enc Tryd.prog w base spare held n 46 [c3] = some y3 := f3
  replace f4 : DataW.trod enc Tryd.prog w base spare held n 47 [c4] = some y4 := f4
  replace f5 : DataW.trod enc Tryd.prog w base spare held n 48 [c5] = some y5 := f5
  obtain ⟨x0, e0, s0⟩ := open_shape Tryd.underlying46 f0
  obtain ⟨x1, e1, s1⟩ := open_shape Tryd.underlying46 f1
  obtain ⟨x2, e2, s2⟩ := open_shape Tryd.underlying46 f2
  obtain ⟨x3, ns, e3, hN, hU, hl, hnl, s3⟩ := open_nds f3
  obtain ⟨x4, e4, s4⟩ := open_shape Tryd.underlying47 f4
  obtain ⟨x5, e5, s5⟩ := open_shape Tryd.underlying48 f5
  simp only [List.cons.injEq, and_true] at e0 e1 e2 e3 e4 e5
  subst e0 e1 e2 e3 e4 e5
  exact ⟨x0, x1, x2, x3, x4, x5, ns, rfl, hN, hU, hl, hnl, s0, s1, s2, s3, s4, s5⟩
end
end Go.Proofs.YtknhkmlihbgjpaaDoor
