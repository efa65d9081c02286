/- Fields and matchers that come in. -/
import Derived.Test.YteooofakpkbgoaaDoorMA
import Derived.Test.YteooofakpkbgoaaDoorMFrame
import Derived.Deep.Slices
import Derived.Deep.Strs
namespace Go.Proofs.YteooofakpkbgoaaDoor
open Go.ChangeShapes Go.WideShapes Go.ChangeAt Go.RowKit Go.Joins

theorem ad_at {a : Addr} (hs : a.spot = none) (n : Nat) : a.add n = ⟨a.block, a.off + n, none⟩ := by
  obtain ⟨b, o, s⟩ := a
  cases hs
  unfold Addr.add
  split
  · rename_i h; subst h; rfl
  · rfl
theorem mapped {α : Type} {n i : Nat} {f : Nat → α} {x : α} (h : ((List.range n).map f)[i]? = some x) : i < n ∧ f i = x := by
  rw [List.getElem?_map] at h
  by_cases hi : i < n
  · rw [List.getElem?_range hi] at h
    exact ⟨hi, by simpa using h⟩
  · rw [List.getElem?_eq_none (by simpa using hi)] at h
    simp at h
section
variable {H : Type} {enc : TypeId × Value → H} {w : World} {base : Nat} {spare : Nat → Bool} {held : Bool}
theorem open_rows {k : Nat} (hk : 0 < k) {t e : TypeId} (ht : Tryd.prog.underlying t = some (.slice e)) (ce : Tryd.prog.cellsOf e = k) {α : Type} [Inhabited α] (en : α → List Value) (Ok : α → Prop) (hlen : ∀ y, (en y).length = k)
    (hel : ∀ (fuel : Nat) (cs : List Value) (x : DataW H × List MemPlace), DataW.trod enc Tryd.prog w base spare held fuel e cs = some x → ∃ y, cs = en y ∧ Ok y) {fuel : Nat} {cs : List Value} {x : DataW H × List MemPlace} (h : DataW.trod enc Tryd.prog w base spare held fuel t cs = some x) :
    ∃ (v : Value) (ys : List α), cs = [v] ∧ RowsAt k (fun _ => True) w v (ys.map en) ∧ (∀ y ∈ ys, Ok y) ∧ ys.length ≤ 9223372036854775807 := by
  rcases Go.Deep.open_slice ht h with ⟨rfl, _⟩ | ⟨a, len, cap, m, n, D, Pl, rfl, _, hl, hm, hmm, _, hx⟩
  · exact ⟨_, [], rfl, .inl ⟨rfl, none, 0, rfl⟩, by simp, by simp⟩
  · have hle : len ≤ m := by rw [hmm]; split <;> omega
    have hml : maxLen = 9223372036854775807 := rfl
    obtain ⟨F, hF⟩ := Go.Deep.choose_lt (α := α) (n := len) (p := fun i y => w.cells? base (a.add (i * k)) k = some (en y) ∧ Ok y) (fun i hi => by
      obtain ⟨cs', h1, h2⟩ := hx i (by omega)
      rw [ce] at h1
      obtain ⟨y, rfl, hy⟩ := hel _ _ _ h2
      exact ⟨y, h1, hy⟩)
    rcases Nat.eq_zero_or_pos len with h0 | h0
    · subst h0
      exact ⟨_, [], rfl, .inl ⟨rfl, _, _, rfl⟩, by simp, by simp⟩
    · have hcell0 : ∃ v, w.cell? a = some v := by
        obtain ⟨_, h5, h6⟩ := World.cells?_some (hF 0 h0).1
        have h7 := h6 0 (by omega)
        simp only [Nat.zero_mul, Addr.add] at h7
        exact ⟨_, h7.trans (List.getElem?_eq_getElem (by rw [hlen]; omega))⟩
      obtain ⟨v0, hv0⟩ := hcell0
      have hs : a.spot = none := World.cell?_spot hv0
      have hlt : a.block < w.heap.size := World.block_lt_of_cell? w _ hv0
      have hlen2 : (((List.range len).map F).map en).length = len := by simp
      refine ⟨_, (List.range len).map F, rfl, .inr ⟨a.block, a.off, cap, ?_, by rw [hlen2]; exact hl, trivial, hlt, fun j cs hj i u hi => ?_⟩, fun y hy => ?_, by simp; omega⟩
      · rw [hlen2]
        obtain ⟨b, o, sp⟩ := a
        cases hs
        rfl
      · rw [List.map_map] at hj
        obtain ⟨hj1, rfl⟩ := mapped hj
        obtain ⟨_, h5, h6⟩ := World.cells?_some (hF j hj1).1
        have hi2 : i < k := by have := (List.getElem?_eq_some_iff.1 hi).1; simp only [Function.comp, hlen] at this; exact this
        have h7 := h6 i hi2
        rw [Go.Deep.add_add, ad_at hs] at h7
        rw [show a.off + j * k + i = a.off + (j * k + i) by omega]
        exact h7.trans hi
      · obtain ⟨i, hi, rfl⟩ := List.mem_map.1 hy
        exact (hF i (by simpa using hi)).2
theorem cellsF : Tryd.prog.cellsOf 28 = 2 := by kernel_rfl
theorem cellsM : Tryd.prog.cellsOf 31 = 3 := by kernel_rfl
set_option maxRecDepth 100000 in
theorem open_fcells (fuel : Nat) (cs : List Value) (x : DataW H × List MemPlace) (h : DataW.trod enc Tryd.prog w base spare held fuel 28 cs = some x) : ∃ f : Bs × Bs, cs = encF f ∧ f.1.length ≤ 9223372036854775807 ∧ f.2.length ≤ 9223372036854775807 := by
  obtain ⟨xs, n, rfl, hx, hlen, hsz, hf⟩ := DataW.trod_struct Tryd.underlying28 h
  rw [cellsF] at hlen
  match cs, hlen with
  | [c0, c1], _ =>
  match xs, hsz with
  | [y0, y1], _ =>
  have f0 := hf 0 _ rfl
  have f1 := hf 1 _ rfl
  replace f0 : DataW.trod enc Tryd.prog w base spare held n 9 [c0] = some y0 := f0
  replace f1 : DataW.trod enc Tryd.prog w base spare held n 9 [c1] = some y1 := f1
  obtain ⟨s, e0, _, ws⟩ := DataW.trod_string Tryd.underlying9 f0
  obtain ⟨t, e1, _, wt⟩ := DataW.trod_string Tryd.underlying9 f1
  simp only [List.cons.injEq, and_true] at e0 e1
  subst e0 e1
  exact ⟨(s.data.toList, t.data.toList), by simp [encF], ba_len ws, ba_len wt⟩
set_option maxRecDepth 100000 in
theorem open_mcells (fuel : Nat) (cs : List Value) (x : DataW H × List MemPlace) (h : DataW.trod enc Tryd.prog w base spare held fuel 31 cs = some x) : ∃ m : Mt, cs = encM m ∧ m.n.length ≤ 9223372036854775807 ∧ m.v.length ≤ 9223372036854775807 ∧ -9223372036854775808 ≤ m.op ∧ m.op ≤ 9223372036854775807 := by
  obtain ⟨xs, n, rfl, hx, hlen, hsz, hf⟩ := DataW.trod_struct Tryd.underlying31 h
  rw [cellsM] at hlen
  match cs, hlen with
  | [c0, c1, c2], _ =>
  match xs, hsz with
  | [y0, y1, y2], _ =>
  have f0 := hf 0 _ rfl
  have f1 := hf 1 _ rfl
  have f2 := hf 2 _ rfl
  replace f0 : DataW.trod enc Tryd.prog w base spare held n 9 [c0] = some y0 := f0
  replace f1 : DataW.trod enc Tryd.prog w base spare held n 3 [c1] = some y1 := f1
  replace f2 : DataW.trod enc Tryd.prog w base spare held n 9 [c2] = some y2 := f2
  obtain ⟨s, e0, _, ws⟩ := DataW.trod_string Tryd.underlying9 f0
  obtain ⟨o, e1, _, wo⟩ := DataW.trod_int Tryd.underlying3 f1
  obtain ⟨t, e2, _, wt⟩ := DataW.trod_string Tryd.underlying9 f2
  simp only [List.cons.injEq, and_true] at e0 e1 e2
  subst e0 e1 e2
  have hb := bounds_i64 wo
  exact ⟨⟨s.data.toList, o, t.data.toList⟩, by simp [encM], ba_len ws, ba_len wt, hb.1, hb.2⟩
instance : Inhabited Mt := ⟨⟨[], 0, []⟩⟩
set_option maxRecDepth 100000 in
theorem open_flds {r : Reach} {b0 : Nat} {v : Value} {d : DataW H} {p : List MemPlace} (hv : Value.okWide Tryd.prog w r b0 22 v) (h : DataW.Trod enc Tryd.prog w base spare held 22 v d p) :
    ∃ fs : List (Bs × Bs), FldsAt (fun _ => True) w v fs ∧ (∀ f ∈ fs, f.1.length ≤ 9223372036854775807 ∧ f.2.length ≤ 9223372036854775807) ∧ fs.length ≤ 9223372036854775807 := by
  obtain ⟨aa, n, cap, rfl⟩ := okWide_slice Tryd.underlying22 hv
  obtain ⟨fuel, hf⟩ := h
  obtain ⟨v', ys, e, h1, h2, h3⟩ := open_rows (k := 2) (by decide) Tryd.underlying22 cellsF encF _ (fun _ => rfl) open_fcells hf
  simp [Value.cells] at e
  subst e
  exact ⟨ys, h1, h2, h3⟩
set_option maxRecDepth 100000 in
theorem open_mts {r : Reach} {b0 : Nat} {v : Value} {d : DataW H} {p : List MemPlace} (hv : Value.okWide Tryd.prog w r b0 23 v) (h : DataW.Trod enc Tryd.prog w base spare held 23 v d p) :
    ∃ ms : List Mt, MtsAt (fun _ => True) w v ms ∧ (∀ m ∈ ms, m.n.length ≤ 9223372036854775807 ∧ m.v.length ≤ 9223372036854775807 ∧ -9223372036854775808 ≤ m.op ∧ m.op ≤ 9223372036854775807) ∧ ms.length ≤ 9223372036854775807 := by
  obtain ⟨aa, n, cap, rfl⟩ := okWide_slice Tryd.underlying23 hv
  obtain ⟨fuel, hf⟩ := h
  obtain ⟨v', ys, e, h1, h2, h3⟩ := open_rows (k := 3) (by decide) Tryd.underlying23 cellsM encM _ (fun _ => rfl) open_mcells hf
  simp [Value.cells] at e
  subst e
  exact ⟨ys, h1, h2, h3⟩
set_option maxRecDepth 100000 in
theorem open_fld {r : Reach} {b0 : Nat} {v : Value} {d : DataW H} {p : List MemPlace} (hv : Value.okWide Tryd.prog w r b0 28 v) (h : DataW.Trod enc Tryd.prog w base spare held 28 v d p) :
    ∃ f : Bs × Bs, v = .agg (encF f).toArray ∧ f.1.length ≤ 9223372036854775807 ∧ f.2.length ≤ 9223372036854775807 := by
  obtain ⟨cs, rfl, hsz⟩ := okWide_struct Tryd.underlying28 hv
  obtain ⟨l⟩ := cs
  obtain ⟨fuel, hf⟩ := h
  obtain ⟨f, e, h1⟩ := open_fcells fuel _ _ hf
  exact ⟨f, by rw [← e]; simp [Value.cells], h1⟩
set_option maxRecDepth 100000 in
theorem open_mt {r : Reach} {b0 : Nat} {v : Value} {d : DataW H} {p : List MemPlace} (hv : Value.okWide Tryd.prog w r b0 31 v) (h : DataW.Trod enc Tryd.prog w base spare held 31 v d p) :
    ∃ m : Mt, v = .agg (encM m).toArray ∧ m.n.length ≤ 9223372036854775807 ∧ m.v.length ≤ 9223372036854775807 ∧ -9223372036854775808 ≤ m.op ∧ m.op ≤ 9223372036854775807 := by
  obtain ⟨cs, rfl, hsz⟩ := okWide_struct Tryd.underlying31 hv
  obtain ⟨l⟩ := cs
  obtain ⟨fuel, hf⟩ := h
  obtain ⟨m, e, h1⟩ := open_mcells fuel _ _ hf
  exact ⟨m, by rw [← e]; simp [Value.cells], h1⟩
end
end Go.Proofs.YteooofakpkbgoaaDoor
