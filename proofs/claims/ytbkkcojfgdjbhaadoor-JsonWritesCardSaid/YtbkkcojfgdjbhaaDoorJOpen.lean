/- A statement's argument of the document's type Value, opened: its five cells, and what lies below them. -/
import Derived.Test.YtbkkcojfgdjbhaaDoorJBackN
import Derived.Test.YtbkkcojfgdjbhaaDoorFrame
import Derived.Deep.Slices
namespace Go.Proofs.YtbkkcojfgdjbhaaDoor
open Go.ChangeShapes Go.WideShapes Go.ChangeAt Go.RowKit Go.Joins

theorem JAt.deep {P : Nat → Prop} {w : World} {d : Nat} {cs : List Value} {j : J} (h : JAt P w d cs j) : JAt P w (d + 1) cs j := by
  induction d generalizing cs j with
  | zero => exact h.elim
  | succ d ih =>
    obtain ⟨kd, n, s, keys, kids⟩ := j
    obtain ⟨kv, dv, e, hk, hr⟩ := h
    refine ⟨kv, dv, e, hk, ?_⟩
    rcases hr with hr | ⟨g, o, c, e2, hq, hlt, hc⟩
    · exact .inl hr
    · refine .inr ⟨g, o, c, e2, hq, hlt, fun i kid hi => ?_⟩
      obtain ⟨cs', h5, h6, h7⟩ := hc i kid hi
      exact ⟨cs', h5, h6, ih h7⟩
instance : Inhabited J := ⟨J.zero⟩
theorem ad_at {a : Addr} (hs : a.spot = none) (n : Nat) : a.add n = ⟨a.block, a.off + n, none⟩ := by
  obtain ⟨b, o, s⟩ := a
  cases hs
  unfold Addr.add
  split
  · rename_i h; subst h; rfl
  · rfl
theorem mapped {α : Type} {n i : Nat} {f : Nat → α} {x : α} (h : ((List.range n).map f)[i]? = some x) : i < n ∧ f i = x := by
  rw [List.getElem?_map] at h
  by_cases hi : i < n
  · rw [List.getElem?_range hi] at h
    exact ⟨hi, by simpa using h⟩
  · rw [List.getElem?_eq_none (by simpa using hi)] at h
    simp at h

section
variable {H : Type} {enc : TypeId × Value → H} {w : World} {base : Nat} {spare : Nat → Bool} {held : Bool}
theorem cellsVal : Tryd.prog.cellsOf 25 = 5 := by kernel_rfl
theorem open_strs {fuel : Nat} {cs : List Value} {x : DataW H × List MemPlace} (h : DataW.trod enc Tryd.prog w base spare held fuel 22 cs = some x) :
    ∃ v keys, cs = [v] ∧ StrsAt (fun k => k < w.heap.size) w v keys ∧ ∀ k ∈ keys, k.length ≤ 9223372036854775807 := by
  rcases Go.Deep.open_slice1 Tryd.underlying22 cellsStr h with ⟨rfl, _⟩ | ⟨a, len, cap, m, n, V, D, Pl, rfl, _, hl, hm, hmm, _, hx⟩
  · exact ⟨_, [], rfl, .inl ⟨rfl, none, 0, rfl⟩, by simp⟩
  · have hle : len ≤ m := by rw [hmm]; split <;> omega
    obtain ⟨F, hF⟩ := Go.Deep.choose_lt (α := Bs) (n := len) (p := fun i s => w.cell? (a.add i) = some (.string ⟨s.toArray⟩) ∧ s.length ≤ 9223372036854775807) (fun i hi => by
      obtain ⟨h1, h2⟩ := hx i (by omega)
      obtain ⟨s, e, _, hs⟩ := DataW.trod_string Tryd.underlying9 h2
      simp only [List.cons.injEq, and_true] at e
      rw [e] at h1
      exact ⟨s.data.toList, by simpa using h1, by simpa [maxLen] using hs⟩)
    rcases Nat.eq_zero_or_pos len with h0 | h0
    · subst h0
      exact ⟨_, [], rfl, .inl ⟨rfl, _, _, rfl⟩, by simp⟩
    · have hs : a.spot = none := World.cell?_spot (by have := (hF 0 h0).1; unfold Addr.add at this; rw [if_pos rfl] at this; exact this)
      have hlt : a.block < w.heap.size := by
        have h1 := (hF 0 h0).1
        unfold Addr.add at h1
        rw [if_pos rfl] at h1
        exact World.block_lt_of_cell? w _ h1
      have hlen : ((List.range len).map F).length = len := by simp
      refine ⟨_, (List.range len).map F, rfl, .inr ⟨a.block, a.off, cap, ?_, by rw [hlen]; exact hl, hlt, hlt, fun j s hj => ?_⟩, fun k hk => ?_⟩
      · rw [hlen]
        obtain ⟨b, o, sp⟩ := a
        cases hs
        rfl
      · obtain ⟨hj1, rfl⟩ := mapped hj
        rw [← ad_at hs]
        exact (hF j hj1).1
      · obtain ⟨i, hi, rfl⟩ := List.mem_map.1 hk
        exact (hF i (by simpa using hi)).2
set_option maxRecDepth 100000 in
theorem open_cells (fuel : Nat) : ∀ {cs : List Value} {x : DataW H × List MemPlace}, DataW.trod enc Tryd.prog w base spare held fuel 25 cs = some x →
    ∃ j, JAt (fun k => k < w.heap.size) w fuel cs j ∧ (∀ e, Rg e j) ∧ ∀ e, Kz e j := by
  induction fuel using Nat.strongRecOn with
  | ind fuel ih =>
    intro cs x h
    obtain ⟨xs, n, rfl, hx, hlen, hsz, hf⟩ := DataW.trod_struct Tryd.underlying25 h
    rw [cellsVal] at hlen
    match cs, hlen with
    | [c0, c1, c2, c3, c4], _ =>
    match xs, hsz with
    | [y0, y1, y2, y3, y4], _ =>
    have f0 := hf 0 _ rfl
    have f1 := hf 1 _ rfl
    have f2 := hf 2 _ rfl
    have f3 := hf 3 _ rfl
    have f4 := hf 4 _ rfl
    replace f0 : DataW.trod enc Tryd.prog w base spare held n 3 [c0] = some y0 := f0
    replace f1 : DataW.trod enc Tryd.prog w base spare held n 2 [c1] = some y1 := f1
    replace f2 : DataW.trod enc Tryd.prog w base spare held n 9 [c2] = some y2 := f2
    replace f3 : DataW.trod enc Tryd.prog w base spare held n 22 [c3] = some y3 := f3
    replace f4 : DataW.trod enc Tryd.prog w base spare held n 23 [c4] = some y4 := f4
    obtain ⟨k, e0, _, wk⟩ := DataW.trod_int Tryd.underlying3 f0
    obtain ⟨m, e1, _, wm⟩ := DataW.trod_int Tryd.underlying2 f1
    obtain ⟨s, e2, _, ws⟩ := DataW.trod_string Tryd.underlying9 f2
    obtain ⟨kv, keys, e3, hk, hkl⟩ := open_strs f3
    simp only [List.cons.injEq, and_true] at e0 e1 e2 e3
    subst e0 e1 e2 e3
    have hc5 : [Value.int .i64 k, .int .i64 m, .string s, c3, c4] = cells5 k m s.data.toList c3 c4 := by simp [cells5]
    rcases DataW.trod_slice Tryd.underlying23 f4 with ⟨e4, _⟩ | ⟨a, len, cap, elems, rest, n', rfl, e4, _, _, hl, hm, hel, hx', _⟩
    · simp only [List.cons.injEq, and_true] at e4
      subst e4
      refine ⟨.mk k m s.data.toList keys [], ⟨_, _, hc5, hk, .inl ⟨rfl, none, 0, rfl⟩⟩, fun e => ?_, fun e => ?_⟩
      · cases e with
        | zero => exact bounds_i64 wm
        | succ e => exact ⟨bounds_i64 wm, by simp⟩
      · cases e with
        | zero => trivial
        | succ e => exact ⟨hkl, by simp⟩
    · simp only [List.cons.injEq, and_true] at e4
      subst e4
      rw [cellsVal] at hx'
      obtain ⟨F, hF⟩ := Go.Deep.choose_lt (α := J) (n := len) (p := fun i j => ∃ cs', w.cells? base (a.add (i * 5)) 5 = some cs' ∧ JAt (fun k => k < w.heap.size) w n' cs' j ∧ (∀ e, Rg e j) ∧ ∀ e, Kz e j) (fun i hi => by
        have h1 := hx' i hi
        rw [List.getElem?_eq_getElem (by omega)] at h1
        obtain ⟨cs', h2, h3⟩ := Option.bind_eq_some_iff.1 h1
        obtain ⟨j, hj⟩ := ih n' (by omega) h3
        exact ⟨j, cs', h2, hj⟩)
      have hrg : ∀ e, Rg e (.mk k m s.data.toList keys ((List.range len).map F)) := fun e => by
        cases e with
        | zero => exact bounds_i64 wm
        | succ e =>
          refine ⟨bounds_i64 wm, fun kid hkid => ?_⟩
          obtain ⟨i, hi, rfl⟩ := List.mem_map.1 hkid
          obtain ⟨_, _, _, h4, _⟩ := hF i (by simpa using hi)
          exact h4 e
      have hkz : ∀ e, Kz e (.mk k m s.data.toList keys ((List.range len).map F)) := fun e => by
        cases e with
        | zero => trivial
        | succ e =>
          refine ⟨hkl, fun kid hkid => ?_⟩
          obtain ⟨i, hi, rfl⟩ := List.mem_map.1 hkid
          obtain ⟨_, _, _, _, h4⟩ := hF i (by simpa using hi)
          exact h4 e
      refine ⟨.mk k m s.data.toList keys ((List.range len).map F), ⟨_, _, hc5, hk, ?_⟩, hrg, hkz⟩
      rcases Nat.eq_zero_or_pos len with h0 | h0
      · subst h0
        exact .inl ⟨rfl, _, _, rfl⟩
      · have hcell0 : ∃ v, w.cell? a = some v := by
          obtain ⟨cs', h2, _⟩ := hF 0 h0
          obtain ⟨_, h5, h6⟩ := World.cells?_some h2
          have h7 := h6 0 (by omega)
          simp only [Nat.zero_mul, Addr.add] at h7
          exact ⟨_, h7.trans (List.getElem?_eq_getElem (by omega))⟩
        obtain ⟨v0, hv0⟩ := hcell0
        have hs : a.spot = none := World.cell?_spot hv0
        have hlt : a.block < w.heap.size := World.block_lt_of_cell? w _ hv0
        have hlen : ((List.range len).map F).length = len := by simp
        refine .inr ⟨a.block, a.off, cap, ?_, hlt, hlt, fun i kid hi => ?_⟩
        · rw [hlen]
          obtain ⟨b, o, sp⟩ := a
          cases hs
          rfl
        · obtain ⟨hi1, rfl⟩ := mapped hi
          obtain ⟨cs', h2, h3, _⟩ := hF i hi1
          obtain ⟨_, h5, h6⟩ := World.cells?_some h2
          refine ⟨cs', h5, fun j u hu => ?_, h3.deep⟩
          have hj : j < 5 := by rw [← h5]; exact (List.getElem?_eq_some_iff.1 hu).1
          have h7 := h6 j hj
          rw [Go.Deep.add_add, ad_at hs, hu] at h7
          rw [← h7]
          congr 2
          omega
set_option maxRecDepth 100000 in
/-- The card's argument. -/
theorem open_val {r : Reach} {b0 : Nat} {v : Value} {d : DataW H} {p : List MemPlace} (hv : Value.okWide Tryd.prog w r b0 25 v) (h : DataW.Trod enc Tryd.prog w base spare held 25 v d p) :
    ∃ (D : Nat) (cs : List Value) (j : J), v = .agg cs.toArray ∧ JAt (fun k => k < w.heap.size) w D cs j ∧ (∀ e, Rg e j) ∧ ∀ e, Kz e j := by
  obtain ⟨cs, rfl, hsz⟩ := okWide_struct Tryd.underlying25 hv
  obtain ⟨l⟩ := cs
  obtain ⟨fuel, hf⟩ := h
  obtain ⟨j, hj⟩ := open_cells fuel hf
  exact ⟨fuel, _, j, by simp [Value.cells], hj⟩
end
end Go.Proofs.YtbkkcojfgdjbhaaDoor
