/- How great the parts of an alert among the arguments are, by the bound of the second form. -/
import Derived.Test.YtknhkmlihbgjpaaDoorAFrame
namespace Go.Proofs.YtknhkmlihbgjpaaDoor
open Go.ChangeShapes Go.WideShapes Go.ChangeAt Go.RowKit Go.Joins
theorem idB_small (s : Bs) (fs : List (Bs × Bs)) (B : Nat) (hs : s.length ≤ B) (hf : ∀ f ∈ fs, f.1.length ≤ B ∧ f.2.length ≤ B) : (idB s fs).length ≤ B + 1 + fs.length * (2 * B + 2) := by
  have h : ((fs.map fun f => ((f.1 ++ [61]) ++ f.2) ++ [(0 : UInt8)]).flatten).length ≤ fs.length * (2 * B + 2) := by
    clear hs
    induction fs with
    | nil => simp
    | cons f fs ih =>
      have h1 := ih fun g hg => hf g (List.mem_cons_of_mem _ hg)
      have h2 := hf f (List.mem_cons_self ..)
      simp only [List.map_cons, List.flatten_cons, List.length_append, List.length_cons, List.length_nil] at h1 ⊢
      rw [Nat.succ_mul]
      omega
  unfold idB
  rw [List.length_append, List.length_append, List.length_cons, List.length_nil]
  omega
theorem bulk_mem {H : Type} {d : DataW H} : ∀ {l : List (DataW H)}, d ∈ l → Rows.uptoBulk d ≤ Rows.uptoBulkAll l
  | [], h => by cases h
  | x :: r, h => by
    simp only [Rows.uptoBulkAll]
    rcases List.mem_cons.1 h with e | e
    · subst e; omega
    · have := bulk_mem e; omega
theorem bulk_agg {H : Type} {d : DataW H} {l : List (DataW H)} (h : d ∈ l) : Rows.uptoBulk d ≤ Rows.uptoBulk (.agg l) := by
  have := bulk_mem h
  simp only [Rows.uptoBulk]
  omega
theorem bulk_slice {H : Type} {d : DataW H} {l r : List (DataW H)} (h : d ∈ l) : Rows.uptoBulk d ≤ Rows.uptoBulk (.slice l r) := by
  have := bulk_mem h
  simp only [Rows.uptoBulk]
  omega
theorem bulk_text {H : Type} (b : List UInt8) : b.length ≤ Rows.uptoBulk (DataW.lit (H := H) (.string b)) := by
  simp [Rows.uptoBulk]
section
variable {H : Type} {enc : TypeId × Value → H} {w : World} {base : Nat} {spare : Nat → Bool} {held : Bool}
/-- As open_rows, with each element's own data. -/
theorem open_rowsB {k : Nat} (hk : 0 < k) {t e : TypeId} (ht : Tryd.prog.underlying t = some (.slice e)) (ce : Tryd.prog.cellsOf e = k) {α : Type} [Inhabited α] (en : α → List Value) (Ok : α → DataW H → Prop) (hlen : ∀ y, (en y).length = k)
    (hel : ∀ (fuel : Nat) (cs : List Value) (x : DataW H × List MemPlace), DataW.trod enc Tryd.prog w base spare held fuel e cs = some x → ∃ y, cs = en y ∧ Ok y x.1) {fuel : Nat} {cs : List Value} {x : DataW H × List MemPlace} (h : DataW.trod enc Tryd.prog w base spare held fuel t cs = some x) :
    ∃ (v : Value) (ys : List α), cs = [v] ∧ RowsAt k (fun _ => True) w v (ys.map en) ∧ (∀ y ∈ ys, ∃ d, Ok y d ∧ Rows.uptoBulk d ≤ Rows.uptoBulk x.1) ∧ ys.length ≤ 9223372036854775807 := by
  rcases Go.Deep.open_slice ht h with ⟨rfl, _⟩ | ⟨a, len, cap, m, n, D, Pl, rfl, _, hl, hm, hmm, hxx, hx⟩
  · exact ⟨_, [], rfl, .inl ⟨rfl, none, 0, rfl⟩, by simp, by simp⟩
  · have hle : len ≤ m := by rw [hmm]; split <;> omega
    have hml : maxLen = 9223372036854775807 := rfl
    obtain ⟨F, hF⟩ := Go.Deep.choose_lt (α := α) (n := len) (p := fun i y => w.cells? base (a.add (i * k)) k = some (en y) ∧ Ok y (D i)) (fun i hi => by
      obtain ⟨cs', h1, h2⟩ := hx i (by omega)
      rw [ce] at h1
      obtain ⟨y, rfl, hy⟩ := hel _ _ _ h2
      exact ⟨y, h1, hy⟩)
    rcases Nat.eq_zero_or_pos len with h0 | h0
    · subst h0
      exact ⟨_, [], rfl, .inl ⟨rfl, _, _, rfl⟩, by simp, by simp⟩
    · have hcell0 : ∃ v, w.cell? a = some v := by
        obtain ⟨_, h5, h6⟩ := World.cells?_some (hF 0 h0).1
        have h7 := h6 0 (by omega)
        simp only [Nat.zero_mul, Addr.add] at h7
        exact ⟨_, h7.trans (List.getElem?_eq_getElem (by rw [hlen]; omega))⟩
      obtain ⟨v0, hv0⟩ := hcell0
      have hs : a.spot = none := World.cell?_spot hv0
      have hlt : a.block < w.heap.size := World.block_lt_of_cell? w _ hv0
      have hlen2 : (((List.range len).map F).map en).length = len := by simp
      refine ⟨_, (List.range len).map F, rfl, .inr ⟨a.block, a.off, cap, ?_, by rw [hlen2]; exact hl, trivial, hlt, fun j cs hj i u hi => ?_⟩, fun y hy => ?_, by simp; omega⟩
      · rw [hlen2]
        obtain ⟨b, o, sp⟩ := a
        cases hs
        rfl
      · rw [List.map_map] at hj
        obtain ⟨hj1, rfl⟩ := mapped hj
        obtain ⟨_, h5, h6⟩ := World.cells?_some (hF j hj1).1
        have hi2 : i < k := by have := (List.getElem?_eq_some_iff.1 hi).1; simp only [Function.comp, hlen] at this; exact this
        have h7 := h6 i hi2
        rw [Go.Deep.add_add, ad_at hs] at h7
        rw [show a.off + j * k + i = a.off + (j * k + i) by omega]
        exact h7.trans hi
      · obtain ⟨i, hi, rfl⟩ := List.mem_map.1 hy
        have hi2 : i < len := by simpa using hi
        refine ⟨D i, (hF i hi2).2, ?_⟩
        rw [hxx]
        exact bulk_slice (List.mem_map.2 ⟨i, hi, rfl⟩)
set_option maxRecDepth 100000 in
theorem open_fcellsB (fuel : Nat) (cs : List Value) (x : DataW H × List MemPlace) (h : DataW.trod enc Tryd.prog w base spare held fuel 64 cs = some x) : ∃ f : Bs × Bs, cs = encF f ∧ f.1.length ≤ Rows.uptoBulk x.1 ∧ f.2.length ≤ Rows.uptoBulk x.1 := by
  obtain ⟨xs, n, rfl, hx, hlen, hsz, hf⟩ := DataW.trod_struct Tryd.underlying64 h
  rw [cellsF] at hlen
  match cs, hlen with
  | [c0, c1], _ =>
  match xs, hsz with
  | [y0, y1], _ =>
  have f0 := hf 0 _ rfl
  have f1 := hf 1 _ rfl
  replace f0 : DataW.trod enc Tryd.prog w base spare held n 9 [c0] = some y0 := f0
  replace f1 : DataW.trod enc Tryd.prog w base spare held n 9 [c1] = some y1 := f1
  obtain ⟨s, e0, g0, ws⟩ := DataW.trod_string Tryd.underlying9 f0
  obtain ⟨t, e1, g1, wt⟩ := DataW.trod_string Tryd.underlying9 f1
  simp only [List.cons.injEq, and_true] at e0 e1
  subst e0 e1 g0 g1
  rw [hx]
  exact ⟨(s.data.toList, t.data.toList), by simp [encF], Nat.le_trans (bulk_text _) (bulk_agg (List.mem_cons_self ..)), Nat.le_trans (bulk_text _) (bulk_agg (List.mem_cons_of_mem _ (List.mem_cons_self ..)))⟩
set_option maxRecDepth 100000 in
/-- An alert among the arguments, its texts no longer than its bulk. -/
theorem open_alertB {r : Reach} {b0 : Nat} {v : Value} {d : DataW H} {p : List MemPlace} (hv : Value.okWide Tryd.prog w r b0 27 v) (h : DataW.Trod enc Tryd.prog w base spare held 27 v d p) :
    ∃ (s : Bs) (y : Sl) (fs : List (Bs × Bs)) (l c p q : Int), v = alV s y.v l c p q ∧ FldsAt (fun _ => True) w y.v fs ∧ s.length ≤ Rows.uptoBulk d ∧ (∀ f ∈ fs, f.1.length ≤ Rows.uptoBulk d ∧ f.2.length ≤ Rows.uptoBulk d) ∧ fs.length ≤ 9223372036854775807 ∧ U32 c := by
  obtain ⟨cs, rfl, hsz⟩ := okWide_struct Tryd.underlying27 hv
  obtain ⟨ls⟩ := cs
  obtain ⟨fuel, hf⟩ := h
  obtain ⟨xs, n, rfl, hx, hlen, hsz, hf⟩ := DataW.trod_struct Tryd.underlying27 hf
  rw [cellsA] at hlen
  simp only [Value.cells] at hlen hf
  match ls, hlen with
  | [c0, c1, c2, c3, c4, c5], _ =>
  match xs, hsz with
  | [y0, y1, y2, y3, y4], _ =>
  have f0 := hf 0 _ rfl
  have f1 := hf 1 _ rfl
  have f2 := hf 2 _ rfl
  have f3 := hf 3 _ rfl
  have f4 := hf 4 _ rfl
  replace f0 : DataW.trod enc Tryd.prog w base spare held n 9 [c0] = some y0 := f0
  replace f1 : DataW.trod enc Tryd.prog w base spare held n 22 [c1] = some y1 := f1
  replace f2 : DataW.trod enc Tryd.prog w base spare held n 25 [c2, c3] = some y2 := f2
  replace f3 : DataW.trod enc Tryd.prog w base spare held n 3 [c4] = some y3 := f3
  replace f4 : DataW.trod enc Tryd.prog w base spare held n 3 [c5] = some y4 := f4
  obtain ⟨s, e0, g0, ws⟩ := DataW.trod_string Tryd.underlying9 f0
  obtain ⟨v, fs, e1, hv2, hfl, hl⟩ := open_rowsB (k := 2) (by decide) Tryd.underlying22 cellsF encF (fun f d => f.1.length ≤ Rows.uptoBulk d ∧ f.2.length ≤ Rows.uptoBulk d) (fun _ => rfl) open_fcellsB f1
  obtain ⟨l, c, e2, hc⟩ := open_lcells _ _ _ f2
  obtain ⟨p, e3, _, wp⟩ := DataW.trod_int Tryd.underlying3 f3
  obtain ⟨q, e4, _, wq⟩ := DataW.trod_int Tryd.underlying3 f4
  simp only [List.cons.injEq, and_true] at e0 e1 e2 e3 e4
  obtain ⟨e2, e5⟩ := e2
  subst e0 e1 e2 e3 e4 e5 g0
  obtain ⟨a, k, rfl⟩ := FldsAt.shape (fs := fs) hv2
  have hd : d = DataW.agg [.lit (.string s.data.toList), y1.1, y2.1, y3.1, y4.1] := congrArg Prod.fst hx
  subst hd
  refine ⟨s.data.toList, ⟨a, fs.length, k⟩, fs, l, c, p, q, by unfold alV; rw [ba_list]; rfl, hv2, Nat.le_trans (bulk_text _) (bulk_agg (List.mem_cons_self ..)), fun f hf => ?_, hl, hc⟩
  obtain ⟨d', ⟨h1, h2⟩, h3⟩ := hfl f hf
  have h4 := bulk_agg (d := y1.1) (l := [.lit (.string s.data.toList), y1.1, y2.1, y3.1, y4.1]) (by simp)
  exact ⟨Nat.le_trans h1 (Nat.le_trans h3 h4), Nat.le_trans h2 (Nat.le_trans h3 h4)⟩
theorem cellsII : Tryd.prog.cellsOf 77 = 2 := by kernel_rfl
theorem cellsInt0 : Tryd.prog.cellsOf 3 = 1 := by kernel_rfl
set_option maxRecDepth 100000 in
theorem open_two_ints {r : Reach} {b0 : Nat} {v : Value} {d : DataW H} {p : List MemPlace} (hv : Value.okWide Tryd.prog w r b0 77 v) (h : DataW.Trod enc Tryd.prog w base spare held 77 v d p) :
    ∃ x y : Int, v = .agg #[.int .i64 x, .int .i64 y] ∧ True := by
  unfold Value.okWide at hv
  rw [Tryd.underlying77] at hv
  obtain ⟨cs, rfl, hsz, _⟩ := hv
  rw [cellsII] at hsz
  obtain ⟨cs⟩ := cs
  match cs, hsz with
  | [c0, c1], _ =>
  obtain ⟨fuel, hf⟩ := h
  obtain ⟨xs, m, _, _, _, hlen, hx⟩ := DataW.trod_array Tryd.underlying77 hf
  have h0 := hx 0 (by omega)
  have h1 := hx 1 (by omega)
  rw [cellsInt0, List.getElem?_eq_getElem (by omega)] at h0 h1
  simp [Value.cells] at h0 h1
  obtain ⟨x, e0, _, _⟩ := DataW.trod_int Tryd.underlying3 h0
  obtain ⟨y, e1, _, _⟩ := DataW.trod_int Tryd.underlying3 h1
  simp only [List.cons.injEq, and_true] at e0 e1
  subst e0 e1
  exact ⟨x, y, rfl, trivial⟩
/-- What an id is made of is small where the arguments are. -/
theorem idB_bound {l : List (DataW H)} {d : DataW H} {s : Bs} {fs : List (Bs × Bs)} (hk : Rows.uptoSmall H l = true) (hd : d ∈ l) (hs : s.length ≤ Rows.uptoBulk d) (hf : ∀ f ∈ fs, f.1.length ≤ Rows.uptoBulk d ∧ f.2.length ≤ Rows.uptoBulk d) : (idB s (fs.take 12)).length ≤ 100000000 := by
  have hb : Rows.uptoBulkAll l ≤ 1048576 := of_decide_eq_true hk
  have hm := bulk_mem hd
  have h := idB_small s (fs.take 12) 1048576 (by omega) (fun f h => by have := hf f (List.mem_of_mem_take h); omega)
  have h2 : (fs.take 12).length ≤ 12 := by rw [List.length_take]; omega
  have h3 : (fs.take 12).length * (2 * 1048576 + 2) ≤ 12 * (2 * 1048576 + 2) := Nat.mul_le_mul_right _ h2
  omega
theorem bulk_le {l : List (DataW H)} {d : DataW H} {n : Nat} (hk : Rows.uptoSmall H l = true) (hd : d ∈ l) (h : n ≤ Rows.uptoBulk d) : n ≤ 9223372036854775807 := by
  have hb : Rows.uptoBulkAll l ≤ 1048576 := of_decide_eq_true hk
  have hm := bulk_mem hd
  omega
theorem bulk_les {l : List (DataW H)} {d : DataW H} {fs : List (Bs × Bs)} (hk : Rows.uptoSmall H l = true) (hd : d ∈ l) (h : ∀ f ∈ fs, f.1.length ≤ Rows.uptoBulk d ∧ f.2.length ≤ Rows.uptoBulk d) : ∀ f ∈ fs, f.1.length ≤ 9223372036854775807 ∧ f.2.length ≤ 9223372036854775807 := fun f hf => ⟨bulk_le hk hd (h f hf).1, bulk_le hk hd (h f hf).2⟩
end
end Go.Proofs.YtknhkmlihbgjpaaDoor
