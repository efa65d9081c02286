/- A policy among the arguments, whole. -/
import Derived.Test.YtknhkmlihbgjpaaDoorAOpenP
import Derived.Test.YtknhkmlihbgjpaaDoorQCheck
namespace Go.Proofs.YtknhkmlihbgjpaaDoor
open Go.ChangeShapes Go.WideShapes Go.ChangeAt Go.RowKit Go.Joins
open Dn (Rt Ih RtOk IhOk NmOk MsOk NdOk encR encI enc3 M3)

instance : Inhabited Rt := ⟨⟨[], [], .slice none 0 0, 0, 0, 0, [], .slice none 0 0⟩⟩
instance : Inhabited Ih := ⟨⟨[], .slice none 0 0, 0, 0, [], .slice none 0 0, [], .slice none 0 0⟩⟩
theorem rows_strs {P : Nat → Prop} {w : World} {v : Value} {ss : List Bs} (h : RowsAt 1 P w v (ss.map fun s => [.string ⟨s.toArray⟩])) : StrsAt P w v ss := by
  rcases h with ⟨e, h⟩ | ⟨g, o, c, e, hle, hp, hg, hc⟩
  · exact .inl ⟨List.map_eq_nil_iff.1 e, h⟩
  · rw [List.length_map] at e hle
    refine .inr ⟨g, o, c, e, hle, hp, hg, fun j s hs => ?_⟩
    have := hc j [.string ⟨s.toArray⟩] (by rw [List.getElem?_map, hs]; rfl) 0 _ rfl
    simpa using this
section
variable {H : Type} {enc : TypeId × Value → H} {w : World} {base : Nat} {spare : Nat → Bool} {held : Bool}
theorem cellsSt : Tryd.prog.cellsOf 9 = 1 := by kernel_rfl
theorem cellsMt : Tryd.prog.cellsOf 124 = 3 := by kernel_rfl
theorem cellsRt : Tryd.prog.cellsOf 102 = 6 := by kernel_rfl
theorem cellsIh : Tryd.prog.cellsOf 106 = 5 := by kernel_rfl
/-- A list of names. -/
theorem open_names {fuel : Nat} {cs : List Value} {x : DataW H × List MemPlace} (h : DataW.trod enc Tryd.prog w base spare held fuel 99 cs = some x) : ∃ (v : Value) (ss : List Bs), cs = [v] ∧ NmOk w v ss := by
  obtain ⟨v, ss, e, hv, hz, hl⟩ := open_rows (k := 1) (by decide) Tryd.underlying99 cellsSt (fun s : Bs => [.string ⟨s.toArray⟩]) (fun s => s.length ≤ 9223372036854775807) (fun _ => rfl) (fun fuel cs x h => by
    obtain ⟨s, e, _, ws⟩ := DataW.trod_string Tryd.underlying9 h
    exact ⟨s.data.toList, by rw [e], ba_len ws⟩) h
  exact ⟨v, ss, e, rows_strs hv, hl, hz⟩
set_option maxRecDepth 100000 in
theorem open_m3cells (fuel : Nat) (cs : List Value) (x : DataW H × List MemPlace) (h : DataW.trod enc Tryd.prog w base spare held fuel 124 cs = some x) : ∃ m : M3, cs = enc3 m ∧ m.1.length ≤ 9223372036854775807 ∧ m.2.2.length ≤ 9223372036854775807 := by
  obtain ⟨xs, n, rfl, hx, hlen, hsz, hf⟩ := DataW.trod_struct Tryd.underlying124 h
  rw [cellsMt] at hlen
  match cs, hlen with
  | [c0, c1, c2], _ =>
  match xs, hsz with
  | [y0, y1, y2], _ =>
  have f0 := hf 0 _ rfl
  have f1 := hf 1 _ rfl
  have f2 := hf 2 _ rfl
  replace f0 : DataW.trod enc Tryd.prog w base spare held n 9 [c0] = some y0 := f0
  replace f1 : DataW.trod enc Tryd.prog w base spare held n 3 [c1] = some y1 := f1
  replace f2 : DataW.trod enc Tryd.prog w base spare held n 9 [c2] = some y2 := f2
  obtain ⟨s, e0, _, ws⟩ := DataW.trod_string Tryd.underlying9 f0
  obtain ⟨o, e1, _, _⟩ := DataW.trod_int Tryd.underlying3 f1
  obtain ⟨t, e2, _, wt⟩ := DataW.trod_string Tryd.underlying9 f2
  simp only [List.cons.injEq, and_true] at e0 e1 e2
  subst e0 e1 e2
  exact ⟨(s.data.toList, o, t.data.toList), by simp [enc3], ba_len ws, ba_len wt⟩
theorem open_m3s {fuel : Nat} {cs : List Value} {x : DataW H × List MemPlace} (h : DataW.trod enc Tryd.prog w base spare held fuel 100 cs = some x) : ∃ (v : Value) (ms : List M3), cs = [v] ∧ MsOk w v ms := by
  obtain ⟨v, ms, e, hv, hz, hl⟩ := open_rows (k := 3) (by decide) Tryd.underlying100 cellsMt enc3 _ (fun _ => rfl) open_m3cells h
  exact ⟨v, ms, e, hv, hl, hz⟩
set_option maxRecDepth 100000 in
theorem open_rcells (fuel : Nat) (cs : List Value) (x : DataW H × List MemPlace) (h : DataW.trod enc Tryd.prog w base spare held fuel 102 cs = some x) : ∃ r : Rt, cs = encR r ∧ RtOk w r ∧ r.rcv.length ≤ 9223372036854775807 := by
  obtain ⟨xs, n, rfl, hx, hlen, hsz, hf⟩ := DataW.trod_struct Tryd.underlying102 h
  rw [cellsRt] at hlen
  match cs, hlen with
  | [c0, c1, c2, c3, c4, c5], _ =>
  match xs, hsz with
  | [y0, y1, y2, y3, y4, y5], _ =>
  have f0 := hf 0 _ rfl
  have f1 := hf 1 _ rfl
  have f2 := hf 2 _ rfl
  have f3 := hf 3 _ rfl
  have f4 := hf 4 _ rfl
  have f5 := hf 5 _ rfl
  replace f0 : DataW.trod enc Tryd.prog w base spare held n 9 [c0] = some y0 := f0
  replace f1 : DataW.trod enc Tryd.prog w base spare held n 99 [c1] = some y1 := f1
  replace f2 : DataW.trod enc Tryd.prog w base spare held n 3 [c2] = some y2 := f2
  replace f3 : DataW.trod enc Tryd.prog w base spare held n 3 [c3] = some y3 := f3
  replace f4 : DataW.trod enc Tryd.prog w base spare held n 3 [c4] = some y4 := f4
  replace f5 : DataW.trod enc Tryd.prog w base spare held n 100 [c5] = some y5 := f5
  obtain ⟨s, e0, _, ws⟩ := DataW.trod_string Tryd.underlying9 f0
  obtain ⟨nv, ns, e1, hn⟩ := open_names f1
  obtain ⟨a, e2, _, _⟩ := DataW.trod_int Tryd.underlying3 f2
  obtain ⟨b, e3, _, _⟩ := DataW.trod_int Tryd.underlying3 f3
  obtain ⟨c, e4, _, _⟩ := DataW.trod_int Tryd.underlying3 f4
  obtain ⟨mv, ms, e5, hm⟩ := open_m3s f5
  simp only [List.cons.injEq, and_true] at e0 e1 e2 e3 e4 e5
  subst e0 e1 e2 e3 e4 e5
  exact ⟨⟨s.data.toList, ns, c1, a, b, c, ms, c5⟩, by simp [encR], ⟨hn, hm⟩, ba_len ws⟩
set_option maxRecDepth 100000 in
theorem open_icells (fuel : Nat) (cs : List Value) (x : DataW H × List MemPlace) (h : DataW.trod enc Tryd.prog w base spare held fuel 106 cs = some x) : ∃ r : Ih, cs = encI r ∧ IhOk w r := by
  obtain ⟨xs, n, rfl, hx, hlen, hsz, hf⟩ := DataW.trod_struct Tryd.underlying106 h
  rw [cellsIh] at hlen
  match cs, hlen with
  | [c0, c1, c2, c3, c4], _ =>
  match xs, hsz with
  | [y0, y1, y2, y3], _ =>
  have f0 := hf 0 _ rfl
  have f1 := hf 1 _ rfl
  have f2 := hf 2 _ rfl
  have f3 := hf 3 _ rfl
  replace f0 : DataW.trod enc Tryd.prog w base spare held n 99 [c0] = some y0 := f0
  replace f1 : DataW.trod enc Tryd.prog w base spare held n 25 [c1, c2] = some y1 := f1
  replace f2 : DataW.trod enc Tryd.prog w base spare held n 100 [c3] = some y2 := f2
  replace f3 : DataW.trod enc Tryd.prog w base spare held n 100 [c4] = some y3 := f3
  obtain ⟨nv, ns, e0, hn⟩ := open_names f0
  obtain ⟨l, c, e1, hc⟩ := open_lcells _ _ _ f1
  obtain ⟨fv, fs, e2, hfs⟩ := open_m3s f2
  obtain ⟨mv, ms, e3, hm⟩ := open_m3s f3
  simp only [List.cons.injEq, and_true] at e0 e1 e2 e3
  obtain ⟨e1, e4⟩ := e1
  subst e0 e1 e2 e3 e4
  exact ⟨⟨ns, c0, l, c, fs, c3, ms, c4⟩, by simp [encI], hn, hfs, hm⟩
/-- Names with labels. -/
theorem open_nds2 {fuel : Nat} {cs : List Value} {x : DataW H × List MemPlace} (h : DataW.trod enc Tryd.prog w base spare held fuel 46 cs = some x) : ∃ (v : Value) (ns : List Nd), cs = [v] ∧ NdOk w v ns ∧ ∀ m ∈ ns, U32 m.c := by
  obtain ⟨v, ns, e1, hv, hfl, hl⟩ := open_rows (k := 3) (by decide) Tryd.underlying46 cellsNd encN _ (fun _ => rfl) open_ncells h
  exact ⟨v, ns, e1, ⟨hv, hl, fun m hm => (hfl m hm).1⟩, fun m hm => (hfl m hm).2⟩
/-- A policy in memory. -/
structure PolAt (w : World) (v0 v1 v2 v3 v4 v5 : Value) (s r p ra : List Nd) (rts : List Rt) (ihs : List Ih) : Prop where
  h0 : NdOk w v0 s
  h1 : NdOk w v1 r
  h2 : NdOk w v2 p
  h3 : NdOk w v3 ra
  u3 : ∀ m ∈ ra, U32 m.c
  h4 : RowsAt 6 (fun _ => True) w v4 (rts.map encR)
  l4 : rts.length ≤ 9223372036854775807
  o4 : ∀ x ∈ rts, RtOk w x
  h5 : RowsAt 5 (fun _ => True) w v5 (ihs.map encI)
  l5 : ihs.length ≤ 9223372036854775807
  o5 : ∀ x ∈ ihs, IhOk w x
set_option maxRecDepth 100000 in
theorem open_policy2 {r : Reach} {b0 : Nat} {v : Value} {d : DataW H} {p : List MemPlace} (hv : Value.okWide Tryd.prog w r b0 50 v) (h : DataW.Trod enc Tryd.prog w base spare held 50 v d p) :
    ∃ (v0 v1 v2 v3 v4 v5 : Value) (s rc pe ra : List Nd) (rts : List Rt) (ihs : List Ih), v = .agg #[v0, v1, v2, v3, v4, v5] ∧ PolAt w v0 v1 v2 v3 v4 v5 s rc pe ra rts ihs := by
  obtain ⟨cs, rfl, hsz⟩ := okWide_struct Tryd.underlying50 hv
  obtain ⟨l⟩ := cs
  obtain ⟨fuel, hf⟩ := h
  obtain ⟨xs, n, rfl, hx, hlen, hsz2, hf⟩ := DataW.trod_struct Tryd.underlying50 hf
  rw [cellsPol] at hlen
  simp only [Value.cells] at hlen hf
  match l, hlen with
  | [c0, c1, c2, c3, c4, c5], _ =>
  match xs, hsz2 with
  | [y0, y1, y2, y3, y4, y5], _ =>
  have f0 := hf 0 _ rfl
  have f1 := hf 1 _ rfl
  have f2 := hf 2 _ rfl
  have f3 := hf 3 _ rfl
  have f4 := hf 4 _ rfl
  have f5 := hf 5 _ rfl
  replace f0 : DataW.trod enc Tryd.prog w base spare held n 46 [c0] = some y0 := f0
  replace f1 : DataW.trod enc Tryd.prog w base spare held n 46 [c1] = some y1 := f1
  replace f2 : DataW.trod enc Tryd.prog w base spare held n 46 [c2] = some y2 := f2
  replace f3 : DataW.trod enc Tryd.prog w base spare held n 46 [c3] = some y3 := f3
  replace f4 : DataW.trod enc Tryd.prog w base spare held n 47 [c4] = some y4 := f4
  replace f5 : DataW.trod enc Tryd.prog w base spare held n 48 [c5] = some y5 := f5
  obtain ⟨v0, s, e0, h0, _⟩ := open_nds2 f0
  obtain ⟨v1, rc, e1, h1, _⟩ := open_nds2 f1
  obtain ⟨v2, pe, e2, h2, _⟩ := open_nds2 f2
  obtain ⟨v3, ra, e3, h3, u3⟩ := open_nds2 f3
  obtain ⟨v4, rts, e4, h4, o4, l4⟩ := open_rows (k := 6) (by decide) Tryd.underlying47 cellsRt encR _ (fun _ => rfl) open_rcells f4
  obtain ⟨v5, ihs, e5, h5, o5, l5⟩ := open_rows (k := 5) (by decide) Tryd.underlying48 cellsIh encI _ (fun _ => rfl) open_icells f5
  simp only [List.cons.injEq, and_true] at e0 e1 e2 e3 e4 e5
  subst e0 e1 e2 e3 e4 e5
  exact ⟨c0, c1, c2, c3, c4, c5, s, rc, pe, ra, rts, ihs, rfl, h0, h1, h2, h3, u3, h4, l4, fun x hx => (o4 x hx).1, h5, l5, o5⟩
end
end Go.Proofs.YtknhkmlihbgjpaaDoor
