/- The words of each line of a text: the walk. -/
import Derived.Test.YtcljijcggnfemaaWLinesM
namespace Go.Proofs.Ytcljijcggnfemaa
open Go.ChangeShapes Go.WideShapes Go.RowKit Go.Shelf

attribute [local go_sem] Oper.semAt_some

/-- The results' variables, and the lists so far. -/
structure Bx (N : Nat) (r k e : Value) (v : Value) (W : World) : Prop where
  r : Rw W N 28 [r]
  k : Rw W (N + 1) 3 [k]
  e : Rw W (N + 2) 25 [e]
  v : Rw W (N + 3) 28 [v]
def LnI (N : Nat) (w : World) (pre : List (Nat × Bs)) (W : World) : Prop :=
  (∃ wss v vals, okL (pre.map tk) wss ∧ Bx N (.slice none 0 0) (.int .i64 0) (.int .i64 0) v W ∧ Ln N wss v vals W) ∧ Below N w W
def LnX (N : Nat) (w : World) (c : Code) (pre : List (Nat × Bs)) (W : World) : Prop :=
  (c = .ret ∧ ∃ pre0 x wss v, pre = pre0 ++ [x] ∧ okL (pre0.map tk) wss ∧ splitN (tk x) = none ∧ Bx N (.slice none 0 0) (.int .i64 (x.1 : Int)) (.int .i64 2) v W) ∧ Below N w W
theorem asd_own {W W' : World} {row : Option Nat} (hg : W.grownBy W' row) : Asd (fun k => row = some k) W W' := ⟨hg.os, hg.tape, hg.output, hg.size, fun k hk hn => hg.block k hk (fun e => hn e.symm)⟩
theorem Bx.asd {N : Nat} {r k e v : Value} {W W' : World} {S : Nat → Prop} (h : Bx N r k e v W) (a : Asd S W W') (hs : ∀ i, N ≤ i → i ≤ N + 3 → ¬ S i) : Bx N r k e v W' :=
  ⟨h.r.keep a (hs _ (by omega) (by omega)), h.k.keep a (hs _ (by omega) (by omega)), h.e.keep a (hs _ (by omega) (by omega)), h.v.keep a (hs _ (by omega) (by omega))⟩
theorem rw_not {W : World} {b : Nat} {t : TypeId} {cs : List Value} (h : Rw W b t cs) {row : Option Nat} (hr : ∀ r, row = some r → ∃ o : Obj, W.heap[r]? = some o ∧ o.isCells = false) : ¬ row = some b := fun e => by
  obtain ⟨o, ho, hc⟩ := hr b e
  unfold Rw at h
  rw [h] at ho
  injection ho with ho
  rw [← ho] at hc
  cases hc
theorem Bx.own {N : Nat} {r k e v : Value} {W W' : World} {row : Option Nat} (h : Bx N r k e v W) (hg : W.grownBy W' row) (hr : ∀ r, row = some r → ∃ o : Obj, W.heap[r]? = some o ∧ o.isCells = false) : Bx N r k e v W' :=
  ⟨h.r.keep (asd_own hg) (rw_not h.r hr), h.k.keep (asd_own hg) (rw_not h.k hr), h.e.keep (asd_own hg) (rw_not h.e hr), h.v.keep (asd_own hg) (rw_not h.v hr)⟩
theorem Ln.own {N : Nat} {wss : List (List Bs)} {v : Value} {vals : List Value} {W W' : World} {row : Option Nat} (h : Ln N wss v vals W) (hg : W.grownBy W' row) (hr : ∀ r, row = some r → ∃ o : Obj, W.heap[r]? = some o ∧ o.isCells = false) : Ln N wss v vals W' :=
  h.asd (asd_own hg) (fun i c e hc => rw_not (cs := c.toList) (b := i) (by unfold Rw; rw [hc]) hr e) (fun i c e hc => rw_not (cs := c.toList) (b := i) (by unfold Rw; rw [hc]) hr e)
theorem LnI.own (N : Nat) (w : World) (B : Nat) (hN : N ≤ w.heap.size) (hB : N ≤ B) : OwnFrom B (LnI N w) :=
  OwnFrom.and (Own.from (fun s W W' row hs hg hr => by
    obtain ⟨wss, v, vals, h1, h2, h3⟩ := hs
    exact ⟨wss, v, vals, h1, h2.own hg hr, h3.own hg hr⟩) _) (ownFrom_below hN hB)
theorem LnX.own (N : Nat) (w : World) (B : Nat) (hN : N ≤ w.heap.size) (hB : N ≤ B) (c : Code) : OwnFrom B (LnX N w c) :=
  OwnFrom.and (Own.from (fun s W W' row hs hg hr => by
    obtain ⟨h0, pre0, x, wss, v, h1, h2, h3, h4⟩ := hs
    exact ⟨h0, pre0, x, wss, v, h1, h2, h3, h4.own hg hr⟩) _) (ownFrom_below hN hB)
theorem info_sl : (Try.prog.info? 24).map (fun i => (i.zero, i.size, i.bytes)) = some (some (.slice none 0 0), 1, 24) := by kernel_rfl
def linesW0 (w : World) : World := ((((w.alloc (.cells #[.slice none 0 0] 28)).alloc (.cells #[.int .i64 0] 3)).alloc (.cells #[.int .i64 0] 25)).alloc (.cells #[.slice none 0 0] 28))
theorem linesW0_size (w : World) : (linesW0 w).heap.size = w.heap.size + 4 := by simp [linesW0]
theorem linesW0_bx (w : World) : Bx w.heap.size (.slice none 0 0) (.int .i64 0) (.int .i64 0) (.slice none 0 0) (linesW0 w) := by
  have a0 := Rw.new w 28 [.slice none 0 0]
  have a1 := Rw.new (w.alloc (.cells #[.slice none 0 0] 28)) 3 [.int .i64 0]
  have a2 := Rw.new ((w.alloc (.cells #[.slice none 0 0] 28)).alloc (.cells #[.int .i64 0] 3)) 25 [.int .i64 0]
  have a3 := Rw.new (((w.alloc (.cells #[.slice none 0 0] 28)).alloc (.cells #[.int .i64 0] 3)).alloc (.cells #[.int .i64 0] 25)) 28 [.slice none 0 0]
  simp only [World.size_alloc] at a1 a2 a3
  have st : ∀ {W : World} {g : Nat} {t : TypeId} {cs : List Value} (o : Obj), Rw W g t cs → Rw (W.alloc o) g t cs := fun o h => Rw.stay h ((Below.refl _ _).alloc (Nat.le_refl _) o)
  exact ⟨st _ (st _ (st _ a0)), st _ (st _ a1), st _ a2, a3⟩
theorem linesW0_below (w : World) : Below w.heap.size w (linesW0 w) := ((((Below.refl _ _).alloc (Nat.le_refl _) _).alloc (by simp) _).alloc (by simp; omega) _).alloc (by simp; omega) _
/-- The results' variables are set. -/
theorem Bx.setR {N : Nat} {r k e v r' k' e' : Value} {W : World} (h : Bx N r k e v W) : Bx N r' k' e' v (((W.setCell ⟨N, 0, none⟩ r').setCell ⟨N + 1, 0, none⟩ k').setCell ⟨N + 2, 0, none⟩ e') := by
  refine ⟨?_, ?_, ?_, ?_⟩
  · exact Rw.other (Rw.other (h.r.setCell 0 r') (by omega) 0 k') (by omega) 0 e'
  · exact Rw.other ((Rw.other h.k (by omega) 0 r').setCell 0 k') (by omega) 0 e'
  · exact (Rw.other (Rw.other h.e (by omega) 0 r') (by omega) 0 k').setCell 0 e'
  · exact Rw.other (Rw.other (Rw.other h.v (by omega) 0 r') (by omega) 0 k') (by omega) 0 e'
theorem Bx.setV {N : Nat} {r k e v v' : Value} {W : World} (h : Bx N r k e v W) : Bx N r k e v' (W.setCell ⟨N + 3, 0, none⟩ v') :=
  ⟨Rw.other h.r (by omega) 0 v', Rw.other h.k (by omega) 0 v', Rw.other h.e (by omega) 0 v', h.v.setCell 0 v'⟩
theorem own_not {w : World} {g : Nat} {t : TypeId} {cs : List Value} {base : Nat} {e : TypeId} {s n : Nat} {v : Value} {xs : List Value} (h : Rw w g t cs) (ho : w.ownsRow base e s v n xs) (hne : t ≠ e) : ¬ v.ownBlock = some g := by
  intro hv
  rcases ho.2 with ⟨rfl, _⟩ | ⟨g', cap, cur, rfl, _, hg, _⟩
  · cases hv
  · injection hv with hv
    subst hv
    unfold Rw at h
    rw [h] at hg
    injection hg with hg
    injection hg with _ hg
    exact hne hg
theorem Bx.grow {N : Nat} {r k e v u : Value} {W W1 W2 : World} {base s n : Nat} {xs : List Value} (h : Bx N r k e v W) (hb : Below W.heap.size W W1) (ho : W.ownsRow base 24 s u n xs) (hg : W1.grownBy W2 u.ownBlock) : Bx N r k e v W2 := by
  have a : Asd (fun k => u.ownBlock = some k) W W2 := (Asd.of_below hb).grown hg (fun k e => .inl e)
  exact ⟨h.r.keep a (own_not h.r ho (by decide)), h.k.keep a (own_not h.k ho (by decide)), h.e.keep a (own_not h.e ho (by decide)), h.v.keep a (own_not h.v ho (by decide))⟩
theorem own_cells {w : World} {base : Nat} {e : TypeId} {s n : Nat} {v : Value} {xs : List Value} (ho : w.ownsRow base e s v n xs) {w' : World} (hk : ∀ j, v.ownBlock = some j → w'.heap[j]? = w.heap[j]?) : ∀ (j : Nat) (o : Obj), v.ownBlock = some j → w'.heap[j]? = some o → o.isCells = true := by
  intro j o hj h
  rw [hk j hj] at h
  rcases ho.2 with ⟨rfl, _⟩ | ⟨g', cap, cur, rfl, _, hg, _⟩
  · cases hj
  · injection hj with hj
    subst hj
    rw [hg] at h
    injection h with h
    subst h; rfl
theorem tk_all (k : Nat) (ls : List Bs) (h : ∀ x ∈ ls, x.length ≤ 400000) : (numL k ls).map tk = ls := by
  induction ls generalizing k with
  | nil => rfl
  | cons x ls ih =>
    rw [numL, List.map_cons, ih _ (fun y hy => h y (by simp [hy]))]
    unfold tk
    rw [List.take_of_length_le (h x (by simp))]
theorem num_tk (l : Bs) (hl : l.length ≤ 400000) : (numL 1 (linesL l)).map tk = linesL l := tk_all 1 _ (fun _ hx => Nat.le_trans (line_len hx) hl)
theorem Ln.setR {N : Nat} {wss : List (List Bs)} {r k e v u r' k' e' : Value} {vals : List Value} {W : World} (h : Ln N wss v vals W) (hb : Bx N r k e u W) : Ln N wss v vals (((W.setCell ⟨N, 0, none⟩ r').setCell ⟨N + 1, 0, none⟩ k').setCell ⟨N + 2, 0, none⟩ e') := by
  refine ((h.set hb.r (by decide) (by decide) (u := r')).set (u := k') (Rw.other hb.k (by omega) 0 r') (by decide) (by decide)).set (u := e') (Rw.other (Rw.other hb.e (by omega) 0 r') (by omega) 0 k') (by decide) (by decide)
theorem take_all (ls : List Bs) (h : ∀ x ∈ ls, x.length ≤ 400000) : ls.map (List.take 400000) = ls := by
  induction ls with
  | nil => rfl
  | cons x ls ih => rw [List.map_cons, ih (fun y hy => h y (by simp [hy])), List.take_of_length_le (h x (by simp))]
set_option maxRecDepth 100000 in
set_option maxHeartbeats 6400000 in
theorem lines_any (l : Bs) (m : Int) (w : World) (hl : l.length ≤ 400000) (hm : w.cell? ⟨0, 0, none⟩ = some (.int .i64 m)) : Calls Try.prog 11 #[.string ⟨l.toArray⟩] w (LinesP w (wordsN (linesL l) 1)) := by
  have hg0 := World.block_lt_of_cell? w _ hm
  simp only at hg0
  refine (callsIn_wide (n := 5)).1 ?_
  refine callsIn_of_wp_marks Try.func11 rfl trivial ?_ rfl
  simp only [Try.ntmps11, List.size_toArray, List.length_cons, List.length_nil, Nat.reduceAdd, Nat.reduceSub, Array.replicate_succ, Array.replicate_zero, List.push_toArray, List.append_toArray, List.nil_append, List.cons_append]
  gi_wp2
  refine ⟨trivial, ?_⟩
  refine (callsIn_wide.2 (numbered_any l _)).mono ?_
  rintro e w1 ⟨rfl, rfl⟩
  gi_wp2
  obtain ⟨W0, hW0⟩ : ∃ W0, (linesW0 w).alloc (.cells #[.string ⟨l.toArray⟩] 9) = W0 := ⟨_, rfl⟩
  have hst : Below (linesW0 w).heap.size (linesW0 w) W0 := by rw [← hW0]; exact (Below.refl _ _).alloc (Nat.le_refl _) _
  have hbx : Bx w.heap.size (.slice none 0 0) (.int .i64 0) (.int .i64 0) (.slice none 0 0) W0 := (linesW0_bx w).asd (S := fun _ => False) (Asd.of_below hst) (fun _ _ _ e => e)
  have hB0 : Below w.heap.size w W0 := (linesW0_below w).trans (hst.mono (linesW0_below w).size)
  have hbn : Rw W0 (w.heap.size + 4) 9 [.string ⟨l.toArray⟩] := by rw [← hW0, ← linesW0_size w]; exact Rw.new _ _ _
  have hsz : W0.heap.size = w.heap.size + 5 := by rw [← hW0, World.size_alloc, linesW0_size]
  have hm0 : W0.cell? ⟨0, 0, none⟩ = some (.int .i64 m) := (hB0.cell (p := ⟨0, 0, none⟩) hg0).trans hm
  change Code.wpIn _ _ _ _ _ _ ((linesW0 w).alloc (.cells #[.string ⟨l.toArray⟩] 9))
  rw [hW0]
  clear hW0 hst
  simp only [Nat.add_assoc, Nat.reduceAdd]
  obtain ⟨N, hN⟩ : ∃ N, w.heap.size = N := ⟨_, rfl⟩
  rw [hN] at hbx hB0 hbn hsz hg0
  rw [hN]
  obtain ⟨i0, hi, hz0, hz1, hz2⟩ := info_parts0 info_sl
  refine wpIn_rangeFunc_ownF rfl (by decide) (gf := 22) (lb := #[.pointer (some ⟨N + 4, 0, none⟩)]) rfl trivial (enters_of Try.func22 (by kernel_rfl) rfl)
    (numbered_stops (5 - 1) (by decide) (N + 4) N l (by omega) m W0 (by omega) (by omega) (Rw.cell hbn 0) hm0 hg0) belowK_t (belowK_b (by omega)) (Below.refl _ _) (fun _ => rfl)
    (LnI N w) (LnX N w) (LnI.own N w _ (by omega) (by omega)) (LnX.own N w _ (by omega) (by omega))
    ⟨⟨[], _, [], rfl, hbx, Ln.nil _ _⟩, hB0⟩
    (fun x => { tmps := #[.string ⟨l.toArray⟩, undef, .pointer (some ⟨N, 0, none⟩), .pointer (some ⟨N + 1, 0, none⟩), .pointer (some ⟨N + 2, 0, none⟩), .pointer (some ⟨N + 3, 0, none⟩), .int .i64 (x.1 : Int), .string ⟨(tk x).toArray⟩, undef, undef, .string ⟨l.toArray⟩, .func (.func 22) #[] #[.pointer (some ⟨N + 4, 0, none⟩)], .int .i64 (x.1 : Int), .string ⟨(tk x).toArray⟩, undef, undef, undef, undef, undef, undef, undef, undef, undef, undef, undef, undef, undef, undef], defers := [] }) ?assign ?body ?done ?stop
  case assign =>
    intro lp x W K hK
    unfold encL
    gi_wp2
    exact hK
  case body =>
    rintro lp pre x W ⟨⟨wss, v, vals, hok, hbx, hln⟩, hB⟩ hlt
    have hxl : (tk x).length ≤ 400000 := by unfold tk; rw [List.length_take]; omega
    have hNW : N < W.heap.size := Rw.lt hbx.r
    have hBw := hB
    have K := Lib.hid (split_any (tk x) W (by omega))
    have hokl := hok.len
    have hll := lines_len l
    rw [List.length_map] at hokl
    cases hs : splitN (tk x) with
    | none =>
      rw [hs] at K
      gi_wp2
      refine ⟨trivial, ?_⟩
      refine (CallsIn.inRound lp (callsIn_wide.2 K.out)).mono ?_
      rintro e W2 ⟨rfl, hB2⟩
      clear K
      replace hbx := hbx.asd (S := fun _ => False) (Asd.of_below hB2) (fun _ _ _ e => e)
      replace hB := hB.trans (hB2.mono (by omega))
      have hk2 : KeepsOthers W W2 := KeepsOthers.of_grownBy (row := none) ⟨hB2.os, hB2.tape, hB2.output, hB2.size, fun k hk _ => hB2.block k hk⟩ (fun _ _ e => by cases e)
      obtain ⟨c0, c1, c2⟩ : W2.cell? ⟨N, 0, none⟩ = some (.slice none 0 0) ∧ W2.cell? ⟨N + 1, 0, none⟩ = some (.int .i64 0) ∧ W2.cell? ⟨N + 2, 0, none⟩ = some (.int .i64 0) := ⟨Rw.cell hbx.r 0, Rw.cell hbx.k 0, Rw.cell hbx.e 0⟩
      obtain ⟨f0, f1, f2⟩ : W2.frozen? ⟨N, 0, none⟩ = false ∧ W2.frozen? ⟨N + 1, 0, none⟩ = false ∧ W2.frozen? ⟨N + 2, 0, none⟩ = false := ⟨Rw.frozen hbx.r 0, Rw.frozen hbx.k 0, Rw.frozen hbx.e 0⟩
      gi_wp2
      refine ⟨((hk2.trans (KeepsOthers.setCell _ _ _)).trans (KeepsOthers.setCell _ _ _)).trans (KeepsOthers.setCell _ _ _), ⟨rfl, pre, x, wss, v, rfl, hok, hs, hbx.setR⟩, ((hB.setCell (by simp) _).setCell (by simp) _).setCell (by simp) _⟩
    | some ws =>
      rw [hs] at K
      gi_wp2
      refine ⟨trivial, ?_⟩
      refine (CallsIn.inRound lp (callsIn_wide.2 K.out)).mono ?_
      rintro e W2 ⟨⟨vw, rfl, how⟩, hB2⟩
      clear K
      replace hbx := hbx.asd (S := fun _ => False) (Asd.of_below hB2) (fun _ _ _ e => e)
      replace hln := hln.stay hB2
      replace hB := hB.trans (hB2.mono (by omega))
      replace how := own_base how (b' := N) (by omega)
      have hk2 : KeepsOthers W W2 := KeepsOthers.of_grownBy (row := none) ⟨hB2.os, hB2.tape, hB2.output, hB2.size, fun k hk _ => hB2.block k hk⟩ (fun _ _ e => by cases e)
      have c3 : W2.cell? ⟨N + 3, 0, none⟩ = some v := Rw.cell hbx.v 0
      have hN2 : N < W2.heap.size := Rw.lt hbx.r
      obtain ⟨aw, cw, rfl, _⟩ := own_slice how
      have hrow := hln.row
      have hBW : Below N w W := hBw
      gi_wp2_with (gi_at_builtin; refine wpListIn_append_own _ rfl _ _ 28 rfl N 24 i0 (.slice none 0 0) 1 24 Try.underlying28 hi hz0 hz1 hz2 rfl (by decide) v wss.length _ rfl (World.ownsRow.alloc hrow _) ⟨W2.heap.size, 0, none⟩ 1 1 [.slice aw ws.length cw] rfl rfl (cell_one_new _ _ _) (fun u hu => by simp at hu; subst hu; rfl) (by unfold maxLen; omega) (by omega) (by simp; omega) ?_)
      intro v' W4 hO hg _
      have hal := (Below.refl W2.heap.size W2).alloc (Nat.le_refl _) (.cells #[.slice aw ws.length cw] 24)
      have hbx4 := hbx.grow hal hrow hg
      have hln4 := hln.add how hal hg hO
      have c4 : W4.cell? ⟨N + 3, 0, none⟩ = some v := Rw.cell hbx4.v 0
      have f4 := Rw.frozen hbx4.v 0
      have hWW : Below N W W4 := (((hB2.mono (by omega)).trans (hal.mono (by omega)))).grown hg (by simp; omega) (fun k e => (hrow.lt k e).1)
      have hk4 : KeepsOthers W W4 := (hk2.trans (KeepsOthers.alloc _ _)).trans (KeepsOthers.of_grownBy hg (own_cells hrow (fun j hj => hal.block j (hrow.lt j hj).2)))
      obtain ⟨g3, cap3, rfl⟩ := own_succ hO
      clear hO hg hbx hln hrow how hal hB2 c3 hk2
      gi_wp2
      refine ⟨hk4.trans (KeepsOthers.setCell _ _ _), hWW.setCell (by simp) _, ⟨wss ++ [ws], _, _, ?_, hbx4.setV, hln4.set hbx4.v (by decide) (by decide)⟩, ((Below.mono hBW (by omega)).trans hWW).setCell (by simp) _⟩
      rw [List.map_append]
      exact hok.snoc hs
  case done =>
    rintro D ys W hD rfl ⟨⟨wss, v, vals, hok, hbx, hln⟩, hB⟩ hK
    rw [num_tk l hl] at hok
    have c3 : W.cell? ⟨N + 3, 0, none⟩ = some v := Rw.cell hbx.v 0
    have f0 := Rw.frozen hbx.r 0
    have f1 := Rw.frozen hbx.k 0
    have f2 := Rw.frozen hbx.e 0
    have c0 : W.cell? ⟨N, 0, none⟩ = some (.slice none 0 0) := Rw.cell hbx.r 0
    have c1 : W.cell? ⟨N + 1, 0, none⟩ = some (.int .i64 0) := Rw.cell hbx.k 0
    have c2 : W.cell? ⟨N + 2, 0, none⟩ = some (.int .i64 0) := Rw.cell hbx.e 0
    obtain ⟨av, cv, rfl, _⟩ := own_slice hln.row
    gi_wp2
    have hbx5 : Bx N (.slice av wss.length cv) (.int .i64 0) (.int .i64 0) (.slice av wss.length cv) _ := hbx.setR
    have hln5 := hln.setR hbx (r' := .slice av wss.length cv) (k' := .int .i64 0) (e' := .int .i64 0)
    have hB5 := ((hB.setCell (p := ⟨N, 0, none⟩) (by simp) (.slice av wss.length cv)).setCell (p := ⟨N + 1, 0, none⟩) (by simp) (.int .i64 0)).setCell (p := ⟨N + 2, 0, none⟩) (by simp) (.int .i64 0)
    have hK' := (((KeepsOthers.setCell W ⟨N, 0, none⟩ (.slice av wss.length cv)).trans (KeepsOthers.setCell _ ⟨N + 1, 0, none⟩ (.int .i64 0))).trans (KeepsOthers.setCell _ ⟨N + 2, 0, none⟩ (.int .i64 0))).same D _ hK rfl
    clear c0 c1 c2 c3 f0 f1 f2 hB hbx hln hK
    generalize World.setCell _ _ _ = W5 at *
    refine ⟨by simp, .inl ⟨_, _, rfl, run_takeDeferred hK', ?_⟩⟩
    have hg5 := grownBy_putObj' W5 D (.deferred none)
    have hr5 : ∀ r, (some D : Option Nat) = some r → ∃ o : Obj, W5.heap[r]? = some o ∧ o.isCells = false := fun r e => by cases e; exact ⟨_, hK', rfl⟩
    have hbx6 := hbx5.own hg5 hr5
    have hln6 := hln5.own hg5 hr5
    have hB6 := hB5.trans (belowK_b (w := w) (n₀ := N) (by omega) W5 D _ (.deferred none) (by omega) hK' rfl rfl)
    refine ⟨.tuple #[.slice av wss.length cv, .int .i64 0, .int .i64 0], ?_, ?_⟩
    · have c0 := Rw.cell hbx6.r 0
      have c1 := Rw.cell hbx6.k 0
      have c2 := Rw.cell hbx6.e 0
      simp at c0 c1 c2
      simp [results, Try.f11, go_sem, c0, c1, c2]
    · unfold LinesP
      rw [hok.all, hN]
      exact ⟨⟨_, _, rfl, hln6⟩, hB6⟩
  case stop =>
    rintro D c pre W hD hP ⟨⟨rfl, pre0, x, wss, v, rfl, hok, hs, hbx⟩, hB⟩ hK
    gi_wp2
    refine ⟨by simp, .inl ⟨_, _, rfl, run_takeDeferred hK, ?_⟩⟩
    have hg5 := grownBy_putObj' W D (.deferred none)
    have hr5 : ∀ r, (some D : Option Nat) = some r → ∃ o : Obj, W.heap[r]? = some o ∧ o.isCells = false := fun r e => by cases e; exact ⟨_, hK, rfl⟩
    have hbx6 := hbx.own hg5 hr5
    have hB6 := hB.trans (belowK_b (w := w) (n₀ := N) (by omega) W D _ (.deferred none) (by omega) hK rfl rfl)
    refine ⟨.tuple #[.slice none 0 0, .int .i64 x.1, .int .i64 2], ?_, ?_⟩
    · have c0 := Rw.cell hbx6.r 0
      have c1 := Rw.cell hbx6.k 0
      have c2 := Rw.cell hbx6.e 0
      simp at c0 c1 c2
      simp [results, Try.f11, go_sem, c0, c1, c2]
    · unfold LinesP
      obtain ⟨h1, rest, h2⟩ := num_prefix hP
      have h3 : linesL l = pre0.map tk ++ tk x :: rest := by
        have hle : ∀ y ∈ linesL l, y.length ≤ 400000 := fun _ hx => Nat.le_trans (line_len hx) hl
        rw [h2] at hle ⊢
        have hx : tk x = x.2 := List.take_of_length_le (hle _ (by simp))
        have hp : pre0.map tk = pre0.map (·.2) := List.map_congr_left fun y hy => List.take_of_length_le (hle _ (List.mem_append.2 (.inl (List.mem_map.2 ⟨y, hy, rfl⟩))))
        rw [hx, hp]
      rw [h3, hok.bad hs, hN]
      exact ⟨by rw [List.length_map, ← h1], hB6⟩
end Go.Proofs.Ytcljijcggnfemaa
