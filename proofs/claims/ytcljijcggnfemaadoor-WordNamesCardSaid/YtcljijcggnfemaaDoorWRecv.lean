/- A byte of a line is received: the closure. -/
import Derived.Test.YtcljijcggnfemaaDoorWNext
namespace Go.Proofs.YtcljijcggnfemaaDoor
open Go.ChangeShapes Go.WideShapes Go.RowKit

/-- A line so far, in memory: N: the words' variable; N + 1: the word's; N + 2: the place's. -/
structure Sp (N : Nat) (s : St) (bv wv : Value) (w : World) : Prop where
  pl : Rw w (N + 2) 47 [.int .i64 (s.pl : Int)]
  wd : Rw w (N + 1) 46 [bv]
  ws : Rw w N 22 [wv]
  ob : w.ownsRow (N + 3) 5 1 bv s.word.length (Lib.byteCells s.word)
  ow : w.ownsRow (N + 3) 9 1 wv s.words.length (s.words.map sv)
theorem own_apart {w : World} {b b' : Nat} {e e' : TypeId} {s s' n n' : Nat} {v v' : Value} {xs xs' : List Value} (h : w.ownsRow b e s v n xs) (h' : w.ownsRow b' e' s' v' n' xs') (he : e ≠ e') (i : Nat) (h1 : v.ownBlock = some i) (h2 : v'.ownBlock = some i) : False := by
  rcases h.2 with ⟨rfl, _⟩ | ⟨g, cap, cur, rfl, _, hg, _⟩
  · cases h1
  · rcases h'.2 with ⟨rfl, _⟩ | ⟨g', cap', cur', rfl, _, hg', _⟩
    · cases h2
    · have e1 : g = i := by injection h1
      have e2 : g' = i := by injection h2
      subst e1 e2
      rw [hg] at hg'
      injection hg' with hg'
      injection hg' with _ hg'
      exact he hg'
theorem Sp.set {N : Nat} {s : St} {bv wv : Value} {w : World} (h : Sp N s bv wv w) (q : Nat) : Sp N ⟨q, s.word, s.words⟩ bv wv (w.setCell ⟨N + 2, 0, none⟩ (.int .i64 (q : Int))) :=
  ⟨h.pl.setCell 0 _, h.wd.other (by omega) _ _, h.ws.other (by omega) _ _, ownsRow_setCell_below h.ob (by simp) _, ownsRow_setCell_below h.ow (by simp) _⟩
/-- What turns only new memory keeps it. -/
theorem Sp.stay {N : Nat} {s : St} {bv wv : Value} {w w' : World} (h : Sp N s bv wv w) (k : Below w.heap.size w w') : Sp N s bv wv w' :=
  ⟨h.pl.stay k, h.wd.stay k, h.ws.stay k, own_asdS (S := fun _ => False) h.ob (Asd.of_below k) (fun _ _ e => e), own_asdS (S := fun _ => False) h.ow (Asd.of_below k) (fun _ _ e => e)⟩
theorem Sp.push {N : Nat} {s : St} {bv wv bv' : Value} {w W w4 : World} (h : Sp N s bv wv w) (l : Bs) (hW : Below w.heap.size w W) (hg : W.grownBy w4 bv.ownBlock) (ho : w4.ownsRow (N + 3) 5 1 bv' l.length (Lib.byteCells l)) :
    Sp N ⟨s.pl, l, s.words⟩ bv' wv (w4.setCell ⟨N + 1, 0, none⟩ bv') := by
  have k4 : Asd (fun k => bv.ownBlock = some k) w w4 := (Asd.of_below hW).grown hg (fun k e => .inl e)
  have hlt := h.ob.lt
  have n0 : ¬ bv.ownBlock = some N := fun e => by have := (hlt _ e).1; omega
  have n1 : ¬ bv.ownBlock = some (N + 1) := fun e => by have := (hlt _ e).1; omega
  have n2 : ¬ bv.ownBlock = some (N + 2) := fun e => by have := (hlt _ e).1; omega
  exact ⟨(h.pl.keep k4 n2).other (by omega) _ _, (h.wd.keep k4 n1).setCell 0 _, (h.ws.keep k4 n0).other (by omega) _ _, ownsRow_setCell_below ho (by simp) _,
    ownsRow_setCell_below (own_asdS h.ow k4 (fun i e e' => own_apart h.ob h.ow (by decide) i e' e)) (by simp) _⟩
theorem Sp.add {N : Nat} {s : St} {bv wv wv' : Value} {w W w4 : World} (h : Sp N s bv wv w) (ss : List Bs) (hW : Below w.heap.size w W) (hg : W.grownBy w4 wv.ownBlock) (ho : w4.ownsRow (N + 3) 9 1 wv' ss.length (ss.map sv)) :
    Sp N ⟨s.pl, s.word, ss⟩ bv wv' (w4.setCell ⟨N, 0, none⟩ wv') := by
  have k4 : Asd (fun k => wv.ownBlock = some k) w w4 := (Asd.of_below hW).grown hg (fun k e => .inl e)
  have hlt := h.ow.lt
  have n0 : ¬ wv.ownBlock = some N := fun e => by have := (hlt _ e).1; omega
  have n1 : ¬ wv.ownBlock = some (N + 1) := fun e => by have := (hlt _ e).1; omega
  have n2 : ¬ wv.ownBlock = some (N + 2) := fun e => by have := (hlt _ e).1; omega
  exact ⟨(h.pl.keep k4 n2).other (by omega) _ _, (h.wd.keep k4 n1).other (by omega) _ _, (h.ws.keep k4 n0).setCell 0 _,
    ownsRow_setCell_below (own_asdS h.ob k4 (fun i e e' => own_apart h.ob h.ow (by decide) i e e')) (by simp) _, ownsRow_setCell_below ho (by simp) _⟩
theorem Sp.nil {N : Nat} {s : St} {bv wv : Value} {w : World} (h : Sp N s bv wv w) : Sp N ⟨s.pl, [], s.words⟩ (.slice none 0 0) wv (w.setCell ⟨N + 1, 0, none⟩ (.slice none 0 0)) :=
  ⟨h.pl.other (by omega) _ _, h.wd.setCell 0 _, h.ws.other (by omega) _ _, World.ownsRow_nil _ _ _ _, ownsRow_setCell_below h.ow (by simp) _⟩

def RecvP (N : Nat) (s : St) (w : World) (e : Ending) (w' : World) : Prop := e = .returned (.tuple #[]) ∧ (∃ bv wv, Sp N s bv wv w') ∧ Below N w w'
/-- The worlds behind a byte that is put to the word: W: a slice of it was made. -/
theorem push_end {N : Nat} {s : St} {c : UInt8} {bv wv bv' : Value} {w w2 w4 : World} {cell : Obj} (h : Sp N s bv wv w2) (hB : Below N w w2) (ho : w4.ownsRow (N + 3) 5 1 bv' (s.word.length + 1) (Lib.byteCells s.word ++ [.int .u8 (c.toNat : Int)])) (hg : (w2.alloc cell).grownBy w4 bv.ownBlock) :
    w4.cell? ⟨N + 1, 0, none⟩ = some bv ∧ w4.frozen? ⟨N + 1, 0, none⟩ = false ∧ Sp N ⟨s.pl, s.word ++ [c], s.words⟩ bv' wv (w4.setCell ⟨N + 1, 0, none⟩ bv') ∧ Below N w (w4.setCell ⟨N + 1, 0, none⟩ bv') := by
  have hN := Rw.lt h.pl
  have hb0 := (Below.refl w2.heap.size w2).alloc (Nat.le_refl _) cell
  have k4 : Asd (fun k => bv.ownBlock = some k) w2 w4 := (Asd.of_below hb0).grown hg (fun k e => .inl e)
  have r := h.wd.keep k4 (fun e => by have := (h.ob.lt _ e).1; omega)
  refine ⟨Rw.cell r 0, Rw.frozen r 0, h.push (s.word ++ [c]) hb0 hg ?_, ((hB.alloc (by omega) _).grown hg (by simp; omega) (fun k e => by have := (h.ob.lt k e).1; omega)).setCell (by simp) _⟩
  rw [List.length_append, show Lib.byteCells (s.word ++ [c]) = Lib.byteCells s.word ++ [.int .u8 (c.toNat : Int)] by simp [Lib.byteCells]]
  exact ho
theorem add_end {N : Nat} {s : St} {bv wv wv' : Value} {w w2 w4 : World} {cell : Obj} (h : Sp N s bv wv w2) (hB : Below N w w2) (ho : w4.ownsRow (N + 3) 9 1 wv' (s.words.length + 1) (s.words.map sv ++ [sv s.word])) (hg : (w2.alloc cell).grownBy w4 wv.ownBlock) :
    w4.cell? ⟨N, 0, none⟩ = some wv ∧ w4.frozen? ⟨N, 0, none⟩ = false ∧ Sp N ⟨s.pl, s.word, s.words ++ [s.word]⟩ bv wv' (w4.setCell ⟨N, 0, none⟩ wv') ∧ Below N w (w4.setCell ⟨N, 0, none⟩ wv') := by
  have hN := Rw.lt h.pl
  have hb0 := (Below.refl w2.heap.size w2).alloc (Nat.le_refl _) cell
  have k4 : Asd (fun k => wv.ownBlock = some k) w2 w4 := (Asd.of_below hb0).grown hg (fun k e => .inl e)
  have r := h.ws.keep k4 (fun e => by have := (h.ow.lt _ e).1; omega)
  refine ⟨Rw.cell r 0, Rw.frozen r 0, h.add (s.words ++ [s.word]) hb0 hg ?_, ((hB.alloc (by omega) _).grown hg (by simp; omega) (fun k e => by have := (h.ow.lt k e).1; omega)).setCell (by simp) _⟩
  rw [List.length_append, List.map_append]
  exact ho
set_option maxHeartbeats 6400000 in
theorem recv_push (N : Nat) (s : St) (c : UInt8) (bv wv : Value) (w : World) (h : Sp N s bv wv w) (hs : s.size ≤ 1000000) (hp : s.pl ≤ 5) (q : Nat) (hq : nextN s.pl c.toNat = q) (hq1 : q = 1 ∨ q = 2 ∨ q = 3) :
    Calls Tryd.prog 26 #[.int .u8 (c.toNat : Int), .pointer (some ⟨N + 2, 0, none⟩), .pointer (some ⟨N + 1, 0, none⟩), .pointer (some ⟨N, 0, none⟩)] w (RecvP N ⟨q, s.word ++ [c], s.words⟩ w) := by
  have K := Lib.hid (next_any s.pl c.toNat hp c.toNat_lt w)
  rw [hq] at K
  have c0 : w.cell? ⟨N + 2, 0, none⟩ = some (.int .i64 (s.pl : Int)) := Rw.cell h.pl 0
  have f0 := Rw.frozen h.pl 0
  have hN := Rw.lt h.pl
  have h2 := h.set q
  have hbw : s.word.length ≤ 1000000 := by unfold St.size at hs; omega
  have hB : Below N w (w.setCell ⟨N + 2, 0, none⟩ (.int .i64 (q : Int))) := (Below.refl _ _).setCell (by simp) _
  obtain ⟨i0, hi, hz0, hz1, hz2⟩ := info_parts0 info_u8
  have c1 : (w.setCell ⟨N + 2, 0, none⟩ (.int .i64 (q : Int))).cell? ⟨N + 2, 0, none⟩ = some (.int .i64 (q : Int)) := Rw.cell h2.pl 0
  have c2 : (w.setCell ⟨N + 2, 0, none⟩ (.int .i64 (q : Int))).cell? ⟨N + 1, 0, none⟩ = some bv := Rw.cell h2.wd 0
  clear h hq
  obtain ⟨qi, hqi⟩ : ∃ qi : Int, (q : Int) = qi := ⟨_, rfl⟩
  rw [hqi] at K c1 c2 h2 hB
  have hq2 : qi = 1 ∨ qi = 2 ∨ qi = 3 := by omega
  clear hqi hq1
  rcases hq2 with rfl | rfl | rfl
  all_goals
    go_enter Tryd.func26, Tryd.ntmps26
    go_wp2_with fail
    refine K.out.mono ?_
    rintro e w1 ⟨rfl, rfl⟩
    clear K
    go_upto_region 2 with fail
    clear c0 f0 hN
    generalize World.setCell _ _ _ = w2 at *
    have hN := Rw.lt h2.pl
    have hown := h2.ob
    go_wp2_with (at_builtin; refine wpList_append_own_at _ rfl _ _ 46 rfl (N + 3) 5 i0 (.int .u8 0) 1 1 Tryd.underlying46 hi hz0 hz1 hz2 rfl (by decide) bv s.word.length _ rfl (World.ownsRow.alloc hown _) ⟨w2.heap.size, 0, none⟩ 1 1 [.int .u8 (c.toNat : Int)] rfl rfl (cell_one_new _ _ _) (fun u hu => by simp at hu; subst hu; rfl) (by unfold maxLen; omega) (by omega) (by simp; omega) ?_)
    intro bv' w4 hO hg _ hloc
    obtain ⟨g3, cap3, rfl⟩ := own_succ hO
    obtain ⟨x1, x2, x3, x4⟩ := push_end h2 hB hO hg
    clear hO hg hloc hown c1 c2
    go_wp2_with fail
    go_end0
    exact ⟨rfl, ⟨_, _, x3⟩, x4⟩
set_option maxHeartbeats 6400000 in
theorem recv_add (N : Nat) (s : St) (c : UInt8) (bv wv : Value) (w : World) (h : Sp N s bv wv w) (hs : s.size ≤ 1000000) (hp : s.pl = 1) (hq : nextN s.pl c.toNat = 0) :
    Calls Tryd.prog 26 #[.int .u8 (c.toNat : Int), .pointer (some ⟨N + 2, 0, none⟩), .pointer (some ⟨N + 1, 0, none⟩), .pointer (some ⟨N, 0, none⟩)] w (RecvP N ⟨0, [], s.words ++ [s.word]⟩ w) := by
  have K := Lib.hid (next_any s.pl c.toNat (by omega) c.toNat_lt w)
  rw [hq] at K
  have c0 : w.cell? ⟨N + 2, 0, none⟩ = some (.int .i64 (s.pl : Int)) := Rw.cell h.pl 0
  have f0 := Rw.frozen h.pl 0
  rw [hp] at K c0
  have h2 := h.set 0
  have hbw : s.word.length ≤ 1000000 := by unfold St.size at hs; omega
  have hbs : s.words.length ≤ 1000000 := by unfold St.size at hs; omega
  have hB : Below N w (w.setCell ⟨N + 2, 0, none⟩ (.int .i64 0)) := (Below.refl _ _).setCell (by simp) _
  obtain ⟨i0, hi, hz0, hz1, hz2⟩ := info_parts0 info_str
  have c1 : (w.setCell ⟨N + 2, 0, none⟩ (.int .i64 0)).cell? ⟨N + 2, 0, none⟩ = some (.int .i64 0) := Rw.cell h2.pl 0
  have c2 : (w.setCell ⟨N + 2, 0, none⟩ (.int .i64 0)).cell? ⟨N + 1, 0, none⟩ = some bv := Rw.cell h2.wd 0
  have c3 : (w.setCell ⟨N + 2, 0, none⟩ (.int .i64 0)).cell? ⟨N, 0, none⟩ = some wv := Rw.cell h2.ws 0
  have h3 : Sp N ⟨0, s.word, s.words⟩ bv wv (w.setCell ⟨N + 2, 0, none⟩ (.int .i64 0)) := h2
  clear h hq h2
  go_enter Tryd.func26, Tryd.ntmps26
  go_wp2_with fail
  refine K.out.mono ?_
  rintro e w1 ⟨rfl, rfl⟩
  clear K
  go_upto_region 2 with fail
  clear c0 f0
  generalize World.setCell _ _ _ = w2 at *
  have hN := Rw.lt h3.pl
  have hown := h3.ow
  have hcv := own_string h3.ob
  simp only at hown hcv
  go_wp2_with (at_builtin; refine wpList_append_own_at _ rfl _ _ 22 rfl (N + 3) 9 i0 (.string ⟨#[]⟩) 1 16 Tryd.underlying22 hi hz0 hz1 hz2 rfl (by decide) wv s.words.length _ rfl (World.ownsRow.alloc hown _) ⟨w2.heap.size, 0, none⟩ 1 1 [.string ⟨s.word.toArray⟩] rfl rfl (cell_one_new _ _ _) (fun u hu => by simp at hu; subst hu; rfl) (by unfold maxLen; omega) (by omega) (by simp; omega) ?_)
  intro wv' w4 hO hg _ hloc
  obtain ⟨g3, cap3, rfl⟩ := own_succ hO
  obtain ⟨x1, x2, x3, x4⟩ := add_end h3 hB hO hg
  clear hO hg hloc hown c1 c2 c3 hcv h3 hB
  go_upto_region 6 with fail
  clear x1 x2
  generalize World.setCell _ _ _ = w5 at *
  have c4 : w5.cell? ⟨N + 1, 0, none⟩ = some bv := Rw.cell x3.wd 0
  have f4 := Rw.frozen x3.wd 0
  have y := x3.nil
  go_wp2_with fail
  go_end0
  exact ⟨rfl, ⟨_, _, y⟩, x4.setCell (by simp) _⟩
set_option maxHeartbeats 6400000 in
theorem recv_none (N : Nat) (s : St) (c : UInt8) (bv wv : Value) (w : World) (h : Sp N s bv wv w) (hp : s.pl ≤ 5) (q : Nat) (hq : nextN s.pl c.toNat = q) (hq1 : (q = 0 ∧ s.pl ≠ 1) ∨ q = 4 ∨ q = 5) :
    Calls Tryd.prog 26 #[.int .u8 (c.toNat : Int), .pointer (some ⟨N + 2, 0, none⟩), .pointer (some ⟨N + 1, 0, none⟩), .pointer (some ⟨N, 0, none⟩)] w (RecvP N ⟨q, s.word, s.words⟩ w) := by
  have K := Lib.hid (next_any s.pl c.toNat hp c.toNat_lt w)
  rw [hq] at K
  have c0 : w.cell? ⟨N + 2, 0, none⟩ = some (.int .i64 (s.pl : Int)) := Rw.cell h.pl 0
  have f0 := Rw.frozen h.pl 0
  have h2 := h.set q
  have hB : Below N w (w.setCell ⟨N + 2, 0, none⟩ (.int .i64 (q : Int))) := (Below.refl _ _).setCell (by simp) _
  have c1 : (w.setCell ⟨N + 2, 0, none⟩ (.int .i64 (q : Int))).cell? ⟨N + 2, 0, none⟩ = some (.int .i64 (q : Int)) := Rw.cell h2.pl 0
  clear h hq
  obtain ⟨qi, hqi⟩ : ∃ qi : Int, (q : Int) = qi := ⟨_, rfl⟩
  rw [hqi] at K c1 h2 hB
  have hq2 : (qi = 0 ∧ s.pl ≠ 1) ∨ qi = 4 ∨ qi = 5 := by omega
  clear hqi hq1
  rcases hq2 with ⟨rfl, hne⟩ | rfl | rfl
  · have hne' : ((s.pl : Int) == 1) = false := by rw [beq_eq_false_iff_ne]; omega
    go_enter Tryd.func26, Tryd.ntmps26
    go_wp2_with fail
    refine K.out.mono ?_
    rintro e w1 ⟨rfl, rfl⟩
    clear K
    go_upto_region 2 with fail
    clear c0 f0
    generalize World.setCell _ _ _ = w2 at *
    go_wp2_with fail
    go_end0
    exact ⟨rfl, ⟨_, _, h2⟩, hB⟩
  all_goals
    go_enter Tryd.func26, Tryd.ntmps26
    go_wp2_with fail
    refine K.out.mono ?_
    rintro e w1 ⟨rfl, rfl⟩
    clear K
    go_upto_region 2 with fail
    clear c0 f0
    generalize World.setCell _ _ _ = w2 at *
    go_wp2_with fail
    go_end0
    exact ⟨rfl, ⟨_, _, h2⟩, hB⟩
theorem recv_any (N : Nat) (s : St) (c : UInt8) (bv wv : Value) (w : World) (h : Sp N s bv wv w) (hs : s.size ≤ 1000000) (hp : s.pl ≤ 5) :
    Calls Tryd.prog 26 #[.int .u8 (c.toNat : Int), .pointer (some ⟨N + 2, 0, none⟩), .pointer (some ⟨N + 1, 0, none⟩), .pointer (some ⟨N, 0, none⟩)] w (RecvP N (stepN s c) w) := by
  have hle := next_le s.pl c.toNat
  unfold stepN
  split
  · rename_i h1
    exact recv_push N s c bv wv w h hs hp _ rfl h1
  · rename_i h1
    split
    · rename_i h2
      exact recv_add N s c bv wv w h hs h2.2 h2.1
    · rename_i h2
      exact recv_none N s c bv wv w h hp _ rfl (by omega)
end Go.Proofs.YtcljijcggnfemaaDoor
