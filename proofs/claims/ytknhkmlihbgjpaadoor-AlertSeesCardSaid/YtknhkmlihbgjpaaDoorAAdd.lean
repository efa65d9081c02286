/- alert.Apart: an id is laid by its label. -/
import Derived.Test.YtknhkmlihbgjpaaDoorAMap
namespace Go.Proofs.YtknhkmlihbgjpaaDoor
open Go.ChangeShapes Go.WideShapes Go.RowKit
open Go.ChangeMaps (setBlock)

section
variable {ops : Array Oper} {rest : List Oper} {o : Oper} {a : Act} {w : World} {Q : Exit → Act → World → Prop}
theorem wpList_entry (mm k : Operand) (t : TypeId) (hg : o.guard = none) (ho : o.op = .mapEntry t mm k) (mv kv v : Value) (w' : World) (hm : a.eval mm = mv) (hk : a.eval k = kv) (hrun : (Instr.mapEntry t mv kv).run Tryd.prog w = .ok v w')
    (h : ∀ w2, Hid (w2 = w') → wpList Tryd.prog ops Q rest (a.put o.dst v) w2) : wpList Tryd.prog ops Q (o :: rest) a w :=
  wpList_plain hg fun _ hK => by
    unfold Oper.wp execOp
    simp only [ho, hm, hk, hrun, Sem.run_bind, Sem.run_pure, Result.andThen_ok]
    exact hK _ _ (h _ (Lib.hid rfl))
theorem wpList_estore (mm s x : Operand) (t : TypeId) (hg : o.guard = none) (ho : o.op = .entryStore t mm s x) (mv sv xv : Value) (w' : World) (hm : a.eval mm = mv) (hs : a.eval s = sv) (hx : a.eval x = xv) (hrun : (Instr.entryStore t mv sv xv).run Tryd.prog w = .ok () w')
    (h : ∀ w2, Hid (w2 = w') → wpList Tryd.prog ops Q rest (a.put o.dst undef) w2) : wpList Tryd.prog ops Q (o :: rest) a w :=
  wpList_plain hg fun _ hK => by
    unfold Oper.wp execOp
    simp only [ho, hm, hs, hx, hrun, Sem.run_bind, Sem.run_pure, Result.andThen_ok]
    exact hK _ _ (h _ (Lib.hid rfl))
theorem wpList_mput (mm s x : Operand) (t : TypeId) (hg : o.guard = none) (ho : o.op = .mapUpdate t mm s x) (mv sv xv : Value) (w' : World) (hm : a.eval mm = mv) (hs : a.eval s = sv) (hx : a.eval x = xv) (hrun : (Instr.mapUpdate t mv sv xv).run Tryd.prog w = .ok () w')
    (h : ∀ w2, Hid (w2 = w') → wpList Tryd.prog ops Q rest (a.put o.dst undef) w2) : wpList Tryd.prog ops Q (o :: rest) a w :=
  wpList_plain hg fun _ hK => by
    unfold Oper.wp execOp
    simp only [ho, hm, hs, hx, hrun, Sem.run_bind, Sem.run_pure, Result.andThen_ok]
    exact hK _ _ (h _ (Lib.hid rfl))
theorem info_u64 : (Tryd.prog.info? 38).map (fun i => (i.zero, i.size, i.bytes)) = some (some (.int .u64 0), 1, 8) := by kernel_rfl
/-- A number is added to a row that one owns. -/
theorem wpList_own_num (s x : Operand) (hg : o.guard = none) (ho : o.op = .call { callee := .builtin .append, args := #[s, x], argTypes := #[59, 59] })
    (base : Nat) (v : Value) (xs : List Nat) (y : Nat) (hs : a.eval s = v) (hown : w.ownsRow base 38 1 v xs.length (xs.map uv)) (Y : Nat) (hx : a.eval x = .slice (some ⟨Y, 0, none⟩) 1 1) (hr : Rw w Y 38 [uv y]) (hn : xs.length ≤ 100000) (hbase : base ≤ w.heap.size)
    (h : ∀ v' w', w'.ownsRow base 38 1 v' (xs ++ [y]).length ((xs ++ [y]).map uv) → w.grownBy w' v.ownBlock → (v'.ownBlock = v.ownBlock ∨ v'.ownBlock = some w.heap.size) → wpList Tryd.prog ops Q rest (a.put o.dst v') w') : wpList Tryd.prog ops Q (o :: rest) a w := by
  obtain ⟨i0, hi, hz0, hz1, hz2⟩ := info_parts0 info_u64
  refine wpList_plain hg fun _ hK => wp_own_at s x 59 ho base 38 i0 _ 1 8 Tryd.underlying59 hi hz0 hz1 hz2 rfl (by decide) v xs.length _ hs hown Y [uv y] hx rfl hr (fun u hu => by rw [List.mem_singleton.1 hu]; rfl) (by unfold maxLen; omega) (by omega) hbase (fun v' w' a b c => hK _ _ (h v' w' ?_ b c))
  rw [List.map_append, List.length_append]
  exact a
end
theorem own_not_map {w : World} {base n s : Nat} {e : TypeId} {v : Value} {xs : List Value} {m : Nat} {es : Array MapEntry} {clk : Nat} (h : w.ownsRow base e s v n xs) (hm : w.heap[m]? = some (.map es clk)) : ∀ i, v.ownBlock = some i → i ≠ m := fun i hi e => by
  subst e
  rcases h.2 with ⟨rfl, _⟩ | ⟨g, cap, cur, rfl, _, hg, _⟩
  · cases hi
  · have e : g = i := Option.some.inj hi
    rw [e, hm] at hg
    cases hg
theorem Asd.oneM (w : World) (m : Nat) (o : Obj) : Asd (· = m) w (setBlock w m o) := (Asd.refl (· = m) w).mblock (.inl rfl) o
theorem map_stay {w w' : World} {m : Nat} {o : Obj} (h : w.heap[m]? = some o) (k : Below w.heap.size w w') : w'.heap[m]? = some o := (k.block m (Array.getElem?_eq_some_iff.1 h).1).trans h
set_option maxHeartbeats 3200000 in
set_option maxRecDepth 100000 in
theorem add_any (l c : Int) (x m B base st : Nat) (es es1 : Array MapEntry) (clk clk1 : Nat) (old : Value) (esF : Value → Array MapEntry) (xs : List Nat) (w : World)
    (rB : Rw w B 57 [.map (some m)]) (hm : w.heap[m]? = some (.map es clk))
    (hent : ∀ w : World, w.heap[m]? = some (.map es clk) → (Instr.mapEntry 57 (.map (some m)) (labV l c)).run Tryd.prog w = .ok (.tuple #[old, .int .i64 (st : Int)]) (setBlock w m (.map es1 clk1)))
    (hst : ∀ (w : World) (v : Value), w.heap[m]? = some (.map es1 clk1) → (Instr.entryStore 57 (.map (some m)) (.int .i64 (st : Int)) v).run Tryd.prog w = .ok () (setBlock w m (.map (esF v) clk1)))
    (hown : w.ownsRow base 38 1 old xs.length (xs.map uv)) (hbase : base ≤ w.heap.size) (hl : xs.length ≤ 1000) :
    Calls Tryd.prog 53 #[labV l c, uv x, .pointer (some ⟨B, 0, none⟩)] w fun e w' => e = .returned (.tuple #[]) ∧ ∃ v', w'.ownsRow base 38 1 v' (xs ++ [x]).length ((xs ++ [x]).map uv) ∧ w'.heap[m]? = some (.map (esF v') clk1) ∧
      (v'.ownBlock = old.ownBlock ∨ ∃ k, v'.ownBlock = some k ∧ w.heap.size ≤ k) ∧ Asd (fun k => k = m ∨ old.ownBlock = some k) w w' := by
  replace hent := Lib.hid hent
  replace hst := Lib.hid hst
  have hml := (Array.getElem?_eq_some_iff.1 hm).1
  have hBl := rB.lt
  show Calls Tryd.prog 53 #[.agg #[.int .i64 l, .int .u32 c], .int .u64 (x : Int), .pointer (some ⟨B, 0, none⟩)] w _
  go_enter Tryd.func53, Tryd.ntmps53
  go_upto_region 1 with fail
  have hal : Below w.heap.size w (w.alloc (.cells #[.int .i64 l, .int .u32 c] 25)) := (Below.refl _ _).alloc (Nat.le_refl _) _
  have rL : Rw (w.alloc (.cells #[.int .i64 l, .int .u32 c] 25)) w.heap.size 25 [.int .i64 l, .int .u32 c] := Rw.new w 25 [.int .i64 l, .int .u32 c]
  have hm1 := map_stay hm hal
  have rB1 := rB.stay hal
  have hown1 := own_stay2 hown hal
  generalize w.alloc (.cells #[.int .i64 l, .int .u32 c] 25) = w1 at *
  have hwl := rL.lt
  have d0 := Rw.cell rL 0
  have d1 := Rw.cell rL 1
  have b0 := Rw.cell rB1 0
  simp only [List.getElem?_cons_zero, List.getElem?_cons_succ] at d0 d1 b0
  have hal2 : Below w1.heap.size w1 (w1.alloc (.cells #[.int .u64 (x : Int)] 38)) := (Below.refl _ _).alloc (Nat.le_refl _) _
  have rY : Rw (w1.alloc (.cells #[.int .u64 (x : Int)] 38)) w1.heap.size 38 [uv x] := Rw.new w1 38 [uv x]
  have hm2 := map_stay hm1 hal2
  have hown2 := own_stay2 hown1 hal2
  have hrun := Lib.hid (hent.out _ hm2)
  have hsz2 := hal2.size
  go_wp2_with (refine wpList_entry _ _ _ rfl rfl (.map (some m)) (labV l c) _ _ rfl rfl hrun.out ?_)
  intro w3 e3
  replace e3 := e3.out
  have A3 : Asd (· = m) (w1.alloc (.cells #[.int .u64 (x : Int)] 38)) w3 := by rw [e3]; exact Asd.oneM _ _ _
  have hm3 : w3.heap[m]? = some (.map es1 clk1) := by rw [e3]; exact block_at hm2
  have hown3 := own_asdS hown2 A3 (own_not_map hown2 hm2)
  have rY3 := rY.keep A3 (fun e => by have e : w1.heap.size = m := e; omega)
  have A03 : Asd (fun k => k = m ∨ old.ownBlock = some k) w w3 := (Asd.of_below (hal.trans (hal2.mono hal.size))).trans (A3.any fun i e => .inl e) (fun i e _ => e)
  have hsz3 := A3.size
  clear e3 hrun hm2 hown2 rY A3 hent hm hown hal2 rB1
  generalize w1.heap.size = Y at *
  go_wp2_with (refine wpList_own_num _ _ rfl rfl base old xs x rfl hown3 Y rfl rY3 (by omega) (by omega) ?_)
  intro v' w4 hO4 hg4 hor
  have hne3 := own_not_map hown3 hm3
  have hm4 : w4.heap[m]? = some (.map es1 clk1) := (hg4.block m (Array.getElem?_eq_some_iff.1 hm3).1 (fun e => hne3 m e.symm rfl)).trans hm3
  have hrun := Lib.hid (hst.out w4 v' hm4)
  have hne4 := own_not_map hO4 hm4
  go_wp2_with (refine wpList_estore _ _ _ _ rfl rfl (.map (some m)) (.int .i64 (st : Int)) v' _ rfl rfl rfl hrun.out ?_)
  intro w5 e5
  replace e5 := e5.out
  have A5 : Asd (· = m) w4 w5 := by rw [e5]; exact Asd.oneM _ _ _
  have hm5 : w5.heap[m]? = some (.map (esF v') clk1) := by rw [e5]; exact block_at hm4
  clear e5 hrun
  go_wp2_with fail
  go_end0
  refine ⟨rfl, v', by rw [List.map_append, List.length_append]; exact own_asdS hO4 A5 hne4, hm5, hor.imp id (fun e => ⟨_, e, by omega⟩), ?_⟩
  exact ((A03.grown hg4 (fun k e => .inl (.inr e))).trans (A5.any fun i e => .inl e) (fun i e _ => e))
end Go.Proofs.YtknhkmlihbgjpaaDoor
