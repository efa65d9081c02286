/- The document's patterns in memory: nodes, and what is done to one. -/
import Derived.Test.YteooofakpkbgoaaDoorQK
namespace Go.Proofs.YteooofakpkbgoaaDoor.Dn
open Go.ChangeShapes Go.WideShapes Go.RowKit

abbrev nilS : Value := Value.slice none 0 0
/-- A node's cells. -/
def nodeC (k : Int) (p : UInt8 → Bool) (v : Value) : List Value := .int .i64 k :: (setRow p ++ [v])
theorem nodeC_len (k : Int) (p : UInt8 → Bool) (v : Value) : (nodeC k p v).length = 258 := by simp [nodeC, setRow_len]
theorem nodeC_kind (k : Int) (p : UInt8 → Bool) (v : Value) : (nodeC k p v)[0]? = some (.int .i64 k) := rfl
theorem nodeC_bit (k : Int) (p : UInt8 → Bool) (v : Value) {i : Nat} (h : i < 256) : (nodeC k p v)[1 + i]? = some (.bool (p (UInt8.ofNat i))) := by
  rw [Nat.add_comm]
  show (setRow p ++ [v])[i]? = _
  rw [List.getElem?_append_left (by rw [setRow_len]; exact h), setRow_get _ h]
theorem nodeC_kids (k : Int) (p : UInt8 → Bool) (v : Value) : (nodeC k p v)[257]? = some v := by
  show (setRow p ++ [v])[256]? = _
  rw [List.getElem?_append_right (by rw [setRow_len]; omega), setRow_len]
  rfl
theorem nodeC_putBit (k : Int) (p : UInt8 → Bool) (v : Value) {i : Nat} (h : i < 256) (b : Bool) : (nodeC k p v).set (1 + i) (.bool b) = nodeC k (fun x => if x = UInt8.ofNat i then b else p x) v := by
  unfold nodeC
  rw [Nat.add_comm, List.set_cons_succ, List.set_append_left _ _ (by rw [setRow_len]; exact h), setRow_set _ h]
theorem nodeC_putKids (k : Int) (p : UInt8 → Bool) (v u : Value) : (nodeC k p v).set 257 u = nodeC k p u := by
  unfold nodeC
  rw [List.set_cons_succ, List.set_append_right _ _ (by rw [setRow_len]; omega), setRow_len]
  rfl
theorem set_cell (p : UInt8 → Bool) : ∀ u ∈ setRow p, u.oneCell' = true := fun u hu => by
  simp [setRow] at hu
  obtain ⟨i, _, rfl⟩ := hu
  rfl
theorem nodeC_one (k : Int) (p : UInt8 → Bool) {v : Value} (hv : v.oneCell' = true) : ∀ u ∈ nodeC k p v, u.oneCell' = true := by
  intro u hu
  simp only [nodeC, List.mem_cons, List.mem_append, List.not_mem_nil, or_false] at hu
  rcases hu with rfl | hu | rfl
  · rfl
  · exact set_cell p u hu
  · exact hv
theorem nodeC_inj {k k' : Int} {p p' : UInt8 → Bool} {v v' : Value} (h : nodeC k p v = nodeC k' p' v') : k = k' ∧ p = p' ∧ v = v' := by
  have h0 := congrArg (fun l => l[0]?) h
  have h2 := congrArg (fun l => l[257]?) h
  simp only [nodeC_kids] at h2
  simp only [nodeC_kind] at h0
  injection h0 with h0
  injection h0 with _ h0
  injection h2 with h2
  refine ⟨h0, ?_, h2⟩
  subst h0 h2
  unfold nodeC at h
  injection h with _ h
  exact setRow_inj (List.append_cancel_right h)
theorem zero_node (w : World) : (zeroValue 61).run Tryd.prog w = .ok (.agg (nodeC 0 noSet nilS).toArray) w := by kernel_rfl
theorem info_node : (Tryd.prog.info? 61).map (fun i => (i.zero, i.size, i.bytes)) = some (some (.agg (nodeC 0 noSet nilS).toArray), 258, 288) := by kernel_rfl
theorem size_node : (Tryd.prog.info? 61).map (·.size) = some 258 := by kernel_rfl
theorem under_node : ∃ d, Tryd.prog.underlying 61 = some d ∧ (match d with | .struct _ | .array _ _ => true | _ => false) = true := ⟨_, Tryd.underlying61, rfl⟩
set_option maxRecDepth 100000 in
theorem run_build0 (Z : List Value) (hz : ∀ w, (zeroValue 61).run Tryd.prog w = .ok (.agg Z.toArray) w) (w : World) : (Instr.build 61 #[]).run Tryd.prog w = .ok (.agg Z.toArray) w := by
  unfold Instr.build
  simp only [Sem.run_bind, hz, Result.andThen_ok, run_underlying Tryd.underlying61]
  generalize hm : Sem.run Tryd.prog (Array.mapM _ _) w = m
  obtain rfl : m = .ok (#[(0, 1), (1, 256), (257, 1)] : Array (Nat × Nat)) w := by rw [← hm]; kernel_rfl
  clear hm
  rfl
set_option maxRecDepth 100000 in
/-- A node of a kind. -/
theorem run_build1 (k : Int) (w : World) : (Instr.build 61 #[(0, .int .i64 k)]).run Tryd.prog w = .ok (.agg (nodeC k noSet nilS).toArray) w := by
  have hz := zero_node w
  have hf : ∀ pl : Nat → Option (Nat × Nat), pl 0 = some (0, 1) → Instr.fill pl (nodeC 0 noSet nilS).toArray [(0, .int .i64 k)] = some (nodeC k noSet nilS).toArray := fun pl hpl => by
    unfold Instr.fill
    simp only [hpl]
    rw [show (Value.int IntKind.i64 k).cells = #[.int .i64 k] from rfl, if_neg (by simp [nodeC])]
    unfold Instr.fill
    congr 1
  unfold Instr.build
  generalize hN : (nodeC 0 noSet nilS).toArray = N at *
  simp only [Sem.run_bind, hz, Result.andThen_ok, run_underlying Tryd.underlying61]
  generalize hm : Sem.run Tryd.prog (Array.mapM _ _) w = m
  obtain rfl : m = .ok (#[(0, 1), (1, 256), (257, 1)] : Array (Nat × Nat)) w := by rw [← hm]; kernel_rfl
  clear hm
  simp only [Result.andThen_ok]
  rw [show (Value.agg N).cells = N from rfl, hf _ rfl]
  rfl
set_option maxRecDepth 100000 in
/-- A node of a kind, of some others. -/
theorem run_build2 (k : Int) {v : Value} (hv : v.cells = #[v]) (w : World) : (Instr.build 61 #[(0, .int .i64 k), (2, v)]).run Tryd.prog w = .ok (.agg (nodeC k noSet v).toArray) w := by
  have hz := zero_node w
  have hf : ∀ pl : Nat → Option (Nat × Nat), pl 0 = some (0, 1) → pl 2 = some (257, 1) → Instr.fill pl (nodeC 0 noSet nilS).toArray [(0, .int .i64 k), (2, v)] = some (nodeC k noSet v).toArray := fun pl hpl hp2 => by
    unfold Instr.fill
    simp only [hpl]
    rw [show (Value.int IntKind.i64 k).cells = #[.int .i64 k] from rfl, if_neg (by simp [nodeC])]
    unfold Instr.fill
    simp only [hp2]
    rw [hv, if_neg (by simp [nodeC_len])]
    unfold Instr.fill
    congr 1
  unfold Instr.build
  generalize hN : (nodeC 0 noSet nilS).toArray = N at *
  simp only [Sem.run_bind, hz, Result.andThen_ok, run_underlying Tryd.underlying61]
  generalize hm : Sem.run Tryd.prog (Array.mapM _ _) w = m
  obtain rfl : m = .ok (#[(0, 1), (1, 256), (257, 1)] : Array (Nat × Nat)) w := by rw [← hm]; kernel_rfl
  clear hm
  simp only [Result.andThen_ok]
  rw [show (Value.agg N).cells = N from rfl, hf _ rfl rfl]
  rfl
/-- A node is laid into a row of its own. -/
theorem run_row_node (cs : List Value) (h : cs.length = 258) (w : World) : (Instr.buildSlice 59 1 #[(0, .agg cs.toArray)]).run Tryd.prog w = .ok (.slice (some ⟨w.heap.size, 0, none⟩) 1 1) (w.alloc (.cells cs.toArray 61)) := by
  obtain ⟨i0, hi, hz0, hz1, _⟩ := info_parts0 info_node
  refine run_buildSlice (P := Tryd.prog) w 59 61 1 _ cs.toArray i0 _ Tryd.underlying59 hi hz0 (by rw [hz1]; decide) (by rw [hz1]; decide) ?_
  rw [hz1]
  have := Great.fill_whole (s := 258) (by decide) [.agg cs.toArray] ((Array.range (1 * 258)).map ((Value.agg (nodeC 0 noSet nilS).toArray).cells[· % (Value.agg (nodeC 0 noSet nilS).toArray).cells.size]!)) (fun v hv => by
    simp at hv
    subst hv
    show cs.toArray.size = 258
    simpa using h) (by simp)
  refine Eq.trans this ?_
  simp [Value.cells]
theorem rw_setRow {w : World} {g : Nat} {t : TypeId} {cs ds : List Value} (h : Rw w g t cs) : Rw (w.setRow g ds.toArray) g t ds := by
  unfold Rw at *
  rw [setRow_heap w g _ _ t _ h]
theorem rw_setRow_ne {w : World} {g k : Nat} {t : TypeId} {cs : List Value} {ds : Array Value} (h : Rw w g t cs) (hk : g ≠ k) : Rw (w.setRow k ds) g t cs := by
  unfold Rw at *
  rw [setRow_other w k g _ hk]; exact h
theorem asd_setRow {S : Nat → Prop} {a w : World} {g : Nat} {ds : Array Value} (h : Asd S a w) (hg : S g ∨ a.heap.size ≤ g) : Asd S a (w.setRow g ds) :=
  ⟨h.os, h.tape, h.output, by rw [setRow_size]; exact h.size, fun k hk hn => by
    rw [setRow_other w g k _ (fun e => by subst e; rcases hg with q | q; exact hn q; omega)]; exact h.block k hk hn⟩
section
variable {P : Program} {ops : Array Oper} {rest : List Oper} {o : Oper} {a : Act} {w : World} {Q : Exit → Act → World → Prop}
theorem wpList_exec {v : Value} (h : (execOp a.eval o).run P w = .ok (.value v) w) (hg : o.guard = none) (hK : wpList P ops Q rest (a.put o.dst v) w) : wpList P ops Q (o :: rest) a w :=
  wpList_plain hg fun K' hK' => by
    unfold Oper.wp
    rw [h]
    exact hK' _ _ hK
end
section
variable {ops : Array Oper} {rest : List Oper} {o : Oper} {a : Act} {w : World} {Q : Exit → Act → World → Prop}
/-- A whole node is written. -/
theorem store_node (g : Nat) (old : List Value) (hr : Rw w g 61 old) (ho' : old.length = 258) (cs : List Value) (hn : cs.length = 258) (h1 : ∀ v ∈ cs, v.oneCell' = true) (x y : Operand) (hgd : o.guard = none) (ho : o.op = .store 61 x y)
    (hx : a.eval x = .pointer (some ⟨g, 0, none⟩)) (hy : a.eval y = .agg cs.toArray)
    (h : wpList Tryd.prog ops Q rest (a.put o.dst undef) (w.setRow g cs.toArray)) : wpList Tryd.prog ops Q (o :: rest) a w :=
  wpList_store_row hgd 61 x y ho g cs.toArray hx hy 61 old.toArray hr (by rw [size_node]; simp [hn]) (by simp [hn, ho']) (by rw [Array.all_eq_true_iff_forall_mem]; intro v hv; exact h1 v (by simpa using hv)) h
/-- A whole node is read. -/
theorem load_node (g : Nat) (cs : List Value) (hr : Rw w g 61 cs) (hn : cs.length = 258) (x : Operand) (hgd : o.guard = none) (ho : o.op = .load 61 x) (hx : a.eval x = .pointer (some ⟨g, 0, none⟩))
    (h : wpList Tryd.prog ops Q rest (a.put o.dst (.agg cs.toArray)) w) : wpList Tryd.prog ops Q (o :: rest) a w :=
  wpList_load_row hgd 61 x ho g hx 61 cs.toArray (0, 0) _ hr Tryd.underlying61 rfl (by rw [size_node]; simp [hn]) h
/-- A result that is a node. -/
theorem ret_node {fn : Func} {p : Tmp} {R : Ending → World → Prop} (g : Nat) (cs : List Value) (hr : Rw w g 61 cs) (hn : cs.length = 258)
    (hf : fn.results = #[.cell p 61]) (hd : a.defers = []) (hp : a.tmps.getD p undef = .pointer (some ⟨g, 0, none⟩)) (h : R (.returned (.agg cs.toArray)) w) : bodyPost Tryd.prog fn R .ret a w :=
  bodyPost_ret (v := .agg cs.toArray) (results_cell_row hf a.tmps w g 61 cs.toArray (0, 0) _ hp hr Tryd.underlying61 rfl (by rw [size_node]; simp [hn])) hd h
end
theorem exec_build0 {o : Oper} {a : Act} (Z : List Value) (hz : ∀ w, (zeroValue 61).run Tryd.prog w = .ok (.agg Z.toArray) w) (ho : o.op = .build 61 #[]) (w : World) : (execOp a.eval o).run Tryd.prog w = .ok (.value (.agg Z.toArray)) w := by
  unfold execOp
  simp only [ho, List.map_toArray, List.map_nil, Sem.run_bind, run_build0 Z hz, Result.andThen_ok, Sem.run_pure]
theorem exec_build1 {o : Oper} {a : Act} (k : Int) (x : Operand) (ho : o.op = .build 61 #[(0, x)]) (hx : a.eval x = .int .i64 k) (w : World) : (execOp a.eval o).run Tryd.prog w = .ok (.value (.agg (nodeC k noSet nilS).toArray)) w := by
  unfold execOp
  simp only [ho, List.map_toArray, List.map_cons, List.map_nil, hx, Sem.run_bind, run_build1, Result.andThen_ok, Sem.run_pure]
theorem exec_build2 {o : Oper} {a : Act} (k : Int) {v : Value} (hv : v.cells = #[v]) (x y : Operand) (ho : o.op = .build 61 #[(0, x), (2, y)]) (hx : a.eval x = .int .i64 k) (hy : a.eval y = v) (w : World) : (execOp a.eval o).run Tryd.prog w = .ok (.value (.agg (nodeC k noSet v).toArray)) w := by
  unfold execOp
  simp only [ho, List.map_toArray, List.map_cons, List.map_nil, hx, hy, Sem.run_bind, run_build2 k hv, Result.andThen_ok, Sem.run_pure]
/-- A node is laid into a row of its own. -/
theorem wp_row_node {o : Oper} {a : Act} {w : World} {K : Act → World → Prop} {Q : Exit → Act → World → Prop} (cs : List Value) (h : cs.length = 258) (x : Operand) (ho : o.op = .buildSlice 59 1 #[(0, x)]) (hx : a.eval x = .agg cs.toArray)
    (hK : K (a.put o.dst (.slice (some ⟨w.heap.size, 0, none⟩) 1 1)) (w.alloc (.cells cs.toArray 61))) : o.wp Tryd.prog a w K Q := by
  unfold Oper.wp execOp
  simp only [ho, List.map_toArray, List.map_cons, List.map_nil, hx, Sem.run_bind, run_row_node cs h, Result.andThen_ok, Sem.run_pure]
  exact hK
/-- A node is appended to a row that one owns. -/
theorem wp_own_node {o : Oper} {a : Act} {w : World} {K : Act → World → Prop} {Q : Exit → Act → World → Prop} (s x : Operand) (ho : o.op = .call { callee := .builtin .append, args := #[s, x], argTypes := #[59, 59] })
    (base : Nat) (v : Value) (css : List (List Value)) (hs : a.eval s = v) (hown : w.ownsRow base 61 258 v css.length css.flatten) (g : Nat) (news : List Value) (hx : a.eval x = .slice (some ⟨g, 0, none⟩) 1 1) (hl : news.length = 258) (hr : Rw w g 61 news) (h1 : ∀ u ∈ news, u.oneCell' = true)
    (hn : css.length ≤ 1000) (hbase : base ≤ w.heap.size)
    (h : ∀ v' w', w'.ownsRow base 61 258 v' (css ++ [news]).length (css ++ [news]).flatten → w.grownBy w' v.ownBlock → (v'.ownBlock = v.ownBlock ∨ v'.ownBlock = some w.heap.size) → K (a.put o.dst v') w') :
    o.wp Tryd.prog a w K Q := by
  obtain ⟨i0, hi, hz0, hz1, hz2⟩ := info_parts0 info_node
  refine wp_own_at s x 59 ho base 61 i0 _ 258 288 Tryd.underlying59 hi hz0 hz1 hz2 (by simp [Value.cells, nodeC_len]) (by decide) v css.length _ hs hown g news hx hl hr h1 (by unfold maxLen; omega) (by omega) hbase (fun v' w' a b c => h v' w' ?_ b c)
  rw [List.length_append, List.length_singleton, List.flatten_append, List.flatten_singleton]
  exact a
end Go.Proofs.YteooofakpkbgoaaDoor.Dn
