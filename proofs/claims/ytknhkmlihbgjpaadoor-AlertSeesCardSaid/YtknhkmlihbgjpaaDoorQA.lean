/- QA: several texts in one. -/
import Derived.Test.YtknhkmlihbgjpaaDoorAOwn
import Derived.Test.YtknhkmlihbgjpaaDoorPR
import Derived.Great.BuildSlice
import Derived.Great.FillDense
import Derived.Laws.Tables
import Derived.OwnWalk
import Derived.Test.YtknhkmlihbgjpaaDoorClass
/- What the texts of the document's patterns lean on in this seat. -/
/- The document's patterns in memory: nodes, and what is done to one. -/
namespace Go.Proofs.YtknhkmlihbgjpaaDoor.Dn
open Go.ChangeShapes Go.WideShapes Go.RowKit

abbrev nilS : Value := Value.slice none 0 0
/-- A node's cells. -/
def nodeC (k : Int) (p : UInt8 → Bool) (v : Value) : List Value := .int .i64 k :: (setRow p ++ [v])
theorem nodeC_len (k : Int) (p : UInt8 → Bool) (v : Value) : (nodeC k p v).length = 258 := by simp [nodeC, setRow_len]
theorem nodeC_kind (k : Int) (p : UInt8 → Bool) (v : Value) : (nodeC k p v)[0]? = some (.int .i64 k) := rfl
theorem nodeC_bit (k : Int) (p : UInt8 → Bool) (v : Value) {i : Nat} (h : i < 256) : (nodeC k p v)[1 + i]? = some (.bool (p (UInt8.ofNat i))) := by
  rw [Nat.add_comm]
  show (setRow p ++ [v])[i]? = _
  rw [List.getElem?_append_left (by rw [setRow_len]; exact h), setRow_get _ h]
theorem nodeC_kids (k : Int) (p : UInt8 → Bool) (v : Value) : (nodeC k p v)[257]? = some v := by
  show (setRow p ++ [v])[256]? = _
  rw [List.getElem?_append_right (by rw [setRow_len]; omega), setRow_len]
  rfl
theorem nodeC_putBit (k : Int) (p : UInt8 → Bool) (v : Value) {i : Nat} (h : i < 256) (b : Bool) : (nodeC k p v).set (1 + i) (.bool b) = nodeC k (fun x => if x = UInt8.ofNat i then b else p x) v := by
  unfold nodeC
  rw [Nat.add_comm, List.set_cons_succ, List.set_append_left _ _ (by rw [setRow_len]; exact h), setRow_set _ h]
theorem nodeC_putKids (k : Int) (p : UInt8 → Bool) (v u : Value) : (nodeC k p v).set 257 u = nodeC k p u := by
  unfold nodeC
  rw [List.set_cons_succ, List.set_append_right _ _ (by rw [setRow_len]; omega), setRow_len]
  rfl
theorem set_cell (p : UInt8 → Bool) : ∀ u ∈ setRow p, u.oneCell' = true := fun u hu => by
  simp [setRow] at hu
  obtain ⟨i, _, rfl⟩ := hu
  rfl
theorem nodeC_one (k : Int) (p : UInt8 → Bool) {v : Value} (hv : v.oneCell' = true) : ∀ u ∈ nodeC k p v, u.oneCell' = true := by
  intro u hu
  simp only [nodeC, List.mem_cons, List.mem_append, List.not_mem_nil, or_false] at hu
  rcases hu with rfl | hu | rfl
  · rfl
  · exact set_cell p u hu
  · exact hv
theorem nodeC_inj {k k' : Int} {p p' : UInt8 → Bool} {v v' : Value} (h : nodeC k p v = nodeC k' p' v') : k = k' ∧ p = p' ∧ v = v' := by
  have h0 := congrArg (fun l => l[0]?) h
  have h2 := congrArg (fun l => l[257]?) h
  simp only [nodeC_kids] at h2
  simp only [nodeC_kind] at h0
  injection h0 with h0
  injection h0 with _ h0
  injection h2 with h2
  refine ⟨h0, ?_, h2⟩
  subst h0 h2
  unfold nodeC at h
  injection h with _ h
  exact setRow_inj (List.append_cancel_right h)
theorem zero_node (w : World) : (zeroValue 145).run Tryd.prog w = .ok (.agg (nodeC 0 noSet nilS).toArray) w := by kernel_rfl
theorem info_node : (Tryd.prog.info? 145).map (fun i => (i.zero, i.size, i.bytes)) = some (some (.agg (nodeC 0 noSet nilS).toArray), 258, 288) := by kernel_rfl
theorem size_node : (Tryd.prog.info? 145).map (·.size) = some 258 := by kernel_rfl
theorem under_node : ∃ d, Tryd.prog.underlying 145 = some d ∧ (match d with | .struct _ | .array _ _ => true | _ => false) = true := ⟨_, Tryd.underlying145, rfl⟩
set_option maxRecDepth 100000 in
theorem run_build0 (Z : List Value) (hz : ∀ w, (zeroValue 145).run Tryd.prog w = .ok (.agg Z.toArray) w) (w : World) : (Instr.build 145 #[]).run Tryd.prog w = .ok (.agg Z.toArray) w := by
  unfold Instr.build
  simp only [Sem.run_bind, hz, Result.andThen_ok, run_underlying Tryd.underlying145]
  generalize hm : Sem.run Tryd.prog (Array.mapM _ _) w = m
  obtain rfl : m = .ok (#[(0, 1), (1, 256), (257, 1)] : Array (Nat × Nat)) w := by rw [← hm]; kernel_rfl
  clear hm
  rfl
set_option maxRecDepth 100000 in
/-- A node of a kind. -/
theorem run_build1 (k : Int) (w : World) : (Instr.build 145 #[(0, .int .i64 k)]).run Tryd.prog w = .ok (.agg (nodeC k noSet nilS).toArray) w := by
  have hz := zero_node w
  have hf : ∀ pl : Nat → Option (Nat × Nat), pl 0 = some (0, 1) → Instr.fill pl (nodeC 0 noSet nilS).toArray [(0, .int .i64 k)] = some (nodeC k noSet nilS).toArray := fun pl hpl => by
    unfold Instr.fill
    simp only [hpl]
    rw [show (Value.int IntKind.i64 k).cells = #[.int .i64 k] from rfl, if_neg (by simp [nodeC])]
    unfold Instr.fill
    congr 1
  unfold Instr.build
  generalize hN : (nodeC 0 noSet nilS).toArray = N at *
  simp only [Sem.run_bind, hz, Result.andThen_ok, run_underlying Tryd.underlying145]
  generalize hm : Sem.run Tryd.prog (Array.mapM _ _) w = m
  obtain rfl : m = .ok (#[(0, 1), (1, 256), (257, 1)] : Array (Nat × Nat)) w := by rw [← hm]; kernel_rfl
  clear hm
  simp only [Result.andThen_ok]
  rw [show (Value.agg N).cells = N from rfl, hf _ rfl]
  rfl
set_option maxRecDepth 100000 in
/-- A node of a kind, of some others. -/
theorem run_build2 (k : Int) {v : Value} (hv : v.cells = #[v]) (w : World) : (Instr.build 145 #[(0, .int .i64 k), (2, v)]).run Tryd.prog w = .ok (.agg (nodeC k noSet v).toArray) w := by
  have hz := zero_node w
  have hf : ∀ pl : Nat → Option (Nat × Nat), pl 0 = some (0, 1) → pl 2 = some (257, 1) → Instr.fill pl (nodeC 0 noSet nilS).toArray [(0, .int .i64 k), (2, v)] = some (nodeC k noSet v).toArray := fun pl hpl hp2 => by
    unfold Instr.fill
    simp only [hpl]
    rw [show (Value.int IntKind.i64 k).cells = #[.int .i64 k] from rfl, if_neg (by simp [nodeC])]
    unfold Instr.fill
    simp only [hp2]
    rw [hv, if_neg (by simp [nodeC_len])]
    unfold Instr.fill
    congr 1
  unfold Instr.build
  generalize hN : (nodeC 0 noSet nilS).toArray = N at *
  simp only [Sem.run_bind, hz, Result.andThen_ok, run_underlying Tryd.underlying145]
  generalize hm : Sem.run Tryd.prog (Array.mapM _ _) w = m
  obtain rfl : m = .ok (#[(0, 1), (1, 256), (257, 1)] : Array (Nat × Nat)) w := by rw [← hm]; kernel_rfl
  clear hm
  simp only [Result.andThen_ok]
  rw [show (Value.agg N).cells = N from rfl, hf _ rfl rfl]
  rfl
/-- A node is laid into a row of its own. -/
theorem run_row_node (cs : List Value) (h : cs.length = 258) (w : World) : (Instr.buildSlice 143 1 #[(0, .agg cs.toArray)]).run Tryd.prog w = .ok (.slice (some ⟨w.heap.size, 0, none⟩) 1 1) (w.alloc (.cells cs.toArray 145)) := by
  obtain ⟨i0, hi, hz0, hz1, _⟩ := info_parts0 info_node
  refine run_buildSlice (P := Tryd.prog) w 143 145 1 _ cs.toArray i0 _ Tryd.underlying143 hi hz0 (by rw [hz1]; decide) (by rw [hz1]; decide) ?_
  rw [hz1]
  have := Great.fill_whole (s := 258) (by decide) [.agg cs.toArray] ((Array.range (1 * 258)).map ((Value.agg (nodeC 0 noSet nilS).toArray).cells[· % (Value.agg (nodeC 0 noSet nilS).toArray).cells.size]!)) (fun v hv => by
    simp at hv
    subst hv
    show cs.toArray.size = 258
    simpa using h) (by simp)
  refine Eq.trans this ?_
  simp [Value.cells]
theorem rw_setRow {w : World} {g : Nat} {t : TypeId} {cs ds : List Value} (h : Rw w g t cs) : Rw (w.setRow g ds.toArray) g t ds := by
  unfold Rw at *
  rw [setRow_heap w g _ _ t _ h]
theorem rw_setRow_ne {w : World} {g k : Nat} {t : TypeId} {cs : List Value} {ds : Array Value} (h : Rw w g t cs) (hk : g ≠ k) : Rw (w.setRow k ds) g t cs := by
  unfold Rw at *
  rw [setRow_other w k g _ hk]; exact h
theorem asd_setRow {S : Nat → Prop} {a w : World} {g : Nat} {ds : Array Value} (h : Asd S a w) (hg : S g ∨ a.heap.size ≤ g) : Asd S a (w.setRow g ds) :=
  ⟨h.os, h.tape, h.output, by rw [setRow_size]; exact h.size, fun k hk hn => by
    rw [setRow_other w g k _ (fun e => by subst e; rcases hg with q | q; exact hn q; omega)]; exact h.block k hk hn⟩
section
variable {P : Program} {ops : Array Oper} {rest : List Oper} {o : Oper} {a : Act} {w : World} {Q : Exit → Act → World → Prop}
theorem wpList_exec {v : Value} (h : (execOp a.eval o).run P w = .ok (.value v) w) (hg : o.guard = none) (hK : wpList P ops Q rest (a.put o.dst v) w) : wpList P ops Q (o :: rest) a w :=
  wpList_plain hg fun K' hK' => by
    unfold Oper.wp
    rw [h]
    exact hK' _ _ hK
end
section
variable {ops : Array Oper} {rest : List Oper} {o : Oper} {a : Act} {w : World} {Q : Exit → Act → World → Prop}
/-- A whole node is written. -/
theorem store_node (g : Nat) (old : List Value) (hr : Rw w g 145 old) (ho' : old.length = 258) (cs : List Value) (hn : cs.length = 258) (h1 : ∀ v ∈ cs, v.oneCell' = true) (x y : Operand) (hgd : o.guard = none) (ho : o.op = .store 145 x y)
    (hx : a.eval x = .pointer (some ⟨g, 0, none⟩)) (hy : a.eval y = .agg cs.toArray)
    (h : wpList Tryd.prog ops Q rest (a.put o.dst undef) (w.setRow g cs.toArray)) : wpList Tryd.prog ops Q (o :: rest) a w :=
  wpList_store_row hgd 145 x y ho g cs.toArray hx hy 145 old.toArray hr (by rw [size_node]; simp [hn]) (by simp [hn, ho']) (by rw [Array.all_eq_true_iff_forall_mem]; intro v hv; exact h1 v (by simpa using hv)) h
/-- A whole node is read. -/
theorem load_node (g : Nat) (cs : List Value) (hr : Rw w g 145 cs) (hn : cs.length = 258) (x : Operand) (hgd : o.guard = none) (ho : o.op = .load 145 x) (hx : a.eval x = .pointer (some ⟨g, 0, none⟩))
    (h : wpList Tryd.prog ops Q rest (a.put o.dst (.agg cs.toArray)) w) : wpList Tryd.prog ops Q (o :: rest) a w :=
  wpList_load_row hgd 145 x ho g hx 145 cs.toArray (0, 0) _ hr Tryd.underlying145 rfl (by rw [size_node]; simp [hn]) h
/-- A result that is a node. -/
theorem ret_node {fn : Func} {p : Tmp} {R : Ending → World → Prop} (g : Nat) (cs : List Value) (hr : Rw w g 145 cs) (hn : cs.length = 258)
    (hf : fn.results = #[.cell p 145]) (hd : a.defers = []) (hp : a.tmps.getD p undef = .pointer (some ⟨g, 0, none⟩)) (h : R (.returned (.agg cs.toArray)) w) : bodyPost Tryd.prog fn R .ret a w :=
  bodyPost_ret (v := .agg cs.toArray) (results_cell_row hf a.tmps w g 145 cs.toArray (0, 0) _ hp hr Tryd.underlying145 rfl (by rw [size_node]; simp [hn])) hd h
end
theorem exec_build0 {o : Oper} {a : Act} (Z : List Value) (hz : ∀ w, (zeroValue 145).run Tryd.prog w = .ok (.agg Z.toArray) w) (ho : o.op = .build 145 #[]) (w : World) : (execOp a.eval o).run Tryd.prog w = .ok (.value (.agg Z.toArray)) w := by
  unfold execOp
  simp only [ho, List.map_toArray, List.map_nil, Sem.run_bind, run_build0 Z hz, Result.andThen_ok, Sem.run_pure]
theorem exec_build1 {o : Oper} {a : Act} (k : Int) (x : Operand) (ho : o.op = .build 145 #[(0, x)]) (hx : a.eval x = .int .i64 k) (w : World) : (execOp a.eval o).run Tryd.prog w = .ok (.value (.agg (nodeC k noSet nilS).toArray)) w := by
  unfold execOp
  simp only [ho, List.map_toArray, List.map_cons, List.map_nil, hx, Sem.run_bind, run_build1, Result.andThen_ok, Sem.run_pure]
theorem exec_build2 {o : Oper} {a : Act} (k : Int) {v : Value} (hv : v.cells = #[v]) (x y : Operand) (ho : o.op = .build 145 #[(0, x), (2, y)]) (hx : a.eval x = .int .i64 k) (hy : a.eval y = v) (w : World) : (execOp a.eval o).run Tryd.prog w = .ok (.value (.agg (nodeC k noSet v).toArray)) w := by
  unfold execOp
  simp only [ho, List.map_toArray, List.map_cons, List.map_nil, hx, hy, Sem.run_bind, run_build2 k hv, Result.andThen_ok, Sem.run_pure]
/-- A node is laid into a row of its own. -/
theorem wp_row_node {o : Oper} {a : Act} {w : World} {K : Act → World → Prop} {Q : Exit → Act → World → Prop} (cs : List Value) (h : cs.length = 258) (x : Operand) (ho : o.op = .buildSlice 143 1 #[(0, x)]) (hx : a.eval x = .agg cs.toArray)
    (hK : K (a.put o.dst (.slice (some ⟨w.heap.size, 0, none⟩) 1 1)) (w.alloc (.cells cs.toArray 145))) : o.wp Tryd.prog a w K Q := by
  unfold Oper.wp execOp
  simp only [ho, List.map_toArray, List.map_cons, List.map_nil, hx, Sem.run_bind, run_row_node cs h, Result.andThen_ok, Sem.run_pure]
  exact hK
/-- A node is appended to a row that one owns. -/
theorem wp_own_node {o : Oper} {a : Act} {w : World} {K : Act → World → Prop} {Q : Exit → Act → World → Prop} (s x : Operand) (ho : o.op = .call { callee := .builtin .append, args := #[s, x], argTypes := #[143, 143] })
    (base : Nat) (v : Value) (css : List (List Value)) (hs : a.eval s = v) (hown : w.ownsRow base 145 258 v css.length css.flatten) (g : Nat) (news : List Value) (hx : a.eval x = .slice (some ⟨g, 0, none⟩) 1 1) (hl : news.length = 258) (hr : Rw w g 145 news) (h1 : ∀ u ∈ news, u.oneCell' = true)
    (hn : css.length ≤ 1000) (hbase : base ≤ w.heap.size)
    (h : ∀ v' w', w'.ownsRow base 145 258 v' (css ++ [news]).length (css ++ [news]).flatten → w.grownBy w' v.ownBlock → (v'.ownBlock = v.ownBlock ∨ v'.ownBlock = some w.heap.size) → K (a.put o.dst v') w') :
    o.wp Tryd.prog a w K Q := by
  obtain ⟨i0, hi, hz0, hz1, hz2⟩ := info_parts0 info_node
  refine wp_own_at s x 143 ho base 145 i0 _ 258 288 Tryd.underlying143 hi hz0 hz1 hz2 (by simp [Value.cells, nodeC_len]) (by decide) v css.length _ hs hown g news hx hl hr h1 (by unfold maxLen; omega) (by omega) hbase (fun v' w' a b c => h v' w' ?_ b c)
  rw [List.length_append, List.length_singleton, List.flatten_append, List.flatten_singleton]
  exact a
end Go.Proofs.YtknhkmlihbgjpaaDoor.Dn
/- A region that draws its order and whose last operation, number z, writes what an earlier one reads: those that look are taken first, in every world of a class that need not hold behind z, which waits for them. -/
namespace Go.Proofs.YtknhkmlihbgjpaaDoor.Dn
open Go

section
variable {P : Program} {ops : Array Oper} {Q : Exit → Act → World → Prop} {md : Region.Mode} {S : World → Prop} {z : Nat}
/-- Whatever comes up, S holds behind it, but for number z. -/
def anyZ (P : Program) (md : Region.Mode) (ops : Array Oper) (Q : Exit → Act → World → Prop) (S : World → Prop) (z : Nat) : Nat → Array Bool → Act → World → Prop
  | 0, L, a, w => Region.ready md ops L = [] ∧ Q .normal a w
  | n + 1, L, a, w => (Region.ready md ops L = [] → Q .normal a w) ∧
    ∀ i ∈ Region.ready md ops L, wpOp P ops Q i (fun a' w' => (i ≠ z → S w') ∧ anyZ P md ops Q S z n (L.setIfInBounds i true) a' w') a w
theorem any_of_z : ∀ (n : Nat) (L : Array Bool) (a : Act) (w : World), anyZ P md ops Q S z n L a w → wpAny P md ops Q n L a w
  | 0, _, _, _, h => h
  | n + 1, _, _, _, h => ⟨h.1, fun i hi => wpOp_mono (fun a' w' q => any_of_z n _ a' w' q.2) (h.2 i hi)⟩
theorem z_begin {id : Nat} {a : Act} {w : World} (z : Nat) (S : World → Prop) (hm : P.follows .mixedOrders = true) (h : anyZ P .any ops Q S z ops.size (Array.replicate ops.size false) a { w with drawn := w.drawn + 1 }) : (Code.region id ops true).wp P Q a w :=
  wp_region_any hm (any_of_z _ _ _ _ h)
/-- z waits for number i. -/
def waitsB (md : Region.Mode) (ops : Array Oper) (z i : Nat) : Bool := match ops[z]? with
  | some o => o.after.any fun e => Region.binds md e && e.on == i
  | none => true
theorem z_first {i : Nat} {oi : Oper} {v : Value} (hi : ops[i]? = some oi) (hs : Region.noSelect ops = true) (hQ : ∀ c a w, Q (.panic c) (a.put oi.dst v) w → Q (.panic c) a w) (hz : waitsB md ops z i = true) :
    ∀ (n : Nat) (L : Array Bool) (a : Act) (w : World), (∀ j oj, ops[j]? = some oj → j ≠ i → L.getD j true = false → (∀ e ∈ oj.after, Region.binds md e = true → e.on ≠ i) → oi.apart ops oj = true) →
      i ∈ Region.ready md ops L → YieldsIf P ops S oi v a → S w → anyZ P md ops Q S z n (L.setIfInBounds i true) (a.put oi.dst v) w → anyZ P md ops Q S z (n + 1) L a w := by
  intro n
  induction n with
  | zero =>
    intro L a w _ hr hy hS H
    refine ⟨fun h => (by rw [h] at hr; cases hr), fun j hj => ?_⟩
    by_cases hji : j = i
    · subst hji; exact hy.wpOp hi hS ⟨fun _ => hS, H⟩
    · have := ready_mono hj hji
      rw [H.1] at this
      cases this
  | succ n ih =>
    intro L a w hf hr hy hS H
    refine ⟨fun h => (by rw [h] at hr; cases hr), fun j hj => ?_⟩
    by_cases hji : j = i
    · subst hji; exact hy.wpOp hi hS ⟨fun _ => hS, H⟩
    · have h1 := H.2 j (ready_mono hj hji)
      obtain ⟨hjun, oj, hoj, hall⟩ := mem_ready.1 hj
      have hnot : ∀ e ∈ oj.after, Region.binds md e = true → e.on ≠ i := fun e he hb q => by
        have h1 := hall e he hb
        have h0 := (mem_ready.1 hr).1
        rw [q] at h1
        rcases Nat.lt_or_ge i L.size with h' | h'
        · simp [h'] at h0 h1; rw [h0] at h1; cases h1
        · simp [Array.getElem?_eq_none h'] at h1
      have hjz : j ≠ z := by
        rintro rfl
        unfold waitsB at hz
        rw [hoj] at hz
        obtain ⟨e, he, hb⟩ := Array.any_eq_true'.1 hz
        simp only [Bool.and_eq_true, beq_iff_eq] at hb
        exact hnot e he hb.1 hb.2
      have h2 := wpOp_putIf hoj (hf j oj hoj hji hjun hnot) (fun cs b => Region.noSelect_spec hs i oi cs b hi) (fun cs b => Region.noSelect_spec hs j oj cs b hoj) hQ hy h1
      have hf' : ∀ k ok, ops[k]? = some ok → k ≠ i → (L.setIfInBounds j true).getD k true = false → (∀ e ∈ ok.after, Region.binds md e = true → e.on ≠ i) → oi.apart ops ok = true := fun k ok hk hki hun hno => by
        refine hf k ok hk hki ?_ hno
        by_cases hjk : j = k
        · subst hjk; exact hjun
        · rw [getD_set_ne true hjk] at hun; exact hun
      refine wpOp_mono (fun a' w' q => ⟨q.2.1, ih (L.setIfInBounds j true) a' w' hf' (ready_mono hr (Ne.symm hji)) q.1 (q.2.1 hjz) ?_⟩) h2
      rw [Array.setIfInBounds_comm _ _ hji]
      exact q.2.2
end
section
variable {P : Program} {md : Region.Mode} {l tl : List Oper} {Q : Exit → Act → World → Prop} {S : World → Prop} {z n : Nat} {L : Array Bool} {a : Act} {w : World}
/-- One that looks. -/
theorem z_val (i : Nat) {o : Oper} (hi : l.drop i = o :: tl) (hs : Region.noSelect l.toArray = true) (hf : Region.free md l.toArray L i = true) (hr : (Region.ready md l.toArray L).contains i = true) (hz : waitsB md l.toArray z i = true)
    (hQ : ∀ c v a w, Q (.panic c) (a.put o.dst v) w → Q (.panic c) a w) (hw : Region.wanted o (yielded l.toArray a.tmps) = true) (hS : S w)
    (h : ∃ v, (∀ w, S w → (execOp a.eval o).run P w = .ok (.value v) w) ∧ anyZ P md l.toArray Q S z n (L.setIfInBounds i true) (a.put o.dst v) w) : anyZ P md l.toArray Q S z (n + 1) L a w := by
  obtain ⟨v, h1, h2⟩ := h
  exact z_first (at_drop hi) hs (fun c a w => hQ c v a w) hz n L a w (Region.free_spec (at_drop hi) hf) (by simpa using hr) (.inl ⟨hw, h1⟩) hS h2
/-- The only one that may come up now. -/
theorem z_one (i : Nat) {o : Oper} (hr : Region.ready md l.toArray L = [i]) (hi : l.drop i = o :: tl) (hw : Region.wanted o (yielded l.toArray a.tmps) = true)
    (h : o.wp P a w (fun a' w' => (i ≠ z → S w') ∧ anyZ P md l.toArray Q S z n (L.setIfInBounds i true) a' w') Q) : anyZ P md l.toArray Q S z (n + 1) L a w := by
  refine ⟨fun h0 => (by rw [h0] at hr; cases hr), fun j hj => ?_⟩
  rw [hr] at hj
  obtain rfl := List.mem_singleton.1 hj
  unfold wpOp
  simp only [at_drop hi, hw, if_true]
  exact .inl h
/-- The same, one that looks. -/
theorem z_now (i : Nat) {o : Oper} (hr : Region.ready md l.toArray L = [i]) (hi : l.drop i = o :: tl) (hw : Region.wanted o (yielded l.toArray a.tmps) = true) (hS : S w)
    (h : ∃ v, (execOp a.eval o).run P w = .ok (.value v) w ∧ anyZ P md l.toArray Q S z n (L.setIfInBounds i true) (a.put o.dst v) w) : anyZ P md l.toArray Q S z (n + 1) L a w := by
  obtain ⟨v, h1, h2⟩ := h
  refine z_one i hr hi hw ?_
  unfold Oper.wp
  rw [h1]
  exact ⟨fun _ => hS, h2⟩
/-- The same, a call. -/
theorem z_call (i : Nat) {o : Oper} (hr : Region.ready md l.toArray L = [i]) (hi : l.drop i = o :: tl) (hw : Region.wanted o (yielded l.toArray a.tmps) = true)
    (h : ∃ f args, (execOp a.eval o).run P w = .ok (.enter f args) w ∧ Calls P f args w fun e w' => ∃ v, e = .returned v ∧ S w' ∧ anyZ P md l.toArray Q S z n (L.setIfInBounds i true) (a.put o.dst v) w') : anyZ P md l.toArray Q S z (n + 1) L a w := by
  obtain ⟨f, args, h1, h2⟩ := h
  refine z_one i hr hi hw ?_
  unfold Oper.wp
  rw [h1]
  simp only [Oper.upon]
  exact h2.mono fun e w' ⟨v, he, h3, h4⟩ => by subst he; exact ⟨fun _ => h3, h4⟩
/-- The same, one that writes. -/
theorem z_store (i : Nat) {o : Oper} (hr : Region.ready md l.toArray L = [i]) (hi : l.drop i = o :: tl) (hw : Region.wanted o (yielded l.toArray a.tmps) = true)
    (h : ∃ w', (execOp a.eval o).run P w = .ok .skip w' ∧ (i ≠ z → S w') ∧ anyZ P md l.toArray Q S z n (L.setIfInBounds i true) (a.put o.dst undef) w') : anyZ P md l.toArray Q S z (n + 1) L a w := by
  obtain ⟨w', h1, h2⟩ := h
  refine z_one i hr hi hw ?_
  unfold Oper.wp
  rw [h1]
  exact h2
theorem z_done (hr : Region.ready md l.toArray L = []) (h : Q .normal a w) : ∀ n, anyZ P md l.toArray Q S z n L a w
  | 0 => ⟨hr, h⟩
  | _ + 1 => ⟨fun _ => h, by rw [hr]; simp⟩
end
end Go.Proofs.YtknhkmlihbgjpaaDoor.Dn
/- Trees of the document's patterns, plain and in memory; a row of kids under way. -/
namespace Go.Proofs.YtknhkmlihbgjpaaDoor.Dn
open Go.ChangeShapes Go.WideShapes Go.RowKit

/-- A node. -/
inductive T
  | mk (k : Int) (p : UInt8 → Bool) (kids : List T)
mutual
def treeR : Re → T
  | .set p => .mk 0 p []
  | .grp a => .mk 1 noSet (kidsA a)
  | .star r => .mk 3 noSet [treeR r]
  | .plus r => .mk 4 noSet [treeR r]
  | .opt r => .mk 5 noSet [treeR r]
def kidsA : Al → List T
  | .one q => [.mk 2 noSet (kidsS q)]
  | .more q a => .mk 2 noSet (kidsS q) :: kidsA a
def kidsS : Sq → List T
  | .nil => []
  | .cons r q => treeR r :: kidsS q
end
def treeA (a : Al) : T := .mk 1 noSet (kidsA a)
def treeS (q : Sq) : T := .mk 2 noSet (kidsS q)
/-- A node's cells are the tree's, at most d deep, its rows in blocks of P. -/
def TAt (P : Nat → Prop) (w : World) : Nat → List Value → T → Prop
  | 0, _, _ => False
  | d + 1, cs, .mk k p kids => ∃ v css, cs = nodeC k p v ∧ RowsAt 258 P w v css ∧ css.length = kids.length ∧ ∀ (i : Nat) c t, css[i]? = some c → kids[i]? = some t → TAt P w d c t
theorem rows_one {k : Nat} {P : Nat → Prop} {w : World} {v : Value} {css : List (List Value)} (h : RowsAt k P w v css) : v.oneCell' = true := by
  obtain ⟨a, c, rfl⟩ := h.shape
  rfl
section
variable {P P' S : Nat → Prop} {w w' : World} {d : Nat} {cs : List Value} {t : T}
theorem TAt.keep (h : TAt P w d cs t) (q : Asd S w w') (hd : ∀ i, P i → i < w.heap.size → ¬ S i) : TAt P w' d cs t := by
  induction d generalizing cs t with
  | zero => exact h
  | succ d ih =>
    obtain ⟨k, p, kids⟩ := t
    obtain ⟨v, css, e, hr, hl, hk⟩ := h
    exact ⟨v, css, e, hr.keepN q hd, hl, fun i c t h1 h2 => ih (hk i c t h1 h2)⟩
theorem TAt.stay (h : TAt P w d cs t) (q : Below w.heap.size w w') : TAt P w' d cs t := h.keep (S := fun _ => False) (Asd.of_below q) (fun _ _ _ e => e)
theorem TAt.mono (h : TAt P w d cs t) (hp : ∀ i, P i → i < w.heap.size → P' i) : TAt P' w d cs t := by
  induction d generalizing cs t with
  | zero => exact h
  | succ d ih =>
    obtain ⟨k, p, kids⟩ := t
    obtain ⟨v, css, e, hr, hl, hk⟩ := h
    exact ⟨v, css, e, hr.mono hp, hl, fun i c t h1 h2 => ih (hk i c t h1 h2)⟩
theorem TAt.up (h : TAt P w d cs t) : TAt P w (d + 1) cs t := by
  induction d generalizing cs t with
  | zero => exact h.elim
  | succ d ih =>
    obtain ⟨k, p, kids⟩ := t
    obtain ⟨v, css, e, hr, hl, hk⟩ := h
    exact ⟨v, css, e, hr, hl, fun i c t h1 h2 => ih (hk i c t h1 h2)⟩
theorem TAt.le {d' : Nat} (h : TAt P w d cs t) (hd : d ≤ d') : TAt P w d' cs t := by
  obtain ⟨k, rfl⟩ : ∃ k, d' = d + k := ⟨d' - d, by omega⟩
  clear hd
  induction k with
  | zero => exact h
  | succ k ih => exact ih.up
theorem TAt.node (h : TAt P w d cs t) : cs.length = 258 ∧ ∀ u ∈ cs, u.oneCell' = true := by
  cases d with
  | zero => exact h.elim
  | succ d =>
    obtain ⟨k, p, kids⟩ := t
    obtain ⟨v, css, rfl, hr, _⟩ := h
    exact ⟨nodeC_len _ _ _, nodeC_one _ _ (rows_one hr)⟩
theorem TAt.leaf (P : Nat → Prop) (w : World) (d : Nat) (k : Int) (p : UInt8 → Bool) : TAt P w (d + 1) (nodeC k p nilS) (.mk k p []) :=
  ⟨nilS, [], rfl, RowsAt.nil 258 P w none 0, rfl, fun i c t h _ => by cases h⟩
/-- A node of one other. -/
theorem TAt.over {g : Nat} (h : TAt P w d cs t) (hr : Rw w g 145 cs) (hg : P g) (k : Int) : TAt P w (d + 1) (nodeC k noSet (.slice (some ⟨g, 0, none⟩) 1 1)) (.mk k noSet [t]) := by
  refine ⟨_, [cs], rfl, .inr ⟨g, 0, 1, rfl, Nat.le_refl _, hg, Rw.lt hr, fun j c hj i u hi => ?_⟩, rfl, fun i c t' h1 h2 => ?_⟩
  · cases j with
    | zero =>
      simp at hj
      subst hj
      have := Rw.cell hr i
      rw [hi] at this
      simpa using this
    | succ j => simp at hj
  · cases i with
    | zero =>
      simp at h1 h2
      subst h1 h2
      exact h
    | succ i => simp at h1
end
/-- A node under way in block V: what kids it has so far, each in a row of its own. -/
structure Kc (V : Nat) (k : Int) (v : Value) (css : List (List Value)) (w : World) : Prop where
  row : Rw w V 145 (nodeC k noSet v)
  own : w.ownsRow (V + 1) 145 258 v css.length css.flatten
  each : ∀ c ∈ css, c.length = 258
  one : v.oneCell' = true
/-- Those kids are trees: B: where their blocks begin. -/
structure Kt (B V d : Nat) (v : Value) (css : List (List Value)) (ts : List T) (w : World) : Prop where
  len : css.length = ts.length
  each : ∀ (i : Nat) c t, css[i]? = some c → ts[i]? = some t → TAt (fun j => B ≤ j ∧ j ≠ V ∧ v.ownBlock ≠ some j) w d c t
section
variable {B V d : Nat} {k : Int} {v v' : Value} {css : List (List Value)} {ts : List T} {w w' w'' : World} {S : Nat → Prop}
theorem Kc.keep (h : Kc V k v css w) (q : Asd S w w') (hs : ∀ i, S i → i < V) : Kc V k v css w' :=
  ⟨h.row.keep q (fun e => by have := hs V e; omega), own_asdS h.own q (fun i e hi => by have := hs i hi; have := (h.own.lt i e).1; omega), h.each, h.one⟩
theorem Kt.keep (h : Kt B V d v css ts w) (q : Asd S w w') (hs : ∀ i, S i → i < B) : Kt B V d v css ts w' :=
  ⟨h.len, fun i c t h1 h2 => (h.each i c t h1 h2).keep q (fun j hj _ e => by have := hs j e; have := hj.1; omega)⟩
theorem Kc.stay (h : Kc V k v css w) (q : Below w.heap.size w w') : Kc V k v css w' := h.keep (S := fun _ => False) (Asd.of_below q) (fun _ e => e.elim)
theorem Kt.stay (h : Kt B V d v css ts w) (q : Below w.heap.size w w') : Kt B V d v css ts w' := h.keep (S := fun _ => False) (Asd.of_below q) (fun _ e => e.elim)
theorem Kc.start (h : Rw w V 145 (nodeC k noSet nilS)) : Kc V k nilS [] w := ⟨h, ⟨by simp, .inl ⟨rfl, rfl⟩⟩, fun c h => (by cases h), rfl⟩
theorem Kt.start (B V d : Nat) (w : World) : Kt B V d nilS [] [] w := ⟨rfl, fun i c t h _ => (by cases h)⟩
/-- One kid more: w': behind the append; then the slice is stored. -/
theorem Kc.add {cs : List Value} (h : Kc V k v css w) (hg : w.grownBy w' v.ownBlock) (hown : w'.ownsRow (V + 1) 145 258 v' (css.length + 1) (css.flatten ++ cs)) (hl : cs.length = 258) (h1 : v'.oneCell' = true) : Kc V k v' (css ++ [cs]) (w'.setCell ⟨V, 257, none⟩ v') := by
  refine ⟨?_, by rw [List.length_append, List.length_singleton, List.flatten_append, List.flatten_singleton]; exact ownsRow_setCell_below hown (Nat.lt_succ_self V) _, fun c hc => ?_, h1⟩
  · have r := (h.row.grown hg (fun e => by have := (h.own.lt V e).1; omega)).setCell 257 v'
    rw [nodeC_putKids] at r
    exact r
  · rcases List.mem_append.1 hc with hc | hc
    · exact h.each c hc
    · rw [List.mem_singleton.1 hc]; exact hl
theorem Kt.add {cs : List Value} {t : T} (h : Kt B V d v css ts w) (ht : TAt (fun j => B ≤ j ∧ j ≠ V ∧ v.ownBlock ≠ some j) w d cs t) (hg : w.grownBy w' v.ownBlock) (hl : v'.ownBlock = v.ownBlock ∨ v'.ownBlock = some w.heap.size) :
    Kt B V d v' (css ++ [cs]) (ts ++ [t]) (w'.setCell ⟨V, 257, none⟩ v') := by
  have q : Asd (fun j => v.ownBlock = some j ∨ j = V) w (w'.setCell ⟨V, 257, none⟩ v') :=
    (((Asd.refl (fun j => v.ownBlock = some j) w).grown hg (fun k e => .inl e)).any (fun i e => .inl e)).setCell (p := ⟨V, 257, none⟩) (.inl (.inr rfl)) _
  have go : ∀ {c : List Value} {t : T}, TAt (fun j => B ≤ j ∧ j ≠ V ∧ v.ownBlock ≠ some j) w d c t → TAt (fun j => B ≤ j ∧ j ≠ V ∧ v'.ownBlock ≠ some j) (w'.setCell ⟨V, 257, none⟩ v') d c t := fun {c t} a => by
    have a2 := a.mono (P' := fun j => (B ≤ j ∧ j ≠ V ∧ v.ownBlock ≠ some j) ∧ v'.ownBlock ≠ some j) (fun j hj hlt => ⟨hj, fun e => by
      rcases hl with hl | hl
      · exact hj.2.2 (hl ▸ e)
      · rw [hl] at e; injection e with e; omega⟩)
    refine (a2.keep q (fun j hj _ hs => ?_)).mono (fun j hj _ => ⟨hj.1.1, hj.1.2.1, hj.2⟩)
    rcases hs with hs | hs
    · exact hj.1.2.2 hs
    · exact hj.1.2.1 hs
  refine ⟨by simp [h.len], fun i c t' h1 h2 => ?_⟩
  by_cases hlt : i < css.length
  · rw [List.getElem?_append_left hlt] at h1
    rw [List.getElem?_append_left (by rw [← h.len]; exact hlt)] at h2
    exact go (h.each i c t' h1 h2)
  · rw [List.getElem?_append_right (by omega)] at h1
    rw [List.getElem?_append_right (by rw [← h.len]; omega)] at h2
    rw [← h.len] at h2
    cases hi : i - css.length with
    | zero =>
      rw [hi] at h1 h2
      simp at h1 h2
      subst h1 h2
      exact go ht
    | succ j => rw [hi] at h1; simp at h1
/-- The whole node. -/
theorem Kt.whole (hB : B ≤ V + 1) (h : Kt B V d v css ts w) (hc : Kc V k v css w) : TAt (fun j => B ≤ j) w (d + 1) (nodeC k noSet v) (.mk k noSet ts) :=
  ⟨v, css, rfl, (own_rows hc.own hc.each).mono (fun j hj _ => by have := (hc.own.lt j hj).1; omega), h.len, fun i c t h1 h2 => (h.each i c t h1 h2).mono (fun j hj _ => hj.1)⟩
end
end Go.Proofs.YtknhkmlihbgjpaaDoor.Dn
/- The document's pattern reader: its memory; next, fail. -/
namespace Go.Proofs.YtknhkmlihbgjpaaDoor.Dn
open Go.ChangeShapes Go.WideShapes Go.RowKit

/-- The document's reader: its text, how far it is read, the first error. -/
def Rd (w : World) (R : Nat) (s : Bs) (K : Nat) (E : Int) : Prop := Rw w R 163 [sv s, .int .i64 (K : Int), .int .i64 E]
section
variable {w w' : World} {R K : Nat} {s : Bs} {E : Int}
theorem Rd.text (h : Rd w R s K E) : w.cell? ⟨R, 0, none⟩ = some (.string ⟨s.toArray⟩) := Rw.cell h 0
theorem Rd.pos (h : Rd w R s K E) : w.cell? ⟨R, 1, none⟩ = some (.int .i64 (K : Int)) := Rw.cell h 1
theorem Rd.err (h : Rd w R s K E) : w.cell? ⟨R, 2, none⟩ = some (.int .i64 E) := Rw.cell h 2
theorem Rd.go (h : Rd w R s K E) (K' : Nat) : Rd (w.setCell ⟨R, 1, none⟩ (.int .i64 (K' : Int))) R s K' E := Rw.setCell h 1 _
theorem Rd.mark (h : Rd w R s K E) (E' : Int) : Rd (w.setCell ⟨R, 2, none⟩ (.int .i64 E')) R s K E' := Rw.setCell h 2 _
theorem Rd.stay (h : Rd w R s K E) (k : Below w.heap.size w w') : Rd w' R s K E := Rw.stay h k
theorem Rd.keep {S : Nat → Prop} (h : Rd w R s K E) (k : Asd S w w') (hs : ¬ S R) : Rd w' R s K E := Rw.keep h k hs
end
/-- What stands next. -/
def nextN (s : Bs) (K : Nat) (E : Int) : Option UInt8 := if E = 0 then s[K]? else none
def nextV : Option UInt8 → Value
  | none => .tuple #[.int .u8 0, .bool false]
  | some c => .tuple #[.int .u8 (c.toNat : Int), .bool true]
set_option maxHeartbeats 1600000 in
set_option maxRecDepth 100000 in
theorem next_any (R : Nat) (s : Bs) (K : Nat) (E : Int) (w : World) (h : Rd w R s K E) :
    Calls Tryd.prog 113 #[.pointer (some ⟨R, 0, none⟩)] w fun e w' => e = .returned (nextV (nextN s K E)) ∧ Below w.heap.size w w' := by
  have c0 := h.text
  have c1 := h.pos
  have c2 := h.err
  have hs : (⟨s.toArray⟩ : ByteArray).size = s.length := by simp [ByteArray.size]
  unfold nextN
  by_cases hE : E = 0
  · subst hE
    rw [if_pos rfl]
    by_cases hk : K < s.length
    · obtain ⟨c, hc⟩ : ∃ c, s[K]? = some c := ⟨_, List.getElem?_eq_getElem hk⟩
      rw [hc]
      have hi := at_text s K c hc (K : Int) rfl
      have hl : ¬ (s.length : Int) ≤ (K : Int) := by omega
      clear hc h
      generalize (⟨s.toArray⟩ : ByteArray) = X at *
      generalize s.length = n at *
      go_enter Tryd.func113, Tryd.ntmps113
      go_upto_region 1 with fail
      try simp only [List.append_eq, List.cons_append, List.nil_append]
      refine region_class (fun w' => Below w.heap.size w w' ∧ w'.cell? ⟨R, 0, none⟩ = some (.string X) ∧ w'.cell? ⟨R, 1, none⟩ = some (.int .i64 (K : Int)) ∧ w'.cell? ⟨R, 2, none⟩ = some (.int .i64 0)) (by kernel_rfl) (by kernel_rfl) (⟨(Below.refl _ _).drew, c0, c1, c2⟩) ?_
      repeat
        first
        | go_big_quiet_skip
        | (go_big_quiet_want
           refine quiet_val ?_
           apply Exists.intro
           refine ⟨fun w' hw' => ?_, ?_⟩
           · obtain ⟨_, e0, e1, e2⟩ := hw'
             go_simp
             first | done | rfl | exact ⟨rfl, rfl⟩
           simp only [Act.put, List.setIfInBounds_toArray, List.set_cons_zero, List.set_cons_succ]
           go_big_quiet_on)
        | (go_big_quiet_want
           refine quiet_call ?_
           apply Exists.intro
           apply Exists.intro
           refine ⟨fun w' => ?_, ?_⟩
           · go_simp
             first | done | rfl | exact ⟨rfl, rfl⟩
           apply Exists.intro
           refine ⟨fun w' hw' => ?_, ?_⟩
           · first
             | fail
           simp only [Act.put, List.setIfInBounds_toArray, List.set_cons_zero, List.set_cons_succ]
           go_big_quiet_on)
      refine wpQuiet_nil ?_
      intro w5 hw5
      obtain ⟨hb, c3, c4, c5⟩ := hw5
      clear c0 c1 c2
      go_upto_region 3 with fail
      try simp only [List.append_eq, List.cons_append, List.nil_append]
      refine region_class (fun w' => Below w.heap.size w w' ∧ w'.cell? ⟨R, 0, none⟩ = some (.string X) ∧ w'.cell? ⟨R, 1, none⟩ = some (.int .i64 (K : Int))) (by kernel_rfl) (by kernel_rfl) (⟨hb.drew, c3, c4⟩) ?_
      repeat
        first
        | go_big_quiet_skip
        | (go_big_quiet_want
           refine quiet_val ?_
           apply Exists.intro
           refine ⟨fun w' hw' => ?_, ?_⟩
           · obtain ⟨_, e0, e1⟩ := hw'
             go_simp
             first | done | rfl | exact ⟨rfl, rfl⟩
           simp only [Act.put, List.setIfInBounds_toArray, List.set_cons_zero, List.set_cons_succ]
           go_big_quiet_on)
        | (go_big_quiet_want
           refine quiet_call ?_
           apply Exists.intro
           apply Exists.intro
           refine ⟨fun w' => ?_, ?_⟩
           · go_simp
             first | done | rfl | exact ⟨rfl, rfl⟩
           apply Exists.intro
           refine ⟨fun w' hw' => ?_, ?_⟩
           · first
             | fail
           simp only [Act.put, List.setIfInBounds_toArray, List.set_cons_zero, List.set_cons_succ]
           go_big_quiet_on)
      refine wpQuiet_nil ?_
      intro w5 hw5
      have hb2 := hw5.1
      go_wp2_with fail
      refine bodyPost_ret (results_tmp2 rfl _ _ _) rfl ?_
      exact ⟨rfl, hb2⟩
    · rw [List.getElem?_eq_none (by omega)]
      have hl : (s.length : Int) ≤ (K : Int) := by omega
      clear h
      generalize (⟨s.toArray⟩ : ByteArray) = X at *
      generalize s.length = n at *
      go_enter Tryd.func113, Tryd.ntmps113
      go_upto_region 1 with fail
      try simp only [List.append_eq, List.cons_append, List.nil_append]
      refine region_class (fun w' => Below w.heap.size w w' ∧ w'.cell? ⟨R, 0, none⟩ = some (.string X) ∧ w'.cell? ⟨R, 1, none⟩ = some (.int .i64 (K : Int)) ∧ w'.cell? ⟨R, 2, none⟩ = some (.int .i64 0)) (by kernel_rfl) (by kernel_rfl) (⟨(Below.refl _ _).drew, c0, c1, c2⟩) ?_
      repeat
        first
        | go_big_quiet_skip
        | (go_big_quiet_want
           refine quiet_val ?_
           apply Exists.intro
           refine ⟨fun w' hw' => ?_, ?_⟩
           · obtain ⟨_, e0, e1, e2⟩ := hw'
             go_simp
             first | done | rfl | exact ⟨rfl, rfl⟩
           simp only [Act.put, List.setIfInBounds_toArray, List.set_cons_zero, List.set_cons_succ]
           go_big_quiet_on)
        | (go_big_quiet_want
           refine quiet_call ?_
           apply Exists.intro
           apply Exists.intro
           refine ⟨fun w' => ?_, ?_⟩
           · go_simp
             first | done | rfl | exact ⟨rfl, rfl⟩
           apply Exists.intro
           refine ⟨fun w' hw' => ?_, ?_⟩
           · first
             | fail
           simp only [Act.put, List.setIfInBounds_toArray, List.set_cons_zero, List.set_cons_succ]
           go_big_quiet_on)
      refine wpQuiet_nil ?_
      intro w5 hw5
      have hb := hw5.1
      go_wp2_with fail
      refine bodyPost_ret (results_tmp2 rfl _ _ _) rfl ?_
      exact ⟨rfl, hb⟩
  · rw [if_neg hE]
    have he2 : (E == 0) = false := by rw [beq_eq_false_iff_ne]; exact hE
    have he3 : (E != 0) = true := by simp [bne, he2]
    clear h c0 c1 hs
    go_enter Tryd.func113, Tryd.ntmps113
    go_upto_region 1 with fail
    try simp only [List.append_eq, List.cons_append, List.nil_append]
    refine region_class (fun w' => Below w.heap.size w w' ∧ w'.cell? ⟨R, 2, none⟩ = some (.int .i64 E)) (by kernel_rfl) (by kernel_rfl) (⟨(Below.refl _ _).drew, c2⟩) ?_
    repeat
      first
      | go_big_quiet_skip
      | (go_big_quiet_want
         refine quiet_val ?_
         apply Exists.intro
         refine ⟨fun w' hw' => ?_, ?_⟩
         · obtain ⟨_, e2⟩ := hw'
           go_simp
           first | done | rfl | exact ⟨rfl, rfl⟩
         simp only [Act.put, List.setIfInBounds_toArray, List.set_cons_zero, List.set_cons_succ]
         go_big_quiet_on)
      | (go_big_quiet_want
         refine quiet_call ?_
         apply Exists.intro
         apply Exists.intro
         refine ⟨fun w' => ?_, ?_⟩
         · go_simp
           first | done | rfl | exact ⟨rfl, rfl⟩
         apply Exists.intro
         refine ⟨fun w' hw' => ?_, ?_⟩
         · first
           | fail
         simp only [Act.put, List.setIfInBounds_toArray, List.set_cons_zero, List.set_cons_succ]
         go_big_quiet_on)
    refine wpQuiet_nil ?_
    intro w5 hw5
    have hb := hw5.1
    go_wp2_with fail
    refine bodyPost_ret (results_tmp2 rfl _ _ _) rfl ?_
    exact ⟨rfl, hb⟩
set_option maxHeartbeats 800000 in
theorem fail_any (R K : Nat) (s : Bs) (E x : Int) (w : World) (h : Rd w R s K E) :
    Calls Tryd.prog 106 #[.pointer (some ⟨R, 0, none⟩), .int .i64 x] w fun r w' => r = .returned (.tuple #[]) ∧ Rd w' R s K (if E = 0 then x else E) ∧ Asd (· = R) w w' := by
  have c2 := h.err
  have f2 := Rw.frozen h 2
  by_cases he : E = 0
  · subst he
    have h2 := h.mark x
    go_enter Tryd.func106, Tryd.ntmps106
    go_wp2_with fail
    go_end0
    exact ⟨rfl, by first | exact h2 | (rw [if_pos rfl]; exact h2), Asd.one _ _ _ _⟩
  · have he2 : (E == 0) = false := by rw [beq_eq_false_iff_ne]; exact he
    have h9 := h
    go_enter Tryd.func106, Tryd.ntmps106
    go_wp2_with fail
    go_end0
    exact ⟨rfl, by first | exact h9 | (rw [if_neg he]; exact h9), Asd.refl _ _⟩
end Go.Proofs.YtknhkmlihbgjpaaDoor.Dn
/- The document's pattern reader: sign. -/
namespace Go.Proofs.YtknhkmlihbgjpaaDoor.Dn
open Go.ChangeShapes Go.WideShapes Go.RowKit

theorem drop_cons {s r : Bs} {K : Nat} {c : UInt8} (h : s.drop K = c :: r) : s[K]? = some c ∧ s.drop (K + 1) = r ∧ K < s.length ∧ r.length + K + 1 = s.length := by
  have hl := congrArg List.length h
  rw [List.length_drop, List.length_cons] at hl
  have hk : K < s.length := by omega
  rw [List.drop_eq_getElem_cons hk] at h
  injection h with h1 h2
  exact ⟨by rw [List.getElem?_eq_getElem hk, h1], h2, hk, by omega⟩
theorem drop_none {s : Bs} {K : Nat} (h : s.drop K = []) : s.length ≤ K := by
  have hl := congrArg List.length h
  rw [List.length_drop, List.length_nil] at hl
  omega
theorem next_hit {R K : Nat} {s r : Bs} {c : UInt8} (hl : s.drop K = c :: r) (w : World) (h : Rd w R s K 0) :
    Calls Tryd.prog 113 #[.pointer (some ⟨R, 0, none⟩)] w fun e w' => e = .returned (.tuple #[.int .u8 (c.toNat : Int), .bool true]) ∧ Below w.heap.size w w' := by
  have := next_any R s K 0 w h
  unfold nextN at this
  rw [if_pos rfl, (drop_cons hl).1] at this
  exact this
theorem next_end {R K : Nat} {s : Bs} (hl : s.drop K = []) (w : World) (h : Rd w R s K 0) :
    Calls Tryd.prog 113 #[.pointer (some ⟨R, 0, none⟩)] w fun e w' => e = .returned (.tuple #[.int .u8 0, .bool false]) ∧ Below w.heap.size w w' := by
  have := next_any R s K 0 w h
  unfold nextN at this
  rw [if_pos rfl, List.getElem?_eq_none (drop_none hl)] at this
  exact this
theorem next_err {R K : Nat} {s : Bs} {E : Int} (hE : E ≠ 0) (w : World) (h : Rd w R s K E) :
    Calls Tryd.prog 113 #[.pointer (some ⟨R, 0, none⟩)] w fun e w' => e = .returned (.tuple #[.int .u8 0, .bool false]) ∧ Below w.heap.size w w' := by
  have := next_any R s K E w h
  unfold nextN at this
  rw [if_neg hE] at this
  exact this
theorem fail_new {R K : Nat} {s : Bs} (x : Int) (w : World) (h : Rd w R s K 0) :
    Calls Tryd.prog 106 #[.pointer (some ⟨R, 0, none⟩), .int .i64 x] w fun r w' => r = .returned (.tuple #[]) ∧ Rd w' R s K x ∧ Asd (· = R) w w' := by
  have := fail_any R K s 0 x w h
  rw [if_pos rfl] at this
  exact this
theorem fail_old {R K : Nat} {s : Bs} {E : Int} (hE : E ≠ 0) (x : Int) (w : World) (h : Rd w R s K E) :
    Calls Tryd.prog 106 #[.pointer (some ⟨R, 0, none⟩), .int .i64 x] w fun r w' => r = .returned (.tuple #[]) ∧ Rd w' R s K E ∧ Asd (· = R) w w' := by
  have := fail_any R K s E x w h
  rw [if_neg hE] at this
  exact this
theorem Rd.inc {w : World} {R K K' : Nat} {s : Bs} {E : Int} (h : Rd w R s K E) (e : K' = K + 1) : Rd (w.setCell ⟨R, 1, none⟩ (.int .i64 ((K : Int) + 1))) R s K' E := by
  have := h.go K'
  rwa [show (K' : Int) = (K : Int) + 1 by omega] at this
/-- What sign hands back; S: the text, as long as it is. -/
def SignP (R : Nat) (s : Bs) (o : Option (UInt8 × Bx)) (e : Ending) (w' : World) : Prop :=
  match o with
  | some (c, r) => e = .returned (.int .u8 (c.toNat : Int)) ∧ ∃ K, s.drop K = r ∧ K ≤ s.length ∧ Rd w' R s K 0
  | none => (∃ c : UInt8, e = .returned (.int .u8 (c.toNat : Int))) ∧ ∃ K, K ≤ s.length + 1 ∧ Rd w' R s K 2
theorem u8_ne {c : UInt8} {n : Nat} (h : c ≠ UInt8.ofNat n) (hn : n < 256) : ((c.toNat : Int) == (n : Int)) = false := by
  rw [beq_eq_false_iff_ne]
  intro e
  apply h
  apply UInt8.toNat_inj.1
  simp
  omega
set_option maxHeartbeats 3200000 in
set_option maxRecDepth 100000 in
theorem sign_any (R K : Nat) (s : Bs) (w : World) (h : Rd w R s K 0) (hs : s.length ≤ 100) (hK : K ≤ s.length) :
    Calls Tryd.prog 118 #[.pointer (some ⟨R, 0, none⟩)] w fun e w' => SignP R s (signN (s.drop K)) e w' ∧ Asd (· = R) w w' := by
  have hKb : K ≤ 100 := by omega
  obtain ⟨K', hKb', eK⟩ : ∃ K', K' ≤ 101 ∧ (Unit → K' = K + 1) := ⟨_, by omega, fun _ => rfl⟩
  obtain ⟨K'', hKb'', eK'⟩ : ∃ K'', K'' ≤ 102 ∧ (Unit → K'' = K' + 1) := ⟨_, by omega, fun _ => rfl⟩
  have A := Asd.refl (· = R) w
  cases hl : s.drop K with
  | nil =>
    have h1 := drop_none hl
    have HS : Unit → signN [] = none := fun _ => rfl
    have K1 := Lib.hid fun w' h => next_end (R := R) hl w' h
    have K2 := Lib.hid fun w' h => fail_new (R := R) (K := K') (s := s) 2 w' h
    clear hl
    go_enter Tryd.func118, Tryd.ntmps118
    go_wp2_with fail
    refine (K1.out _ h).mono ?_
    rintro e v1 ⟨rfl, hb⟩
    replace h := h.stay hb
    replace A := A.below hb
    clear hb
    have c1 := h.pos
    have f1 := Rw.frozen h 1
    go_upto_region 3 with fail
    replace h := h.inc (eK ())
    replace A := A.set1 1 (.int .i64 ((K : Int) + 1))
    generalize v1.setCell ⟨R, 1, none⟩ (.int .i64 ((K : Int) + 1)) = v2 at *
    clear c1 f1
    go_wp2_with fail
    refine (K2.out _ h).mono ?_
    rintro e v3 ⟨rfl, h', A'⟩
    replace h := h'
    replace A := A.andThen A'
    clear h' A' 
    go_wp2_with fail
    go_ret
    exact ⟨by rw [HS ()]; exact ⟨⟨0, rfl⟩, K', by have := eK (); omega, h⟩, A⟩
  | cons c r =>
    obtain ⟨hc, hr, hk, hn⟩ := drop_cons hl
    rw [← eK ()] at hr
    have K1 := Lib.hid fun w' h => next_hit (R := R) hl w' h
    clear hl hc
    by_cases h92 : c = 92
    · subst h92
      cases r with
      | nil =>
        have HS : Unit → signN [92] = none := fun _ => rfl
        have K2 := Lib.hid fun w' h => next_end (R := R) hr w' h
        have K3 := Lib.hid fun w' h => fail_new (R := R) (K := K'') (s := s) 2 w' h
        clear hr
        go_enter Tryd.func118, Tryd.ntmps118
        go_wp2_with fail
        refine (K1.out _ h).mono ?_
        rintro e v4 ⟨rfl, hb⟩
        replace h := h.stay hb
        replace A := A.below hb
        clear hb
        have c1 := h.pos
        have f1 := Rw.frozen h 1
        go_upto_region 3 with fail
        replace h := h.inc (eK ())
        replace A := A.set1 1 (.int .i64 ((K : Int) + 1))
        generalize v4.setCell ⟨R, 1, none⟩ (.int .i64 ((K : Int) + 1)) = v5 at *
        clear c1 f1
        go_wp2_with fail
        refine (K2.out _ h).mono ?_
        rintro e v6 ⟨rfl, hb⟩
        replace h := h.stay hb
        replace A := A.below hb
        clear hb
        have c1 := h.pos
        have f1 := Rw.frozen h 1
        go_upto_region 6 with fail
        replace h := h.inc (eK' ())
        replace A := A.set1 1 (.int .i64 ((K' : Int) + 1))
        generalize v6.setCell ⟨R, 1, none⟩ (.int .i64 ((K' : Int) + 1)) = v7 at *
        clear c1 f1
        go_wp2_with fail
        refine (K3.out _ h).mono ?_
        rintro e v8 ⟨rfl, h', A'⟩
        replace h := h'
        replace A := A.andThen A'
        clear h' A' 
        go_wp2_with fail
        go_ret
        exact ⟨by rw [HS ()]; exact ⟨⟨0, rfl⟩, K'', by have := eK (); have := eK' (); simp at hn; omega, h⟩, A⟩
      | cons d r =>
        obtain ⟨hd, hr2, hk2, hn2⟩ := drop_cons hr
        have HS : Unit → signN (92 :: d :: r) = some (d, r) := fun _ => by simp [signN]
        have K2 := Lib.hid fun w' h => next_hit (R := R) hr w' h
        clear hr hd
        go_enter Tryd.func118, Tryd.ntmps118
        go_wp2_with fail
        refine (K1.out _ h).mono ?_
        rintro e v9 ⟨rfl, hb⟩
        replace h := h.stay hb
        replace A := A.below hb
        clear hb
        have c1 := h.pos
        have f1 := Rw.frozen h 1
        go_upto_region 3 with fail
        replace h := h.inc (eK ())
        replace A := A.set1 1 (.int .i64 ((K : Int) + 1))
        generalize v9.setCell ⟨R, 1, none⟩ (.int .i64 ((K : Int) + 1)) = v10 at *
        clear c1 f1
        go_wp2_with fail
        refine (K2.out _ h).mono ?_
        rintro e v11 ⟨rfl, hb⟩
        replace h := h.stay hb
        replace A := A.below hb
        clear hb
        have c1 := h.pos
        have f1 := Rw.frozen h 1
        go_upto_region 6 with fail
        replace h := h.inc (eK' ())
        replace A := A.set1 1 (.int .i64 ((K' : Int) + 1))
        generalize v11.setCell ⟨R, 1, none⟩ (.int .i64 ((K' : Int) + 1)) = v12 at *
        clear c1 f1
        go_wp2_with fail
        go_ret
        exact ⟨by rw [HS ()]; exact ⟨rfl, K'', by rw [eK' ()]; exact hr2, by have := eK (); have := eK' (); omega, h⟩, A⟩
    · have hne := u8_ne (n := 92) h92 (by decide)
      have HS : Unit → signN (c :: r) = some (c, r) := fun _ => by simp [signN, h92]
      go_enter Tryd.func118, Tryd.ntmps118
      go_wp2_with fail
      refine (K1.out _ h).mono ?_
      rintro e v13 ⟨rfl, hb⟩
      replace h := h.stay hb
      replace A := A.below hb
      clear hb
      have c1 := h.pos
      have f1 := Rw.frozen h 1
      go_upto_region 3 with fail
      replace h := h.inc (eK ())
      replace A := A.set1 1 (.int .i64 ((K : Int) + 1))
      generalize v13.setCell ⟨R, 1, none⟩ (.int .i64 ((K : Int) + 1)) = v14 at *
      clear c1 f1
      go_wp2_with fail
      go_ret
      exact ⟨by rw [HS ()]; exact ⟨rfl, K', hr, by have := eK (); have := eK' (); omega, h⟩, A⟩
end Go.Proofs.YtknhkmlihbgjpaaDoor.Dn
