/- Rows of numbers in memory: what is read, what a store and a copy make of them. -/
import Derived.Test.YtknhkmlihbgjpaaDoorDWord
import Derived.Deep.WholeRow
import Derived.Laws.CopyOwn
namespace Go.Proofs.YtknhkmlihbgjpaaDoor.Dg
open Go.ChangeShapes Go.WideShapes Go.RowKit

/-- Block g holds the row cs of type t. -/
def Rw (w : World) (g : Nat) (t : TypeId) (cs : List Value) : Prop := w.heap[g]? = some (.cells cs.toArray t (0, 0))
def v8 (x : Nat) : Value := .int .u8 (x : Int)
def v32 (x : Nat) : Value := .int .u32 (x : Int)
theorem Rw.lt {w : World} {g : Nat} {t : TypeId} {cs : List Value} (h : Rw w g t cs) : g < w.heap.size := (Array.getElem?_eq_some_iff.1 h).1
theorem Rw.drew {w w' : World} {g : Nat} {t : TypeId} {cs : List Value} (h : Rw w g t cs) (k : Drew w w') : Rw w' g t cs := by unfold Rw at *; rw [k.heap]; exact h
theorem Rw.keep {w w' : World} {g : Nat} {t : TypeId} {cs : List Value} (h : Rw w g t cs) (k : Below w.heap.size w w') : Rw w' g t cs := by unfold Rw at *; rw [k.block g (Rw.lt h)]; exact h
theorem Rw.cell {w : World} {g : Nat} {t : TypeId} {cs : List Value} (h : Rw w g t cs) (j : Nat) : w.cell? ⟨g, j, none⟩ = cs[j]? := by
  rw [cell_of_row w g j cs.toArray t (0, 0) h]; simp
theorem Rw.frozen {w : World} {g : Nat} {t : TypeId} {cs : List Value} (h : Rw w g t cs) (j : Nat) : w.frozen? ⟨g, j, none⟩ = false := by
  unfold Rw at h; simp [World.frozen?, h]
theorem Rw.setCell {w : World} {g : Nat} {t : TypeId} {cs : List Value} (h : Rw w g t cs) (i : Nat) (v : Value) : Rw (w.setCell ⟨g, i, none⟩ v) g t (cs.set i v) := by
  rw [setCell_eq_setRow w g i cs.toArray t (0, 0) v h]
  unfold Rw
  rw [setRow_heap w g _ _ t _ h]; simp
theorem Rw.other {w : World} {g k : Nat} {t : TypeId} {cs : List Value} (h : Rw w g t cs) (hk : g ≠ k) (i : Nat) (v : Value) : Rw (w.setCell ⟨k, i, none⟩ v) g t cs := by
  unfold Rw at *; rw [← h]; exact Below.heap_setCell _ ⟨k, i, none⟩ _ g hk
theorem Rw.new (w : World) (t : TypeId) (cs : List Value) : Rw (w.alloc (.cells cs.toArray t)) w.heap.size t cs := heap_alloc_last w _
theorem Rw.past {w : World} {g : Nat} {t : TypeId} {cs : List Value} (h : Rw w g t cs) (o : Obj) : Rw (w.alloc o) g t cs := h.keep ((Below.refl _ _).alloc (Nat.le_refl _) _)
theorem at8 {xs : List Nat} {j x : Nat} (h : xs[j]? = some x) : (xs.map v8)[j]? = some (.int .u8 (x : Int)) := by simp [h, v8]
theorem at32 {xs : List Nat} {j x : Nat} (h : xs[j]? = some x) : (xs.map v32)[j]? = some (.int .u32 (x : Int)) := by simp [h, v32]
theorem Rw.four {w : World} {g : Nat} {t : TypeId} {xs : List Nat} (h : Rw w g t (xs.map v8)) (o : Nat) (ho : o + 4 ≤ xs.length) :
    Four w g o (xs[o]?.getD 0) (xs[o + 1]?.getD 0) (xs[o + 2]?.getD 0) (xs[o + 3]?.getD 0) := by
  refine ⟨?_, ?_, ?_, ?_⟩ <;> rw [h.cell] <;> apply at8 <;> rw [List.getElem?_eq_getElem (by omega)] <;> rfl
theorem u8_get {xs : List Nat} (h : ∀ x ∈ xs, U8 x) (j : Nat) : U8 (xs[j]?.getD 0) := by
  cases e : xs[j]? with
  | none => exact (show 0 < 256 by omega)
  | some x => exact h x (List.mem_of_getElem? e)
theorem u32_get {xs : List Nat} (h : ∀ x ∈ xs, U32 x) (j : Nat) : U32 (xs[j]?.getD 0) := by
  cases e : xs[j]? with
  | none => exact (show 0 < 4294967296 by omega)
  | some x => exact h x (List.mem_of_getElem? e)
theorem u32_set {xs : List Nat} (h : ∀ x ∈ xs, U32 x) {y : Nat} (hy : U32 y) (j : Nat) : ∀ x ∈ xs.set j y, U32 x := by
  intro x hx
  rcases List.mem_or_eq_of_mem_set hx with h1 | rfl
  · exact h x h1
  · exact hy
theorem add_off (g k : Nat) : (⟨g, 0, none⟩ : Addr).add k = ⟨g, k, none⟩ := by unfold Addr.add; split <;> simp_all
/-- The part of an array from place k on. -/
theorem cut_from {P : Program} (t e : TypeId) (n g k : Nat) (l : Int) (hl : l = (k : Int)) (hk : k < n) (ht : P.underlying t = some (.array n e)) (he : (P.info? e).map (·.size) = some 1) (w : World) :
    (Instr.sliceAt t (.pointer (some ⟨g, 0, none⟩)) (some (.int .i64 l)) none none).run P w = .ok (.slice (some ⟨g, k, none⟩) (n - k) (n - k)) w := by
  subst hl
  have hz : ∀ w, (sizeOf e).run P w = .ok 1 w := fun w => by
    cases hq : P.info? e with
    | none => simp [hq] at he
    | some i => simp [hq] at he; simp [sizeOf, typeInfo, hq, he]
  have hne : ¬ n = k := by omega
  simp [Instr.sliceAt, Instr.sureAddr, run_underlying ht, Instr.sliceBounds, run_sliceBound, hz, hne, add_off, show (k : Int) ≤ (n : Int) by omega]
theorem cut_all {P : Program} (t e : TypeId) (n g : Nat) (ht : P.underlying t = some (.array n e)) (he : (P.info? e).map (·.size) = some 1) (w : World) :
    (Instr.sliceAt t (.pointer (some ⟨g, 0, none⟩)) none none none).run P w = .ok (.slice (some ⟨g, 0, none⟩) n n) w := by
  have hz : ∀ w, (sizeOf e).run P w = .ok 1 w := fun w => by
    cases hq : P.info? e with
    | none => simp [hq] at he
    | some i => simp [hq] at he; simp [sizeOf, typeInfo, hq, he]
  simp [Instr.sliceAt, Instr.sureAddr, run_underlying ht, Instr.sliceBounds, hz, add_off]
theorem one8 (xs : List Nat) : ∀ v ∈ xs.map v8, v.oneCell' = true := by intro v hv; obtain ⟨x, _, rfl⟩ := List.mem_map.1 hv; rfl
theorem one32 (xs : List Nat) : ∀ v ∈ xs.map v32, v.oneCell' = true := by intro v hv; obtain ⟨x, _, rfl⟩ := List.mem_map.1 hv; rfl
theorem Rw.row {w : World} {g : Nat} {t : TypeId} {cs : List Value} (h : Rw w g t cs) (cs' : List Value) : Rw (w.setRow g cs'.toArray) g t cs' := setRow_heap w g _ _ t _ h
theorem Rw.rowOther {w : World} {g k : Nat} {t : TypeId} {cs : List Value} (h : Rw w g t cs) (hk : g ≠ k) (a : Array Value) : Rw (w.setRow k a) g t cs := by unfold Rw at *; rw [setRow_other w k g a hk]; exact h
section
variable {P : Program} {ops : Array Oper} {rest : List Oper} {o : Oper} {a : Act} {w : World} {Q : Exit → Act → World → Prop}
/-- A whole array is read. -/
theorem load_arr (g : Nat) (t : TypeId) (cs : List Value) (hr : Rw w g t cs) (n : Nat) (hn : cs.length = n) (ty e : TypeId) (hu : P.underlying ty = some (.array n e)) (hi : (P.info? ty).map (·.size) = some n) (x : Operand) (hgd : o.guard = none) (ho : o.op = .load ty x)
    (hx : a.eval x = .pointer (some ⟨g, 0, none⟩))
    (h : wpList P ops Q rest (a.put o.dst (.agg cs.toArray)) w) : wpList P ops Q (o :: rest) a w :=
  wpList_load_row hgd ty x ho g hx t cs.toArray (0, 0) (.array n e) hr hu rfl (by rw [hi]; simp [hn]) h
/-- A whole array is written. -/
theorem store_arr (g : Nat) (t : TypeId) (old : List Value) (hr : Rw w g t old) (n : Nat) (ho' : old.length = n) (ty : TypeId) (hi : (P.info? ty).map (·.size) = some n) (cs : List Value) (hn : cs.length = n) (h1 : ∀ v ∈ cs, v.oneCell' = true) (x y : Operand) (hgd : o.guard = none) (ho : o.op = .store ty x y)
    (hx : a.eval x = .pointer (some ⟨g, 0, none⟩)) (hy : a.eval y = .agg cs.toArray)
    (h : wpList P ops Q rest (a.put o.dst undef) (w.setRow g cs.toArray)) : wpList P ops Q (o :: rest) a w :=
  wpList_store_row hgd ty x y ho g cs.toArray hx hy t old.toArray hr (by rw [hi]; simp [hn]) (by simp [hn, ho']) (by rw [Array.all_eq_true_iff_forall_mem]; intro v hv; exact h1 v (by simpa using hv)) h
/-- A result that is a whole array. -/
theorem ret_arr {fn : Func} {p : Tmp} {ty : TypeId} {R : Ending → World → Prop} (g : Nat) (t : TypeId) (cs : List Value) (hr : Rw w g t cs) (n : Nat) (hn : cs.length = n) (e : TypeId) (hu : P.underlying ty = some (.array n e)) (hi : (P.info? ty).map (·.size) = some n)
    (hf : fn.results = #[.cell p ty]) (hd : a.defers = []) (hp : a.tmps.getD p undef = .pointer (some ⟨g, 0, none⟩)) (h : R (.returned (.agg cs.toArray)) w) : bodyPost P fn R .ret a w :=
  bodyPost_ret (v := .agg cs.toArray) (results_cell_row hf a.tmps w g t cs.toArray (0, 0) (.array n e) hp hr hu rfl (by rw [hi]; simp [hn])) hd h
end
/-- The eight words at first, and the words of the rounds. -/
def startL : List Nat := [1779033703, 3144134277, 1013904242, 2773480762, 1359893119, 2600822924, 528734635, 1541459225]
def keyL : List Nat := [1116352408, 1899447441, 3049323471, 3921009573, 961987163, 1508970993, 2453635748, 2870763221, 3624381080, 310598401, 607225278, 1426881987, 1925078388, 2162078206, 2614888103, 3248222580, 3835390401, 4022224774, 264347078, 604807628, 770255983, 1249150122, 1555081692, 1996064986, 2554220882, 2821834349, 2952996808, 3210313671, 3336571891, 3584528711, 113926993, 338241895, 666307205, 773529912, 1294757372, 1396182291, 1695183700, 1986661051, 2177026350, 2456956037, 2730485921, 2820302411, 3259730800, 3345764771, 3516065817, 3600352804, 4094571909, 275423344, 430227734, 506948616, 659060556, 883997877, 958139571, 1322822218, 1537002063, 1747873779, 1955562222, 2024104815, 2227730452, 2361852424, 2428436474, 2756734187, 3204031479, 3329325298]
theorem start_u : ∀ x ∈ startL, U32 x := by unfold U32; decide
theorem key_u : ∀ x ∈ keyL, U32 x := by unfold U32; decide
/-- From place o of block g on lie the values cs. -/
def Cls (w : World) (g o : Nat) (cs : List Value) : Prop := ∀ j v, cs[j]? = some v → w.cell? ⟨g, o + j, none⟩ = some v
theorem Rw.cls {w : World} {g : Nat} {t : TypeId} {cs : List Value} (h : Rw w g t cs) (o : Nat) (xs : List Value) (k : ∀ j v, xs[j]? = some v → cs[o + j]? = some v) : Cls w g o xs := fun j v hv => by rw [h.cell]; exact k j v hv
theorem Cls.keep {w w' : World} {g o : Nat} {cs : List Value} (h : Cls w g o cs) (k : Below w.heap.size w w') : Cls w' g o cs := fun j v hv => by
  have := h j v hv
  rw [k.cell (World.block_lt_of_cell? w _ this)]; exact this
/-- The two tables of the package lie in memory. -/
def Tabs (w : World) : Prop := Cls w 0 0 (startL.map v32) ∧ Cls w 1 0 (keyL.map v32)
theorem Tabs.keep {w w' : World} (h : Tabs w) (k : Below w.heap.size w w') : Tabs w' := ⟨h.1.keep k, h.2.keep k⟩
section
variable {P : Program} {ops : Array Oper} {rest : List Oper} {o : Oper} {a : Act} {w : World} {Q : Exit → Act → World → Prop}
theorem add_any (g k j : Nat) : (⟨g, k, none⟩ : Addr).add j = ⟨g, k + j, none⟩ := by unfold Addr.add; split <;> simp_all
theorem run_load_cells (w : World) (g k : Nat) (ty : TypeId) (cs : List Value) (d : TypeDesc) (hc : Cls w g k cs)
    (hu : P.underlying ty = some d) (hd : (match d with | .struct _ | .array _ _ => true | _ => false) = true) (hi : (P.info? ty).map (·.size) = some cs.length) :
    (loadVar ty ⟨g, k, none⟩).run P w = .ok (.agg cs.toArray) w := by
  have hl := run_loadCells_list (P := P) w ⟨g, k, none⟩ cs (fun j v hv => by rw [add_any]; exact hc j v hv)
  cases hq : P.info? ty with
  | none => simp [hq] at hi
  | some i =>
    have hs : i.size = cs.length := by simpa [hq] using hi
    have hagg : (isAgg ty).run P w = .ok true w := by
      unfold isAgg
      rw [Sem.run_bind, run_underlying hu w]
      cases d <;> simp_all
    simp [loadVar, Sem.run_bind, hagg, sizeOf, typeInfo, hq, hs, hl]
/-- A whole array (or struct) is read, wherever it lies. -/
theorem load_at (g k : Nat) (cs : List Value) (hc : Cls w g k cs) (n : Nat) (hn : cs.length = n) (ty : TypeId) (d : TypeDesc) (hu : P.underlying ty = some d) (hd : (match d with | .struct _ | .array _ _ => true | _ => false) = true) (hi : (P.info? ty).map (·.size) = some n) (x : Operand) (hgd : o.guard = none) (ho : o.op = .load ty x)
    (hx : a.eval x = .pointer (some ⟨g, k, none⟩))
    (h : wpList P ops Q rest (a.put o.dst (.agg cs.toArray)) w) : wpList P ops Q (o :: rest) a w :=
  wpList_plain hgd fun _ hK => by
    unfold Oper.wp execOp
    simp only [ho, hx, Instr.loadAt, Instr.sureAddr, Sem.run_bind, Sem.run_pure, Result.andThen_ok, run_load_cells w g k ty cs d hc hu hd (by rw [hi, hn])]
    exact hK _ _ h
theorem run_store_at (w : World) (g k : Nat) (t ty : TypeId) (cur cs : List Value) (hr : Rw w g t cur) (hi : (P.info? ty).map (·.size) = some cs.length) (hk : k + cs.length ≤ cur.length) (h1 : ∀ v ∈ cs, v.oneCell' = true) :
    (storeVar ty ⟨g, k, none⟩ (.agg cs.toArray)).run P w = .ok () (w.setRow g (splice cur k cs).toArray) := by
  have := run_storeCells_at (P := P) g k t cs 0 cur.toArray w hr (by simpa using hk) h1
  cases hq : P.info? ty with
  | none => simp [hq] at hi
  | some i =>
    have hs : cs.length = i.size := by simpa [hq] using hi.symm
    simpa [storeVar, sizeOf, typeInfo, hq, Value.cells, hs, splice] using this
/-- A whole array (or struct) is written, wherever it lies. -/
theorem store_at (g k : Nat) (t : TypeId) (cur : List Value) (hr : Rw w g t cur) (ty : TypeId) (n : Nat) (hi : (P.info? ty).map (·.size) = some n) (cs : List Value) (hn : cs.length = n) (hk : k + n ≤ cur.length) (h1 : ∀ v ∈ cs, v.oneCell' = true) (x y : Operand) (hgd : o.guard = none) (ho : o.op = .store ty x y)
    (hx : a.eval x = .pointer (some ⟨g, k, none⟩)) (hy : a.eval y = .agg cs.toArray)
    (h : wpList P ops Q rest (a.put o.dst undef) (w.setRow g (splice cur k cs).toArray)) : wpList P ops Q (o :: rest) a w :=
  wpList_plain hgd fun _ hK => by
    unfold Oper.wp execOp
    simp only [ho, hx, hy, Instr.storeAt, Instr.sureAddr, Sem.run_bind, Sem.run_pure, Result.andThen_ok, run_store_at w g k t ty cur cs hr (by rw [hi, hn]) (by rw [hn]; exact hk) h1]
    exact hK _ _ h
end
theorem idx_arr {P : Program} (t e : TypeId) (n : Nat) (kd : IntKind) (cs : List Value) (k : Nat) (v : Value) (ht : P.underlying t = some (.array n e)) (he : P.underlying e = some (.int kd)) (hz : (P.info? e).map (·.size) = some 1) (hk : k < n) (hv : cs[k]? = some v) (w : World) :
    (Instr.index t (.agg cs.toArray) (.int .i64 (k : Int))).run P w = .ok v w := by
  have hz : ∀ w, (sizeOf e).run P w = .ok 1 w := fun w => by
    cases hq : P.info? e with
    | none => simp [hq] at hz
    | some i => simp [hq] at hz; simp [sizeOf, typeInfo, hq, hz]
  have ha : ∀ w, (isAgg e).run P w = .ok false w := fun w => by
    unfold isAgg
    rw [Sem.run_bind, run_underlying he w]
    simp
  simp [Instr.index, asIntOf, run_underlying ht, hz, part, ha, hv, hk]
end Go.Proofs.YtknhkmlihbgjpaaDoor.Dg
