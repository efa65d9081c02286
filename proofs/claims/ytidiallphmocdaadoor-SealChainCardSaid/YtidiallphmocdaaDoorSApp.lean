/- What is appended to bytes behind which no room is, and to bytes of one's own: as steps of any walk. -/
import Derived.Test.YtidiallphmocdaaDoorSKeys
import Derived.Test.YtidiallphmocdaaDoorBytes
namespace Go.Proofs.YtidiallphmocdaaDoor
open Go.ChangeShapes Go.WideShapes Go.RowKit

theorem cls_fresh (w : World) (xs : List Value) (ys : Array Value) (t : TypeId) : Cls (w.drew.alloc (.cells (xs.toArray ++ ys) t)) w.heap.size 0 xs := fun j v hv => by
  rw [cell_of_row _ _ _ _ _ _ (show (w.drew.alloc (.cells (xs.toArray ++ ys) t)).heap[w.heap.size]? = _ from heap_alloc_last w.drew _), Nat.zero_add]
  obtain ⟨hj, hx⟩ := List.getElem?_eq_some_iff.1 hv
  rw [Array.getElem?_append_left (by simpa using hj), List.getElem?_toArray]; exact hv
theorem below_drew_alloc (w : World) (o : Obj) : Below w.heap.size w (w.drew.alloc o) := (Below.refl _ w).drew.alloc (Nat.le_refl _) o
/-- The bytes of a string, as they are appended. -/
theorem str_cells (s : ByteArray) : (s.data.map fun b => Value.int .u8 (b.toNat : Int)) = ((sl s).map v8).toArray := by
  apply Array.ext'
  simp [sl, v8, Function.comp_def]
theorem run_append_str (w : World) (ty : TypeId) (g o n : Nat) (xs : List Nat) (hx : xs.length = n) (hc : Cls w g o (xs.map v8)) (s : ByteArray) (h0 : 0 < s.size) (hl : n + s.size ≤ 100000) :
    ∃ cap w', (Builtin.append_ #[22, 9] ty #[.slice (some ⟨g, o, none⟩) n n, .string s]).run Tryd.prog w = .ok (.slice (some ⟨w.heap.size, 0, none⟩) (n + s.size) cap) w' ∧ n + s.size ≤ cap ∧ Cls w' w.heap.size 0 ((xs ++ sl s).map v8) ∧ Below w.heap.size w w' := by
  obtain ⟨i0, hi, hz0, hz1, hz2⟩ := info_parts info_u8
  have hn : ¬ (n + s.size ≤ n) := by omega
  have h63' : ¬ (9223372036854775807 < ((n : Int) + (s.size : Int))) := by omega
  have hns := @nextslicecap_le (n + s.size) n (by omega)
  have h48' : ¬ (281474976710656 < Builtin.nextslicecap (n + s.size) n * i0.bytes) := by rw [hz2]; omega
  have hfo := run_firstCells_some (P := Tryd.prog) w.drew i0.size n ⟨g, o, none⟩ n n (xs.map v8) (by rw [hz1]; simp [hx]) (fun j v hv => by rw [add_any]; exact hc j v hv)
  have hfs : ∀ w', (Builtin.firstCells i0.size s.size (.string s)).run Tryd.prog w' = .ok (s.data.map fun b => Value.int .u8 (b.toNat : Int)) w' := fun w' => by
    simp only [Builtin.firstCells, Sem.run_pure]
    congr 2
    rw [show s.size = s.data.size from rfl]
    apply Array.ext' ; simp
  rw [str_cells] at hfs
  refine ⟨grownCap w (n + s.size) n 5, w.drew.alloc (.cells (((xs ++ sl s).map v8).toArray ++ Builtin.zeroCells (Value.cells (.int .u8 0)) (grownCap w (n + s.size) n 5 - (n + s.size))) 5), ?_, grownCap_ge _ _ _ _, cls_fresh _ _ _ _, below_drew_alloc _ _⟩
  simp [Builtin.append_, run_underlying Tryd.underlying22, run_underlying Tryd.underlying9, sizeOf, typeInfo, zeroValue, hi, hz0, Builtin.lenOf, hn, h63', h48', Question.forced, hfo, hfs, newRow, grownCap]
  congr 2
  apply Array.ext'
  simp
theorem run_append_str0 (w : World) (ty : TypeId) (g o n : Nat) (s : ByteArray) (h0 : s.size = 0) :
    (Builtin.append_ #[22, 9] ty #[.slice (some ⟨g, o, none⟩) n n, .string s]).run Tryd.prog w = .ok (.slice (some ⟨g, o, none⟩) n n) w := by
  obtain ⟨i0, hi, hz0, hz1, hz2⟩ := info_parts info_u8
  have hfs : ∀ w', (Builtin.firstCells i0.size 0 (.string s)).run Tryd.prog w' = .ok #[] w' := fun w' => by
    simp [Builtin.firstCells]
  simp [Builtin.append_, run_underlying Tryd.underlying22, run_underlying Tryd.underlying9, sizeOf, typeInfo, hi, Builtin.lenOf, h0, hfs, storeCells]
/-- A string is appended to bytes behind which no room is. -/
theorem full_str (w : World) (ty : TypeId) (g o n : Nat) (xs : List Nat) (hx : xs.length = n) (hc : Cls w g o (xs.map v8)) (s : ByteArray) (hl : n + s.size ≤ 100000) :
    ∃ v' w', (Builtin.append_ #[22, 9] ty #[.slice (some ⟨g, o, none⟩) n n, .string s]).run Tryd.prog w = .ok v' w' ∧ BytesAt w' v' (xs ++ sl s) ∧ Below w.heap.size w w' := by
  rcases Nat.eq_zero_or_pos s.size with h0 | h0
  · refine ⟨_, _, run_append_str0 w ty g o n s h0, ?_, Below.refl _ _⟩
    have : sl s = [] := List.eq_nil_of_length_eq_zero (by rw [sl_len]; exact h0)
    rw [this, List.append_nil]
    exact ⟨_, n, by rw [hx], by omega, fun _ => ⟨g, o, rfl, hc⟩⟩
  · obtain ⟨cap, w', h1, h2, h3, h4⟩ := run_append_str w ty g o n xs hx hc s h0 hl
    refine ⟨_, _, h1, ⟨_, cap, ?_, ?_, fun _ => ⟨_, 0, rfl, h3⟩⟩, h4⟩
    · rw [List.length_append, sl_len, hx]
    · rw [List.length_append, sl_len, hx]; exact h2
/-- Bytes are appended to bytes behind which no room is. -/
theorem full_bytes (w : World) (ty : TypeId) (g o n : Nat) (xs : List Nat) (hx : xs.length = n) (hc : Cls w g o (xs.map v8)) (u : Value) (ys : List Nat) (hu : BytesAt w u ys) (hl : n + ys.length ≤ 100000) :
    ∃ v' w', (Builtin.append_ #[22, 22] ty #[.slice (some ⟨g, o, none⟩) n n, u]).run Tryd.prog w = .ok v' w' ∧ BytesAt w' v' (xs ++ ys) ∧ Below w.heap.size w w' := by
  obtain ⟨i0, hi, hz0, hz1, hz2⟩ := info_parts info_u8
  obtain ⟨au, cu, rfl, hcu, hk⟩ := hu
  rcases Nat.eq_zero_or_pos ys.length with h0 | h0
  · have hy : ys = [] := List.eq_nil_of_length_eq_zero h0
    subst hy
    rw [List.append_nil]
    refine ⟨.slice (some ⟨g, o, none⟩) n n, w, ?_, ⟨_, n, by rw [hx], by omega, fun _ => ⟨g, o, rfl, hc⟩⟩, Below.refl _ _⟩
    have hfs : ∀ w', (Builtin.firstCells i0.size 0 (.slice au 0 cu)).run Tryd.prog w' = .ok #[] w' := fun w' => by
      cases au with
      | none => simp [Builtin.firstCells]
      | some ad => simp [Builtin.firstCells, loadCells, loadCellsFrom]
    simp [Builtin.append_, run_underlying Tryd.underlying22, sizeOf, typeInfo, hi, Builtin.lenOf, hfs, storeCells]
  · have hne : ys ≠ [] := by intro e; subst e; simp at h0
    obtain ⟨g', o', rfl, hc'⟩ := hk hne
    have hns := @nextslicecap_le (n + ys.length) n (by omega)
    have hr := run_append_grow (P := Tryd.prog) w 22 ty 5 i0 (.int .u8 0) Tryd.underlying22 hi hz0 ⟨g, o, none⟩ n n (xs.map v8) (by rw [hz1]; simp [hx]) (fun j v hv => by rw [add_any]; exact hc j v hv) ⟨g', o', none⟩ ys.length cu (ys.map v8) (by rw [hz1]; simp) (fun j v hv => by rw [add_any]; exact hc' j v hv) (by omega) (by omega) (by rw [hz2]; omega)
    refine ⟨_, _, hr, ⟨_, _, by rw [List.length_append, hx], by rw [List.length_append, hx]; exact grownCap_ge _ _ _ _, fun _ => ⟨_, 0, rfl, ?_⟩⟩, below_drew_alloc _ _⟩
    have := cls_fresh w ((xs ++ ys).map v8) (Builtin.zeroCells (Value.cells (.int .u8 0)) (grownCap w (n + ys.length) n 5 - (n + ys.length))) 5
    rw [List.map_append, ← List.append_toArray] at this
    rw [List.map_append]
    exact this
/-- Nothing is appended. -/
theorem run_append_zero (w : World) (ty : TypeId) (b au : Option Addr) (n cap cu : Nat) (h : n ≤ cap) :
    (Builtin.append_ #[22, 22] ty #[.slice b n cap, .slice au 0 cu]).run Tryd.prog w = .ok (.slice b n cap) w := by
  obtain ⟨i0, hi, hz0, hz1, hz2⟩ := info_parts info_u8
  have hfs : ∀ w', (Builtin.firstCells i0.size 0 (.slice au 0 cu)).run Tryd.prog w' = .ok #[] w' := fun w' => by
    cases au with
    | none => simp [Builtin.firstCells]
    | some ad => simp [Builtin.firstCells, loadCells, loadCellsFrom]
  cases b with
  | none => simp [Builtin.append_, run_underlying Tryd.underlying22, sizeOf, typeInfo, hi, Builtin.lenOf, hfs, h]
  | some ad => simp [Builtin.append_, run_underlying Tryd.underlying22, sizeOf, typeInfo, hi, Builtin.lenOf, hfs, h, storeCells]
theorem own_slice {w : World} {base : Nat} {v : Value} {xs : List Nat} (h : w.ownsRow base 5 1 v xs.length (xs.map v8)) : ∃ b cap, v = .slice b xs.length cap ∧ xs.length ≤ cap := by
  rcases h.2 with ⟨rfl, h0⟩ | ⟨g, cap, cur, rfl, _, _, hn, _⟩
  · exact ⟨none, 0, by rw [h0], by omega⟩
  · exact ⟨_, cap, rfl, hn⟩
section
variable {ops : Array Oper} {rest : List Oper} {o : Oper} {a : Act} {w : World} {K : Act → World → Prop} {Q : Exit → Act → World → Prop}
theorem wp_full_str (g k n : Nat) (xs : List Nat) (hx : xs.length = n) (hc : Cls w g k (xs.map v8)) (s : ByteArray) (hl : n + s.size ≤ 100000) (x y : Operand) (ho : o.op = .call { callee := .builtin .append, args := #[x, y], argTypes := #[22, 9] })
    (hs : a.eval x = .slice (some ⟨g, k, none⟩) n n) (hy : a.eval y = .string s) (h : ∀ v' w', BytesAt w' v' (xs ++ sl s) → Below w.heap.size w w' → K (a.put o.dst v') w') : o.wp Tryd.prog a w K Q := by
  obtain ⟨v', w', h1, h2, h3⟩ := full_str w o.type g k n xs hx hc s hl
  unfold Oper.wp
  simp only [execOp, ho, resolve, invoke, builtin, List.map_toArray, List.map_cons, List.map_nil, hs, hy]
  simp [h1, Result.andThen]
  exact h v' w' h2 h3
theorem wp_full_bytes (g k n : Nat) (xs : List Nat) (hx : xs.length = n) (hc : Cls w g k (xs.map v8)) (u : Value) (ys : List Nat) (hu : BytesAt w u ys) (hl : n + ys.length ≤ 100000) (x y : Operand) (ho : o.op = .call { callee := .builtin .append, args := #[x, y], argTypes := #[22, 22] })
    (hs : a.eval x = .slice (some ⟨g, k, none⟩) n n) (hy : a.eval y = u) (h : ∀ v' w', BytesAt w' v' (xs ++ ys) → Below w.heap.size w w' → K (a.put o.dst v') w') : o.wp Tryd.prog a w K Q := by
  obtain ⟨v', w', h1, h2, h3⟩ := full_bytes w o.type g k n xs hx hc u ys hu hl
  unfold Oper.wp
  simp only [execOp, ho, resolve, invoke, builtin, List.map_toArray, List.map_cons, List.map_nil, hs, hy]
  simp [h1, Result.andThen]
  exact h v' w' h2 h3
/-- Bytes are appended to a slice of one's own, be they none. -/
theorem wp_own_bytes (base : Nat) (v u : Value) (xs ys : List Nat) (hown : w.ownsRow base 5 1 v xs.length (xs.map v8)) (hu : BytesAt w u ys) (hl : xs.length + ys.length ≤ 100000) (hb : base ≤ w.heap.size)
    (s x : Operand) (ho : o.op = .call { callee := .builtin .append, args := #[s, x], argTypes := #[22, 22] }) (hs : a.eval s = v) (hx : a.eval x = u)
    (h : ∀ v' w', w'.ownsRow base 5 1 v' (xs ++ ys).length ((xs ++ ys).map v8) → w.grownBy w' v.ownBlock → K (a.put o.dst v') w') : o.wp Tryd.prog a w K Q := by
  obtain ⟨au, cu, rfl, hc, hk⟩ := hu
  rcases Nat.eq_zero_or_pos ys.length with h0 | h0
  · have hy : ys = [] := List.eq_nil_of_length_eq_zero h0
    subst hy
    obtain ⟨b, cap, rfl, hn⟩ := own_slice hown
    have hrun := run_append_zero w o.type b au xs.length cap cu hn
    unfold Oper.wp
    simp only [execOp, ho, resolve, invoke, builtin, List.map_toArray, List.map_cons, List.map_nil, hs, hx, List.length_nil]
    simp [hrun, Result.andThen]
    exact h _ _ (by rw [List.append_nil]; exact hown) ⟨rfl, rfl, rfl, Nat.le_refl _, fun _ _ _ => rfl⟩
  · obtain ⟨i0, hi, hz0, hz1, hz2⟩ := info_parts info_u8
    obtain ⟨g, k, rfl, hcl⟩ := hk (by intro e; subst e; simp at h0)
    refine wp_append_own w s x 22 ho base 5 i0 (.int .u8 0) 1 1 Tryd.underlying22 hi hz0 hz1 hz2 rfl (by decide) v xs.length (xs.map v8) hs hown ⟨g, k, none⟩ ys.length cu (ys.map v8) hx (by simp) (fun j u' hu' => by rw [add_any]; exact hcl j u' hu') (one8 ys) (by unfold maxLen; omega) (by omega) hb (fun v' w' h1 h2 _ => ?_)
    rw [← List.map_append, ← List.length_append] at h1
    exact h v' w' h1 h2
theorem list_own_bytes (base : Nat) (v u : Value) (xs ys : List Nat) (hown : w.ownsRow base 5 1 v xs.length (xs.map v8)) (hu : BytesAt w u ys) (hl : xs.length + ys.length ≤ 100000) (hb : base ≤ w.heap.size)
    (s x : Operand) (hgd : o.guard = none) (ho : o.op = .call { callee := .builtin .append, args := #[s, x], argTypes := #[22, 22] }) (hs : a.eval s = v) (hx : a.eval x = u)
    (h : ∀ v' w', w'.ownsRow base 5 1 v' (xs ++ ys).length ((xs ++ ys).map v8) → w.grownBy w' v.ownBlock → wpList Tryd.prog ops Q rest (a.put o.dst v') w') : wpList Tryd.prog ops Q (o :: rest) a w :=
  wpList_plain hgd fun _ hK => wp_own_bytes base v u xs ys hown hu hl hb s x ho hs hx fun v' w' h1 h2 => hK _ _ (h v' w' h1 h2)
theorem list_full_str (g k n : Nat) (xs : List Nat) (hx : xs.length = n) (hc : Cls w g k (xs.map v8)) (s : ByteArray) (hl : n + s.size ≤ 100000) (x y : Operand) (hgd : o.guard = none) (ho : o.op = .call { callee := .builtin .append, args := #[x, y], argTypes := #[22, 9] })
    (hs : a.eval x = .slice (some ⟨g, k, none⟩) n n) (hy : a.eval y = .string s) (h : ∀ v' w', BytesAt w' v' (xs ++ sl s) → Below w.heap.size w w' → wpList Tryd.prog ops Q rest (a.put o.dst v') w') : wpList Tryd.prog ops Q (o :: rest) a w :=
  wpList_plain hgd fun _ hK => wp_full_str g k n xs hx hc s hl x y ho hs hy fun v' w' h1 h2 => hK _ _ (h v' w' h1 h2)
theorem list_full_bytes (g k n : Nat) (xs : List Nat) (hx : xs.length = n) (hc : Cls w g k (xs.map v8)) (u : Value) (ys : List Nat) (hu : BytesAt w u ys) (hl : n + ys.length ≤ 100000) (x y : Operand) (hgd : o.guard = none) (ho : o.op = .call { callee := .builtin .append, args := #[x, y], argTypes := #[22, 22] })
    (hs : a.eval x = .slice (some ⟨g, k, none⟩) n n) (hy : a.eval y = u) (h : ∀ v' w', BytesAt w' v' (xs ++ ys) → Below w.heap.size w w' → wpList Tryd.prog ops Q rest (a.put o.dst v') w') : wpList Tryd.prog ops Q (o :: rest) a w :=
  wpList_plain hgd fun _ hK => wp_full_bytes g k n xs hx hc u ys hu hl x y ho hs hy fun v' w' h1 h2 => hK _ _ (h v' w' h1 h2)
end
end Go.Proofs.YtidiallphmocdaaDoor
