/- Bytes made of a string; a byte, a string added to them: the operations. -/
import Derived.Test.YtknhkmlihbgjpaaDoorAMark
namespace Go.Proofs.YtknhkmlihbgjpaaDoor
open Go.ChangeShapes Go.WideShapes Go.RowKit

theorem info_u8b : ∃ i, Tryd.prog.info? 5 = some i ∧ i.zero = some (.int .u8 0) ∧ i.size = 1 ∧ i.bytes = 1 := info_parts0 info_u8
theorem OwnB.room {w : World} {base : Nat} {g cap : Nat} {cur : Array Value} {fz : Nat × Nat} {l new : Bs} (hb : base ≤ g) (hg : w.heap[g]? = some (.cells cur 5 fz)) (hz : fz.2 = 0 ∨ cap ≤ fz.1) (hm : cap ≤ maxLen) (hs : cur.size = cap) (ht : cur.toList.take l.length = Lib.byteCells l) (hr : l.length + new.length ≤ cap) :
    OwnB (w.setRow g (cur.toList.take l.length ++ Lib.byteCells new ++ cur.toList.drop (l.length + new.length)).toArray) base (.slice (some ⟨g, 0, none⟩) (l.length + new.length) cap) (l ++ new) ∧
      w.grownBy (w.setRow g (cur.toList.take l.length ++ Lib.byteCells new ++ cur.toList.drop (l.length + new.length)).toArray) (some g) := by
  have hcl : (Lib.byteCells l).length = l.length := Lib.byteCells_length l
  have hcn : (Lib.byteCells new).length = new.length := Lib.byteCells_length new
  refine ⟨⟨g, cap, _, fz, by rw [List.length_append], hb, setRow_heap w g cur _ _ _ hg, hz, by rw [List.length_append]; exact hr, hm, ?_, ?_⟩, ⟨rfl, rfl, rfl, by simp, fun k _ hk => setRow_other w g k _ (fun e => hk (by rw [e]))⟩⟩
  · simp only [List.size_toArray, List.length_append, List.length_take, List.length_drop, Array.length_toList, hcn]
    omega
  · rw [ht, show Lib.byteCells (l ++ new) = Lib.byteCells l ++ Lib.byteCells new by simp [Lib.byteCells]]
    have e : (l ++ new).length = (Lib.byteCells l ++ Lib.byteCells new).length := by rw [List.length_append, List.length_append, hcl, hcn]
    rw [e]
    exact List.take_left
theorem OwnB.made {w : World} {base cap : Nat} {l : Bs} {zs : Array Value} (hb : base ≤ w.heap.size) (hle : l.length ≤ cap) (hm : cap ≤ maxLen) (hs : l.length + zs.size = cap) {n : Nat} (hn : n = l.length) :
    OwnB (w.drew.alloc (.cells ((Lib.byteCells l).toArray ++ zs) 5)) base (.slice (some ⟨w.heap.size, 0, none⟩) n cap) l ∧ (∀ row, w.grownBy (w.drew.alloc (.cells ((Lib.byteCells l).toArray ++ zs) 5)) row) := by
  subst hn
  have hcl : (Lib.byteCells l).length = l.length := Lib.byteCells_length l
  refine ⟨⟨w.heap.size, cap, _, (0, 0), rfl, hb, heap_alloc_new w.drew _, .inl rfl, hle, hm, by simp [hcl]; omega, ?_⟩, fun row => ⟨rfl, rfl, rfl, by simp, fun k hk _ => heap_alloc_old w.drew _ hk⟩⟩
  rw [Array.toList_append, ← hcl]
  exact List.take_left
section
variable {ops : Array Oper} {rest : List Oper} {o : Oper} {a : Act} {w : World} {Q : Exit → Act → World → Prop}
/-- The bytes of a string. -/
theorem wpList_conv (x : Operand) (hgd : o.guard = none) (ho : o.op = .convert 9 88 x) (l : Bs) (hx : a.eval x = .string ⟨l.toArray⟩) (hl : l.length ≤ 9223372036854775807)
    (h : ∀ v' w', OwnB w' w.heap.size v' l → Below w.heap.size w w' → wpList Tryd.prog ops Q rest (a.put o.dst v') w') : wpList Tryd.prog ops Q (o :: rest) a w := by
  have hsz : (⟨l.toArray⟩ : ByteArray).size = l.length := by simp [ByteArray.size]
  have hr := run_bytes_of_string (P := Tryd.prog) w 9 88 5 ⟨l.toArray⟩ Tryd.underlying9 Tryd.underlying88 (by kernel_rfl)
  rw [hsz] at hr
  refine wpList_plain hgd fun _ hK => ?_
  unfold Oper.wp execOp
  simp only [ho, Sem.run_bind, Sem.run_pure, Result.andThen_ok, hx, hr]
  have hge := grownCap_ge w l.length 0 5
  have hmx := grownCap_le_maxLen w l.length 0 5 (by unfold maxLen; omega)
  generalize grownCap w l.length 0 5 = cap at *
  have hbr : bytesRow ⟨l.toArray⟩ cap = (Lib.byteCells l).toArray ++ Array.replicate (cap - l.length) (.int .u8 0) := by
    unfold bytesRow
    rw [hsz]
    show l.toArray.map _ ++ _ = _
    rw [List.map_toArray]
    rfl
  have hcl : (Lib.byteCells l).length = l.length := Lib.byteCells_length l
  have hbs : (bytesRow ⟨l.toArray⟩ cap).size = cap := by rw [hbr]; simp [hcl]; omega
  rw [hbs]
  refine hK _ _ (h _ _ ⟨w.heap.size, cap, _, (cap, cap + 1), rfl, Nat.le_refl _, heap_alloc_new w.drew _, .inr (Nat.le_refl _), hge, hmx, hbs, ?_⟩ ?_)
  · rw [hbr, Array.toList_append, ← hcl]
    exact List.take_left
  · exact ((Below.refl _ w).drew).alloc (Nat.le_refl _) _
/-- A byte is added. -/
theorem wpList_B_byte (s x : Operand) (hgd : o.guard = none) (ho : o.op = .call { callee := .builtin .append, args := #[s, x], argTypes := #[88, 88] })
    (base : Nat) (v : Value) (l : Bs) (c : UInt8) (hs : a.eval s = v) (hown : OwnB w base v l) (Y : Nat) (hx : a.eval x = .slice (some ⟨Y, 0, none⟩) 1 1) (hr : Rw w Y 5 [.int .u8 (c.toNat : Int)]) (hn : l.length ≤ 100000000000000) (hbase : base ≤ w.heap.size)
    (h : ∀ v' w', OwnB w' base v' (l ++ [c]) → w.grownBy w' v.ownBlock → wpList Tryd.prog ops Q rest (a.put o.dst v') w') : wpList Tryd.prog ops Q (o :: rest) a w := by
  obtain ⟨i, hi, hi0, hi1, hi2⟩ := info_u8b
  have hc : ∀ (j : Nat) u, (Lib.byteCells [c])[j]? = some u → w.cell? ((⟨Y, 0, none⟩ : Addr).add j) = some u := fun j u hu => by
    rw [add_at, Nat.zero_add, Rw.cell hr j]; exact hu
  have h1 : ∀ u ∈ Lib.byteCells [c], u.oneCell' = true := fun u hu => by rw [List.mem_singleton.1 hu]; rfl
  obtain ⟨g, cap, cur, fz, rfl, hb, hg, hz, hle, hm, hsz, ht⟩ := id hown
  have hcs := OwnB.cells hown
  refine wpList_plain hgd fun _ hK => ?_
  by_cases hroom : l.length + 1 ≤ cap
  · have hf := run_firstCells_some (P := Tryd.prog) w i.size 1 ⟨Y, 0, none⟩ 1 1 (Lib.byteCells [c]) (by rw [hi1]; rfl) hc
    have hst := storeB Tryd.prog g l.length 5 fz (Lib.byteCells [c]) 0 cur w hg (hz.imp id fun e => Nat.le_trans hroom e) (by rw [hsz]; exact hroom) h1
    obtain ⟨h2, h3⟩ := OwnB.room (w := w) (new := [c]) hb hg hz hm hsz ht hroom
    have hrun : (Builtin.append_ #[88, 88] o.type #[.slice (some ⟨g, 0, none⟩) l.length cap, .slice (some ⟨Y, 0, none⟩) 1 1]).run Tryd.prog w = .ok (.slice (some ⟨g, 0, none⟩) (l.length + 1) cap) (w.setRow g (cur.toList.take l.length ++ Lib.byteCells [c] ++ cur.toList.drop (l.length + 1)).toArray) := by
      rw [hi1] at hf
      simp only [Nat.add_zero] at hst
      simp [Builtin.append_, run_underlying Tryd.underlying88, sizeOf, typeInfo, hi, hi1, Builtin.lenOf, hroom, hf, Addr.add_lit]
      rw [List.append_assoc] at hst
      rw [hst]
      rfl
    unfold Oper.wp execOp
    simp only [ho, resolve, invoke, builtin, Sem.run_bind, Sem.run_pure, Result.andThen_ok, List.map_toArray, List.map_cons, List.map_nil, hs, hx, hrun]
    exact hK _ _ (h _ _ h2 h3)
  · have hg2 := run_append_grow (P := Tryd.prog) w 88 o.type 5 i (.int .u8 0) Tryd.underlying88 hi hi0 ⟨g, 0, none⟩ l.length cap (Lib.byteCells l) (by rw [hi1, Lib.byteCells_length, Nat.mul_one]) (fun j u hu => by rw [add_at, Nat.zero_add]; exact hcs j u hu) ⟨Y, 0, none⟩ 1 1 (Lib.byteCells [c]) (by rw [hi1]; rfl) hc (by omega) (by omega) (growslice_fits (by omega) (by rw [hi2]; omega))
    have hge := grownCap_ge w (l.length + 1) cap 5
    have hmx := grownCap_le_maxLen w (l.length + 1) cap 5 (by unfold maxLen; omega)
    generalize grownCap w (l.length + 1) cap 5 = cap2 at *
    obtain ⟨h2, h3⟩ := OwnB.made (w := w) (l := l ++ [c]) (zs := Builtin.zeroCells (Value.int .u8 0).cells (cap2 - (l.length + 1))) (cap := cap2) (n := l.length + 1) hbase (by rw [List.length_append]; exact hge) hmx (by rw [size_zeroCells, List.length_append]; show l.length + 1 + (cap2 - (l.length + 1)) * 1 = cap2; omega) (by rw [List.length_append]; rfl)
    have e : (Lib.byteCells l).toArray ++ (Lib.byteCells [c]).toArray = (Lib.byteCells (l ++ [c])).toArray := by simp [Lib.byteCells]
    rw [e] at hg2
    unfold Oper.wp execOp
    simp only [ho, resolve, invoke, builtin, Sem.run_bind, Sem.run_pure, Result.andThen_ok, List.map_toArray, List.map_cons, List.map_nil, hs, hx, hg2]
    exact hK _ _ (h _ _ h2 (h3 _))
/-- A string is added. -/
theorem wpList_B_str (s x : Operand) (hgd : o.guard = none) (ho : o.op = .call { callee := .builtin .append, args := #[s, x], argTypes := #[88, 9] })
    (base : Nat) (v : Value) (l new : Bs) (hs : a.eval s = v) (hown : OwnB w base v l) (hx : a.eval x = .string ⟨new.toArray⟩) (hn : l.length + new.length ≤ 100000000000000) (hbase : base ≤ w.heap.size)
    (h : ∀ v' w', OwnB w' base v' (l ++ new) → w.grownBy w' v.ownBlock → wpList Tryd.prog ops Q rest (a.put o.dst v') w') : wpList Tryd.prog ops Q (o :: rest) a w := by
  obtain ⟨i, hi, hi0, hi1, hi2⟩ := info_u8b
  have hz0 : (⟨new.toArray⟩ : ByteArray).size = new.length := by simp [ByteArray.size]
  have hsc : Lib.strCells ⟨new.toArray⟩ = Lib.byteCells new := by simp [Lib.byteCells, Lib.strCells]
  obtain ⟨g, cap, cur, fz, rfl, hb, hg, hz, hle, hm, hsz, ht⟩ := id hown
  have hcs := OwnB.cells hown
  refine wpList_plain hgd fun _ hK => ?_
  by_cases hroom : l.length + new.length ≤ cap
  · have hf := Lib.run_firstCells_string (P := Tryd.prog) w 1 ⟨new.toArray⟩
    have h1 := Lib.strCells_oneCell ⟨new.toArray⟩
    have hcn : (Lib.byteCells new).length = new.length := Lib.byteCells_length new
    rw [hsc] at hf h1
    rw [hz0] at hf
    have hst := storeB Tryd.prog g l.length 5 fz (Lib.byteCells new) 0 cur w hg (hz.imp id fun e => Nat.le_trans (by rw [hcn]; exact hroom) e) (by rw [hsz, hcn]; exact hroom) h1
    obtain ⟨h2, h3⟩ := OwnB.room (w := w) (new := new) hb hg hz hm hsz ht hroom
    have hrun : (Builtin.append_ #[88, 9] o.type #[.slice (some ⟨g, 0, none⟩) l.length cap, .string ⟨new.toArray⟩]).run Tryd.prog w = .ok (.slice (some ⟨g, 0, none⟩) (l.length + new.length) cap) (w.setRow g (cur.toList.take l.length ++ Lib.byteCells new ++ cur.toList.drop (l.length + new.length)).toArray) := by
      simp only [Nat.add_zero] at hst
      rw [hcn, List.append_assoc] at hst
      simp [Builtin.append_, run_underlying Tryd.underlying88, run_underlying Tryd.underlying9, sizeOf, typeInfo, hi, hi1, Builtin.lenOf, hz0, hroom, hf, Addr.add_lit]
      rw [hst]
      rfl
    unfold Oper.wp execOp
    simp only [ho, resolve, invoke, builtin, Sem.run_bind, Sem.run_pure, Result.andThen_ok, List.map_toArray, List.map_cons, List.map_nil, hs, hx, hrun]
    exact hK _ _ (h _ _ h2 h3)
  · have hg2 := Lib.run_append_grow_string (P := Tryd.prog) w 88 9 o.type 5 i (.int .u8 0) Tryd.underlying88 Tryd.underlying9 hi hi0 ⟨g, 0, none⟩ l.length cap (Lib.byteCells l) (by rw [hi1, Lib.byteCells_length, Nat.mul_one]) (fun j u hu => by rw [add_at, Nat.zero_add]; exact hcs j u hu) ⟨new.toArray⟩ (by rw [hz0]; omega) (by rw [hz0]; omega) (by rw [hz0]; exact growslice_fits (by omega) (by rw [hi2]; omega))
    rw [hz0, hsc] at hg2
    have hge := grownCap_ge w (l.length + new.length) cap 5
    have hmx := grownCap_le_maxLen w (l.length + new.length) cap 5 (by unfold maxLen; omega)
    generalize grownCap w (l.length + new.length) cap 5 = cap2 at *
    obtain ⟨h2, h3⟩ := OwnB.made (w := w) (l := l ++ new) (zs := Builtin.zeroCells (Value.int .u8 0).cells (cap2 - (l.length + new.length))) (cap := cap2) (n := l.length + new.length) hbase (by rw [List.length_append]; exact hge) hmx (by rw [size_zeroCells, List.length_append]; show l.length + new.length + (cap2 - (l.length + new.length)) * 1 = cap2; omega) (by rw [List.length_append])
    have e : (Lib.byteCells l).toArray ++ (Lib.byteCells new).toArray = (Lib.byteCells (l ++ new)).toArray := by simp [Lib.byteCells]
    rw [e] at hg2
    unfold Oper.wp execOp
    simp only [ho, resolve, invoke, builtin, Sem.run_bind, Sem.run_pure, Result.andThen_ok, List.map_toArray, List.map_cons, List.map_nil, hs, hx, hg2]
    exact hK _ _ (h _ _ h2 (h3 _))
end
end Go.Proofs.YtknhkmlihbgjpaaDoor
