/- Rows of fields that one owns; a class of worlds in which some cells are told. -/
import Derived.Test.YtknhkmlihbgjpaaDoorARaised
import Derived.Test.YtknhkmlihbgjpaaDoorKG
namespace Go.Proofs.YtknhkmlihbgjpaaDoor
open Go.ChangeShapes Go.WideShapes Go.RowKit

theorem own_stay2 {w w' : World} {base : Nat} {e : TypeId} {s n : Nat} {v : Value} {xs : List Value} (h : w.ownsRow base e s v n xs) (k : Below w.heap.size w w') : w'.ownsRow base e s v n xs := own_asdS h (Asd.of_below k (S := fun _ => False)) (fun _ _ e => e)
/-- Elements are appended to a row that one owns. -/
theorem wp_own_at {P : Program} {o : Oper} {a : Act} {w : World} {K : Act → World → Prop} {Q : Exit → Act → World → Prop} (s x : Operand) (t : TypeId) (ho : o.op = .call { callee := .builtin .append, args := #[s, x], argTypes := #[t, t] })
    (base : Nat) (e : TypeId) (i : TypeInfo) (z : Value) (size bytes : Nat) (ht : P.underlying t = some (.slice e)) (hi : P.info? e = some i) (hz : i.zero = some z) (hsize : i.size = size) (hby : i.bytes = bytes) (hzs : z.cells.size = size) (hsz : 0 < size)
    (v : Value) (n : Nat) (xs : List Value) (hs : a.eval s = v) (hown : w.ownsRow base e size v n xs) (g : Nat) (news : List Value) (hx : a.eval x = .slice (some ⟨g, 0, none⟩) 1 1) (hl : news.length = size) (hr : Rw w g e news) (h1 : ∀ u ∈ news, u.oneCell' = true)
    (h63 : n + 1 ≤ maxLen) (hbytes : (n + 1) * bytes ≤ 140737488355328) (hbase : base ≤ w.heap.size)
    (h : ∀ v' w', w'.ownsRow base e size v' (n + 1) (xs ++ news) → w.grownBy w' v.ownBlock → (v'.ownBlock = v.ownBlock ∨ v'.ownBlock = some w.heap.size) → K (a.put o.dst v') w') :
    o.wp P a w K Q := by
  obtain ⟨v', w', hr, h2, h3, _, h5⟩ := run_append_own_at (P := P) w base t o.type e i z size bytes ht hi hz hsize hby hzs hsz v n xs hown ⟨g, 0, none⟩ 1 1 news (by rw [hl, Nat.one_mul]) (fun j u hu => by rw [add_at, Nat.zero_add, Rw.cell hr j]; exact hu) h1 h63 hbytes hbase
  unfold Oper.wp execOp
  simp only [ho, resolve, invoke, builtin, Sem.run_bind, Sem.run_pure, Result.andThen_ok, List.map_toArray, List.map_cons, List.map_nil, hs, hx, hr]
  exact h v' w' h2 h3 h5
theorem Rw.grown {w w' : World} {g : Nat} {t : TypeId} {cs : List Value} {row : Option Nat} (h : Rw w g t cs) (hg : w.grownBy w' row) (hne : row ≠ some g) : Rw w' g t cs := by unfold Rw at *; rw [hg.block g (Array.getElem?_eq_some_iff.1 h).1 (fun e => hne e.symm)]; exact h
theorem info_fld : (Tryd.prog.info? 64).map (fun i => (i.zero, i.size, i.bytes)) = some (some (.agg #[.string ⟨#[]⟩, .string ⟨#[]⟩]), 2, 32) := by kernel_rfl
theorem encF_one (f : Bs × Bs) : ∀ u ∈ encF f, u.oneCell' = true := by
  intro u hu
  simp [encF] at hu
  rcases hu with rfl | rfl <;> rfl
section
variable {ops : Array Oper} {rest : List Oper} {o : Oper} {a : Act} {w : World} {Q : Exit → Act → World → Prop}
/-- A field is added to a row that one owns. -/
theorem wpList_own_fld (s x : Operand) (hg : o.guard = none) (ho : o.op = .call { callee := .builtin .append, args := #[s, x], argTypes := #[22, 22] })
    (base : Nat) (v : Value) (fs : List (Bs × Bs)) (f : Bs × Bs) (hs : a.eval s = v) (hown : w.ownsRow base 64 2 v fs.length (fs.map encF).flatten) (Y : Nat) (hx : a.eval x = .slice (some ⟨Y, 0, none⟩) 1 1) (hr : Rw w Y 64 (encF f)) (hn : fs.length ≤ 100000) (hbase : base ≤ w.heap.size)
    (h : ∀ v' w', w'.ownsRow base 64 2 v' (fs.length + 1) ((fs ++ [f]).map encF).flatten → w.grownBy w' v.ownBlock → (v'.ownBlock = v.ownBlock ∨ v'.ownBlock = some w.heap.size) → wpList Tryd.prog ops Q rest (a.put o.dst v') w') : wpList Tryd.prog ops Q (o :: rest) a w := by
  obtain ⟨i0, hi, hz0, hz1, hz2⟩ := info_parts0 info_fld
  refine wpList_plain hg fun _ hK => wp_own_at s x 22 ho base 64 i0 _ 2 32 Tryd.underlying22 hi hz0 hz1 hz2 rfl (by decide) v fs.length _ hs hown Y (encF f) hx rfl hr (encF_one f) (by unfold maxLen; omega) (by omega) hbase (fun v' w' a b c => hK _ _ (h v' w' ?_ b c))
  rw [List.map_append, List.flatten_append]
  simpa using a
end
theorem put4n (w : World) (t1 t2 t3 t4 : TypeId) (c1 c2 c3 c4 : List Value) : Rw ((((w.alloc (.cells c1.toArray t1)).alloc (.cells c2.toArray t2)).alloc (.cells c3.toArray t3)).alloc (.cells c4.toArray t4)) w.heap.size t1 c1 ∧ Rw ((((w.alloc (.cells c1.toArray t1)).alloc (.cells c2.toArray t2)).alloc (.cells c3.toArray t3)).alloc (.cells c4.toArray t4)) (w.heap.size + 1) t2 c2 ∧
    Rw ((((w.alloc (.cells c1.toArray t1)).alloc (.cells c2.toArray t2)).alloc (.cells c3.toArray t3)).alloc (.cells c4.toArray t4)) (w.heap.size + 1 + 1) t3 c3 ∧ Rw ((((w.alloc (.cells c1.toArray t1)).alloc (.cells c2.toArray t2)).alloc (.cells c3.toArray t3)).alloc (.cells c4.toArray t4)) (w.heap.size + 1 + 1 + 1) t4 c4 ∧ Below w.heap.size w ((((w.alloc (.cells c1.toArray t1)).alloc (.cells c2.toArray t2)).alloc (.cells c3.toArray t3)).alloc (.cells c4.toArray t4)) := by
  obtain ⟨h1, h2, h3, h4⟩ := put3n w t1 t2 t3 c1 c2 c3
  have h5 := Rw.new (((w.alloc (.cells c1.toArray t1)).alloc (.cells c2.toArray t2)).alloc (.cells c3.toArray t3)) t4 c4
  rw [show (((w.alloc (.cells c1.toArray t1)).alloc (.cells c2.toArray t2)).alloc (.cells c3.toArray t3)).heap.size = w.heap.size + 1 + 1 + 1 by simp] at h5
  exact ⟨h1.past _, h2.past _, h3.past _, h5, h4.alloc h4.size _⟩
theorem own_mono {w : World} {base base' : Nat} {e : TypeId} {s n : Nat} {v : Value} {xs : List Value} (h : w.ownsRow base e s v n xs) (hb : base' ≤ base) : w.ownsRow base' e s v n xs := by
  obtain ⟨h1, h2⟩ := h
  refine ⟨h1, h2.imp id ?_⟩
  rintro ⟨g, cap, cur, e1, e2, e3⟩
  exact ⟨g, cap, cur, e1, Nat.le_trans hb e2, e3⟩
theorem flds_snoc2 (fs : List (Bs × Bs)) (f : Bs × Bs) : (List.map encF (fs ++ [f])).flatten = (List.map encF fs).flatten ++ encF f := by simp
/-- The worlds behind W in which the cells of L are as they are told. -/
def CL (W : World) (L : List (Addr × Value)) (w : World) : Prop := Below W.heap.size W w ∧ ∀ p ∈ L, w.cell? p.1 = some p.2
theorem CL.go {W w w' : World} {L : List (Addr × Value)} (h : CL W L w) (k : Below w.heap.size w w') : CL W L w' :=
  ⟨h.1.trans (k.mono h.1.size), fun p hp => (k.cell (World.block_lt_of_cell? w _ (h.2 p hp))).trans (h.2 p hp)⟩
theorem CL.at {W w : World} {L : List (Addr × Value)} (h : CL W L w) (i : Nat) {p : Addr} {v : Value} (hi : L[i]? = some (p, v)) : w.cell? p = some v := h.2 _ (List.mem_of_getElem? hi)
theorem CL.nil (W : World) : CL W [] W := ⟨Below.refl _ _, fun _ h => by cases h⟩
theorem CL.drew {W w : World} {L : List (Addr × Value)} (h : CL W L w) : CL W L w.drew := ⟨h.1.drew, h.2⟩
/-- One row more is told. -/
theorem CL.row {W w : World} {L : List (Addr × Value)} (h : CL W L w) {g : Nat} {t : TypeId} {cs : List Value} (hr : Rw w g t cs) (i : Nat) {v : Value} (hi : cs[i]? = some v) : CL W ((⟨g, i, none⟩, v) :: L) w :=
  ⟨h.1, fun p hp => by
    rcases List.mem_cons.1 hp with rfl | hp
    · exact (Rw.cell hr i).trans hi
    · exact h.2 p hp⟩
theorem jC_u {l c m d : Int} (hc : U32 c) (hd : U32 d) : U32 (jC l c m d) := by
  unfold jC
  obtain ⟨c0, c1⟩ := hc
  obtain ⟨d0, d1⟩ := hd
  split
  · refine ⟨Int.natCast_nonneg _, ?_⟩
    have := Nat.or_lt_two_pow (x := c.toNat) (y := d.toNat) (n := 32) (by omega) (by omega)
    omega
  · exact ⟨by decide, by decide⟩
theorem raisedC_u {ns : List Nd} (hu : ∀ m ∈ ns, U32 m.c) {nm : Bs} {l c : Int} (hc : U32 c) : U32 (raisedC ns nm l c) := by
  unfold raisedC
  cases h : findN ns nm with
  | none => exact hc
  | some x =>
    obtain ⟨m, hm, _, e⟩ := find_mem h
    exact jC_u hc (by rw [← e]; exact hu m hm)
end Go.Proofs.YtknhkmlihbgjpaaDoor
