/- Two arrays of truths are compared; a set is looked at whether it is empty. -/
import Derived.Test.YtakkcofmbafneaaPMem
import Derived.Laws.StructEq
namespace Go.Proofs.Ytakkcofmbafneaa
open Go.ChangeShapes Go.WideShapes Go.RowKit

/-- Cells of a block. -/
def Cls (w : World) (g o : Nat) (cs : List Value) : Prop := ∀ j v, cs[j]? = some v → w.cell? ⟨g, o + j, none⟩ = some v
section
variable {P : Program} {ops : Array Oper} {rest : List Oper} {o : Oper} {a : Act} {w : World} {Q : Exit → Act → World → Prop}
theorem add_any (g k j : Nat) : (⟨g, k, none⟩ : Addr).add j = ⟨g, k + j, none⟩ := by unfold Addr.add; split <;> simp_all
theorem run_load_cells (w : World) (g k : Nat) (ty : TypeId) (cs : List Value) (d : TypeDesc) (hc : Cls w g k cs)
    (hu : P.underlying ty = some d) (hd : (match d with | .struct _ | .array _ _ => true | _ => false) = true) (hi : (P.info? ty).map (·.size) = some cs.length) :
    (loadVar ty ⟨g, k, none⟩).run P w = .ok (.agg cs.toArray) w := by
  have hl := run_loadCells_list (P := P) w ⟨g, k, none⟩ cs (fun j v hv => by rw [add_any]; exact hc j v hv)
  cases hq : P.info? ty with
  | none => simp [hq] at hi
  | some i =>
    have hs : i.size = cs.length := by simpa [hq] using hi
    have hagg : (isAgg ty).run P w = .ok true w := by
      unfold isAgg
      rw [Sem.run_bind, run_underlying hu w]
      cases d <;> simp_all
    simp [loadVar, Sem.run_bind, hagg, sizeOf, typeInfo, hq, hs, hl]
/-- A whole array (or struct) is read, wherever it lies. -/
theorem load_at (g k : Nat) (cs : List Value) (hc : Cls w g k cs) (n : Nat) (hn : cs.length = n) (ty : TypeId) (d : TypeDesc) (hu : P.underlying ty = some d) (hd : (match d with | .struct _ | .array _ _ => true | _ => false) = true) (hi : (P.info? ty).map (·.size) = some n) (x : Operand) (hgd : o.guard = none) (ho : o.op = .load ty x)
    (hx : a.eval x = .pointer (some ⟨g, k, none⟩))
    (h : wpList P ops Q rest (a.put o.dst (.agg cs.toArray)) w) : wpList P ops Q (o :: rest) a w :=
  wpList_plain hgd fun _ hK => by
    unfold Oper.wp execOp
    simp only [ho, hx, Instr.loadAt, Instr.sureAddr, Sem.run_bind, Sem.run_pure, Result.andThen_ok, run_load_cells w g k ty cs d hc hu hd (by rw [hi, hn])]
    exact hK _ _ h
end
theorem run_forIn_find {P : Program} {w : World} {β : Type} (l : List Nat) (b b' : β) (g : Nat → Bool) (f : Nat → β → Sem (ForInStep β)) (h : ∀ i ∈ l, (f i b).run P w = .ok (if g i then .yield b else .done b') w) : (forIn l b f).run P w = .ok (if l.all g then b else b') w := by
  induction l with
  | nil => simp
  | cons i l ih =>
    rw [List.forIn_cons, Sem.run_bind, h i (List.mem_cons_self ..)]
    cases hg : g i with
    | true =>
      simp only [if_true, Result.andThen_ok, List.all_cons, hg, Bool.true_and]
      exact ih (fun j hj => h j (List.mem_cons_of_mem _ hj))
    | false =>
      simp [hg]
theorem run_equal_truths {P : Program} (w : World) (d : Nat) (t e : TypeId) (n : Nat) (cs ds : List Value) (x y : Nat → Bool) (ht : P.underlying t = some (.array n e)) (he : P.underlying e = some .bool) (hz : (P.info? e).map (·.size) = some 1) (hx : ∀ i, i < n → cs[i]? = some (.bool (x i))) (hy : ∀ i, i < n → ds[i]? = some (.bool (y i))) :
    (Op.equalIn (d + 2) t (.agg cs.toArray) (.agg ds.toArray)).run P w = .ok ((List.range' 0 n).all fun i => x i == y i) w := by
  have hz : ∀ w, (sizeOf e).run P w = .ok 1 w := fun w => by
    cases hq : P.info? e with
    | none => simp [hq] at hz
    | some i => simp [hq] at hz; simp [sizeOf, typeInfo, hq, hz]
  have ha : ∀ w, (isAgg e).run P w = .ok false w := fun w => by
    unfold isAgg
    rw [Sem.run_bind, run_underlying he w]
    simp
  have hp : ∀ (cs : List Value) (x : Nat → Bool), (∀ i, i < n → cs[i]? = some (.bool (x i))) → ∀ i, i < n → ∀ w, (part e cs.toArray (i * 1)).run P w = .ok (.bool (x i)) w := fun cs x hx i hi w => by
    have h1 := hx i hi
    obtain ⟨h2, h3⟩ := List.getElem?_eq_some_iff.1 h1
    simp [part, ha, h2, h3]
  have hq : ∀ (a b : Bool) (w : World), (Op.equalIn (d + 1) e (.bool a) (.bool b)).run P w = .ok (a == b) w := fun a b w => by
    unfold Op.equalIn
    simp only [Sem.run_bind, run_underlying he, Result.andThen_ok]
    rfl
  unfold Op.equalIn
  simp only [Sem.run_bind, run_underlying ht, Result.andThen_ok, hz]
  rw [Std.Legacy.Range.forIn_eq_forIn_range', run_forIn_find _ _ ⟨some false, ⟨⟩⟩ (fun i => x i == y i)]
  · simp only [Result.andThen_ok]
    rw [show ([:n] : Std.Legacy.Range).size = n by simp [Std.Legacy.Range.size]]
    cases h : (List.range' 0 n).all fun i => x i == y i <;> simp
  · intro i hm
    have hlt : i < n := by
      simp [List.mem_range'] at hm
      omega
    simp only [Sem.run_bind, hp cs x hx i hlt, hp ds y hy i hlt, Result.andThen_ok, hq]
    cases h : x i == y i <;> simp
/-- No byte is in the set. -/
def isNo (p : UInt8 → Bool) : Bool := (List.range' 0 256).all fun i => p (UInt8.ofNat i) == false
theorem isNo_iff (p : UInt8 → Bool) : isNo p = true ↔ p = noSet := by
  unfold isNo
  rw [List.all_eq_true]
  constructor
  · intro h
    funext c
    have := h c.toNat (by rw [List.mem_range']; exact ⟨c.toNat, c.toNat_lt, by omega⟩)
    rw [UInt8.ofNat_toNat] at this
    simpa [noSet] using this
  · rintro rfl i _
    rfl
/-- The set is compared with the one that has no byte. -/
theorem no_eql (p : UInt8 → Bool) (w : World) : (binOp .eql 64 (.agg (setRow p).toArray) (.agg (setRow noSet).toArray)).run Try.prog w = .ok (.bool (isNo p)) w := by
  have h := run_equal_truths (P := Try.prog) w 9998 64 4 256 (setRow p) (setRow noSet) (fun i => p (UInt8.ofNat i)) (fun _ => false) (by kernel_rfl) (by kernel_rfl) (by kernel_rfl) (fun i hi => setRow_get p hi) (fun i hi => setRow_get noSet hi)
  rw [run_eql_struct, h]
  rfl
theorem SetAt.cls {w : World} {g o : Nat} {p : UInt8 → Bool} (h : SetAt w g o p) : Cls w g o (setRow p) := fun j v hv => by
  have hj : j < 256 := by have := (List.getElem?_eq_some_iff.1 hv).1; rwa [setRow_len] at this
  rw [setRow_get p hj] at hv
  rw [h j hj]
  exact hv
theorem zero_class (w : World) : (zeroValue 64).run Try.prog w = .ok (.agg (setRow noSet).toArray) w := by kernel_rfl
set_option maxHeartbeats 800000 in
theorem empty_any (g o : Nat) (p : UInt8 → Bool) (w : World) (h : SetAt w g o p) :
    Calls Try.prog 36 #[.pointer (some ⟨g, o, none⟩)] w fun e w' => e = .returned (.bool (isNo p)) ∧ w' = w := by
  go_enter Try.func36, Try.ntmps36
  have hc := h.cls
  have hlen := setRow_len p
  have heq := no_eql p
  have hz := zero_class
  clear h
  generalize setRow p = X at *
  generalize setRow noSet = Z at *
  go_wp2_with (refine load_at _ o _ hc 256 hlen 64 (.array 256 4) (by kernel_rfl) rfl (by kernel_rfl) _ rfl rfl rfl ?_)
  go_ret
  exact ⟨rfl, rfl⟩
end Go.Proofs.Ytakkcofmbafneaa
