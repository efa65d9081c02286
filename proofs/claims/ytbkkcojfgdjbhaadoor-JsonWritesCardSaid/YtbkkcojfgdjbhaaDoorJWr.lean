/- JSON's texts as they are written, as plain functions; a text is written. -/
import Derived.Test.YtbkkcojfgdjbhaaDoorJBase
import Derived.Lib.Hide
import Derived.Lib.AppendStr
import Derived.Lib.OthersKept
import Derived.StillTailTactics
namespace Go.Proofs.YtbkkcojfgdjbhaaDoor
open Go.ChangeShapes Go.WideShapes Go.RowKit

def hexD (n : Nat) : UInt8 := if n < 10 then (48 + n).toUInt8 else (87 + n).toUInt8
/-- A byte of a text, as it is written. -/
def escW (c : UInt8) : Bs := if c.toNat = 34 ∨ c.toNat = 92 then [92, c] else if c.toNat < 32 then [92, 117, 48, 48, hexD (c.toNat / 16), hexD (c.toNat % 16)] else [c]
def quoteN (s : Bs) : Bs := [34] ++ s.flatMap escW ++ [34]
theorem escW_len (c : UInt8) : (escW c).length ≤ 6 := by unfold escW; split <;> (try split) <;> simp
theorem flat_len (s : Bs) : (s.flatMap escW).length ≤ 6 * s.length := by
  induction s with
  | nil => simp
  | cons c s ih => have := escW_len c; rw [List.flatMap_cons, List.length_append, List.length_cons]; omega
theorem quote_len (s : Bs) : (quoteN s).length ≤ 6 * s.length + 2 := by
  have := flat_len s
  unfold quoteN
  rw [List.length_append, List.length_append]
  simp only [List.length_cons, List.length_nil]
  omega
/-- What a call that writes hands back: all of it, in a row of its own; below base nothing has turned. -/
structure Fr (base : Nat) (w w' : World) : Prop where
  low : Below base w w'
  kept : Lib.OthersKept 5 none w w'
theorem Fr.refl (base : Nat) (w : World) : Fr base w w := ⟨Below.refl _ _, Lib.OthersKept.refl _ _ _⟩
theorem Fr.trans {base : Nat} {a b c : World} (h : Fr base a b) (k : Fr base b c) : Fr base a c := ⟨h.low.trans k.low, h.kept.trans k.kept⟩
theorem Fr.alloc {base : Nat} {a w : World} (h : Fr base a w) (hb : base ≤ w.heap.size) (o : Obj) : Fr base a (w.alloc o) := ⟨h.low.alloc hb o, h.kept.alloc o⟩
theorem Fr.of_below {base : Nat} {w w' : World} (h : Below w.heap.size w w') (hb : base ≤ w.heap.size) : Fr base w w' := ⟨h.mono hb, fun k o hk _ _ => by rw [h.block k (Array.getElem?_eq_some_iff.1 hk).1]; exact hk⟩
theorem Fr.grown {base n : Nat} {w w' : World} {v : Value} {xs : List Value} (hown : w.ownsRow base 5 1 v n xs) (hb : base ≤ w.heap.size) (hg : w.grownBy w' v.ownBlock) : Fr base w w' := by
  refine ⟨(Below.refl _ _).grown hg hb (fun k e => (hown.lt k e).1), fun k o hk _ hn => ?_⟩
  rw [hg.block k (Array.getElem?_eq_some_iff.1 hk).1 ?_]
  · exact hk
  · intro e
    rcases hown.2 with ⟨rfl, _⟩ | ⟨g, cap, cur, rfl, _, hg2, _⟩
    · cases e
    · injection e with e
      simp at e
      subst e
      rw [hk] at hg2
      injection hg2 with hg2
      exact hn _ _ hg2
/-- A row of another kind is as it was. -/
theorem Rw.frame {base g : Nat} {w w' : World} {t : TypeId} {cs : List Value} (h : Rw w g t cs) (k : Fr base w w') (ht : t ≠ 5) : Rw w' g t cs := k.kept g _ h (by simp) (fun c fz e => ht (by injection e))
def AddP (base : Nat) (w : World) (out : Bs) (e : Ending) (w' : World) : Prop := ∃ v, e = .returned v ∧ w'.ownsRow base 5 1 v out.length (Lib.byteCells out) ∧ Fr base w w'
theorem info_u8 : (Tryd.prog.info? 5).map (fun i => (i.zero, i.size, i.bytes)) = some (some (.int .u8 0), 1, 1) := by kernel_rfl
theorem info_parts0 {e : TypeId} {z : Value} {s b : Nat} (h : (Tryd.prog.info? e).map (fun i => (i.zero, i.size, i.bytes)) = some (some z, s, b)) : ∃ i, Tryd.prog.info? e = some i ∧ i.zero = some z ∧ i.size = s ∧ i.bytes = b := by
  cases hq : Tryd.prog.info? e with
  | none => rw [hq] at h; cases h
  | some i =>
    rw [hq] at h
    simp only [Option.map_some, Option.some.injEq, Prod.mk.injEq] at h
    exact ⟨i, rfl, h.1, h.2.1, h.2.2⟩
theorem cells_one (l : Bs) : ∀ u ∈ Lib.byteCells l, u.oneCell' = true := by
  intro u hu
  simp [Lib.byteCells] at hu
  obtain ⟨b, _, rfl⟩ := hu
  rfl
theorem cells_len (l : Bs) : (Lib.byteCells l).length = l.length := by simp [Lib.byteCells]
section
variable {ops : Array Oper} {rest : List Oper} {o : Oper} {a : Act} {w : World} {Q : Exit → Act → World → Prop} {K : Act → World → Prop}
/-- Bytes that lie in a block of their own are appended to a row that one owns. -/
theorem wp_app (base g : Nat) (bv : Value) (bs new : Bs) (hown : w.ownsRow base 5 1 bv bs.length (Lib.byteCells bs)) (hb : base ≤ w.heap.size) (hl : bs.length + new.length ≤ 100000000) (hc : ∀ j u, (Lib.byteCells new)[j]? = some u → w.cell? ⟨g, j, none⟩ = some u)
    (s x : Operand) (ho : o.op = .call { callee := .builtin .append, args := #[s, x], argTypes := #[53, 53] }) (hs : a.eval s = bv) (c : Nat) (hx : a.eval x = .slice (some ⟨g, 0, none⟩) new.length c)
    (h : ∀ v' w', w'.ownsRow base 5 1 v' (bs ++ new).length (Lib.byteCells (bs ++ new)) → Fr base w w' → K (a.put o.dst v') w') : o.wp Tryd.prog a w K Q := by
  obtain ⟨i0, hi, hz0, hz1, hz2⟩ := info_parts0 info_u8
  refine wp_append_own w s x 53 ho base 5 i0 (.int .u8 0) 1 1 Tryd.underlying53 hi hz0 hz1 hz2 rfl (by decide) bv bs.length _ hs hown ⟨g, 0, none⟩ new.length c (Lib.byteCells new) hx (by rw [cells_len]; omega) (fun j u hu => by
    rw [show (⟨g, 0, none⟩ : Addr).add j = ⟨g, j, none⟩ by unfold Addr.add; split <;> simp_all]
    exact hc j u hu) (cells_one new) (by unfold maxLen; omega) (by omega) hb (fun v' w' h1 h2 _ => ?_)
  rw [show bs.length + new.length = (bs ++ new).length by simp, show Lib.byteCells bs ++ Lib.byteCells new = Lib.byteCells (bs ++ new) by simp [Lib.byteCells]] at h1
  exact h v' w' h1 (Fr.grown hown hb h2)
theorem list_app (base g : Nat) (bv : Value) (bs new : Bs) (hown : w.ownsRow base 5 1 bv bs.length (Lib.byteCells bs)) (hb : base ≤ w.heap.size) (hl : bs.length + new.length ≤ 100000000) (hc : ∀ j u, (Lib.byteCells new)[j]? = some u → w.cell? ⟨g, j, none⟩ = some u)
    (s x : Operand) (hgd : o.guard = none) (ho : o.op = .call { callee := .builtin .append, args := #[s, x], argTypes := #[53, 53] }) (hs : a.eval s = bv) (c : Nat) (hx : a.eval x = .slice (some ⟨g, 0, none⟩) new.length c)
    (h : ∀ v' w', w'.ownsRow base 5 1 v' (bs ++ new).length (Lib.byteCells (bs ++ new)) → Fr base w w' → wpList Tryd.prog ops Q rest (a.put o.dst v') w') : wpList Tryd.prog ops Q (o :: rest) a w :=
  wpList_plain hgd fun _ hK => wp_app base g bv bs new hown hb hl hc s x ho hs c hx fun v' w' h1 h2 => hK _ _ (h v' w' h1 h2)
/-- The same, the bytes just laid. -/
theorem list_new (base : Nat) (bv : Value) (bs new : Bs) (vals : Array Value) (hv : vals.toList = Lib.byteCells new) (hown : w.ownsRow base 5 1 bv bs.length (Lib.byteCells bs)) (hb : base ≤ w.heap.size) (hl : bs.length + new.length ≤ 100000000)
    (s x : Operand) (hgd : o.guard = none) (ho : o.op = .call { callee := .builtin .append, args := #[s, x], argTypes := #[53, 53] }) (hs : a.eval s = bv) (c : Nat) (hx : a.eval x = .slice (some ⟨w.heap.size, 0, none⟩) new.length c)
    (h : ∀ v' w', w'.ownsRow base 5 1 v' (bs ++ new).length (Lib.byteCells (bs ++ new)) → Fr base w w' → wpList Tryd.prog ops Q rest (a.put o.dst v') w') : wpList Tryd.prog ops Q (o :: rest) a (w.alloc (.cells vals 5)) := by
  refine list_app base w.heap.size bv bs new (World.ownsRow.alloc hown _) (by simp; omega) hl (fun j u hu => ?_) s x hgd ho hs c hx (fun v' w' h1 h2 => h v' w' h1 (((Fr.refl _ _).alloc hb _).trans h2))
  rw [← hv] at hu
  have := Rw.cell (Rw.new w 5 vals.toList) j
  rw [Array.toArray_toList] at this
  rw [this]; exact hu
/-- A string is appended to a row that one owns. -/
theorem list_str (base : Nat) (bv : Value) (bs new : Bs) (hown : w.ownsRow base 5 1 bv bs.length (Lib.byteCells bs)) (hb : base ≤ w.heap.size) (hl : bs.length + new.length ≤ 100000000)
    (s x : Operand) (hgd : o.guard = none) (ho : o.op = .call { callee := .builtin .append, args := #[s, x], argTypes := #[53, 9] }) (hs : a.eval s = bv) (hx : a.eval x = .string ⟨new.toArray⟩)
    (h : ∀ v' w', w'.ownsRow base 5 1 v' (bs ++ new).length (Lib.byteCells (bs ++ new)) → Fr base w w' → wpList Tryd.prog ops Q rest (a.put o.dst v') w') : wpList Tryd.prog ops Q (o :: rest) a w := by
  obtain ⟨i0, hi, hz0, hz1, hz2⟩ := info_parts0 info_u8
  have hsz : (⟨new.toArray⟩ : ByteArray).size = new.length := by simp [ByteArray.size]
  refine Lib.wpList_append_own_string _ hgd s x 53 9 ho base 5 i0 Tryd.underlying53 Tryd.underlying9 hi hz0 hz1 hz2 bv bs.length _ hs hown ⟨new.toArray⟩ hx (by rw [hsz]; unfold maxLen; omega) (by rw [hsz]; omega) hb (fun v' w' h1 h2 _ => ?_)
  rw [hsz, show bs.length + new.length = (bs ++ new).length by simp, show Lib.byteCells bs ++ Lib.strCells ⟨new.toArray⟩ = Lib.byteCells (bs ++ new) by simp [Lib.byteCells, Lib.strCells]] at h1
  exact h v' w' h1 (Fr.grown hown hb h2)
end
end Go.Proofs.YtbkkcojfgdjbhaaDoor
