/- PB: several texts in one. -/
import Derived.Test.YteooofakpkbgoaaDoorProg
import Derived.Lib.Hide
import Derived.Lib.AppendStr
import Derived.Lib.OthersKept
import Derived.StillTailTactics
import Derived.Laws.BytesArg
import Derived.Deep.Cut
import Derived.Deep.CutRange
import Derived.Maps.AppendAt
import Derived.Below
import Derived.Laws.Strings2
import Derived.WalkKit
import Derived.Deep.WholeRow
import Derived.Test.YteooofakpkbgoaaDoorPA
import Derived.BigQuiet
import Derived.KernelRfl
import Derived.Laws.StructEq
import Derived.OwnWalk
import Derived.Defers
import Derived.Laws.ResultCell
import Derived.Laws.OwnMore
import Derived.Maps.OwnSet
import Derived.Maps.RangeWalk
import Derived.OrdersHeld
import Derived.Great.BuildSlice
import Derived.Great.FillDense
import Derived.Deep.Strs
/- What serves every text of pattern: memory, rows, texts. -/
namespace Go.Proofs.YteooofakpkbgoaaDoor
open Go.ChangeShapes Go.WideShapes Go.RowKit

abbrev Bs := List UInt8

/-- All blocks that there were are as they were, but for those of S. -/
structure Asd (S : Nat → Prop) (w w' : World) : Prop where
  os : w'.os = w.os
  tape : w'.tape = w.tape
  output : w'.output = w.output
  size : w.heap.size ≤ w'.heap.size
  block : ∀ k, k < w.heap.size → ¬ S k → w'.heap[k]? = w.heap[k]?
theorem Asd.refl (S : Nat → Prop) (w : World) : Asd S w w := ⟨rfl, rfl, rfl, Nat.le_refl _, fun _ _ _ => rfl⟩
theorem Asd.trans {S S' : Nat → Prop} {a b c : World} (h : Asd S a b) (k : Asd S' b c) (hs : ∀ i, S' i → i < a.heap.size → S i) : Asd S a c :=
  ⟨k.os.trans h.os, k.tape.trans h.tape, k.output.trans h.output, Nat.le_trans h.size k.size, fun i hi hn => (k.block i (Nat.lt_of_lt_of_le hi h.size) (fun e => hn (hs i e hi))).trans (h.block i hi hn)⟩
theorem Asd.andThen {S : Nat → Prop} {a b c : World} (h : Asd S a b) (k : Asd S b c) : Asd S a c := h.trans k (fun _ e _ => e)
theorem Asd.of_below {S : Nat → Prop} {w w' : World} (h : Below w.heap.size w w') : Asd S w w' := ⟨h.os, h.tape, h.output, h.size, fun k hk _ => h.block k hk⟩
theorem Asd.below {S : Nat → Prop} {a b c : World} (h : Asd S a b) (k : Below b.heap.size b c) : Asd S a c := h.andThen (Asd.of_below k)
theorem Asd.toBelow {S : Nat → Prop} {w w' : World} {B : Nat} (h : Asd S w w') (hB : B ≤ w.heap.size) (hs : ∀ k, S k → B ≤ k) : Below B w w' :=
  ⟨h.os, h.tape, h.output, h.size, fun k hk => h.block k (by omega) (fun e => by have := hs k e; omega)⟩
theorem Asd.setCell {S : Nat → Prop} {a w : World} (h : Asd S a w) {p : Addr} (hp : S p.block ∨ a.heap.size ≤ p.block) (u : Value) : Asd S a (w.setCell p u) :=
  ⟨h.os, h.tape, h.output, by simpa [World.setCell] using h.size, fun k hk hn => by
    rw [Below.heap_setCell _ _ _ _ (fun e => by subst e; rcases hp with hp | hp; exact hn hp; omega)]; exact h.block k hk hn⟩
theorem Asd.alloc {S : Nat → Prop} {a w : World} (h : Asd S a w) (o : Obj) : Asd S a (w.alloc o) := h.below ((Below.refl _ _).alloc (Nat.le_refl _) o)
theorem Asd.drew {S : Nat → Prop} {a w : World} (h : Asd S a w) : Asd S a w.drew := h.below (Below.refl _ _).drew
theorem Asd.grown {S : Nat → Prop} {a w w' : World} {row : Option Nat} (h : Asd S a w) (hg : w.grownBy w' row) (hr : ∀ k, row = some k → S k ∨ a.heap.size ≤ k) : Asd S a w' :=
  ⟨hg.os.trans h.os, hg.tape.trans h.tape, hg.output.trans h.output, Nat.le_trans h.size hg.size, fun k hk hn => by
    rw [hg.block k (Nat.lt_of_lt_of_le hk h.size) (fun e => by rcases hr k e.symm with q | q; exact hn q; omega)]; exact h.block k hk hn⟩

theorem Asd.any {S S' : Nat → Prop} {w w' : World} (h : Asd S w w') (k : ∀ i, S i → S' i) : Asd S' w w' := ⟨h.os, h.tape, h.output, h.size, fun i hi hn => h.block i hi (fun e => hn (k i e))⟩
theorem Asd.one (w : World) (R i : Nat) (v : Value) : Asd (· = R) w (w.setCell ⟨R, i, none⟩ v) := (Asd.refl (· = R) w).setCell (p := ⟨R, i, none⟩) (.inl rfl) v
theorem Asd.set1 {a w : World} {R : Nat} (h : Asd (· = R) a w) (i : Nat) (v : Value) : Asd (· = R) a (w.setCell ⟨R, i, none⟩ v) := h.setCell (p := ⟨R, i, none⟩) (.inl rfl) v

/-- Block g holds the row cs of type t. -/
def Rw (w : World) (g : Nat) (t : TypeId) (cs : List Value) : Prop := w.heap[g]? = some (.cells cs.toArray t (0, 0))
theorem Rw.lt {w : World} {g : Nat} {t : TypeId} {cs : List Value} (h : Rw w g t cs) : g < w.heap.size := (Array.getElem?_eq_some_iff.1 h).1
theorem Rw.keep {w w' : World} {g : Nat} {t : TypeId} {cs : List Value} {S : Nat → Prop} (h : Rw w g t cs) (k : Asd S w w') (hs : ¬ S g) : Rw w' g t cs := by unfold Rw at *; rw [k.block g (Rw.lt h) hs]; exact h
theorem Rw.stay {w w' : World} {g : Nat} {t : TypeId} {cs : List Value} (h : Rw w g t cs) (k : Below w.heap.size w w') : Rw w' g t cs := by unfold Rw at *; rw [k.block g (Rw.lt h)]; exact h
theorem Rw.cell {w : World} {g : Nat} {t : TypeId} {cs : List Value} (h : Rw w g t cs) (j : Nat) : w.cell? ⟨g, j, none⟩ = cs[j]? := by
  rw [cell_of_row w g j cs.toArray t (0, 0) h]; simp
theorem Rw.frozen {w : World} {g : Nat} {t : TypeId} {cs : List Value} (h : Rw w g t cs) (j : Nat) : w.frozen? ⟨g, j, none⟩ = false := by
  unfold Rw at h; simp [World.frozen?, h]
theorem Rw.setCell {w : World} {g : Nat} {t : TypeId} {cs : List Value} (h : Rw w g t cs) (i : Nat) (v : Value) : Rw (w.setCell ⟨g, i, none⟩ v) g t (cs.set i v) := by
  rw [setCell_eq_setRow w g i cs.toArray t (0, 0) v h]
  unfold Rw
  rw [setRow_heap w g _ _ t _ h]; simp
theorem Rw.other {w : World} {g k : Nat} {t : TypeId} {cs : List Value} (h : Rw w g t cs) (hk : g ≠ k) (i : Nat) (v : Value) : Rw (w.setCell ⟨k, i, none⟩ v) g t cs := by
  unfold Rw at *; rw [← h]; exact Below.heap_setCell _ ⟨k, i, none⟩ _ g hk
theorem Rw.new (w : World) (t : TypeId) (cs : List Value) : Rw (w.alloc (.cells cs.toArray t)) w.heap.size t cs := heap_alloc_last w _

def sv (l : Bs) : Value := .string ⟨l.toArray⟩
/-- A byte of a text. -/
theorem at_text (l : Bs) (k : Nat) (c : UInt8) (hk : l[k]? = some c) (i : Int) (hi : i = (k : Int)) (w : World) : (Instr.index 9 (.string ⟨l.toArray⟩) (.int .i64 i)).run Tryd.prog w = .ok (.int .u8 (c.toNat : Int)) w := by
  subst hi
  have hlt : k < l.length := (List.getElem?_eq_some_iff.1 hk).1
  have hs : (⟨l.toArray⟩ : ByteArray).size = l.length := by simp [ByteArray.size]
  rw [run_index_string w 9 _ .i64 _ (by kernel_rfl), dif_pos ⟨by omega, by rw [hs]; omega⟩]
  have hc := (List.getElem?_eq_some_iff.1 hk).2
  congr 3
  rw [← hc]
  rfl
theorem extract_text (l : Bs) (a b : Nat) : (⟨l.toArray⟩ : ByteArray).extract a b = ⟨((l.take b).drop a).toArray⟩ := by
  apply ByteArray.ext
  rw [ByteArray.data_extract]
  apply Array.ext'
  simp [List.extract_eq_take_drop, List.drop_take]
/-- The end of a text from a byte on. -/
theorem cut_text (l : Bs) (k : Nat) (hk : k ≤ l.length) (i : Int) (hi : i = (k : Int)) (w : World) : (Instr.slice 9 (.string ⟨l.toArray⟩) (some (.int .i64 i)) none none).run Tryd.prog w = .ok (.string ⟨(l.drop k).toArray⟩) w := by
  subst hi
  have hs : (⟨l.toArray⟩ : ByteArray).size = l.length := by simp [ByteArray.size]
  simp [Instr.slice, run_underlying Tryd.underlying9, Instr.sliceBounds, run_sliceBound, hs, show (k : Int) ≤ (l.length : Int) by omega]
  rw [extract_text, List.take_length]
/-- The beginning of a text up to a byte. -/
theorem cut_upto (l : Bs) (k : Nat) (hk : k ≤ l.length) (i : Int) (hi : i = (k : Int)) (w : World) : (Instr.slice 9 (.string ⟨l.toArray⟩) none (some (.int .i64 i)) none).run Tryd.prog w = .ok (.string ⟨(l.take k).toArray⟩) w := by
  subst hi
  have hs : (⟨l.toArray⟩ : ByteArray).size = l.length := by simp [ByteArray.size]
  simp [Instr.slice, run_underlying Tryd.underlying9, Instr.sliceBounds, run_sliceBound, hs, show (k : Int) ≤ (l.length : Int) by omega]
  rw [extract_text]; rfl
/-- Is a text another one? -/
theorem text_list (l : Bs) : (⟨l.toArray⟩ : ByteArray).toList = l := by rw [ByteArray.toList_eq]
theorem same_text (a b : Bs) : ((⟨a.toArray⟩ : ByteArray).toList == (⟨b.toArray⟩ : ByteArray).toList) = (a == b) := by rw [text_list, text_list]
theorem some_text (c : UInt8) (l : Bs) : ((⟨(c :: l).toArray⟩ : ByteArray).toList == (⟨#[]⟩ : ByteArray).toList) = false := by rw [show (⟨#[]⟩ : ByteArray) = ⟨([] : Bs).toArray⟩ from rfl, same_text]; rfl
theorem full_text (c : UInt8) (l : Bs) : (⟨(c :: l).toArray⟩ : ByteArray).toList.isEmpty = false := by rw [text_list]; rfl
theorem null_text : (⟨([] : Bs).toArray⟩ : ByteArray).toList.isEmpty = true := by rw [text_list]; rfl
theorem own_asdS {w w' : World} {base : Nat} {S : Nat → Prop} {e : TypeId} {s n : Nat} {v : Value} {xs : List Value} (h : w.ownsRow base e s v n xs) (k : Asd S w w') (hs : ∀ i, v.ownBlock = some i → ¬ S i) : w'.ownsRow base e s v n xs := by
  rcases h with ⟨h1, h2⟩
  refine ⟨h1, ?_⟩
  rcases h2 with h2 | ⟨g, cap, cur, rfl, hb, hg, hr⟩
  · exact .inl h2
  · exact .inr ⟨g, cap, cur, rfl, hb, by rw [k.block g (Array.getElem?_eq_some_iff.1 hg).1 (hs g rfl)]; exact hg, hr⟩
theorem own_ne {w w' : World} {base : Nat} {e : TypeId} {s n : Nat} {v v' u : Value} {xs : List Value} (h : w.ownsRow base e s v n xs) (hu : u.ownBlock = none ∨ u.ownBlock ≠ v.ownBlock) (hsz : w.heap.size ≤ w'.heap.size) (hl : v'.ownBlock = u.ownBlock ∨ v'.ownBlock = some w'.heap.size) : v'.ownBlock = none ∨ v'.ownBlock ≠ v.ownBlock := by
  rcases hl with e | e
  · rw [e]; exact hu
  · right
    rw [e]
    intro e2
    have := (h.lt _ e2.symm).2
    omega
theorem sym_ne {u v : Value} (h : u.ownBlock = none ∨ u.ownBlock ≠ v.ownBlock) : v.ownBlock = none ∨ v.ownBlock ≠ u.ownBlock := by
  by_cases hv : v.ownBlock = none
  · exact .inl hv
  · rcases h with h | h
    · exact .inr (by rw [h]; exact hv)
    · exact .inr (fun e => h e.symm)
/-- The text of bytes that one owns. -/
theorem own_string {w : World} {base : Nat} {v : Value} {l : Bs} (h : w.ownsRow base 5 1 v l.length (Lib.byteCells l)) : (convert 54 9 v).run Tryd.prog w = .ok (.string ⟨l.toArray⟩) w := by
  have hc := h
  rcases h.2 with ⟨rfl, h0⟩ | ⟨g, cap, cur, rfl, hb, hg, hn, _⟩
  · obtain rfl : l = [] := List.eq_nil_of_length_eq_zero h0
    exact run_convert_bytes_nil w _ 5 (by kernel_rfl) (by kernel_rfl) _ _ _ (by kernel_rfl)
  · have := run_convert_bytes_arg (P := Tryd.prog) w 54 5 (by kernel_rfl) (by kernel_rfl) g 0 l.length cap (l.map fun b => (b.toNat : Int)) (by simp) (fun i hi => by
      have h1 := hc.cells (g := g) rfl i (.int .u8 ((l[i]'hi).toNat : Int)) (by simp [Lib.byteCells, hi])
      rw [show (⟨g, 0 + i, none⟩ : Addr) = (⟨g, 0, none⟩ : Addr).add i by unfold Addr.add; split <;> simp_all]
      rw [h1]
      simp [hi]) 9 (by kernel_rfl)
    refine this.trans (congrArg (fun s => Result.ok (Value.string s) w) ?_)
    apply ByteArray.ext
    apply Array.ext'
    rw [strOfNums_data, List.map_map]
    refine (List.map_congr_left (g := id) fun b _ => ?_).trans (List.map_id _)
    simp
theorem own_slice {w : World} {base : Nat} {e : TypeId} {s n : Nat} {v : Value} {xs : List Value} (h : w.ownsRow base e s v n xs) : ∃ a c, v = .slice a n c ∧ n ≤ c := by
  rcases h.2 with ⟨rfl, h0⟩ | ⟨g, cap, cur, rfl, hb, hg, hn, _⟩
  · exact ⟨none, 0, by rw [h0], by omega⟩
  · exact ⟨_, _, rfl, hn⟩
theorem own_succ {w : World} {base : Nat} {e : TypeId} {s n : Nat} {v : Value} {xs : List Value} (h : w.ownsRow base e s v (n + 1) xs) : ∃ g cap, v = .slice (some ⟨g, 0, none⟩) (n + 1) cap := by
  rcases h.2 with ⟨_, h0⟩ | ⟨g, cap, cur, rfl, _⟩
  · omega
  · exact ⟨g, cap, rfl⟩
theorem info_u8 : (Tryd.prog.info? 5).map (fun i => (i.zero, i.size, i.bytes)) = some (some (.int .u8 0), 1, 1) := by kernel_rfl
theorem info_parts0 {e : TypeId} {z : Value} {s b : Nat} (h : (Tryd.prog.info? e).map (fun i => (i.zero, i.size, i.bytes)) = some (some z, s, b)) : ∃ i, Tryd.prog.info? e = some i ∧ i.zero = some z ∧ i.size = s ∧ i.bytes = b := by
  cases hq : Tryd.prog.info? e with
  | none => rw [hq] at h; cases h
  | some i =>
    rw [hq] at h
    simp only [Option.map_some, Option.some.injEq, Prod.mk.injEq] at h
    exact ⟨i, rfl, h.1, h.2.1, h.2.2⟩
theorem cells_one (l : Bs) : ∀ u ∈ Lib.byteCells l, u.oneCell' = true := by
  intro u hu
  simp [Lib.byteCells] at hu
  obtain ⟨b, _, rfl⟩ := hu
  rfl
theorem cells_len (l : Bs) : (Lib.byteCells l).length = l.length := by simp [Lib.byteCells]
theorem info_str : (Tryd.prog.info? 9).map (fun i => (i.zero, i.size, i.bytes)) = some (some (.string ⟨#[]⟩), 1, 16) := by kernel_rfl
/-- A slice of texts, in a block of P. -/
def StrsAt (P : Nat → Prop) (w : World) (v : Value) (ss : List Bs) : Prop :=
  (ss = [] ∧ ∃ a c, v = .slice a 0 c) ∨ ∃ g o c, v = .slice (some ⟨g, o, none⟩) ss.length c ∧ ss.length ≤ c ∧ P g ∧ g < w.heap.size ∧ ∀ (j : Nat) s, ss[j]? = some s → w.cell? ⟨g, o + j, none⟩ = some (.string ⟨s.toArray⟩)
theorem cell_asd {S : Nat → Prop} {w w' : World} (k : Asd S w w') {g j : Nat} (hg : ¬ S g) {v : Value} (h : w.cell? ⟨g, j, none⟩ = some v) : w'.cell? ⟨g, j, none⟩ = some v := by
  have hlt := World.block_lt_of_cell? w _ h
  unfold World.cell? at h ⊢
  rw [k.block g hlt hg]; exact h
theorem StrsAt.keepN {P S : Nat → Prop} {w w' : World} {v : Value} {ss : List Bs} (h : StrsAt P w v ss) (k : Asd S w w') (hd : ∀ i, P i → i < w.heap.size → ¬ S i) : StrsAt P w' v ss := by
  rcases h with h | ⟨g, o, c, e, hle, hp, hlt, hc⟩
  · exact .inl h
  · exact .inr ⟨g, o, c, e, hle, hp, Nat.lt_of_lt_of_le hlt k.size, fun j s hs => cell_asd k (hd g hp hlt) (hc j s hs)⟩
theorem StrsAt.mono {P P' : Nat → Prop} {w : World} {v : Value} {ss : List Bs} (h : StrsAt P w v ss) (hp : ∀ i, P i → i < w.heap.size → P' i) : StrsAt P' w v ss := by
  rcases h with h | ⟨g, o, c, e, hle, hq, hlt, hc⟩
  · exact .inl h
  · exact .inr ⟨g, o, c, e, hle, hp g hq hlt, hlt, hc⟩
theorem StrsAt.one {P : Nat → Prop} {w : World} {v : Value} {ss : List Bs} (h : StrsAt P w v ss) : v.oneCell' = true := by
  rcases h with ⟨_, a, c, rfl⟩ | ⟨g, o, c, rfl, _⟩ <;> rfl
theorem own_strs {w : World} {base : Nat} {v : Value} {ss : List Bs} (h : w.ownsRow base 9 1 v ss.length (ss.map sv)) : StrsAt (fun k => v.ownBlock = some k) w v ss := by
  have hc := h
  rcases h.2 with ⟨rfl, h0⟩ | ⟨g, cap, cur, rfl, hb, hg, hn, _⟩
  · exact .inl ⟨List.eq_nil_of_length_eq_zero h0, none, 0, rfl⟩
  · refine .inr ⟨g, 0, cap, rfl, hn, rfl, (Array.getElem?_eq_some_iff.1 hg).1, fun j s hs => ?_⟩
    have h1 := hc.cells (g := g) rfl j (sv s) (by simp [hs])
    rw [show (⟨g, 0 + j, none⟩ : Addr) = (⟨g, 0, none⟩ : Addr).add j by unfold Addr.add; split <;> simp_all]
    exact h1
end Go.Proofs.YteooofakpkbgoaaDoor
/- A set of bytes as a row of 256 truths. -/
namespace Go.Proofs.YteooofakpkbgoaaDoor

def setRow (p : UInt8 → Bool) : List Value := (List.range 256).map fun i => Value.bool (p (UInt8.ofNat i))
theorem setRow_len (p : UInt8 → Bool) : (setRow p).length = 256 := by simp [setRow]
theorem setRow_get (p : UInt8 → Bool) {k : Nat} (h : k < 256) : (setRow p)[k]? = some (.bool (p (UInt8.ofNat k))) := by simp [setRow, h]
theorem ofNat_inj {a b : Nat} (ha : a < 256) (hb : b < 256) (h : UInt8.ofNat a = UInt8.ofNat b) : a = b := by
  have := congrArg UInt8.toNat h
  simp at this
  omega
theorem setRow_set (p : UInt8 → Bool) {k : Nat} (h : k < 256) (b : Bool) : (setRow p).set k (.bool b) = setRow (fun x => if x = UInt8.ofNat k then b else p x) := by
  apply List.ext_getElem?
  intro i
  by_cases hi : i < 256
  · by_cases e : k = i
    · subst e
      rw [List.getElem?_set_self (by rw [setRow_len]; exact h), setRow_get _ hi, if_pos rfl]
    · rw [List.getElem?_set_ne e, setRow_get _ hi, setRow_get _ hi, if_neg fun e' => e (ofNat_inj hi h e').symm]
  · rw [List.getElem?_eq_none (by rw [List.length_set, setRow_len]; omega), List.getElem?_eq_none (by rw [setRow_len]; omega)]
theorem setRow_inj {p q : UInt8 → Bool} (h : setRow p = setRow q) : p = q := by
  funext c
  have h1 := congrArg (fun l => l[c.toNat]?) h
  simp only [setRow_get _ c.toNat_lt] at h1
  simpa using h1
theorem setRow_none : setRow noSet = List.replicate 256 (.bool false) := by
  apply List.ext_getElem?
  intro i
  by_cases hi : i < 256
  · rw [setRow_get _ hi, List.getElem?_replicate, if_pos hi]; rfl
  · rw [List.getElem?_eq_none (by rw [setRow_len]; omega), List.getElem?_replicate, if_neg hi]
theorem setRow_one (p : UInt8 → Bool) : ∀ v ∈ setRow p, ∃ b, v = .bool b := by
  intro v hv
  obtain ⟨i, _, rfl⟩ := List.mem_map.1 hv
  exact ⟨_, rfl⟩
/-- On the way of adding the bytes from f on: those ahead of k are there. -/
def upto (p : UInt8 → Bool) (f : UInt8) (k : Nat) : UInt8 → Bool := fun x => p x || (decide (f ≤ x) && decide (x.toNat < k))
theorem upto_start (p : UInt8 → Bool) (f : UInt8) : upto p f f.toNat = p := by
  funext x
  unfold upto
  have : (decide (f ≤ x) && decide (x.toNat < f.toNat)) = false := by
    simp only [Bool.and_eq_false_iff, decide_eq_false_iff_not]
    by_cases h : f ≤ x
    · exact .inr (by rw [UInt8.le_iff_toNat_le] at h; omega)
    · exact .inl h
  rw [this, Bool.or_false]
theorem upto_step (p : UInt8 → Bool) (f : UInt8) {k : Nat} (h1 : f.toNat ≤ k) (h2 : k < 256) : (fun x => if x = UInt8.ofNat k then true else upto p f k x) = upto p f (k + 1) := by
  funext x
  unfold upto
  have hk : (UInt8.ofNat k).toNat = k := by simp; omega
  by_cases e : x = UInt8.ofNat k
  · rw [if_pos e]
    have hx : x.toNat = k := by rw [e, hk]
    have : f ≤ x := by rw [UInt8.le_iff_toNat_le]; omega
    simp [this, hx]
  · rw [if_neg e]
    have hx : x.toNat ≠ k := fun h => e (by rw [← h]; simp)
    congr 2
    simp only [decide_eq_decide]
    omega
theorem upto_end (p : UInt8 → Bool) (f l : UInt8) : upto p f (l.toNat + 1) = fun x => p x || (decide (f ≤ x) && decide (x ≤ l)) := by
  funext x
  unfold upto
  congr 2
  simp only [decide_eq_decide]
  rw [UInt8.le_iff_toNat_le]
  omega
/-- With nothing to add all is as it was. -/
theorem upto_void (p : UInt8 → Bool) {f l : UInt8} (h : l < f) : (fun x => p x || (decide (f ≤ x) && decide (x ≤ l))) = p := by
  funext x
  have : (decide (f ≤ x) && decide (x ≤ l)) = false := by
    simp only [Bool.and_eq_false_iff, decide_eq_false_iff_not]
    by_cases h1 : f ≤ x
    · exact .inr fun h2 => by
        rw [UInt8.le_iff_toNat_le] at h1 h2
        rw [UInt8.lt_iff_toNat_lt] at h
        omega
    · exact .inl h1
  rw [this, Bool.or_false]
/-- On the way of turning: those ahead of k are turned. -/
def turnd (p : UInt8 → Bool) (k : Nat) : UInt8 → Bool := fun x => if x.toNat < k then !p x else p x
theorem turnd_start (p : UInt8 → Bool) : turnd p 0 = p := by funext x; simp [turnd]
theorem turnd_end (p : UInt8 → Bool) : turnd p 256 = fun x => !p x := by funext x; simp [turnd, x.toNat_lt]
theorem turnd_get (p : UInt8 → Bool) {k : Nat} (h : k < 256) : turnd p k (UInt8.ofNat k) = p (UInt8.ofNat k) := by
  have hk : (UInt8.ofNat k).toNat = k := by simp; omega
  unfold turnd
  rw [hk, if_neg (Nat.lt_irrefl k)]
theorem turnd_step (p : UInt8 → Bool) {k : Nat} (h : k < 256) : (fun x => if x = UInt8.ofNat k then !p (UInt8.ofNat k) else turnd p k x) = turnd p (k + 1) := by
  funext x
  unfold turnd
  have hk : (UInt8.ofNat k).toNat = k := by simp; omega
  by_cases e : x = UInt8.ofNat k
  · rw [if_pos e, e, hk, if_pos (by omega)]
  · rw [if_neg e]
    have hx : x.toNat ≠ k := fun h => e (by rw [← h]; simp)
    by_cases h1 : x.toNat < k
    · rw [if_pos h1, if_pos (by omega)]
    · rw [if_neg h1, if_neg (by omega)]
/-- The least byte of a set that isn't empty: the search comes to it. -/
theorem first_there {p : UInt8 → Bool} {k : Nat} (hk : k < 256) (h1 : ∀ j, j < k → p (UInt8.ofNat j) = false) (h2 : p (UInt8.ofNat k) = true) : FstB p (UInt8.ofNat k) := by
  refine ⟨h2, fun d hd => ?_⟩
  rw [UInt8.le_iff_toNat_le]
  have hk' : (UInt8.ofNat k).toNat = k := by simp; omega
  rw [hk']
  refine Nat.le_of_not_lt fun h => ?_
  have := h1 d.toNat h
  rw [UInt8.ofNat_toNat] at this
  rw [this] at hd
  cases hd
theorem first_less {p : UInt8 → Bool} {k : Nat} (hp : p ≠ noSet) (h1 : ∀ j, j < k → p (UInt8.ofNat j) = false) : k < 256 := by
  refine Nat.lt_of_not_le fun h => hp ?_
  funext c
  have := h1 c.toNat (by have := c.toNat_lt; omega)
  rwa [UInt8.ofNat_toNat] at this
end Go.Proofs.YteooofakpkbgoaaDoor
/- The reader in memory; a byte is taken. -/
namespace Go.Proofs.YteooofakpkbgoaaDoor
open Go.ChangeShapes Go.WideShapes Go.RowKit
/-- The reader: what remains, and the slice of the steps. -/
def Rq (w : World) (R : Nat) (l : Bs) (V : Value) : Prop := Rw w R 107 [sv l, V]
theorem Rq.rest {w : World} {R : Nat} {l : Bs} {V : Value} (h : Rq w R l V) : w.cell? ⟨R, 0, none⟩ = some (.string ⟨l.toArray⟩) := Rw.cell h 0
theorem Rq.steps {w : World} {R : Nat} {l : Bs} {V : Value} (h : Rq w R l V) : w.cell? ⟨R, 1, none⟩ = some V := Rw.cell h 1
theorem Rq.set {w : World} {R : Nat} {l : Bs} {V : Value} (h : Rq w R l V) (l' : Bs) : Rq (w.setCell ⟨R, 0, none⟩ (.string ⟨l'.toArray⟩)) R l' V := Rw.setCell h 0 _
theorem Rq.put {w : World} {R : Nat} {l : Bs} {V : Value} (h : Rq w R l V) (V' : Value) : Rq (w.setCell ⟨R, 1, none⟩ V') R l V' := Rw.setCell h 1 _
theorem Rq.stay {w w' : World} {R : Nat} {l : Bs} {V : Value} (h : Rq w R l V) (k : Below w.heap.size w w') : Rq w' R l V := Rw.stay h k
set_option maxHeartbeats 400000 in
set_option maxRecDepth 100000 in
theorem take_hit (R : Nat) (c : UInt8) (l : Bs) (V : Value) (w : World) (h : Rq w R (c :: l) V) :
    Calls Tryd.prog 85 #[.pointer (some ⟨R, 0, none⟩), .int .u8 (c.toNat : Int)] w fun e w' => e = .returned (.bool true) ∧ Rq w' R l V ∧ Asd (· = R) w w' := by
  have c0 := h.rest
  have f0 := Rw.frozen h 0
  have hi := at_text (c :: l) 0 c rfl 0 rfl
  have hc := cut_text (c :: l) 1 (by simp) 1 rfl
  have he := full_text c l
  rw [List.drop_one, List.tail_cons] at hc
  generalize hX : (⟨(c :: l).toArray⟩ : ByteArray) = X at *
  clear hX
  go_enter Tryd.func85, Tryd.ntmps85
  go_wp2_with fail
  go_ret
  exact ⟨rfl, h.set l, Asd.one _ _ _ _⟩
set_option maxHeartbeats 400000 in
set_option maxRecDepth 100000 in
theorem take_miss (R : Nat) (c : UInt8) (l : Bs) (V : Value) (w : World) (h : Rq w R l V) (hm : l.head? ≠ some c) (x : Int) (hx : x = (c.toNat : Int)) :
    Calls Tryd.prog 85 #[.pointer (some ⟨R, 0, none⟩), .int .u8 x] w fun e w' => e = .returned (.bool false) ∧ w' = w := by
  subst hx
  have c0 := h.rest
  cases l with
  | nil =>
    have he := null_text
    generalize hX : (⟨([] : Bs).toArray⟩ : ByteArray) = X at *
    clear hX
    go_enter Tryd.func85, Tryd.ntmps85
    go_wp2_with fail
    go_ret
    exact ⟨rfl, rfl⟩
  | cons d l =>
    have hi := at_text (d :: l) 0 d rfl 0 rfl
    have he := full_text d l
    have hne : ((d.toNat : Int) == (c.toNat : Int)) = false := by
      rw [beq_eq_false_iff_ne]
      intro e
      apply hm
      rw [List.head?_cons]
      congr 1
      exact UInt8.toNat_inj.1 (by omega)
    clear hm
    generalize hX : (⟨(d :: l).toArray⟩ : ByteArray) = X at *
    clear hX
    go_enter Tryd.func85, Tryd.ntmps85
    go_wp2_with fail
    go_ret
    exact ⟨rfl, rfl⟩
end Go.Proofs.YteooofakpkbgoaaDoor
/- A region that draws its order: operations that yield one value in a class of worlds, then operations that make new memory (their values: whatever they are), then operations that wait for all of these: one walk in the order of the text serves every order. -/
namespace Go.Proofs.YteooofakpkbgoaaDoor
open Go

abbrev Marks := Nat → Option Value
def upd (L : Marks) (i : Nat) (v : Value) : Marks := fun j => if j = i then some v else L j
theorem upd_comm (L : Marks) {i j : Nat} (h : i ≠ j) (v u : Value) : upd (upd L i v) j u = upd (upd L j u) i v := by
  funext x
  unfold upd
  by_cases h1 : x = j
  · subst h1; simp [Ne.symm h]
  · simp [h1]

section
variable {P : Program} {ops : Array Oper} {C : Marks → World → Prop} {Q : Exit → Act → World → Prop} {md : Region.Mode} {q k : Nat}

/-- One value in every world of whichever class. -/
def YieldsL (P : Program) (ops : Array Oper) (C : Marks → World → Prop) (o : Oper) (v : Value) (a : Act) : Prop :=
  (Region.wanted o (yielded ops a.tmps) = true ∧ ∀ L w, C L w → o.quietAt P a (C L) w v) ∨ (Region.wanted o (yielded ops a.tmps) = false ∧ v = undef)
def looseUpon (P : Program) (C : Marks → World → Prop) (i : Nat) (L : Marks) : Result Next → Prop
  | .ok (.value v) w' => C (upd L i v) w'
  | .ok (.enter f args) w' => Calls P f args w' fun e w'' => ∃ v, e = .returned v ∧ C (upd L i v) w''
  | _ => False
/-- Some value, and a world of the class in which that value is marked. -/
def LooseIn (P : Program) (ops : Array Oper) (C : Marks → World → Prop) (o : Oper) (i : Nat) (a : Act) : Prop :=
  Region.wanted o (yielded ops a.tmps) = true ∧ ∀ L w, C L w → looseUpon P C i L ((execOp a.eval o).run P w)

theorem YieldsL.of_same {o : Oper} {v : Value} {a a' : Act} (hy : YieldsL P ops C o v a) (he : execOp a'.eval o = execOp a.eval o)
    (hw : Region.wanted o (yielded ops a'.tmps) = Region.wanted o (yielded ops a.tmps)) : YieldsL P ops C o v a' := by
  unfold YieldsL Oper.quietAt at *
  rw [he, hw]
  exact hy
theorem LooseIn.of_same {o : Oper} {i : Nat} {a a' : Act} (hy : LooseIn P ops C o i a) (he : execOp a'.eval o = execOp a.eval o)
    (hw : Region.wanted o (yielded ops a'.tmps) = Region.wanted o (yielded ops a.tmps)) : LooseIn P ops C o i a' := by
  unfold LooseIn at *
  rw [he, hw]
  exact hy

def lOp (P : Program) (ops : Array Oper) (C : Marks → World → Prop) (q i : Nat) (K : Act → Marks → Prop) (a : Act) (L : Marks) : Prop :=
  match ops[i]? with
  | none => K a L
  | some o => if q ≤ i then LooseIn P ops C o i a ∧ ∀ v, K (a.put o.dst v) (upd L i v) else ∃ v, YieldsL P ops C o v a ∧ K (a.put o.dst v) L

theorem lOp_mono {i : Nat} {a : Act} {L : Marks} {K K' : Act → Marks → Prop} (h : ∀ a L, K a L → K' a L) (hh : lOp P ops C q i K a L) : lOp P ops C q i K' a L := by
  unfold lOp at *
  cases ho : ops[i]? with
  | none => simp only [ho] at hh ⊢; exact h _ _ hh
  | some o =>
    simp only [ho] at hh ⊢
    split
    · rename_i hq; rw [if_pos hq] at hh; exact ⟨hh.1, fun v => h _ _ (hh.2 v)⟩
    · rename_i hq; rw [if_neg hq] at hh; obtain ⟨v, h1, h2⟩ := hh; exact ⟨v, h1, h _ _ h2⟩

/-- The first k have all come up. -/
def allB (k : Nat) (listed : Array Bool) : Bool := (List.range k).all fun i => listed.getD i true
theorem allB_false {k i : Nat} {listed : Array Bool} (hi : i < k) (h : listed.getD i true = false) : allB k listed = false := by
  rw [Bool.eq_false_iff]
  intro hc
  have := List.all_eq_true.1 hc i (List.mem_range.2 hi)
  rw [h] at this
  cases this

def wpAnyL (P : Program) (md : Region.Mode) (ops : Array Oper) (C : Marks → World → Prop) (Q : Exit → Act → World → Prop) (q k : Nat) : Nat → Array Bool → Act → Marks → Prop
  | 0, listed, a, L => allB k listed = true ∧ ∀ w, C L w → wpAny P md ops Q 0 listed a w
  | fuel + 1, listed, a, L => (allB k listed = true ∧ ∀ w, C L w → wpAny P md ops Q (fuel + 1) listed a w) ∨
      (Region.ready md ops listed ≠ [] ∧ ∀ i ∈ Region.ready md ops listed, lOp P ops C q i (wpAnyL P md ops C Q q k fuel (listed.setIfInBounds i true)) a L)

theorem wpOp_of_lOp {i : Nat} {a : Act} {L : Marks} {K : Act → Marks → Prop} {K' : Act → World → Prop} {w : World} (hC : C L w) (h : ∀ a L w', C L w' → K a L → K' a w') (hh : lOp P ops C q i K a L) : wpOp P ops Q i K' a w := by
  unfold lOp at hh
  unfold wpOp
  cases ho : ops[i]? with
  | none => simp only [ho] at hh ⊢; exact h _ _ _ hC hh
  | some o =>
    simp only [ho] at hh ⊢
    split at hh
    · obtain ⟨⟨hw, hl⟩, hk⟩ := hh
      rw [if_pos hw]
      refine .inl ?_
      have h3 := hl L w hC
      unfold Oper.wp
      generalize (execOp a.eval o).run P w = r at *
      cases r with
      | ok n w' =>
        cases n <;> simp only [looseUpon] at h3 <;> simp only [Oper.upon]
        case value u => exact h _ _ _ h3 (hk u)
        case enter f args => exact h3.mono fun e w'' ⟨v, he, hw''⟩ => by subst he; exact h _ _ _ hw'' (hk v)
      | halt x w' => simp only [looseUpon] at h3
    · obtain ⟨v, hy, hk⟩ := hh
      rcases hy with ⟨hw, hv⟩ | ⟨hw, rfl⟩
      · rw [if_pos hw]
        exact .inl (Oper.wp_of_quiet (C := C L) (K := fun a' => a' = a.put o.dst v) hC (fun a' w' hw' he => by subst he; exact h _ _ _ hw' hk) ⟨v, hv L, rfl⟩)
      · rw [if_neg (by simp [hw])]
        exact h _ _ _ hC hk

theorem wpAny_of_L : ∀ (fuel : Nat) (listed : Array Bool) (a : Act) (L : Marks) (w : World), C L w → wpAnyL P md ops C Q q k fuel listed a L → wpAny P md ops Q fuel listed a w
  | 0, _, _, _, _, hw, h => h.2 _ hw
  | fuel + 1, _, _, _, _, hw, h => by
    rcases h with ⟨_, h⟩ | ⟨h0, h⟩
    · exact h _ hw
    · exact ⟨fun h1 => absurd h1 h0, fun i hi => wpOp_of_lOp hw (fun a' L' w' hw' => wpAny_of_L fuel _ a' L' w' hw') (h i hi)⟩

theorem lOp_put {i j : Nat} {oi oj : Oper} {v : Value} (_hi : ops[i]? = some oi) (hj : ops[j]? = some oj) (hap : oi.apart ops oj = true)
    (hsi : ∀ cs b, oi.op ≠ .select cs b) (hsj : ∀ cs b, oj.op ≠ .select cs b) {K : Act → Marks → Prop} {a : Act} {L : Marks}
    (hy : YieldsL P ops C oi v a) (h : lOp P ops C q j K (a.put oi.dst v) L) :
    lOp P ops C q j (fun a' L' => YieldsL P ops C oi v a' ∧ K (a'.put oi.dst v) L') a L := by
  obtain ⟨h1, h2, h3⟩ := Oper.apart_spec hap
  have keep : ∀ u, YieldsL P ops C oi v (a.put oj.dst u) := fun u => hy.of_same (execOp_put oi hsi a oj.dst u h3) (wanted_put oi a oj.dst u h3)
  unfold lOp at *
  simp only [hj] at *
  split
  · rename_i hq
    rw [if_pos hq] at h
    exact ⟨h.1.of_same (execOp_put oj hsj a oi.dst v h1).symm (wanted_put oj a oi.dst v h1).symm, fun u => ⟨keep u, by rw [← Act.put_comm a v u h2]; exact h.2 u⟩⟩
  · rename_i hq
    rw [if_neg hq] at h
    obtain ⟨u, hu, hk⟩ := h
    exact ⟨u, hu.of_same (execOp_put oj hsj a oi.dst v h1).symm (wanted_put oj a oi.dst v h1).symm, keep u, by rw [← Act.put_comm a v u h2]; exact hk⟩

/-- What has come up waited for what has come up. -/
def Closed (md : Region.Mode) (ops : Array Oper) (listed : Array Bool) : Prop := ∀ j oj, ops[j]? = some oj → listed.getD j false = true → ∀ e ∈ oj.after, Region.binds md e = true → listed.getD e.on false = true
theorem Closed.set {j : Nat} {listed : Array Bool} (h : Closed md ops listed) (hj : j ∈ Region.ready md ops listed) : Closed md ops (listed.setIfInBounds j true) := fun x ox hx hl e he hb => by
  refine getD_set_true ?_
  by_cases hxj : j = x
  · subst hxj
    obtain ⟨_, oj', hoj', hall⟩ := mem_ready.1 hj
    obtain rfl : ox = oj' := by rw [hx] at hoj'; exact Option.some.inj hoj'
    exact hall e he hb
  · rw [getD_set_ne false hxj] at hl
    exact h x ox hx hl e he hb
/-- Number j waits for number i, by way of at most n others. -/
def reachB (md : Region.Mode) (ops : Array Oper) : Nat → Nat → Nat → Bool
  | 0, _, _ => false
  | n + 1, j, i => match ops[j]? with
    | none => false
    | some o => o.after.any fun e => Region.binds md e && (e.on == i || reachB md ops n e.on i)
theorem reach_after {listed : Array Bool} (hc : Closed md ops listed) : ∀ (n j i : Nat) (oj : Oper), ops[j]? = some oj → (∀ e ∈ oj.after, Region.binds md e = true → listed.getD e.on false = true) → reachB md ops n j i = true → listed.getD i false = true
  | 0, _, _, _, _, _, h => by simp [reachB] at h
  | n + 1, j, i, oj, hj, hall, h => by
    simp only [reachB, hj] at h
    obtain ⟨e, he, hb⟩ := Array.any_eq_true'.1 h
    rw [Bool.and_eq_true, Bool.or_eq_true, beq_iff_eq] at hb
    have h1 := hall e he hb.1
    rcases hb.2 with rfl | h2
    · exact h1
    · cases ho : ops[e.on]? with
      | none => cases n <;> simp [reachB, ho] at h2
      | some o => exact reach_after hc n e.on i o ho (fun x hx hb => hc e.on o ho h1 x hx hb) h2
/-- Every operation from number k on waits for every one of the first k. -/
def Waits (md : Region.Mode) (ops : Array Oper) (k : Nat) : Prop := ∀ j oj i, ops[j]? = some oj → k ≤ j → i < k → ∃ n, reachB md ops n j i = true

theorem ready_lt (hW : Waits md ops k) {i j : Nat} {listed : Array Bool} (hc : Closed md ops listed) (hi : i < k) (hr : i ∈ Region.ready md ops listed) (hj : j ∈ Region.ready md ops listed) : j < k := by
  rcases Nat.lt_or_ge j k with h | h
  · exact h
  · obtain ⟨_, oj, hoj, hall⟩ := mem_ready.1 hj
    obtain ⟨n, hn⟩ := hW j oj i hoj h hi
    have h1 := reach_after hc n j i oj hoj hall hn
    have h0 := (mem_ready.1 hr).1
    rcases Nat.lt_or_ge i listed.size with h' | h'
    · simp [h'] at h0 h1; rw [h0] at h1; cases h1
    · simp [Array.getElem?_eq_none h'] at h1

theorem not_waits {i j : Nat} {oj : Oper} {listed : Array Bool} (hr : i ∈ Region.ready md ops listed) (hoj : ops[j]? = some oj) (hj : j ∈ Region.ready md ops listed) : ∀ e ∈ oj.after, Region.binds md e = true → e.on ≠ i := fun e he hb heq => by
  obtain ⟨_, oj', hoj', hall⟩ := mem_ready.1 hj
  obtain rfl : oj = oj' := by rw [hoj] at hoj'; exact Option.some.inj hoj'
  have h1 := hall e he hb
  have h0 := (mem_ready.1 hr).1
  rw [heq] at h1
  rcases Nat.lt_or_ge i listed.size with h' | h'
  · simp [h'] at h0 h1; rw [h0] at h1; cases h1
  · simp [Array.getElem?_eq_none h'] at h1

theorem free_keep {i j : Nat} {oi : Oper} {listed : Array Bool} (hjun : listed.getD j true = false)
    (hfree : ∀ j oj, ops[j]? = some oj → j ≠ i → listed.getD j true = false → (∀ e ∈ oj.after, Region.binds md e = true → e.on ≠ i) → oi.apart ops oj = true) :
    ∀ k ok, ops[k]? = some ok → k ≠ i → (listed.setIfInBounds j true).getD k true = false → (∀ e ∈ ok.after, Region.binds md e = true → e.on ≠ i) → oi.apart ops ok = true := fun k ok hk hki hun hno => by
  refine hfree k ok hk hki ?_ hno
  by_cases hjk : j = k
  · subst hjk; exact hjun
  · rw [getD_set_ne true hjk] at hun; exact hun

theorem wpAnyL_quiet (hW : Waits md ops k) {i : Nat} {oi : Oper} {v : Value} (hi : ops[i]? = some oi) (hiq : i < q) (hik : i < k) (hsel : ∀ (j : Nat) (o : Oper) cs b, ops[j]? = some o → o.op ≠ .select cs b) :
    ∀ (fuel : Nat) (listed : Array Bool) (a : Act) (L : Marks), Closed md ops listed →
      (∀ j oj, ops[j]? = some oj → j ≠ i → listed.getD j true = false → (∀ e ∈ oj.after, Region.binds md e = true → e.on ≠ i) → oi.apart ops oj = true) →
      i ∈ Region.ready md ops listed → YieldsL P ops C oi v a →
      wpAnyL P md ops C Q q k fuel (listed.setIfInBounds i true) (a.put oi.dst v) L → wpAnyL P md ops C Q q k (fuel + 1) listed a L := by
  intro fuel
  induction fuel with
  | zero =>
    intro listed a L hc _ hr hy H
    refine .inr ⟨fun h => (by rw [h] at hr; cases hr), fun j hj => ?_⟩
    by_cases hji : j = i
    · subst hji; unfold lOp; simp only [hi]; rw [if_neg (by omega)]; exact ⟨v, hy, H⟩
    · have hjk := ready_lt hW hc hik hr hj
      have h1 := H.1
      rw [allB_false hjk (by rw [getD_set_ne true (Ne.symm hji)]; exact (mem_ready.1 hj).1)] at h1
      cases h1
  | succ fuel ih =>
    intro listed a L hc hfree hr hy H
    refine .inr ⟨fun h => (by rw [h] at hr; cases hr), fun j hj => ?_⟩
    by_cases hji : j = i
    · subst hji; unfold lOp; simp only [hi]; rw [if_neg (by omega)]; exact ⟨v, hy, H⟩
    · have hjk := ready_lt hW hc hik hr hj
      obtain ⟨hjun, oj, hoj, _⟩ := mem_ready.1 hj
      rcases H with ⟨h1, _⟩ | ⟨_, H⟩
      · rw [allB_false hjk (by rw [getD_set_ne true (Ne.symm hji)]; exact hjun)] at h1
        cases h1
      · have h1 := H j (ready_mono hj hji)
        have h2 := lOp_put hi hoj (hfree j oj hoj hji hjun (not_waits hr hoj hj)) (fun cs b => hsel i oi cs b hi) (fun cs b => hsel j oj cs b hoj) hy h1
        refine lOp_mono (fun a' L' h3 => ih (listed.setIfInBounds j true) a' L' (hc.set hj) (free_keep hjun hfree) (ready_mono hr (Ne.symm hji)) h3.1 ?_) h2
        rw [Array.setIfInBounds_comm _ _ hji]
        exact h3.2

theorem wpAnyL_loose (hW : Waits md ops k) {i : Nat} {oi : Oper} (hi : ops[i]? = some oi) (hiq : q ≤ i) (hik : i < k) (hsel : ∀ (j : Nat) (o : Oper) cs b, ops[j]? = some o → o.op ≠ .select cs b) :
    ∀ (fuel : Nat) (listed : Array Bool) (a : Act) (L : Marks), Closed md ops listed → (∀ j, j < q → listed.getD j true = true) →
      (∀ j oj, ops[j]? = some oj → j ≠ i → listed.getD j true = false → (∀ e ∈ oj.after, Region.binds md e = true → e.on ≠ i) → oi.apart ops oj = true) →
      i ∈ Region.ready md ops listed → LooseIn P ops C oi i a →
      (∀ v, wpAnyL P md ops C Q q k fuel (listed.setIfInBounds i true) (a.put oi.dst v) (upd L i v)) → wpAnyL P md ops C Q q k (fuel + 1) listed a L := by
  intro fuel
  induction fuel with
  | zero =>
    intro listed a L hc _ _ hr hy H
    refine .inr ⟨fun h => (by rw [h] at hr; cases hr), fun j hj => ?_⟩
    by_cases hji : j = i
    · subst hji; unfold lOp; simp only [hi]; rw [if_pos hiq]; exact ⟨hy, H⟩
    · have hjk := ready_lt hW hc hik hr hj
      have h1 := (H undef).1
      rw [allB_false hjk (by rw [getD_set_ne true (Ne.symm hji)]; exact (mem_ready.1 hj).1)] at h1
      cases h1
  | succ fuel ih =>
    intro listed a L hc hq hfree hr hy H
    refine .inr ⟨fun h => (by rw [h] at hr; cases hr), fun j hj => ?_⟩
    by_cases hji : j = i
    · subst hji; unfold lOp; simp only [hi]; rw [if_pos hiq]; exact ⟨hy, H⟩
    · have hjk := ready_lt hW hc hik hr hj
      obtain ⟨hjun, oj, hoj, _⟩ := mem_ready.1 hj
      have hqj : q ≤ j := by
        rcases Nat.lt_or_ge j q with h | h
        · rw [hq j h] at hjun; cases hjun
        · exact h
      obtain ⟨h1, h2, h3⟩ := Oper.apart_spec (hfree j oj hoj hji hjun (not_waits hr hoj hj))
      have hsi := fun cs b => hsel i oi cs b hi
      have hsj := fun cs b => hsel j oj cs b hoj
      have H' : ∀ v, LooseIn P ops C oj j a ∧ ∀ u, wpAnyL P md ops C Q q k fuel ((listed.setIfInBounds i true).setIfInBounds j true) ((a.put oi.dst v).put oj.dst u) (upd (upd L i v) j u) := fun v => by
        rcases H v with ⟨h4, _⟩ | ⟨_, h4⟩
        · rw [allB_false hjk (by rw [getD_set_ne true (Ne.symm hji)]; exact hjun)] at h4
          cases h4
        · have h5 := h4 j (ready_mono hj hji)
          unfold lOp at h5
          simp only [hoj] at h5
          rw [if_pos hqj] at h5
          exact ⟨h5.1.of_same (execOp_put oj hsj a oi.dst v h1).symm (wanted_put oj a oi.dst v h1).symm, h5.2⟩
      unfold lOp
      simp only [hoj]
      rw [if_pos hqj]
      refine ⟨(H' undef).1, fun u => ih (listed.setIfInBounds j true) (a.put oj.dst u) (upd L j u) (hc.set hj) (fun x hx => ?_) (free_keep hjun hfree) (ready_mono hr (Ne.symm hji)) (hy.of_same (execOp_put oi hsi a oj.dst u h3) (wanted_put oi a oj.dst u h3)) fun v => ?_⟩
      · rw [getD_set_ne true (by omega)]; exact hq x hx
      · rw [Array.setIfInBounds_comm _ _ hji, ← Act.put_comm a v u h2, ← upd_comm L (Ne.symm hji) v u]
        exact (H' v).2 u

/-- The walk in the order of the text. -/
def wpLoose (P : Program) (ops : Array Oper) (C : Marks → World → Prop) (q : Nat) (E : Act → Marks → Prop) : List Oper → Nat → Act → Marks → Prop
  | [], _, a, L => E a L
  | o :: rest, i, a, L => if q ≤ i then LooseIn P ops C o i a ∧ ∀ v, wpLoose P ops C q E rest (i + 1) (a.put o.dst v) (upd L i v) else ∃ v, YieldsL P ops C o v a ∧ wpLoose P ops C q E rest (i + 1) (a.put o.dst v) L
def lexTo (md : Region.Mode) (ops : Array Oper) : Nat → Nat → Array Bool → Bool
  | 0, _, _ => true
  | n + 1, p, listed => (Region.ready md ops listed).contains p && Region.free md ops listed p && lexTo md ops n (p + 1) (listed.setIfInBounds p true)
def setFrom : Nat → Nat → Array Bool → Array Bool
  | 0, _, listed => listed
  | n + 1, p, listed => setFrom n (p + 1) (listed.setIfInBounds p true)

theorem wpAnyL_lex (hW : Waits md ops k) (hs : Region.noSelect ops = true) (r : Nat) : ∀ (l : List Oper) (p : Nat) (listed : Array Bool) (a : Act) (L : Marks), (∀ j, j < l.length → l[j]? = ops[p + j]?) → p + l.length = k → k ≤ listed.size → Closed md ops listed →
    (∀ j, j < p → listed.getD j true = true) → lexTo md ops l.length p listed = true → wpLoose P ops C q (fun a' L' => ∀ w, C L' w → wpAny P md ops Q r (setFrom l.length p listed) a' w) l p a L → wpAnyL P md ops C Q q k (l.length + r) listed a L
  | [], p, listed, a, L, _, hk, hsz, _, hp, _, h => by
    have hall : allB k listed = true := List.all_eq_true.2 fun i hi => hp i (by have := List.mem_range.1 hi; simp at hk; omega)
    simp only [List.length_nil, Nat.zero_add]
    cases r with
    | zero => exact ⟨hall, h⟩
    | succ r => exact .inl ⟨hall, h⟩
  | o :: l, p, listed, a, L, hl, hk, hsz, hc, hp, hB, h => by
    have h0 : ops[p]? = some o := by simpa using (hl 0 (by simp)).symm
    simp only [List.length_cons, lexTo, Bool.and_eq_true] at hB
    obtain ⟨⟨hr, hf⟩, hB'⟩ := hB
    simp only [List.length_cons] at hk
    have hl' : ∀ j, j < l.length → l[j]? = ops[p + 1 + j]? := fun j hj => by have := hl (j + 1) (by simp; omega); simpa [Nat.add_assoc, Nat.add_comm 1 j] using this
    have hp' : ∀ j, j < p + 1 → (listed.setIfInBounds p true).getD j true = true := fun j hj => by
      by_cases hjp : p = j
      · subst hjp; simp [show p < listed.size by omega]
      · rw [getD_set_ne true hjp]; exact hp j (by omega)
    have hlen : (o :: l).length + r = (l.length + r) + 1 := by simp only [List.length_cons]; omega
    rw [hlen]
    unfold wpLoose at h
    split at h
    · rename_i hq
      exact wpAnyL_loose hW h0 hq (by omega) (Region.noSelect_spec hs) _ listed a L hc (fun j hj => hp j (by omega)) (Region.free_spec h0 hf) (by simpa using hr) h.1
        (fun v => wpAnyL_lex hW hs r l (p + 1) _ _ _ hl' (by omega) (by simpa using hsz) (hc.set (by simpa using hr)) hp' hB' (h.2 v))
    · rename_i hq
      obtain ⟨v, hy, hK⟩ := h
      exact wpAnyL_quiet hW h0 (by omega) (by omega) (Region.noSelect_spec hs) _ listed a L hc (Region.free_spec h0 hf) (by simpa using hr) hy
        (wpAnyL_lex hW hs r l (p + 1) _ _ _ hl' (by omega) (by simpa using hsz) (hc.set (by simpa using hr)) hp' hB' hK)

def waitsB (md : Region.Mode) (ops : Array Oper) (k : Nat) : Bool :=
  (List.range ops.size).all fun j => decide (j < k) || (List.range k).all fun i => reachB md ops 4 j i || reachB md ops 9 j i
theorem waitsB_spec (h : waitsB md ops k = true) : Waits md ops k := fun j oj i hj hkj hik => by
  have h1 := List.all_eq_true.1 h j (List.mem_range.2 (Array.getElem?_eq_some_iff.1 hj).1)
  simp only [Bool.or_eq_true, decide_eq_true_iff] at h1
  rcases h1 with h1 | h1
  · omega
  · have h2 := List.all_eq_true.1 h1 i (List.mem_range.2 hik)
    rw [Bool.or_eq_true] at h2
    rcases h2 with h2 | h2
    · exact ⟨_, h2⟩
    · exact ⟨_, h2⟩

theorem none_listed (n j : Nat) : (Array.replicate n false).getD j false = false := by
  rcases Nat.lt_or_ge j n with h | h <;> simp [h]
/-- **One walk of the text's order**: the first q operations yield one value each, those up to k make what is new, the rest waits for them. -/
theorem region_loose {id : Nat} {a : Act} {w : World} {l : List Oper} (C : Marks → World → Prop) (q k r : Nat) (done : Array Bool) (hr : k + r = l.length) (hd : setFrom k 0 (Array.replicate l.length false) = done) (hm : P.follows .mixedOrders = true)
    (hB : (Region.noSelect l.toArray && (waitsB .any l.toArray k && (decide (k ≤ l.length) && lexTo .any l.toArray k 0 (Array.replicate l.length false)))) = true) (hC : C (fun _ => none) w.drew)
    (h : wpLoose P l.toArray C q (fun a' L' => ∀ w', C L' w' → wpAny P .any l.toArray Q r done a' w') (l.take k) 0 a (fun _ => none)) : (Code.region id l.toArray true).wp P Q a w := by
  subst hd
  obtain rfl : r = l.length - k := by omega
  simp only [Bool.and_eq_true, decide_eq_true_iff] at hB
  obtain ⟨h1, h2, h3, h4⟩ := hB
  have hlen : (l.take k).length = k := by simp; omega
  refine wp_region_any hm ?_
  have := wpAnyL_lex (Q := Q) (C := C) (q := q) (waitsB_spec h2) h1 (l.length - k) (l.take k) 0 (Array.replicate l.length false) a (fun _ => none) (fun j hj => by simp at hj; simp [show j < k by omega]) (by omega) (by simp; omega) (fun j oj _ hl => by rw [none_listed] at hl; cases hl) (fun j hj => by omega) (by rw [hlen]; exact h4) (by rw [hlen]; exact h)
  rw [hlen, show k + (l.length - k) = l.length by omega] at this
  have := wpAny_of_L _ _ _ _ _ hC this
  simpa using this
end

section
variable {P : Program} {ops : Array Oper} {C : Marks → World → Prop} {q i : Nat} {a : Act} {L : Marks} {o : Oper} {rest : List Oper} {E : Act → Marks → Prop}
theorem loose_val (hq : i < q) (hg : o.guard = none) (h : ∃ v, (∀ L w, C L w → (execOp a.eval o).run P w = .ok (.value v) w) ∧ wpLoose P ops C q E rest (i + 1) (a.put o.dst v) L) : wpLoose P ops C q E (o :: rest) i a L := by
  obtain ⟨v, h1, h2⟩ := h
  unfold wpLoose
  rw [if_neg (by omega)]
  exact ⟨v, .inl ⟨by simp [Region.wanted, hg], fun L w hw => by unfold Oper.quietAt; rw [h1 L w hw]; exact ⟨rfl, rfl⟩⟩, h2⟩
theorem loose_call (hq : i < q) (hg : o.guard = none) (h : ∃ f args, (∀ w, (execOp a.eval o).run P w = .ok (.enter f args) w) ∧ ∃ v, (∀ L w, C L w → Calls P f args w fun e w' => e = .returned v ∧ C L w') ∧ wpLoose P ops C q E rest (i + 1) (a.put o.dst v) L) : wpLoose P ops C q E (o :: rest) i a L := by
  obtain ⟨f, args, hr, v, h1, h2⟩ := h
  unfold wpLoose
  rw [if_neg (by omega)]
  exact ⟨v, .inl ⟨by simp [Region.wanted, hg], fun L w hw => by unfold Oper.quietAt; rw [hr w]; exact ⟨rfl, h1 L w hw⟩⟩, h2⟩
theorem loose_new (hq : q ≤ i) (hg : o.guard = none) (h1 : ∀ L w, C L w → ∃ v w', (execOp a.eval o).run P w = .ok (.value v) w' ∧ C (upd L i v) w') (h2 : ∀ v, wpLoose P ops C q E rest (i + 1) (a.put o.dst v) (upd L i v)) : wpLoose P ops C q E (o :: rest) i a L := by
  unfold wpLoose
  rw [if_pos hq]
  exact ⟨⟨by simp [Region.wanted, hg], fun L w hw => by obtain ⟨v, w', hr, hc⟩ := h1 L w hw; rw [hr]; exact hc⟩, h2⟩
end
end Go.Proofs.YteooofakpkbgoaaDoor
/- A set of bytes in memory: bytes are added, it is turned, it is compared, its least byte is found. -/
namespace Go.Proofs.YteooofakpkbgoaaDoor
open Go.ChangeShapes Go.WideShapes Go.RowKit

set_option maxHeartbeats 800000 in
set_option maxRecDepth 100000 in
theorem plus_any (g : Nat) (t : TypeId) (p : UInt8 → Bool) (f l : UInt8) (w : World) (h : Rw w g t (setRow p)) :
    Calls Tryd.prog 104 #[.pointer (some ⟨g, 0, none⟩), .int .u8 (f.toNat : Int), .int .u8 (l.toNat : Int)] w fun e w' => e = .returned (.tuple #[]) ∧
      Rw w' g t (setRow fun x => p x || (decide (f ≤ x) && decide (x ≤ l))) ∧ Asd (· = g) w w' := by
  have hf := f.toNat_lt
  have hl := l.toNat_lt
  have h0 := h
  rw [← upto_start p f] at h0
  go_enter Tryd.func104, Tryd.ntmps104
  go_wp2_with fail
  go_loopw [6] (fun i wr => ∃ k : Nat, f.toNat ≤ k ∧ k < 257 ∧ (k = f.toNat ∨ k ≤ l.toNat + 1) ∧ i = .int .i64 (k : Int) ∧ Rw wr g t (setRow (upto p f k)) ∧ Asd (· = g) w wr) (fun i _ => l.toNat + 1 - (intOf i).toNat)
  case atStart => exact ⟨f.toNat, by omega, by omega, .inl rfl, rfl, h0, Asd.refl _ _⟩
  case round =>
    obtain ⟨k, hk0, hk, hk1, rfl, q, qA⟩ := hrel
    by_cases hlt : k ≤ l.toNat
    · have hc := (q.cell k).trans (setRow_get _ (by omega))
      have hfz := q.frozen k
      go_wp2_with fail
      go_roundw
      case rel =>
        refine ⟨k + 1, by omega, by omega, .inr (by omega), by go_num, ?_, qA.set1 _ _⟩
        have := q.setCell k (.bool true)
        rw [setRow_set _ (by omega), upto_step p f hk0 (by omega)] at this
        exact this
      case measure => simp [intOf]; omega
    · have he : upto p f k = fun x => p x || (decide (f ≤ x) && decide (x ≤ l)) := by
        rcases hk1 with rfl | hk1
        · rw [upto_start, upto_void p (by rw [UInt8.lt_iff_toNat_lt]; omega)]
        · obtain rfl : k = l.toNat + 1 := by omega
          exact upto_end p f l
      rw [he] at q
      have hnot : ¬ ((k : Int) ≤ (l.toNat : Int)) := by omega
      go_wp2_with fail
      refine bodyPost_end (results_none (by kernel_rfl) _ _ _) rfl ?_
      exact ⟨rfl, q, qA⟩
set_option maxHeartbeats 800000 in
set_option maxRecDepth 20000 in
theorem invert_any (g : Nat) (t : TypeId) (p : UInt8 → Bool) (w : World) (h : Rw w g t (setRow p)) :
    Calls Tryd.prog 102 #[.pointer (some ⟨g, 0, none⟩)] w fun e w' => e = .returned (.tuple #[]) ∧ Rw w' g t (setRow fun x => !p x) ∧ Asd (· = g) w w' := by
  have h0 := h
  rw [← turnd_start p] at h0
  go_enter Tryd.func102, Tryd.ntmps102
  go_wp2_with fail
  go_loopw [3] (fun i wr => ∃ k : Nat, k ≤ 256 ∧ i = .int .i64 (k : Int) ∧ Rw wr g t (setRow (turnd p k)) ∧ Asd (· = g) w wr) (fun i _ => 256 - (intOf i).toNat)
  case atStart => exact ⟨0, by omega, rfl, h0, Asd.refl _ _⟩
  case round =>
    obtain ⟨k, hk, rfl, q, qA⟩ := hrel
    by_cases hlt : k < 256
    · have hc := (q.cell k).trans (setRow_get (turnd p k) hlt)
      rw [turnd_get p hlt] at hc
      have hfz := q.frozen k
      go_upto_region 3 with fail
      refine region_loose (fun _ w' => Asd (fun _ => False) wr w' ∧ w'.cell? ⟨g, k, none⟩ = some (.bool (p (UInt8.ofNat k)))) 10 10 1 #[true, true, true, true, true, true, true, true, true, true, false] rfl (by kernel_rfl) (by kernel_rfl) (by kernel_rfl) (⟨(Asd.refl _ _).drew, hc⟩) ?_
      simp only [List.take_succ_cons, List.take_zero]
      repeat
        first
        | (refine loose_val (by decide) rfl ?_
           apply Exists.intro
           refine ⟨fun L' w' hw' => ?_, ?_⟩
           · obtain ⟨_, e0⟩ := hw'
             go_simp
             first | done | rfl | exact ⟨rfl, rfl⟩
           simp only [Act.put, List.setIfInBounds_toArray, List.set_cons_zero, List.set_cons_succ])
        | (refine loose_call (by decide) rfl ?_
           apply Exists.intro
           apply Exists.intro
           refine ⟨fun w' => ?_, ?_⟩
           · go_simp
             first | done | rfl | exact ⟨rfl, rfl⟩
           apply Exists.intro
           refine ⟨fun L' w' hw' => ?_, ?_⟩
           · first
             | fail
           simp only [Act.put, List.setIfInBounds_toArray, List.set_cons_zero, List.set_cons_succ])
        | (refine loose_new (by decide) rfl (fun L' w' hw' => ?_) (fun v => ?_)
           · fail
           simp only [Act.put, List.setIfInBounds_toArray, List.set_cons_zero, List.set_cons_succ])
      intro w5 hw5
      obtain ⟨hA, hc5⟩ := hw5
      have q5 := q.keep hA (fun h => h)
      have hfz5 := q5.frozen k
      refine wpAny_ready (rs := [10]) (by kernel_rfl) (by simp) ?_
      refine AllReady.cons rfl (fun K hK => ?_) AllReady.nil
      go_simp
      refine hK _ _ ?_
      clear hK K
      refine wpAny_done (by kernel_rfl) ?_ _
      go_wp2_with fail
      go_roundw
      case rel =>
        refine ⟨k + 1, by omega, by go_num, ?_, (qA.trans (hA.any (S' := (· = g)) (fun _ h => h.elim)) (fun _ h _ => h)).set1 _ _⟩
        have := q5.setCell k (.bool (!p (UInt8.ofNat k)))
        rw [setRow_set _ hlt, turnd_step p hlt] at this
        exact this
      case measure => simp [intOf]; omega
    · have e : turnd p k = fun x => !p x := by rw [show k = 256 by omega]; exact turnd_end p
      rw [e] at q
      have hnot : ¬ ((k : Int) < 256) := by omega
      go_wp2_with fail
      refine bodyPost_end (results_none (by kernel_rfl) _ _ _) rfl ?_
      exact ⟨rfl, q, qA⟩
/-- A set lies in block g from place o on. -/
def SetAt (w : World) (g o : Nat) (p : UInt8 → Bool) : Prop := ∀ i, i < 256 → w.cell? ⟨g, o + i, none⟩ = some (.bool (p (UInt8.ofNat i)))
end Go.Proofs.YteooofakpkbgoaaDoor
/- Two arrays of truths are compared; a set is looked at whether it is empty. -/
namespace Go.Proofs.YteooofakpkbgoaaDoor
open Go.ChangeShapes Go.WideShapes Go.RowKit

/-- Cells of a block. -/
def Cls (w : World) (g o : Nat) (cs : List Value) : Prop := ∀ j v, cs[j]? = some v → w.cell? ⟨g, o + j, none⟩ = some v
section
variable {P : Program} {ops : Array Oper} {rest : List Oper} {o : Oper} {a : Act} {w : World} {Q : Exit → Act → World → Prop}
theorem add_any (g k j : Nat) : (⟨g, k, none⟩ : Addr).add j = ⟨g, k + j, none⟩ := by unfold Addr.add; split <;> simp_all
theorem run_load_cells (w : World) (g k : Nat) (ty : TypeId) (cs : List Value) (d : TypeDesc) (hc : Cls w g k cs)
    (hu : P.underlying ty = some d) (hd : (match d with | .struct _ | .array _ _ => true | _ => false) = true) (hi : (P.info? ty).map (·.size) = some cs.length) :
    (loadVar ty ⟨g, k, none⟩).run P w = .ok (.agg cs.toArray) w := by
  have hl := run_loadCells_list (P := P) w ⟨g, k, none⟩ cs (fun j v hv => by rw [add_any]; exact hc j v hv)
  cases hq : P.info? ty with
  | none => simp [hq] at hi
  | some i =>
    have hs : i.size = cs.length := by simpa [hq] using hi
    have hagg : (isAgg ty).run P w = .ok true w := by
      unfold isAgg
      rw [Sem.run_bind, run_underlying hu w]
      cases d <;> simp_all
    simp [loadVar, Sem.run_bind, hagg, sizeOf, typeInfo, hq, hs, hl]
/-- A whole array (or struct) is read, wherever it lies. -/
theorem load_at (g k : Nat) (cs : List Value) (hc : Cls w g k cs) (n : Nat) (hn : cs.length = n) (ty : TypeId) (d : TypeDesc) (hu : P.underlying ty = some d) (hd : (match d with | .struct _ | .array _ _ => true | _ => false) = true) (hi : (P.info? ty).map (·.size) = some n) (x : Operand) (hgd : o.guard = none) (ho : o.op = .load ty x)
    (hx : a.eval x = .pointer (some ⟨g, k, none⟩))
    (h : wpList P ops Q rest (a.put o.dst (.agg cs.toArray)) w) : wpList P ops Q (o :: rest) a w :=
  wpList_plain hgd fun _ hK => by
    unfold Oper.wp execOp
    simp only [ho, hx, Instr.loadAt, Instr.sureAddr, Sem.run_bind, Sem.run_pure, Result.andThen_ok, run_load_cells w g k ty cs d hc hu hd (by rw [hi, hn])]
    exact hK _ _ h
end
theorem run_forIn_find {P : Program} {w : World} {β : Type} (l : List Nat) (b b' : β) (g : Nat → Bool) (f : Nat → β → Sem (ForInStep β)) (h : ∀ i ∈ l, (f i b).run P w = .ok (if g i then .yield b else .done b') w) : (forIn l b f).run P w = .ok (if l.all g then b else b') w := by
  induction l with
  | nil => simp
  | cons i l ih =>
    rw [List.forIn_cons, Sem.run_bind, h i (List.mem_cons_self ..)]
    cases hg : g i with
    | true =>
      simp only [if_true, Result.andThen_ok, List.all_cons, hg, Bool.true_and]
      exact ih (fun j hj => h j (List.mem_cons_of_mem _ hj))
    | false =>
      simp [hg]
theorem run_equal_truths {P : Program} (w : World) (d : Nat) (t e : TypeId) (n : Nat) (cs ds : List Value) (x y : Nat → Bool) (ht : P.underlying t = some (.array n e)) (he : P.underlying e = some .bool) (hz : (P.info? e).map (·.size) = some 1) (hx : ∀ i, i < n → cs[i]? = some (.bool (x i))) (hy : ∀ i, i < n → ds[i]? = some (.bool (y i))) :
    (Op.equalIn (d + 2) t (.agg cs.toArray) (.agg ds.toArray)).run P w = .ok ((List.range' 0 n).all fun i => x i == y i) w := by
  have hz : ∀ w, (sizeOf e).run P w = .ok 1 w := fun w => by
    cases hq : P.info? e with
    | none => simp [hq] at hz
    | some i => simp [hq] at hz; simp [sizeOf, typeInfo, hq, hz]
  have ha : ∀ w, (isAgg e).run P w = .ok false w := fun w => by
    unfold isAgg
    rw [Sem.run_bind, run_underlying he w]
    simp
  have hp : ∀ (cs : List Value) (x : Nat → Bool), (∀ i, i < n → cs[i]? = some (.bool (x i))) → ∀ i, i < n → ∀ w, (part e cs.toArray (i * 1)).run P w = .ok (.bool (x i)) w := fun cs x hx i hi w => by
    have h1 := hx i hi
    obtain ⟨h2, h3⟩ := List.getElem?_eq_some_iff.1 h1
    simp [part, ha, h2, h3]
  have hq : ∀ (a b : Bool) (w : World), (Op.equalIn (d + 1) e (.bool a) (.bool b)).run P w = .ok (a == b) w := fun a b w => by
    unfold Op.equalIn
    simp only [Sem.run_bind, run_underlying he, Result.andThen_ok]
    rfl
  unfold Op.equalIn
  simp only [Sem.run_bind, run_underlying ht, Result.andThen_ok, hz]
  rw [Std.Legacy.Range.forIn_eq_forIn_range', run_forIn_find _ _ ⟨some false, ⟨⟩⟩ (fun i => x i == y i)]
  · simp only [Result.andThen_ok]
    rw [show ([:n] : Std.Legacy.Range).size = n by simp [Std.Legacy.Range.size]]
    cases h : (List.range' 0 n).all fun i => x i == y i <;> simp
  · intro i hm
    have hlt : i < n := by
      simp [List.mem_range'] at hm
      omega
    simp only [Sem.run_bind, hp cs x hx i hlt, hp ds y hy i hlt, Result.andThen_ok, hq]
    cases h : x i == y i <;> simp
/-- No byte is in the set. -/
def isNo (p : UInt8 → Bool) : Bool := (List.range' 0 256).all fun i => p (UInt8.ofNat i) == false
theorem isNo_iff (p : UInt8 → Bool) : isNo p = true ↔ p = noSet := by
  unfold isNo
  rw [List.all_eq_true]
  constructor
  · intro h
    funext c
    have := h c.toNat (by rw [List.mem_range']; exact ⟨c.toNat, c.toNat_lt, by omega⟩)
    rw [UInt8.ofNat_toNat] at this
    simpa [noSet] using this
  · rintro rfl i _
    rfl
/-- The set is compared with the one that has no byte. -/
theorem no_eql (p : UInt8 → Bool) (w : World) : (binOp .eql 122 (.agg (setRow p).toArray) (.agg (setRow noSet).toArray)).run Tryd.prog w = .ok (.bool (isNo p)) w := by
  have h := run_equal_truths (P := Tryd.prog) w 9998 122 4 256 (setRow p) (setRow noSet) (fun i => p (UInt8.ofNat i)) (fun _ => false) (by kernel_rfl) (by kernel_rfl) (by kernel_rfl) (fun i hi => setRow_get p hi) (fun i hi => setRow_get noSet hi)
  rw [run_eql_struct, h]
  rfl
theorem SetAt.cls {w : World} {g o : Nat} {p : UInt8 → Bool} (h : SetAt w g o p) : Cls w g o (setRow p) := fun j v hv => by
  have hj : j < 256 := by have := (List.getElem?_eq_some_iff.1 hv).1; rwa [setRow_len] at this
  rw [setRow_get p hj] at hv
  rw [h j hj]
  exact hv
theorem zero_class (w : World) : (zeroValue 122).run Tryd.prog w = .ok (.agg (setRow noSet).toArray) w := by kernel_rfl
set_option maxHeartbeats 800000 in
set_option maxRecDepth 100000 in
theorem empty_any (g o : Nat) (p : UInt8 → Bool) (w : World) (h : SetAt w g o p) :
    Calls Tryd.prog 106 #[.pointer (some ⟨g, o, none⟩)] w fun e w' => e = .returned (.bool (isNo p)) ∧ w' = w := by
  go_enter Tryd.func106, Tryd.ntmps106
  have hc := h.cls
  have hlen := setRow_len p
  have heq := no_eql p
  have hz := zero_class
  clear h
  generalize setRow p = X at *
  generalize setRow noSet = Z at *
  go_wp2_with (refine load_at _ o _ hc 256 hlen 122 (.array 256 4) (by kernel_rfl) rfl (by kernel_rfl) _ rfl rfl rfl ?_)
  go_ret
  exact ⟨rfl, rfl⟩
end Go.Proofs.YteooofakpkbgoaaDoor
/- The reader: a byte that is taken or not; a byte that stands for itself; whether a range is next. -/
namespace Go.Proofs.YteooofakpkbgoaaDoor
open Go.ChangeShapes Go.WideShapes Go.RowKit

/-- Behind c, if it is next. -/
def dropIf (c : UInt8) : Bs → Bs
  | [] => []
  | d :: l => if d = c then l else d :: l
def nextIs (c : UInt8) (l : Bs) : Bool := l.head? == some c
theorem sign_drop (l : Bs) : signN l = match dropIf 92 l with | [] => none | c :: r => some (c, r) := by
  cases l with
  | nil => rfl
  | cons c l =>
    unfold signN dropIf
    simp only
    split
    · cases l <;> rfl
    · rfl
theorem take_any (R : Nat) (c : UInt8) (l : Bs) (V : Value) (w : World) (h : Rq w R l V) (x : Int) (hx : x = (c.toNat : Int)) :
    Calls Tryd.prog 85 #[.pointer (some ⟨R, 0, none⟩), .int .u8 x] w fun e w' => e = .returned (.bool (nextIs c l)) ∧ Rq w' R (dropIf c l) V ∧ Asd (· = R) w w' := by
  by_cases hm : l.head? = some c
  · subst hx
    cases l with
    | nil => cases hm
    | cons d l =>
      obtain rfl : d = c := by simpa using hm
      have e1 : nextIs d (d :: l) = true := by simp [nextIs]
      have e2 : dropIf d (d :: l) = l := by simp [dropIf]
      rw [e1, e2]
      exact take_hit R d l V w h
  · have e1 : nextIs c l = false := by simp [nextIs, hm]
    have e2 : dropIf c l = l := by
      cases l with
      | nil => rfl
      | cons d l => simp [dropIf]; intro e; exact absurd (by rw [e]; rfl) hm
    rw [e1, e2]
    refine (take_miss R c l V w h hm x hx).mono ?_
    rintro e w' ⟨rfl, rfl⟩
    exact ⟨rfl, h, Asd.refl _ _⟩
/-- What sign returns. -/
def signV : Option (UInt8 × Bx) → Value
  | none => .tuple #[.int .u8 0, .bool false]
  | some (c, _) => .tuple #[.int .u8 (c.toNat : Int), .bool true]
def signL : Option (UInt8 × Bx) → Bs
  | none => []
  | some (_, r) => r
set_option maxHeartbeats 800000 in
set_option maxRecDepth 100000 in
theorem sign_any (R : Nat) (l : Bs) (V : Value) (w : World) (h : Rq w R l V) :
    Calls Tryd.prog 103 #[.pointer (some ⟨R, 0, none⟩)] w fun e w' => e = .returned (signV (signN l)) ∧ Rq w' R (signL (signN l)) V ∧ Asd (· = R) w w' := by
  rw [sign_drop]
  have ht := take_any R 92 l V w h 92 rfl
  generalize dropIf 92 l = m at *
  cases m with
  | nil =>
    have he := null_text
    go_enter Tryd.func103, Tryd.ntmps103
    go_wp2_with fail
    refine ht.mono ?_
    rintro e w1 ⟨rfl, h1, hA⟩
    have c0 := h1.rest
    generalize hX : (⟨([] : Bs).toArray⟩ : ByteArray) = X at *
    have HX := Lib.hid hX
    clear hX ht
    go_wp2_with fail
    refine bodyPost_ret (results_tmp2 rfl _ _ _) rfl ?_
    exact ⟨rfl, h1, hA⟩
  | cons c r =>
    go_enter Tryd.func103, Tryd.ntmps103
    go_wp2_with fail
    refine ht.mono ?_
    rintro e w1 ⟨rfl, h1, hA⟩
    have c0 := h1.rest
    have f0 := Rw.frozen h1 0
    have hi := at_text (c :: r) 0 c rfl 0 rfl
    have hc := cut_text (c :: r) 1 (by simp) 1 rfl
    have he := full_text c r
    rw [List.drop_one, List.tail_cons] at hc
    generalize hX : (⟨(c :: r).toArray⟩ : ByteArray) = X at *
    clear hX ht
    go_wp2_with fail
    refine bodyPost_ret (results_tmp2 rfl _ _ _) rfl ?_
    exact ⟨rfl, h1.set r, hA.set1 _ _⟩
/-- Whether a range is next. -/
def rangeB : Bs → Bool
  | x :: y :: _ => x == 45 && y != 93
  | _ => false
theorem u8_eq (a b : UInt8) : ((a.toNat : Int) == (b.toNat : Int)) = (a == b) := by
  by_cases h : a = b
  · subst h; simp
  · have : ¬ ((a.toNat : Int) = (b.toNat : Int)) := fun e => h (UInt8.toNat_inj.1 (by omega))
    rw [show (a == b) = false by simpa using h]
    simpa using this
set_option maxHeartbeats 800000 in
set_option maxRecDepth 100000 in
theorem range_any (R : Nat) (l : Bs) (V : Value) (w : World) (h : Rq w R l V) :
    Calls Tryd.prog 107 #[.pointer (some ⟨R, 0, none⟩)] w fun e w' => e = .returned (.bool (rangeB l)) ∧ w' = w := by
  have c0 := h.rest
  have hsz : (⟨l.toArray⟩ : ByteArray).size = l.length := by simp [ByteArray.size]
  match l with
  | [] =>
    generalize hX : (⟨([] : Bs).toArray⟩ : ByteArray) = X at *
    clear hX
    have hn : ¬ (2 ≤ (X.size : Int)) := by rw [hsz]; decide
    go_enter Tryd.func107, Tryd.ntmps107
    go_wp2_with fail
    go_ret
    exact ⟨rfl, rfl⟩
  | [x] =>
    generalize hX : (⟨([x] : Bs).toArray⟩ : ByteArray) = X at *
    clear hX
    have hn : ¬ (2 ≤ (X.size : Int)) := by rw [hsz]; simp
    go_enter Tryd.func107, Tryd.ntmps107
    go_wp2_with fail
    go_ret
    exact ⟨rfl, rfl⟩
  | x :: y :: r =>
    have h0 := at_text (x :: y :: r) 0 x rfl 0 rfl
    have h1 := at_text (x :: y :: r) 1 y rfl 1 rfl
    generalize hX : (⟨(x :: y :: r).toArray⟩ : ByteArray) = X at *
    clear hX
    have hn : 2 ≤ (X.size : Int) := by rw [hsz]; simp; omega
    have e1 : ((x.toNat : Int) == 45) = (x == 45) := u8_eq x 45
    have e2 : ((y.toNat : Int) == 93) = (y == 93) := u8_eq y 93
    have e3 : rangeB (x :: y :: r) = (x == 45 && y != 93) := rfl
    cases hx : x == 45
    all_goals
      rw [hx] at e1 e3
      cases hy : y == 93
      all_goals
        rw [hy] at e2
        have e4 : ((y.toNat : Int) != 93) = !(y == 93) := by rw [bne, e2, hy]
        rw [hy] at e4
        rw [bne, hy] at e3
        rw [e3]
        go_enter Tryd.func107, Tryd.ntmps107
        go_wp2_with fail
        go_ret
        exact ⟨rfl, rfl⟩
end Go.Proofs.YteooofakpkbgoaaDoor
/- The reader: an element of a class. -/
namespace Go.Proofs.YteooofakpkbgoaaDoor
open Go.ChangeShapes Go.WideShapes Go.RowKit

theorem elem_short {l r : Bs} {f : UInt8} (h : signN l = some (f, r)) (hr : rangeB r = false) : elemN l = some ((f, f), r) := by
  unfold elemN
  rw [h]
  simp only
  match r, hr with
  | [], _ => rfl
  | [x], _ => rfl
  | x :: y :: r', hr =>
    have : ¬ (x = 45 ∧ y ≠ 93) := fun ⟨e1, e2⟩ => by
      subst e1
      simp [rangeB, e2] at hr
    simp only [if_neg this]
theorem elem_long {l r : Bs} {f : UInt8} (h : signN l = some (f, r)) (hr : rangeB r = true) :
    elemN l = match signN (dropIf 45 r) with | none => none | some (b, r2) => if f ≤ b then some ((f, b), r2) else none := by
  unfold elemN
  rw [h]
  simp only
  match r, hr with
  | x :: y :: r', hr =>
    simp [rangeB] at hr
    obtain ⟨rfl, hy⟩ := hr
    simp only [hy, ne_eq, not_false_eq_true, and_self, if_true, dropIf]
    cases signN (y :: r') <;> rfl
/-- What element leaves behind. -/
def ElemP (R : Nat) (V : Value) (o : Option ((UInt8 × UInt8) × Bx)) (e : Ending) (w' : World) : Prop :=
  match o with
  | some ((a, b), r) => e = .returned (.tuple #[.int .u8 (a.toNat : Int), .int .u8 (b.toNat : Int), .bool true]) ∧ Rq w' R r V
  | none => (∃ x y, e = .returned (.tuple #[x, y, .bool false])) ∧ ∃ l', Rq w' R l' V
set_option maxHeartbeats 1600000 in
set_option maxRecDepth 100000 in
theorem element_any (R : Nat) (l : Bs) (V : Value) (w : World) (h : Rq w R l V) :
    Calls Tryd.prog 105 #[.pointer (some ⟨R, 0, none⟩)] w fun e w' => ElemP R V (elemN l) e w' ∧ Asd (· = R) w w' := by
  have K1 := Lib.hid (sign_any R l V w h)
  cases hs : signN l with
  | none =>
    have he : elemN l = none := by unfold elemN; rw [hs]
    rw [he]
    rw [hs] at K1
    clear hs he
    go_enter Tryd.func105, Tryd.ntmps105
    go_wp2_with fail
    refine K1.out.mono ?_
    rintro e w1 ⟨rfl, h1, hA⟩
    clear K1
    simp only [signV]
    go_wp2_with fail
    go_ret3
    exact ⟨⟨⟨_, _, rfl⟩, _, h1⟩, hA⟩
  | some z =>
    obtain ⟨f, r⟩ := z
    rw [hs] at K1
    cases hr : rangeB r with
    | false =>
      rw [elem_short hs hr]
      clear hs
      go_enter Tryd.func105, Tryd.ntmps105
      go_wp2_with fail
      refine K1.out.mono ?_
      rintro e w1 ⟨rfl, h1, hA⟩
      clear K1
      have K2 := range_any R r V w1 h1
      rw [hr] at K2
      replace K2 := Lib.hid K2
      simp only [signV]
      go_wp2_with fail
      refine K2.out.mono ?_
      rintro e w2 ⟨rfl, rfl⟩
      clear K2
      go_wp2_with fail
      go_ret3
      exact ⟨⟨rfl, h1⟩, hA⟩
    | true =>
      rw [elem_long hs hr]
      clear hs
      generalize hd : dropIf 45 r = m
      have Hd := Lib.hid hd
      clear hd
      cases hs2 : signN m with
      | none =>
        go_enter Tryd.func105, Tryd.ntmps105
        go_wp2_with fail
        refine K1.out.mono ?_
        rintro e w1 ⟨rfl, h1, hA⟩
        clear K1
        have K2 := range_any R r V w1 h1
        rw [hr] at K2
        replace K2 := Lib.hid K2
        simp only [signV]
        go_wp2_with fail
        refine K2.out.mono ?_
        rintro e w2 ⟨rfl, rfl⟩
        clear K2
        have K3 := Lib.hid (take_any R 45 r V w2 h1 45 rfl)
        go_wp2_with fail
        refine K3.out.mono ?_
        rintro e w3 ⟨rfl, h3, hA3⟩
        clear K3
        rw [Hd.out] at h3
        have K4 := sign_any R m V w3 h3
        rw [hs2] at K4
        replace K4 := Lib.hid K4
        clear hs2
        go_wp2_with fail
        refine K4.out.mono ?_
        rintro e w4 ⟨rfl, h4, hA4⟩
        clear K4
        simp only [signV]
        go_wp2_with fail
        go_ret3
        exact ⟨⟨⟨_, _, rfl⟩, _, h4⟩, (hA.andThen hA3).andThen hA4⟩
      | some z =>
        obtain ⟨b, r2⟩ := z
        simp only
        have hle : ((f.toNat : Int) ≤ (b.toNat : Int)) ↔ f ≤ b := by rw [UInt8.le_iff_toNat_le]; omega
        by_cases hfb : f ≤ b
        all_goals
          first | rw [if_pos hfb] | rw [if_neg hfb]
          have hlt := hfb
          rw [← hle] at hlt
          clear hle hfb
          go_enter Tryd.func105, Tryd.ntmps105
          go_wp2_with fail
          refine K1.out.mono ?_
          rintro e w1 ⟨rfl, h1, hA⟩
          clear K1
          have K2 := range_any R r V w1 h1
          rw [hr] at K2
          replace K2 := Lib.hid K2
          simp only [signV]
          go_wp2_with fail
          refine K2.out.mono ?_
          rintro e w2 ⟨rfl, rfl⟩
          clear K2
          have K3 := Lib.hid (take_any R 45 r V w2 h1 45 rfl)
          go_wp2_with fail
          refine K3.out.mono ?_
          rintro e w3 ⟨rfl, h3, hA3⟩
          clear K3
          rw [Hd.out] at h3
          have K4 := sign_any R m V w3 h3
          rw [hs2] at K4
          replace K4 := Lib.hid K4
          go_wp2_with fail
          refine K4.out.mono ?_
          rintro e w4 ⟨rfl, h4, hA4⟩
          clear K4
          simp only [signV]
          go_wp2_with fail
          go_ret3
          first
          | exact ⟨⟨rfl, h4⟩, (hA.andThen hA3).andThen hA4⟩
          | (have hdd : decide (f.toNat ≤ b.toNat) = false := decide_eq_false (by omega)
             rw [hdd]
             exact ⟨⟨⟨_, _, rfl⟩, _, h4⟩, (hA.andThen hA3).andThen hA4⟩)
end Go.Proofs.YteooofakpkbgoaaDoor
/- The list of the steps in memory: a row of elements of 257 cells, each a set and a slice of its own. -/
namespace Go.Proofs.YteooofakpkbgoaaDoor
open Go.ChangeShapes Go.WideShapes Go.RowKit

def intV (n : Nat) : Value := .int .i64 (n : Int)
def stepC (s : Stp) (f : Value) : List Value := setRow s.set ++ [f]
theorem stepC_len (s : Stp) (f : Value) : (stepC s f).length = 257 := by rw [stepC, List.length_append, setRow_len]; rfl
def stepsC : List Stp → List Value → List Value
  | s :: S, f :: F => stepC s f ++ stepsC S F
  | _, _ => []
theorem stepsC_len {S : List Stp} {F : List Value} (h : F.length = S.length) : (stepsC S F).length = S.length * 257 := by
  induction S generalizing F with
  | nil => simp [stepsC]
  | cons s S ih => cases F with
    | nil => cases h
    | cons f F => rw [stepsC, List.length_append, stepC_len, ih (by simpa using h), List.length_cons]; omega
theorem stepsC_snoc {S : List Stp} {F : List Value} (h : F.length = S.length) (s : Stp) (f : Value) : stepsC (S ++ [s]) (F ++ [f]) = stepsC S F ++ stepC s f := by
  induction S generalizing F with
  | nil => cases F with
    | nil => simp [stepsC]
    | cons f F => cases h
  | cons t S ih => cases F with
    | nil => cases h
    | cons g F => simp only [List.cons_append, stepsC, ih (by simpa using h), List.append_assoc]
/-- Cell c of step k. -/
theorem stepsC_get {S : List Stp} {F : List Value} {k c : Nat} {s : Stp} {f : Value} (hs : S[k]? = some s) (hf : F[k]? = some f) (hc : c < 257) : (stepsC S F)[k * 257 + c]? = (stepC s f)[c]? := by
  induction S generalizing F k with
  | nil => cases hs
  | cons t S ih => cases F with
    | nil => cases hf
    | cons g F => cases k with
      | zero =>
        simp only [List.getElem?_cons_zero, Option.some.injEq] at hs hf
        subst hs hf
        rw [stepsC, Nat.zero_mul, Nat.zero_add, List.getElem?_append_left (by rw [stepC_len]; exact hc)]
      | succ k =>
        rw [List.getElem?_cons_succ] at hs hf
        rw [stepsC, List.getElem?_append_right (by rw [stepC_len]; omega), stepC_len, show (k + 1) * 257 + c - 257 = k * 257 + c by omega]
        exact ih hs hf
theorem stepC_free (s : Stp) (f : Value) : (stepC s f)[256]? = some f := by
  rw [stepC, List.getElem?_append_right (by rw [setRow_len]; omega), setRow_len]; rfl
theorem stepC_set (s : Stp) (f : Value) {c : Nat} (hc : c < 256) : (stepC s f)[c]? = some (.bool (s.set (UInt8.ofNat c))) := by
  rw [stepC, List.getElem?_append_left (by rw [setRow_len]; exact hc), setRow_get _ hc]
theorem stepsC_free {S : List Stp} {F : List Value} {k : Nat} {s : Stp} {f : Value} (hs : S[k]? = some s) (hf : F[k]? = some f) : (stepsC S F)[k * 257 + 256]? = some f := by
  rw [stepsC_get hs hf (by omega), stepC_free]
/-- A further way out of step k: its slice is another one, its set isn't. -/
theorem stepsC_lead {S : List Stp} {F : List Value} {k : Nat} (h : F.length = S.length) (hk : k < S.length) (x : Nat) (f : Value) : (stepsC S F).set (k * 257 + 256) f = stepsC (leadL S k x) (F.set k f) := by
  induction S generalizing F k with
  | nil => cases hk
  | cons t S ih => cases F with
    | nil => cases h
    | cons g F => cases k with
      | zero =>
        rw [stepsC, Nat.zero_mul, Nat.zero_add, List.set_append_left _ _ (by rw [stepC_len]; omega)]
        rw [show leadL (t :: S) 0 x = ⟨t.set, t.free ++ [x]⟩ :: S from rfl, List.set_cons_zero, stepsC]
        refine congrArg (· ++ stepsC S F) ?_
        simp only [stepC]
        rw [List.set_append_right _ _ (by rw [setRow_len]; omega), setRow_len, Nat.sub_self, List.set_cons_zero]
      | succ k =>
        rw [stepsC, List.set_append_right _ _ (by rw [stepC_len]; omega), stepC_len, show (k + 1) * 257 + 256 - 257 = k * 257 + 256 by omega, ih (by simpa using h) (by simpa using hk)]
        simp only [leadL, List.modify_succ_cons, List.set_cons_succ, stepsC]
/-- The steps in memory: all blocks are one's own, and none serves twice. -/
structure StepsAt (w : World) (base : Nat) (V : Value) (S : List Stp) (F : List Value) : Prop where
  len : F.length = S.length
  row : w.ownsRow base 136 257 V S.length (stepsC S F)
  free : ∀ (k : Nat) s f, S[k]? = some s → F[k]? = some f → w.ownsRow base 3 1 f s.free.length (s.free.map intV)
  off : ∀ (k : Nat) f, F[k]? = some f → f.ownBlock = none ∨ f.ownBlock ≠ V.ownBlock
  two : ∀ (i j : Nat) f g, i ≠ j → F[i]? = some f → F[j]? = some g → f.ownBlock = none ∨ f.ownBlock ≠ g.ownBlock
theorem leadL_get {S : List Stp} {k x : Nat} (i : Nat) : (leadL S k x)[i]? = if i = k then (S[k]?).map (fun s => ⟨s.set, s.free ++ [x]⟩) else S[i]? := by
  unfold leadL
  rw [List.getElem?_modify]
  by_cases h : i = k
  · subst h; simp
  · have h' : ¬ k = i := fun e => h e.symm
    cases S[i]? <;> simp [h, h']
end Go.Proofs.YteooofakpkbgoaaDoor
/- A set is turned by a deferred call. -/
namespace Go.Proofs.YteooofakpkbgoaaDoor
open Go.ChangeShapes Go.WideShapes Go.RowKit

set_option maxHeartbeats 800000 in
set_option maxRecDepth 20000 in
theorem invert_d (u : FrameMode) (g : Nat) (t : TypeId) (p : UInt8 → Bool) (w : World) (h : Rw w g t (setRow p)) :
    CallsD Tryd.prog 102 #[.pointer (some ⟨g, 0, none⟩)] u w fun e u' w' => u' = u ∧ e = .returned (.tuple #[]) ∧ Rw w' g t (setRow fun x => !p x) ∧ Asd (· = g) w w' := by
  have h0 := h
  rw [← turnd_start p] at h0
  go_enter_d Tryd.func102, Tryd.ntmps102
  go_wp2_with fail
  go_loopw [3] (fun i wr => ∃ k : Nat, k ≤ 256 ∧ i = .int .i64 (k : Int) ∧ Rw wr g t (setRow (turnd p k)) ∧ Asd (· = g) w wr) (fun i _ => 256 - (intOf i).toNat)
  case atStart => exact ⟨0, by omega, rfl, h0, Asd.refl _ _⟩
  case round =>
    obtain ⟨k, hk, rfl, q, qA⟩ := hrel
    by_cases hlt : k < 256
    · have hc := (q.cell k).trans (setRow_get (turnd p k) hlt)
      rw [turnd_get p hlt] at hc
      have hfz := q.frozen k
      go_upto_region 3 with fail
      refine region_loose (fun _ w' => Asd (fun _ => False) wr w' ∧ w'.cell? ⟨g, k, none⟩ = some (.bool (p (UInt8.ofNat k)))) 10 10 1 #[true, true, true, true, true, true, true, true, true, true, false] rfl (by kernel_rfl) (by kernel_rfl) (by kernel_rfl) (⟨(Asd.refl _ _).drew, hc⟩) ?_
      simp only [List.take_succ_cons, List.take_zero]
      repeat
        first
        | (refine loose_val (by decide) rfl ?_
           apply Exists.intro
           refine ⟨fun L' w' hw' => ?_, ?_⟩
           · obtain ⟨_, e0⟩ := hw'
             go_simp
             first | done | rfl | exact ⟨rfl, rfl⟩
           simp only [Act.put, List.setIfInBounds_toArray, List.set_cons_zero, List.set_cons_succ])
        | (refine loose_call (by decide) rfl ?_
           apply Exists.intro
           apply Exists.intro
           refine ⟨fun w' => ?_, ?_⟩
           · go_simp
             first | done | rfl | exact ⟨rfl, rfl⟩
           apply Exists.intro
           refine ⟨fun L' w' hw' => ?_, ?_⟩
           · first
             | fail
           simp only [Act.put, List.setIfInBounds_toArray, List.set_cons_zero, List.set_cons_succ])
        | (refine loose_new (by decide) rfl (fun L' w' hw' => ?_) (fun v => ?_)
           · fail
           simp only [Act.put, List.setIfInBounds_toArray, List.set_cons_zero, List.set_cons_succ])
      intro w5 hw5
      obtain ⟨hA, hc5⟩ := hw5
      have q5 := q.keep hA (fun h => h)
      have hfz5 := q5.frozen k
      refine wpAny_ready (rs := [10]) (by kernel_rfl) (by simp) ?_
      refine AllReady.cons rfl (fun K hK => ?_) AllReady.nil
      go_simp
      refine hK _ _ ?_
      clear hK K
      refine wpAny_done (by kernel_rfl) ?_ _
      go_wp2_with fail
      go_roundw
      case rel =>
        refine ⟨k + 1, by omega, by go_num, ?_, (qA.trans (hA.any (S' := (· = g)) (fun _ h => h.elim)) (fun _ h _ => h)).set1 _ _⟩
        have := q5.setCell k (.bool (!p (UInt8.ofNat k)))
        rw [setRow_set _ hlt, turnd_step p hlt] at this
        exact this
      case measure => simp [intOf]; omega
    · have e : turnd p k = fun x => !p x := by rw [show k = 256 by omega]; exact turnd_end p
      rw [e] at q
      have hnot : ¬ ((k : Int) < 256) := by omega
      go_wp2_with fail
      refine bodyPost_end (results_none (by kernel_rfl) _ _ _) rfl ?_
      exact ⟨rfl, q, qA⟩
end Go.Proofs.YteooofakpkbgoaaDoor
/- The reader: the ends of a class, behind its [, with the turn deferred and without. -/
namespace Go.Proofs.YteooofakpkbgoaaDoor
open Go.ChangeShapes Go.WideShapes Go.RowKit

/-- How long what is left is. -/
def restLen (w : World) (R : Nat) : Nat := match w.cell? ⟨R, 0, none⟩ with
  | some (.string s) => s.size
  | _ => 0
theorem Rq.len {w : World} {R : Nat} {l : Bs} {V : Value} (h : Rq w R l V) : restLen w R = l.length := by
  unfold restLen
  rw [h.rest]
  simp [ByteArray.size]
theorem class_row {w : World} {G : Nat} {t : TypeId} {Z : List Value} (hr : Rw w G t Z) (hn : Z.length = 256) : (loadVar 122 ⟨G, 0, none⟩).run Tryd.prog w = .ok (.agg Z.toArray) w :=
  run_load_cells (P := Tryd.prog) w G 0 122 Z (.array 256 4) (fun j v hv => by rw [Nat.zero_add, hr.cell]; exact hv) (by kernel_rfl) rfl (by rw [hn]; kernel_rfl)
theorem class_results {a : Array Value} {w : World} {G : Nat} {t : TypeId} {Z : List Value} {ok : Bool} (hr : Rw w G t Z) (hn : Z.length = 256) (h2 : a.getD 2 undef = .pointer (some ⟨G, 0, none⟩)) (h3 : a.getD 3 undef = .bool ok) :
    (results Tryd.f101 a).run Tryd.prog w = .ok (.tuple #[.agg Z.toArray, .bool ok]) w := by
  have := class_row hr hn
  rw [results_cell_tmp (p := 2) (u := 3) (ty := 122) rfl, h2, h3]
  simp only [asAddr, Sem.run_pure, Result.andThen_ok, this]
/-- The end, with nothing deferred. -/
theorem fin_plain {a : Act} {w : World} {G : Nat} {t : TypeId} {Z : List Value} {ok : Bool} {R' : Ending → World → Prop} (hr : Rw w G t Z) (hn : Z.length = 256) (h2 : a.tmps.getD 2 undef = .pointer (some ⟨G, 0, none⟩)) (h3 : a.tmps.getD 3 undef = .bool ok) (hd : a.defers = [])
    (h : R' (.returned (.tuple #[.agg Z.toArray, .bool ok])) w) : bodyPostD Tryd.prog Tryd.f101 R' .ret a w := by
  show Leaves Tryd.prog Tryd.f101 a.tmps R' a.defers .returning w
  rw [hd]
  exact ⟨_, class_results hr hn h2 h3, h⟩
/-- The end, with the turn deferred. -/
theorem fin_turn {a : Act} {w : World} {G : Nat} {t : TypeId} {p : UInt8 → Bool} {ok : Bool} {fv : Fn} {cap : Array Value} {R' : Ending → World → Prop} (hr : Rw w G t (setRow p)) (h2 : a.tmps.getD 2 undef = .pointer (some ⟨G, 0, none⟩)) (h3 : a.tmps.getD 3 undef = .bool ok) (hd : a.defers = [{ target := .fn fv cap, args := #[.pointer (some ⟨G, 0, none⟩)] }])
    (hi : (invoke (.fn fv cap) #[.pointer (some ⟨G, 0, none⟩)]).run Tryd.prog w = .ok (.enter 102 #[.pointer (some ⟨G, 0, none⟩)]) w)
    (h : ∀ w', Asd (· = G) w w' → R' (.returned (.tuple #[.agg (setRow fun x => !p x).toArray, .bool ok])) w') : bodyPostD Tryd.prog Tryd.f101 R' .ret a w := by
  show Leaves Tryd.prog Tryd.f101 a.tmps R' a.defers .returning w
  rw [hd]
  refine leaves_cons (f := 102) (args := #[.pointer (some ⟨G, 0, none⟩)]) (by simp) hi ?_
  refine (invert_d .returning G t p w hr).mono ?_
  rintro e u' w' ⟨rfl, rfl, hq, hA⟩
  exact ⟨_, class_results hq (setRow_len _) h2 h3, h w' hA⟩
end Go.Proofs.YteooofakpkbgoaaDoor
/- The reader with its steps in memory: a step more, a way more. -/
namespace Go.Proofs.YteooofakpkbgoaaDoor
open Go.ChangeShapes Go.WideShapes Go.RowKit

/-- The blocks in which steps lie. -/
def Foot (V : Value) (F : List Value) (k : Nat) : Prop := V.ownBlock = some k ∨ ∃ f, f ∈ F ∧ f.ownBlock = some k
theorem StepsAt.lt {w : World} {base : Nat} {V : Value} {S : List Stp} {F : List Value} (h : StepsAt w base V S F) {k : Nat} (hk : Foot V F k) : base ≤ k ∧ k < w.heap.size := by
  rcases hk with e | ⟨f, hf, e⟩
  · exact h.row.lt k e
  · obtain ⟨i, hi⟩ := List.mem_iff_getElem?.1 hf
    have hl : i < S.length := by have := (List.getElem?_eq_some_iff.1 hi).1; rw [h.len] at this; exact this
    exact (h.free i _ f (List.getElem?_eq_getElem hl) hi).lt k e
theorem StepsAt.keep {w w' : World} {base : Nat} {V : Value} {S : List Stp} {F : List Value} {T : Nat → Prop} (h : StepsAt w base V S F) (k : Asd T w w') (hs : ∀ i, Foot V F i → ¬ T i) : StepsAt w' base V S F :=
  ⟨h.len, own_asdS h.row k (fun i e => hs i (.inl e)), fun i s f h1 h2 => own_asdS (h.free i s f h1 h2) k (fun j e => hs j (.inr ⟨f, List.mem_of_getElem? h2, e⟩)), h.off, h.two⟩
theorem StepsAt.stay {w w' : World} {base : Nat} {V : Value} {S : List Stp} {F : List Value} (h : StepsAt w base V S F) (k : Below w.heap.size w w') : StepsAt w' base V S F := h.keep (T := fun _ => False) (Asd.of_below k) (fun _ _ e => e)
theorem StepsAt.void (w : World) (base : Nat) : StepsAt w base (.slice none 0 0) [] [] :=
  ⟨rfl, World.ownsRow_nil _ _ _ _, fun k s f h => by (cases h), fun k f h => by (cases h), fun i j f g _ h => by (cases h)⟩
/-- A step more. -/
theorem StepsAt.snoc {w w' : World} {base : Nat} {V V' : Value} {S : List Stp} {F : List Value} {p : UInt8 → Bool} (h : StepsAt w base V S F) (hr : w'.ownsRow base 136 257 V' (S.length + 1) (stepsC S F ++ stepC ⟨p, []⟩ (.slice none 0 0))) (k : Asd (fun i => V.ownBlock = some i) w w')
    (hb : V'.ownBlock = V.ownBlock ∨ ∃ g, V'.ownBlock = some g ∧ w.heap.size ≤ g) : StepsAt w' base V' (S ++ [⟨p, []⟩]) (F ++ [.slice none 0 0]) := by
  have hn : (Value.slice none 0 0).ownBlock = Option.none := rfl
  have hoff : ∀ (i : Nat) f, F[i]? = some f → f.ownBlock = Option.none ∨ f.ownBlock ≠ V'.ownBlock := fun i f hf => by
    rcases hb with e | ⟨g, e, hg⟩
    · rw [e]; exact h.off i f hf
    · cases hq : f.ownBlock with
      | none => exact .inl rfl
      | some b =>
        refine .inr fun e2 => ?_
        rw [e] at e2
        injection e2 with e2
        have := (h.lt (.inr ⟨f, List.mem_of_getElem? hf, hq⟩)).2
        omega
  refine ⟨by simp [h.len], by rw [List.length_append, stepsC_snoc h.len]; exact hr, fun i s f h1 h2 => ?_, fun i f h2 => ?_, fun i j f g hij h1 h2 => ?_⟩
  · by_cases hi : i < S.length
    · rw [List.getElem?_append_left hi] at h1
      rw [List.getElem?_append_left (by rw [h.len]; exact hi)] at h2
      refine own_asdS (h.free i s f h1 h2) k fun b e e' => ?_
      rcases h.off i f h2 with q | q
      · rw [q] at e; cases e
      · exact q (e.trans e'.symm)
    · have hlt := (List.getElem?_eq_some_iff.1 h1).1
      rw [List.length_append, List.length_singleton] at hlt
      obtain rfl : i = S.length := by omega
      rw [List.getElem?_concat_length] at h1
      rw [← h.len, List.getElem?_concat_length] at h2
      injection h1 with h1
      injection h2 with h2
      subst h1 h2
      exact World.ownsRow_nil _ _ _ _
  · by_cases hi : i < F.length
    · rw [List.getElem?_append_left hi] at h2
      exact hoff i f h2
    · rw [List.getElem?_append_right (by omega)] at h2
      have := List.mem_of_getElem? h2
      simp at this
      subst this
      exact .inl hn
  · by_cases hi : i < F.length
    · by_cases hj : j < F.length
      · rw [List.getElem?_append_left hi] at h1
        rw [List.getElem?_append_left hj] at h2
        exact h.two i j f g hij h1 h2
      · rw [List.getElem?_append_right (by omega)] at h2
        have := List.mem_of_getElem? h2
        simp at this
        subst this
        rw [hn]
        cases f.ownBlock with
        | none => exact .inl rfl
        | some b => exact .inr (by simp)
    · rw [List.getElem?_append_right (by omega)] at h1
      have := List.mem_of_getElem? h1
      simp at this
      subst this
      exact .inl hn
theorem foot_snoc {V V' : Value} {F : List Value} {n k : Nat} (hb : V'.ownBlock = V.ownBlock ∨ ∃ g, V'.ownBlock = some g ∧ n ≤ g) (h : Foot V' (F ++ [.slice none 0 0]) k) : Foot V F k ∨ n ≤ k := by
  rcases h with e | ⟨f, hf, e⟩
  · rcases hb with q | ⟨g, q, hg⟩
    · exact .inl (.inl (q ▸ e))
    · rw [q] at e; injection e with e; exact .inr (by omega)
  · rcases List.mem_append.1 hf with hf | hf
    · exact .inl (.inr ⟨f, hf, e⟩)
    · simp at hf; subst hf; cases e
/-- A way more out of step k: w1: behind the append; then it is written into the step. -/
theorem StepsAt.lead {w w1 : World} {base G cap k x : Nat} {f f' : Value} {S : List Stp} {F : List Value} {s : Stp} (h : StepsAt w base (.slice (some ⟨G, 0, Option.none⟩) S.length cap) S F) (hs : S[k]? = some s) (hf : F[k]? = some f)
    (hr : w1.ownsRow base 3 1 f' (s.free.length + 1) (s.free.map intV ++ [intV x])) (k1 : Asd (fun i => f.ownBlock = some i) w w1) (hb : f'.ownBlock = f.ownBlock ∨ ∃ g, f'.ownBlock = some g ∧ w.heap.size ≤ g) :
    StepsAt (w1.setCell ⟨G, k * 257 + 256, Option.none⟩ f') base (.slice (some ⟨G, 0, Option.none⟩) S.length cap) (leadL S k x) (F.set k f') := by
  have hk : k < S.length := (List.getElem?_eq_some_iff.1 hs).1
  have hG : Foot (.slice (some ⟨G, 0, Option.none⟩) S.length cap) F G := .inl rfl
  have hfG : f'.ownBlock ≠ some G := by
    rcases hb with e | ⟨g, e, hg⟩
    · rw [e]
      rcases h.off k f hf with q | q
      · rw [q]; simp
      · exact q
    · rw [e]
      intro e2
      injection e2 with e2
      have := (h.lt hG).2
      omega
  have hfoff : f.ownBlock = Option.none ∨ f.ownBlock ≠ some G := h.off k f hf
  have hrow1 := own_asdS h.row k1 (fun i e e' => by
    rcases hfoff with q | q
    · rw [q] at e'; cases e'
    · exact q (e'.trans e.symm))
  have other : ∀ (i : Nat) t g, i ≠ k → S[i]? = some t → F[i]? = some g → w1.ownsRow base 3 1 g t.free.length (t.free.map intV) := fun i t g hik h1 h2 => own_asdS (h.free i t g h1 h2) k1 (fun b e e' => by
    rcases h.two i k g f hik h2 hf with q | q
    · rw [q] at e; cases e
    · exact q (e.trans e'.symm))
  have hone : f'.oneCell' = true := by
    obtain ⟨a, c, rfl, _⟩ := own_slice hr
    rfl
  refine ⟨by rw [List.length_set, leadL_length, h.len], ?_, fun i t g h1 h2 => ?_, fun i g h2 => ?_, fun i j g g' hij h1 h2 => ?_⟩
  · rw [leadL_length, ← stepsC_lead h.len hk x f']
    exact (hrow1.stored _ _).1
  · rw [leadL_get] at h1
    by_cases hik : i = k
    · subst hik
      rw [if_pos rfl, hs] at h1
      rw [List.getElem?_set_self (by rw [h.len]; exact hk)] at h2
      simp at h1 h2
      subst h1 h2
      refine ownsRow_setCell_other ?_ hfG _
      simp only [List.length_append, List.length_singleton, List.map_append, List.map_cons, List.map_nil]
      exact hr
    · rw [if_neg hik] at h1
      rw [List.getElem?_set_ne (fun e => hik e.symm)] at h2
      refine ownsRow_setCell_other (other i t g hik h1 h2) ?_ _
      rcases h.off i g h2 with q | q
      · rw [q]; simp
      · exact q
  · by_cases hik : i = k
    · subst hik
      rw [List.getElem?_set_self (by rw [h.len]; exact hk)] at h2
      simp at h2
      subst h2
      exact .inr hfG
    · rw [List.getElem?_set_ne (fun e => hik e.symm)] at h2
      exact h.off i g h2
  · have new : ∀ (i : Nat) g, i ≠ k → F[i]? = some g → f'.ownBlock = Option.none ∨ f'.ownBlock ≠ g.ownBlock := fun i g hik h2 => by
      rcases hb with e | ⟨b, e, hb⟩
      · rw [e]; exact h.two k i f g (fun e => hik e.symm) hf h2
      · refine .inr fun e2 => ?_
        rw [e] at e2
        have := (h.lt (.inr ⟨g, List.mem_of_getElem? h2, e2.symm⟩)).2
        omega
    by_cases hik : i = k
    · subst hik
      rw [List.getElem?_set_self (by rw [h.len]; exact hk)] at h1
      rw [List.getElem?_set_ne hij] at h2
      simp at h1
      subst h1
      exact new j g' (fun e => hij e.symm) h2
    · rw [List.getElem?_set_ne (fun e => hik e.symm)] at h1
      by_cases hjk : j = k
      · subst hjk
        rw [List.getElem?_set_self (by rw [h.len]; exact hk)] at h2
        simp at h2
        subst h2
        exact sym_ne (new i g hik h1)
      · rw [List.getElem?_set_ne (fun e => hjk e.symm)] at h2
        exact h.two i j g g' hij h1 h2
theorem foot_lead {V : Value} {F : List Value} {f f' : Value} {n k b : Nat} (hf : F[k]? = some f) (hb : f'.ownBlock = f.ownBlock ∨ ∃ g, f'.ownBlock = some g ∧ n ≤ g) (h : Foot V (F.set k f') b) : Foot V F b ∨ n ≤ b := by
  rcases h with e | ⟨g, hg, e⟩
  · exact .inl (.inl e)
  · rcases List.mem_or_eq_of_mem_set hg with hg | rfl
    · exact .inl (.inr ⟨g, hg, e⟩)
    · rcases hb with q | ⟨g', q, hg'⟩
      · exact .inl (.inr ⟨f, List.mem_of_getElem? hf, q ▸ e⟩)
      · rw [q] at e; injection e with e; exact .inr (by omega)
/-- The reader: what remains, its steps. -/
structure RdAt (w : World) (R : Nat) (l : Bs) (S : List Stp) (V : Value) (F : List Value) : Prop where
  q : Rq w R l V
  st : StepsAt w (R + 1) V S F
/-- Nothing has turned but the reader and its steps. -/
structure Grow (R : Nat) (V : Value) (F : List Value) (V' : Value) (F' : List Value) (w w' : World) : Prop where
  foot : ∀ k, Foot V' F' k → Foot V F k ∨ w.heap.size ≤ k
  asd : Asd (fun k => k = R ∨ Foot V F k) w w'
theorem Grow.refl (R : Nat) (V : Value) (F : List Value) (w : World) : Grow R V F V F w w := ⟨fun _ h => .inl h, Asd.refl _ _⟩
theorem Grow.trans {R : Nat} {V V1 V2 : Value} {F F1 F2 : List Value} {w w1 w2 : World} (h : Grow R V F V1 F1 w w1) (g : Grow R V1 F1 V2 F2 w1 w2) : Grow R V F V2 F2 w w2 := by
  have hs := h.asd.size
  refine ⟨fun k hk => ?_, h.asd.trans g.asd fun i hi hlt => ?_⟩
  · rcases g.foot k hk with q | q
    · exact h.foot k q
    · exact .inr (by omega)
  · rcases hi with hi | hi
    · exact .inl hi
    · rcases h.foot i hi with q | q
      · exact .inr q
      · omega
/-- What is left of the reader's text is another one. -/
theorem RdAt.turn {w w' : World} {R : Nat} {l l' : Bs} {S : List Stp} {V : Value} {F : List Value} (h : RdAt w R l S V F) (hq : Rq w' R l' V) (k : Asd (· = R) w w') : RdAt w' R l' S V F :=
  ⟨hq, h.st.keep k (fun i hi e => by subst e; have := (h.st.lt hi).1; omega)⟩
theorem Grow.turn {w w' : World} {R : Nat} {V : Value} {F : List Value} (k : Asd (· = R) w w') : Grow R V F V F w w' := ⟨fun _ h => .inl h, k.any fun _ e => .inl e⟩
theorem RdAt.stay {w w' : World} {R : Nat} {l : Bs} {S : List Stp} {V : Value} {F : List Value} (h : RdAt w R l S V F) (k : Below w.heap.size w w') : RdAt w' R l S V F := ⟨h.q.stay k, h.st.stay k⟩
def RdQ (w : World) (R : Nat) (V : Value) (F : List Value) (l' : Bs) (S' : List Stp) (w' : World) : Prop := ∃ V' F', RdAt w' R l' S' V' F' ∧ Grow R V F V' F' w w'
end Go.Proofs.YteooofakpkbgoaaDoor
/- Patterns, plain: a class that is read has a byte, unless its end came first. -/
namespace Go.Proofs.YteooofakpkbgoaaDoor

theorem elem_le {s r : Bx} {f l : UInt8} (h : elemN s = some ((f, l), r)) : f ≤ l := by
  unfold elemN at h
  cases hs : signN s with
  | none => rw [hs] at h; cases h
  | some x =>
    obtain ⟨f', r'⟩ := x
    rw [hs] at h
    simp only at h
    split at h
    · rename_i x y r''
      split at h
      · cases hs2 : signN (y :: r'') with
        | none => rw [hs2] at h; cases h
        | some z =>
          obtain ⟨l', r3⟩ := z
          rw [hs2] at h
          simp only at h
          split at h
          · simp at h
            obtain ⟨⟨rfl, rfl⟩, _⟩ := h
            assumption
          · cases h
      · simp at h
        obtain ⟨⟨rfl, rfl⟩, _⟩ := h
        exact UInt8.le_refl _
    · simp at h
      obtain ⟨⟨rfl, rfl⟩, _⟩ := h
      exact UInt8.le_refl _
theorem plus_ne {p : UInt8 → Bool} {f l : UInt8} (h : f ≤ l) : (fun x => p x || (decide (f ≤ x) && decide (x ≤ l))) ≠ noSet := fun e => by
  have := congrFun e f
  simp [noSet, h] at this
theorem clsN_ne {n : Nat} {p q : UInt8 → Bool} {s r : Bx} (hp : p ≠ noSet) (h : clsN n p s = some (q, r)) : q ≠ noSet := by
  induction n generalizing p s with
  | zero => cases h
  | succ n ih => cases s with
    | nil => cases h
    | cons c s =>
      rw [clsN] at h
      split at h
      · simp at h
        rw [← h.1]
        exact hp
      · cases he : elemN (c :: s) with
        | none => rw [he] at h; cases h
        | some x =>
          obtain ⟨⟨f, l⟩, r'⟩ := x
          rw [he] at h
          exact ih (plus_ne (elem_le he)) h
/-- What class hands back of what its loop comes to. -/
def clsO : Option ((UInt8 → Bool) × Bx) → Option ((UInt8 → Bool) × Bx)
  | none => none
  | some (q, r) => if isNo q = true then none else some (q, r)
theorem isNo_ne {q : UInt8 → Bool} (h : q ≠ noSet) : isNo q = false := by
  cases e : isNo q with
  | false => rfl
  | true => exact absurd ((isNo_iff q).1 e) h
theorem cls1_eq (s : Bx) : cls1 s = clsO (clsN s.length noSet s) := by
  cases s with
  | nil => rfl
  | cons c s =>
    unfold cls1
    simp only
    by_cases hc : c = 93
    · rw [if_pos hc, List.length_cons, clsN, if_pos hc]
      simp only [clsO]
      rw [if_pos ((isNo_iff noSet).2 rfl)]
    · rw [if_neg hc, List.length_cons, clsN, if_neg hc]
      cases he : elemN (c :: s) with
      | none => rfl
      | some x =>
        obtain ⟨⟨f, l⟩, r'⟩ := x
        simp only
        cases hr : clsN s.length (fun x => noSet x || (decide (f ≤ x) && decide (x ≤ l))) r' with
        | none => rfl
        | some y =>
          obtain ⟨q, r⟩ := y
          simp only [clsO]
          rw [if_neg (by rw [isNo_ne (clsN_ne (plus_ne (elem_le he)) hr)]; decide)]
end Go.Proofs.YteooofakpkbgoaaDoor
/- A map of numbers that serves as a set: it is emptied; how many numbers it lacks. -/
namespace Go.Proofs.YteooofakpkbgoaaDoor
open Go.ChangeShapes Go.WideShapes Go.RowKit Go.Maps

theorem law_int : Keyed Tryd.prog 3 := int_keyed Tryd.underlying3
theorem zero_unit (w : World) : (zeroValue 137).run Tryd.prog w = .ok (.agg #[]) w := by kernel_rfl
theorem key_int {x : Int} (h0 : 0 ≤ x) (h1 : x ≤ 1000000) : keyOf Tryd.prog 3 (.int .i64 x) = some (.int .i64 x) := by
  refine keyOf_int_mk Tryd.underlying3 ?_
  simp only [Lit.wf, Bool.and_eq_true, decide_eq_true_eq]
  exact ⟨by have : IntKind.i64.min = -9223372036854775808 := by decide
            omega, by have : IntKind.i64.max = 9223372036854775807 := by decide
                      omega⟩
section
variable {H : Type} {P : Program} {k : TypeId} {R : Value → Option (DataW H × List MemPlace)} {w : World} {b n : Nat} {D : DataW H}
/-- All entries of a map that one owns are struck. -/
theorem run_clear_own {t e : TypeId} (h : w.ownsMap P k R b n D) (ht : P.underlying t = some (.map k e)) (ty : TypeId) : ∃ w', (Builtin.clear_ #[t] ty #[.map (some b)]).run P w = .ok (.tuple #[]) w' ∧ w'.ownsMap P k R b 0 (.map []) ∧ w.grownBy w' (some b) := by
  obtain ⟨es, clock, hb, F, hs, hD⟩ := h
  refine ⟨{ w with heap := w.heap.setIfInBounds b (.map #[] clock) }, ?_, ?_, ?_⟩
  · simp [Builtin.clear_, run_underlying ht, MapKept.run_getObj_map hb, MapKept.run_setObj_map _ hb, Result.andThen]
  · exact ⟨#[], clock, (MapKept.heap_set hb).1, ⟨by simp, MapKept.stamped_empty clock, by simp⟩, Nat.le_refl _, rfl⟩
  · exact ⟨rfl, rfl, rfl, by simp, fun i hi hne => (MapKept.heap_set hb).2 i (fun e => hne (by rw [e]))⟩
theorem wpList_clear_own (w : World) {ops : Array Oper} {rest : List Oper} {o : Oper} {a : Act} {Q : Exit → Act → World → Prop} (hg : o.guard = none) (m : Operand) (t : TypeId) (hop : o.op = Op.call { callee := Callee.builtin Builtin.clear, args := #[m], argTypes := #[t] })
    (k e : TypeId) (ht : P.underlying t = some (.map k e)) (R : Value → Option (DataW H × List MemPlace)) (b n : Nat) (D : DataW H) (hm : a.eval m = .map (some b)) (hown : w.ownsMap P k R b n D)
    (hK : ∀ w', w'.ownsMap P k R b 0 (.map []) → w.grownBy w' (some b) → wpList P ops Q rest (a.put o.dst (.tuple #[])) w') :
    wpList P ops Q (o :: rest) a w := by
  refine wpList_plain hg fun K' hK' => ?_
  obtain ⟨w', hrun, r1, r2⟩ := run_clear_own hown ht o.type
  unfold Oper.wp
  simp [execOp, hop, resolve, invoke, builtin, hm, hrun, Result.andThen]
  exact hK' _ _ (hK w' r1 r2)
end
/-- What the map holds. -/
def InM (D : DataW Unit) (j : Nat) : Prop := Maps.has D (.int .i64 (j : Int)) = true
/-- Only numbers up to N. -/
def UpM (D : DataW Unit) (N : Nat) : Prop := ∀ x : Int, Maps.has D (.int .i64 x) = true → ∃ k : Nat, x = (k : Int) ∧ k ≤ N
/-- How many numbers up to N it lacks. -/
def lackM (D : DataW Unit) (N : Nat) : Nat := (List.range (N + 1)).countP fun j : Nat => !Maps.has D (.int .i64 (j : Int))
theorem countP_one {f g : Nat → Bool} {k : Nat} (hf : f k = true) (hg : g k = false) (h : ∀ j, j ≠ k → g j = f j) : ∀ N, k < N → (List.range N).countP g + 1 = (List.range N).countP f := by
  have low : ∀ N, N ≤ k → (List.range N).countP g = (List.range N).countP f := fun N => by
    induction N with
    | zero => intro _; rfl
    | succ N ih =>
      intro hN
      rw [List.range_succ, List.countP_append, List.countP_append, ih (by omega)]
      simp only [List.countP_cons, List.countP_nil, h N (by omega)]
  intro N
  induction N with
  | zero => intro h; omega
  | succ N ih =>
    intro hk
    rw [List.range_succ, List.countP_append, List.countP_append]
    simp only [List.countP_cons, List.countP_nil]
    by_cases e : k = N
    · subst e
      rw [low k (Nat.le_refl _), hf, hg]
      simp
    · have := ih (by omega)
      rw [h N (fun e' => e e'.symm)]
      omega
theorem in_put {D : DataW Unit} (hD : IsMap D) (k : Nat) (u : DataW Unit) (j : Nat) : InM (D.put (.int .i64 (k : Int)) u) j ↔ InM D j ∨ j = k := by
  unfold InM
  by_cases e : j = k
  · subst e
    rw [has_put_same (k := .int .i64 (j : Int)) hD trivial]
    simp
  · rw [has_put_other (k := .int .i64 (k : Int)) (k' := .int .i64 (j : Int)) (fun e' => e (by injection e' with _ e'; omega))]
    simp [e]
theorem up_put {D : DataW Unit} {k N : Nat} (hk : k ≤ N) (u : DataW Unit) (h : UpM D N) : UpM (D.put (.int .i64 (k : Int)) u) N := fun x hx => by
  by_cases e : x = (k : Int)
  · exact ⟨k, e, hk⟩
  · rw [has_put_other (k := .int .i64 (k : Int)) (k' := .int .i64 x) (fun e' => e (by injection e' with _ e'))] at hx
    exact h x hx
theorem lack_put {D : DataW Unit} (hD : IsMap D) {k N : Nat} (hk : k ≤ N) (u : DataW Unit) (h : Maps.has D (.int .i64 (k : Int)) = false) : lackM (D.put (.int .i64 (k : Int)) u) N + 1 = lackM D N := by
  unfold lackM
  refine countP_one (f := fun j : Nat => !Maps.has D (.int .i64 (j : Int))) (g := fun j : Nat => !Maps.has (D.put (.int .i64 (k : Int)) u) (.int .i64 (j : Int))) (k := k) (by simp only [h]; rfl) (by simp only [has_put_same (k := .int .i64 (k : Int)) hD trivial]; rfl) (fun j hj => ?_) (N + 1) (by omega)
  rw [has_put_other (k := .int .i64 (k : Int)) (k' := .int .i64 (j : Int)) (fun e' => hj (by injection e' with _ e'; omega))]
theorem lack_nil (N : Nat) : lackM (.map []) N = N + 1 := by
  unfold lackM
  exact (List.countP_eq_length.2 (fun j _ => rfl)).trans List.length_range
end Go.Proofs.YteooofakpkbgoaaDoor
/- A region that draws its order, whose operations keep a class of worlds: one walk in the order of the text serves every order. -/
namespace Go.Proofs.YteooofakpkbgoaaDoor
open Go

section
variable {P : Program} {ops : Array Oper} {C : World → Prop} {Q : Act → Prop} {a : Act} {o : Oper} {rest : List Oper} {K : Act → Prop}
theorem quiet_val (h : ∃ v, (∀ w, C w → (execOp a.eval o).run P w = .ok (.value v) w) ∧ K (a.put o.dst v)) : o.quiet P a C K := by
  obtain ⟨v, h1, h2⟩ := h
  exact ⟨v, fun w hw => by unfold Oper.quietAt; rw [h1 w hw]; exact ⟨rfl, rfl⟩, h2⟩
theorem quiet_call (h : ∃ f args, (∀ w, (execOp a.eval o).run P w = .ok (.enter f args) w) ∧ ∃ v, (∀ w, C w → Calls P f args w fun e w' => e = .returned v ∧ C w') ∧ K (a.put o.dst v)) : o.quiet P a C K := by
  obtain ⟨f, args, hr, v, h1, h2⟩ := h
  exact ⟨v, fun w hw => by unfold Oper.quietAt; rw [hr w]; exact ⟨rfl, h1 w hw⟩, h2⟩
theorem region_class {id : Nat} {R : Exit → Act → World → Prop} {w : World} {l : List Oper} (C : World → Prop) (hm : P.follows .mixedOrders = true) (hB : Region.lexB .any l.toArray = true) (hC : C w.drew)
    (h : wpQuiet P l.toArray C (fun a' => ∀ w', C w' → R .normal a' w') l a) : (Code.region id l.toArray true).wp P R a w :=
  wp_region_quiet (C := C) hm hB hC (by simpa using h)
end
end Go.Proofs.YteooofakpkbgoaaDoor
/- A region that draws its order, in which only operations that look are free: they may be taken first, in every world of a class; the others come up one by one. -/
namespace Go.Proofs.YteooofakpkbgoaaDoor
open Go

theorem at_drop {l : List Oper} {i : Nat} {o : Oper} {tl : List Oper} (h : l.drop i = o :: tl) : l.toArray[i]? = some o := by
  rw [List.getElem?_toArray, ← List.head?_drop, h]; rfl
section
variable {P : Program} {md : Region.Mode} {l tl : List Oper} {Q : Exit → Act → World → Prop} {S : World → Prop} {fuel : Nat} {listed : Array Bool} {a : Act} {w : World}
/-- A narrower class from here on. -/
theorem held_mono {ops : Array Oper} {S1 : World → Prop} (hm : ∀ w, S1 w → S w) : ∀ {fuel : Nat} {listed : Array Bool} {a : Act} {w : World}, wpAnyH P md ops Q S1 fuel listed a w → wpAnyH P md ops Q S fuel listed a w
  | 0, _, _, _, h => h
  | _ + 1, _, _, _, h => ⟨h.1, fun i hi => wpOp_mono (fun _ _ h' => ⟨hm _ h'.1, held_mono hm h'.2⟩) (h.2 i hi)⟩
/-- One that looks, and is wanted. -/
theorem held_val (i : Nat) {o : Oper} (hi : l.drop i = o :: tl) (hs : Region.noSelect l.toArray = true) (hf : Region.free md l.toArray listed i = true) (hr : (Region.ready md l.toArray listed).contains i = true)
    (hQ : ∀ c v a w, Q (.panic c) (a.put o.dst v) w → Q (.panic c) a w) (hw : Region.wanted o (yielded l.toArray a.tmps) = true) (hS : S w)
    (h : ∃ v, (∀ w, S w → (execOp a.eval o).run P w = .ok (.value v) w) ∧ wpAnyH P md l.toArray Q S fuel (listed.setIfInBounds i true) (a.put o.dst v) w) : wpAnyH P md l.toArray Q S (fuel + 1) listed a w := by
  obtain ⟨v, h1, h2⟩ := h
  exact wpAnyH_take (at_drop hi) hs hf hr (fun c a w => hQ c v a w) (.inl ⟨hw, h1⟩) hS h2
/-- One that isn't wanted. -/
theorem held_skip (i : Nat) {o : Oper} (hi : l.drop i = o :: tl) (hs : Region.noSelect l.toArray = true) (hf : Region.free md l.toArray listed i = true) (hr : (Region.ready md l.toArray listed).contains i = true)
    (hQ : ∀ c v a w, Q (.panic c) (a.put o.dst v) w → Q (.panic c) a w) (hw : Region.wanted o (yielded l.toArray a.tmps) = false) (hS : S w)
    (h : wpAnyH P md l.toArray Q S fuel (listed.setIfInBounds i true) (a.put o.dst undef) w) : wpAnyH P md l.toArray Q S (fuel + 1) listed a w :=
  wpAnyH_take (at_drop hi) hs hf hr (fun c a w => hQ c undef a w) (.inr ⟨hw, rfl⟩) hS h
/-- The only one that may come up now. -/
theorem held_one (i : Nat) {o : Oper} (hr : Region.ready md l.toArray listed = [i]) (hi : l.drop i = o :: tl) (hw : Region.wanted o (yielded l.toArray a.tmps) = true)
    (h : o.wp P a w (fun a' w' => S w' ∧ wpAnyH P md l.toArray Q S fuel (listed.setIfInBounds i true) a' w') Q) : wpAnyH P md l.toArray Q S (fuel + 1) listed a w := by
  refine wpAnyH_all hr (by simp) fun j hj => ?_
  obtain rfl := List.mem_singleton.1 hj
  unfold wpOp
  simp only [at_drop hi, hw, if_true]
  exact .inl h
/-- The same, one that looks. -/
theorem held_now (i : Nat) {o : Oper} (hr : Region.ready md l.toArray listed = [i]) (hi : l.drop i = o :: tl) (hw : Region.wanted o (yielded l.toArray a.tmps) = true) (hS : S w)
    (h : ∃ v, (execOp a.eval o).run P w = .ok (.value v) w ∧ wpAnyH P md l.toArray Q S fuel (listed.setIfInBounds i true) (a.put o.dst v) w) : wpAnyH P md l.toArray Q S (fuel + 1) listed a w := by
  obtain ⟨v, h1, h2⟩ := h
  refine held_one i hr hi hw ?_
  unfold Oper.wp
  rw [h1]
  exact ⟨hS, h2⟩
/-- The same, a call. -/
theorem held_call (i : Nat) {o : Oper} (hr : Region.ready md l.toArray listed = [i]) (hi : l.drop i = o :: tl) (hw : Region.wanted o (yielded l.toArray a.tmps) = true)
    (h : ∃ f args, (execOp a.eval o).run P w = .ok (.enter f args) w ∧ Calls P f args w fun e w' => ∃ v, e = .returned v ∧ S w' ∧ wpAnyH P md l.toArray Q S fuel (listed.setIfInBounds i true) (a.put o.dst v) w') : wpAnyH P md l.toArray Q S (fuel + 1) listed a w := by
  obtain ⟨f, args, h1, h2⟩ := h
  refine held_one i hr hi hw ?_
  unfold Oper.wp
  rw [h1]
  simp only [Oper.upon]
  exact h2.mono fun e w' ⟨v, he, h3⟩ => by subst he; exact h3
theorem held_two (i j : Nat) {o o2 : Oper} {tl2 : List Oper} (hr : Region.ready md l.toArray listed = [i, j]) (hi : l.drop i = o :: tl) (hj : l.drop j = o2 :: tl2) (hw : Region.wanted o (yielded l.toArray a.tmps) = true) (hw2 : Region.wanted o2 (yielded l.toArray a.tmps) = true)
    (h : o.wp P a w (fun a' w' => S w' ∧ wpAnyH P md l.toArray Q S fuel (listed.setIfInBounds i true) a' w') Q) (h2 : o2.wp P a w (fun a' w' => S w' ∧ wpAnyH P md l.toArray Q S fuel (listed.setIfInBounds j true) a' w') Q) : wpAnyH P md l.toArray Q S (fuel + 1) listed a w := by
  refine wpAnyH_all hr (by simp) fun k hk => ?_
  simp at hk
  rcases hk with rfl | rfl
  · unfold wpOp
    simp only [at_drop hi, hw, if_true]
    exact .inl h
  · unfold wpOp
    simp only [at_drop hj, hw2, if_true]
    exact .inl h2
end
end Go.Proofs.YteooofakpkbgoaaDoor
/- The reader: a step is made. -/
namespace Go.Proofs.YteooofakpkbgoaaDoor
open Go.ChangeShapes Go.WideShapes Go.RowKit

abbrev nilS : Value := Value.slice none 0 0
theorem zero_step (w : World) : (zeroValue 136).run Tryd.prog w = .ok (.agg (setRow noSet ++ [nilS]).toArray) w := by kernel_rfl
theorem info_step : (Tryd.prog.info? 136).map (fun i => (i.zero, i.size, i.bytes)) = some (some (.agg (setRow noSet ++ [nilS]).toArray), 257, 280) := by kernel_rfl
set_option maxRecDepth 100000 in
/-- A step is made of a set. -/
theorem run_build_step (cs : List Value) (h : cs.length = 256) (w : World) : (Instr.build 136 #[(0, .agg cs.toArray)]).run Tryd.prog w = .ok (.agg (cs ++ [nilS]).toArray) w := by
  have hz := zero_step w
  have hs := setRow_len noSet
  generalize setRow noSet = Z at *
  have e1 : (Value.agg cs.toArray).cells = cs.toArray := rfl
  have hf : ∀ pl : Nat → Option (Nat × Nat), pl 0 = some (0, 256) → Instr.fill pl (Z ++ [nilS]).toArray [(0, .agg cs.toArray)] = some (cs ++ [nilS]).toArray := fun pl hpl => by
    unfold Instr.fill
    simp only [hpl]
    rw [e1, if_neg (by simp [h, hs])]
    unfold Instr.fill
    congr 1
    apply Array.ext_getElem?
    intro k
    have g := (Great.foldl_set 0 cs 0 (Z ++ [nilS]).toArray).2 k
    have e3 : ((cs.toArray.zipIdx).foldl (fun (cs : Array Value) (x : Value × Nat) => cs.setIfInBounds (0 + x.2) x.1) (Z ++ [nilS]).toArray) = ((cs.zipIdx 0).foldl (fun (cs : Array Value) (x : Value × Nat) => cs.setIfInBounds (0 + x.2) x.1) (Z ++ [nilS]).toArray) := by
      rw [← Array.foldl_toList, Array.toList_zipIdx]
    rw [← e3] at g
    refine Eq.trans g ?_
    simp only [Nat.zero_add, Nat.add_zero, Nat.sub_zero]
    by_cases hk : k < 256
    · rw [if_pos ⟨by omega, by omega, by simp [hs]; omega⟩]
      simp [List.getElem?_append_left (show k < cs.length by omega)]
    · rw [if_neg (by omega)]
      simp [List.getElem?_append_right (show cs.length ≤ k by omega), List.getElem?_append_right (show Z.length ≤ k by omega), h, hs]
  unfold Instr.build
  simp only [Sem.run_bind, hz, Result.andThen_ok, run_underlying Tryd.underlying136]
  generalize hm : Sem.run Tryd.prog (Array.mapM _ _) w = m
  obtain rfl : m = .ok (#[(0, 256), (256, 1)] : Array (Nat × Nat)) w := by rw [← hm]; kernel_rfl
  clear hm
  simp only [Result.andThen_ok]
  rw [show (Value.agg (Z ++ [nilS]).toArray).cells = (Z ++ [nilS]).toArray from rfl, hf _ rfl]
  rfl
/-- It is laid into a row of its own. -/
theorem run_row_step (cs : List Value) (h : cs.length = 257) (w : World) : (Instr.buildSlice 105 1 #[(0, .agg cs.toArray)]).run Tryd.prog w = .ok (.slice (some ⟨w.heap.size, 0, none⟩) 1 1) (w.alloc (.cells cs.toArray 136)) := by
  obtain ⟨i0, hi, hz0, hz1, _⟩ := info_parts0 info_step
  refine run_buildSlice (P := Tryd.prog) w 105 136 1 _ cs.toArray i0 _ Tryd.underlying105 hi hz0 (by rw [hz1]; decide) (by rw [hz1]; decide) ?_
  rw [hz1]
  have := Great.fill_whole (s := 257) (by decide) [.agg cs.toArray] ((Array.range (1 * 257)).map ((Value.agg (setRow noSet ++ [nilS]).toArray).cells[· % (Value.agg (setRow noSet ++ [nilS]).toArray).cells.size]!)) (fun v hv => by
    simp at hv
    subst hv
    show cs.toArray.size = 257
    simpa using h) (by simp)
  refine Eq.trans this ?_
  simp [Value.cells]
/-- Elements are appended to a row that one owns. -/
theorem wp_own_at {P : Program} {o : Oper} {a : Act} {w : World} {K : Act → World → Prop} {Q : Exit → Act → World → Prop} (s x : Operand) (t : TypeId) (ho : o.op = .call { callee := .builtin .append, args := #[s, x], argTypes := #[t, t] })
    (base : Nat) (e : TypeId) (i : TypeInfo) (z : Value) (size bytes : Nat) (ht : P.underlying t = some (.slice e)) (hi : P.info? e = some i) (hz : i.zero = some z) (hsize : i.size = size) (hby : i.bytes = bytes) (hzs : z.cells.size = size) (hsz : 0 < size)
    (v : Value) (n : Nat) (xs : List Value) (hs : a.eval s = v) (hown : w.ownsRow base e size v n xs) (g : Nat) (news : List Value) (hx : a.eval x = .slice (some ⟨g, 0, none⟩) 1 1) (hl : news.length = size) (hr : Rw w g e news) (h1 : ∀ u ∈ news, u.oneCell' = true)
    (h63 : n + 1 ≤ maxLen) (hbytes : (n + 1) * bytes ≤ 140737488355328) (hbase : base ≤ w.heap.size)
    (h : ∀ v' w', w'.ownsRow base e size v' (n + 1) (xs ++ news) → w.grownBy w' v.ownBlock → (v'.ownBlock = v.ownBlock ∨ v'.ownBlock = some w.heap.size) → K (a.put o.dst v') w') :
    o.wp P a w K Q := by
  obtain ⟨v', w', hr, h2, h3, _, h5⟩ := run_append_own_at (P := P) w base t o.type e i z size bytes ht hi hz hsize hby hzs hsz v n xs hown ⟨g, 0, none⟩ 1 1 news (by rw [hl, Nat.one_mul]) (fun j u hu => by rw [add_any, Nat.zero_add, Rw.cell hr j]; exact hu) h1 h63 hbytes hbase
  unfold Oper.wp execOp
  simp only [ho, resolve, invoke, builtin, Sem.run_bind, Sem.run_pure, Result.andThen_ok, List.map_toArray, List.map_cons, List.map_nil, hs, hx, hr]
  exact h v' w' h2 h3 h5
theorem Rw.grown {w w' : World} {g : Nat} {t : TypeId} {cs : List Value} {row : Option Nat} (h : Rw w g t cs) (hg : w.grownBy w' row) (hne : row ≠ some g) : Rw w' g t cs := by unfold Rw at *; rw [hg.block g (Array.getElem?_eq_some_iff.1 h).1 (fun e => hne e.symm)]; exact h
theorem setRow_cell (p : UInt8 → Bool) : ∀ u ∈ setRow p, u.oneCell' = true := fun u hu => by
  simp [setRow] at hu
  obtain ⟨i, _, rfl⟩ := hu
  rfl
theorem exec_set (g : Nat) (t : TypeId) (cs : List Value) (hn : cs.length = 256) {o : Oper} {a : Act} (x : Operand) (ho : o.op = .load 122 x) (hx : a.eval x = .pointer (some ⟨g, 0, none⟩)) (w : World) (hc : Rw w g t cs) :
    (execOp a.eval o).run Tryd.prog w = .ok (.value (.agg cs.toArray)) w := by
  have := run_load_cells (P := Tryd.prog) w g 0 122 cs (.array 256 4) (fun j v hv => by rw [Nat.zero_add, hc.cell]; exact hv) (by kernel_rfl) rfl (by rw [hn]; kernel_rfl)
  unfold execOp
  simp only [ho, hx, Instr.loadAt, Instr.sureAddr, Sem.run_bind, Sem.run_pure, Result.andThen_ok, this]
theorem exec_step (cs : List Value) (hn : cs.length = 256) {o : Oper} {a : Act} (x : Operand) (ho : o.op = .build 136 #[(0, x)]) (hx : a.eval x = .agg cs.toArray) (w : World) :
    (execOp a.eval o).run Tryd.prog w = .ok (.value (.agg (cs ++ [nilS]).toArray)) w := by
  unfold execOp
  simp only [ho, List.map_toArray, List.map_cons, List.map_nil, hx, Sem.run_bind, run_build_step cs hn, Result.andThen_ok, Sem.run_pure]
/-- A step is laid. -/
theorem wp_row_step {o : Oper} {a : Act} {w : World} {K : Act → World → Prop} {Q : Exit → Act → World → Prop} (cs : List Value) (h : cs.length = 257) (x : Operand) (ho : o.op = .buildSlice 105 1 #[(0, x)]) (hx : a.eval x = .agg cs.toArray)
    (hK : K (a.put o.dst (.slice (some ⟨w.heap.size, 0, none⟩) 1 1)) (w.alloc (.cells cs.toArray 136))) : o.wp Tryd.prog a w K Q := by
  unfold Oper.wp execOp
  simp only [ho, List.map_toArray, List.map_cons, List.map_nil, hx, Sem.run_bind, run_row_step cs h, Result.andThen_ok, Sem.run_pure]
  exact hK
/-- The end: the step is there, the reader has its row. -/
theorem add_fin {w w4 w5 : World} {R N : Nat} {l : Bs} {S : List Stp} {V V' : Value} {F : List Value} {X : List Value} {p : UInt8 → Bool} (EX : setRow p = X) (h : RdAt w4 R l S V F) (hb : Below N w w4)
    (hO : w5.ownsRow (R + 1) 136 257 V' (S.length + 1) (stepsC S F ++ (X ++ [nilS]))) (hg : w4.grownBy w5 V.ownBlock) (hloc : V'.ownBlock = V.ownBlock ∨ V'.ownBlock = some w4.heap.size) (hN : w.heap.size = N) :
    RdAt (w5.setCell ⟨R, 1, none⟩ V') R l (S ++ [⟨p, []⟩]) V' (F ++ [nilS]) ∧ Grow R V F V' (F ++ [nilS]) w (w5.setCell ⟨R, 1, none⟩ V') := by
  subst EX
  have k5 : Asd (fun i => V.ownBlock = some i) w4 w5 := (Asd.refl _ w4).grown hg (fun k e => .inl e)
  have hsz := hb.size
  have hl : V'.ownBlock = V.ownBlock ∨ ∃ g, V'.ownBlock = some g ∧ w4.heap.size ≤ g := hloc.imp id fun e => ⟨_, e, Nat.le_refl _⟩
  have s5 := h.st.snoc (p := p) hO k5 hl
  have hlow : ∀ i, Foot V' (F ++ [nilS]) i → ¬ i = R := fun i hi e => by subst e; have := (s5.lt hi).1; omega
  have s6 := s5.keep (Asd.one w5 R 1 V') hlow
  have q5 : Rq w5 R l V := Rw.grown h.q hg (fun e => by have := (h.st.row.lt _ e).1; omega)
  refine ⟨⟨q5.put V', s6⟩, fun k hk => ?_, ?_⟩
  · rcases foot_snoc hl hk with q | q
    · exact .inl q
    · exact .inr (by omega)
  · subst hN
    exact ((Asd.of_below hb).grown hg (fun k e => .inl (.inr (.inl e)))).setCell (p := ⟨R, 1, none⟩) (.inl (.inl rfl)) _
set_option maxHeartbeats 3200000 in
set_option maxRecDepth 100000 in
theorem addStep_any (R : Nat) (p : UInt8 → Bool) (l : Bs) (S : List Stp) (V : Value) (F : List Value) (w : World) (h : RdAt w R l S V F) (hn : S.length ≤ 1000) :
    Calls Tryd.prog 82 #[.pointer (some ⟨R, 0, none⟩), .agg (setRow p).toArray] w fun e w' => e = .returned (.int .i64 (S.length : Int)) ∧ RdQ w R V F l (S ++ [⟨p, []⟩]) w' := by
  have hX := setRow_len p
  have hone := setRow_cell p
  obtain ⟨X, eX⟩ : ∃ X, setRow p = X := ⟨_, rfl⟩
  rw [eX] at hX hone ⊢
  have EX : Unit → setRow p = X := fun _ => eX
  clear eX
  obtain ⟨i0, hi, hz0, hz1, hz2⟩ := info_parts0 info_step
  have hzs : (Value.agg (setRow noSet ++ [nilS]).toArray).cells.size = 257 := by simp [Value.cells, setRow_len]
  generalize (Value.agg (setRow noSet ++ [nilS]).toArray) = Z0 at *
  go_enter Tryd.func82, Tryd.ntmps82
  go_upto_region 1 with fail
  have rT := Rw.new w 122 X
  have hb1 := (Below.refl w.heap.size w).alloc (Nat.le_refl _) (.cells X.toArray 122)
  have hVT0 : ∀ k, V.ownBlock = some k → k < w.heap.size := fun k e => (h.st.row.lt k e).2
  have hRT0 := Rw.lt h.q
  have h1 := h.stay hb1
  generalize w.alloc (.cells X.toArray 122) = W1 at *
  obtain ⟨aV, cV, eV, _⟩ := own_slice h1.st.row
  subst eV
  have hVT : (Value.slice aV S.length cV).ownBlock ≠ some w.heap.size := fun e => by have := hVT0 _ e; omega
  have hTR : w.heap.size ≠ R := by omega
  have hone2 : ∀ u ∈ X ++ [nilS], u.oneCell' = true := fun u hu => by
    rcases List.mem_append.1 hu with hu | hu
    · exact hone u hu
    · rw [List.mem_singleton.1 hu]; rfl
  clear hVT0 hRT0 h hone
  refine wp_region_held (S := fun w' => Rw w' w.heap.size 122 X) (by kernel_rfl) ?_
  have hS0 : Below W1.heap.size W1 { W1 with drawn := W1.drawn + 1 } := (Below.refl _ _).drew
  have rT1 := rT.stay hS0
  have h2 := h1.stay hS0
  have hb2 := hb1.trans (hS0.mono hb1.size)
  clear hS0 hb1 h1 rT
  generalize { W1 with drawn := W1.drawn + 1 } = D1 at *
  have hS : Rw D1 w.heap.size 122 X := rT1
  have hV1 := h2.q.steps
  have hal := (Below.refl D1.heap.size D1).alloc (Nat.le_refl _) (.cells (X ++ [nilS]).toArray 136)
  refine held_val 0 rfl (by kernel_rfl) (by kernel_rfl) (by kernel_rfl) (fun _ _ _ _ h => h) (by rfl) hS ?_
  apply Exists.intro
  refine ⟨fun w' hw' => ?_, ?_⟩
  · skip
    go_simp
    first | done | rfl | exact ⟨rfl, rfl⟩
  simp only [Act.put, List.setIfInBounds_toArray, List.set_cons_zero, List.set_cons_succ]
  refine held_val 1 rfl (by kernel_rfl) (by kernel_rfl) (by kernel_rfl) (fun _ _ _ _ h => h) (by rfl) hS ?_
  apply Exists.intro
  refine ⟨fun w' hw' => ?_, ?_⟩
  · skip
    go_simp
    first | done | rfl | exact ⟨rfl, rfl⟩
  simp only [Act.put, List.setIfInBounds_toArray, List.set_cons_zero, List.set_cons_succ]
  refine held_val 2 rfl (by kernel_rfl) (by kernel_rfl) (by kernel_rfl) (fun _ _ _ _ h => h) (by rfl) hS ?_
  apply Exists.intro
  refine ⟨fun w' hw' => ?_, ?_⟩
  · skip
    go_simp
    first | done | rfl | exact ⟨rfl, rfl⟩
  simp only [Act.put, List.setIfInBounds_toArray, List.set_cons_zero, List.set_cons_succ]
  refine held_val 3 rfl (by kernel_rfl) (by kernel_rfl) (by kernel_rfl) (fun _ _ _ _ h => h) (by rfl) hS ?_
  apply Exists.intro
  refine ⟨fun w' hw' => ?_, ?_⟩
  · skip
    go_simp
    first | done | rfl | exact ⟨rfl, rfl⟩
  simp only [Act.put, List.setIfInBounds_toArray, List.set_cons_zero, List.set_cons_succ]
  refine held_val 5 rfl (by kernel_rfl) (by kernel_rfl) (by kernel_rfl) (fun _ _ _ _ h => h) (by rfl) hS ⟨_, fun w' hw' => exec_set w.heap.size 122 X hX _ rfl rfl w' hw', ?_⟩
  simp only [Act.put, List.setIfInBounds_toArray, List.set_cons_zero, List.set_cons_succ]
  refine held_val 6 rfl (by kernel_rfl) (by kernel_rfl) (by kernel_rfl) (fun _ _ _ _ h => h) (by rfl) hS ⟨_, fun w' hw' => exec_step X hX _ rfl rfl w', ?_⟩
  simp only [Act.put, List.setIfInBounds_toArray, List.set_cons_zero, List.set_cons_succ]
  refine held_two 4 7 (by kernel_rfl) rfl rfl (by rfl) (by rfl) ?_ ?_
  · unfold Oper.wp
    go_simp
    first | refine ⟨hS, ?_⟩ | skip
    refine held_one 7 (by kernel_rfl) rfl (by rfl) ?_
    refine wp_row_step (X ++ [nilS]) (by simp [hX]) _ rfl rfl ?_
    refine ⟨rT1.stay hal, ?_⟩
    simp only [Act.put, List.setIfInBounds_toArray, List.set_cons_zero, List.set_cons_succ]
    have h3 := h2.stay hal
    have rY := Rw.new D1 136 (X ++ [nilS])
    have rT2 := rT1.stay hal
    have hb3 := hb2.trans (hal.mono hb2.size)
    have hG := hb2.size
    replace hS : Rw _ w.heap.size 122 X := rT2
    generalize D1.alloc (.cells (X ++ [nilS]).toArray 136) = D2 at *
    generalize D1.heap.size = G at *
    refine held_one 8 (by kernel_rfl) rfl (by rfl) ?_
    refine wp_own_at (.tmp 9) (.tmp 12) 105 rfl (R + 1) 136 i0 Z0 257 280 Tryd.underlying105 hi hz0 hz1 hz2 hzs (by decide) _ S.length _ rfl h3.st.row G (X ++ [nilS]) rfl (by simp [hX]) rY hone2 (by unfold maxLen; omega) (by omega) (by have := Rw.lt h3.q; omega) ?_
    intro V' w5 hO hg hloc
    have rT5 := rT2.grown hg hVT
    refine ⟨rT5, ?_⟩
    have FIN := add_fin (EX ()) h3 hb3 hO hg hloc rfl
    have q5 : Rq w5 R l (.slice aV S.length cV) := Rw.grown h3.q hg (fun e => by have := (h3.st.row.lt _ e).1; omega)
    have c5 := Rq.steps q5
    have f5 := Rw.frozen q5 1
    obtain ⟨g', cap', rfl⟩ := own_succ hO
    have FIN2 := Lib.hid FIN
    clear FIN q5 hO hg hloc h3 rY rT2 rT1 h2
    replace hS : Rw w5 w.heap.size 122 X := rT5
    simp only [Act.put, List.setIfInBounds_toArray, List.set_cons_zero, List.set_cons_succ]
    refine held_val 9 rfl (by kernel_rfl) (by kernel_rfl) (by kernel_rfl) (fun _ _ _ _ h => h) (by rfl) hS ?_
    apply Exists.intro
    refine ⟨fun w' hw' => ?_, ?_⟩
    · skip
      go_simp
      first | done | rfl | exact ⟨rfl, rfl⟩
    simp only [Act.put, List.setIfInBounds_toArray, List.set_cons_zero, List.set_cons_succ]
    refine held_val 10 rfl (by kernel_rfl) (by kernel_rfl) (by kernel_rfl) (fun _ _ _ _ h => h) (by rfl) hS ?_
    apply Exists.intro
    refine ⟨fun w' hw' => ?_, ?_⟩
    · skip
      go_simp
      first | done | rfl | exact ⟨rfl, rfl⟩
    simp only [Act.put, List.setIfInBounds_toArray, List.set_cons_zero, List.set_cons_succ]
    refine held_one 11 (by kernel_rfl) rfl (by rfl) ?_
    unfold Oper.wp
    go_simp
    refine ⟨rT5.other hTR _ _, ?_⟩
    refine wpAnyH_done (by kernel_rfl) ?_ _
    have q6 := FIN2.out.1
    have c6 := Rq.steps q6.q
    replace FIN2 := Lib.hid FIN2.out
    clear q6 c5 f5 hS rT5
    generalize w5.setCell ⟨R, 1, none⟩ (.slice (some ⟨g', 0, none⟩) (S.length + 1) cap') = w6 at *
    go_wp2_with fail
    go_ret
    exact ⟨by simp, _, _, FIN2.out.1, FIN2.out.2⟩
  · refine wp_row_step (X ++ [nilS]) (by simp [hX]) _ rfl rfl ?_
    refine ⟨rT1.stay hal, ?_⟩
    simp only [Act.put, List.setIfInBounds_toArray, List.set_cons_zero, List.set_cons_succ]
    have hV2 := (h2.stay hal).q.steps
    refine held_one 4 (by kernel_rfl) rfl (by rfl) ?_
    unfold Oper.wp
    go_simp
    first | refine ⟨rT1.stay hal, ?_⟩ | skip
    have h3 := h2.stay hal
    have rY := Rw.new D1 136 (X ++ [nilS])
    have rT2 := rT1.stay hal
    have hb3 := hb2.trans (hal.mono hb2.size)
    have hG := hb2.size
    replace hS : Rw _ w.heap.size 122 X := rT2
    generalize D1.alloc (.cells (X ++ [nilS]).toArray 136) = D2 at *
    generalize D1.heap.size = G at *
    refine held_one 8 (by kernel_rfl) rfl (by rfl) ?_
    refine wp_own_at (.tmp 9) (.tmp 12) 105 rfl (R + 1) 136 i0 Z0 257 280 Tryd.underlying105 hi hz0 hz1 hz2 hzs (by decide) _ S.length _ rfl h3.st.row G (X ++ [nilS]) rfl (by simp [hX]) rY hone2 (by unfold maxLen; omega) (by omega) (by have := Rw.lt h3.q; omega) ?_
    intro V' w5 hO hg hloc
    have rT5 := rT2.grown hg hVT
    refine ⟨rT5, ?_⟩
    have FIN := add_fin (EX ()) h3 hb3 hO hg hloc rfl
    have q5 : Rq w5 R l (.slice aV S.length cV) := Rw.grown h3.q hg (fun e => by have := (h3.st.row.lt _ e).1; omega)
    have c5 := Rq.steps q5
    have f5 := Rw.frozen q5 1
    obtain ⟨g', cap', rfl⟩ := own_succ hO
    have FIN2 := Lib.hid FIN
    clear FIN q5 hO hg hloc h3 rY rT2 rT1 h2
    replace hS : Rw w5 w.heap.size 122 X := rT5
    simp only [Act.put, List.setIfInBounds_toArray, List.set_cons_zero, List.set_cons_succ]
    refine held_val 9 rfl (by kernel_rfl) (by kernel_rfl) (by kernel_rfl) (fun _ _ _ _ h => h) (by rfl) hS ?_
    apply Exists.intro
    refine ⟨fun w' hw' => ?_, ?_⟩
    · skip
      go_simp
      first | done | rfl | exact ⟨rfl, rfl⟩
    simp only [Act.put, List.setIfInBounds_toArray, List.set_cons_zero, List.set_cons_succ]
    refine held_val 10 rfl (by kernel_rfl) (by kernel_rfl) (by kernel_rfl) (fun _ _ _ _ h => h) (by rfl) hS ?_
    apply Exists.intro
    refine ⟨fun w' hw' => ?_, ?_⟩
    · skip
      go_simp
      first | done | rfl | exact ⟨rfl, rfl⟩
    simp only [Act.put, List.setIfInBounds_toArray, List.set_cons_zero, List.set_cons_succ]
    refine held_one 11 (by kernel_rfl) rfl (by rfl) ?_
    unfold Oper.wp
    go_simp
    refine ⟨rT5.other hTR _ _, ?_⟩
    refine wpAnyH_done (by kernel_rfl) ?_ _
    have q6 := FIN2.out.1
    have c6 := Rq.steps q6.q
    replace FIN2 := Lib.hid FIN2.out
    clear q6 c5 f5 hS rT5
    generalize w5.setCell ⟨R, 1, none⟩ (.slice (some ⟨g', 0, none⟩) (S.length + 1) cap') = w6 at *
    go_wp2_with fail
    go_ret
    exact ⟨by simp, _, _, FIN2.out.1, FIN2.out.2⟩
end Go.Proofs.YteooofakpkbgoaaDoor
/- The reader: a step leads to another one as well. -/
namespace Go.Proofs.YteooofakpkbgoaaDoor
open Go.ChangeShapes Go.WideShapes Go.RowKit

theorem info_int : (Tryd.prog.info? 3).map (fun i => (i.zero, i.size, i.bytes)) = some (some (.int .i64 0), 1, 8) := by kernel_rfl
theorem run_row_int (v : Value) (h1 : v.cells = #[v]) (w : World) : (Instr.buildSlice 123 1 #[(0, v)]).run Tryd.prog w = .ok (.slice (some ⟨w.heap.size, 0, none⟩) 1 1) (w.alloc (.cells [v].toArray 3)) := by
  obtain ⟨i0, hi, hz0, hz1, _⟩ := info_parts0 info_int
  refine run_buildSlice (P := Tryd.prog) w 123 3 1 _ [v].toArray i0 _ Tryd.underlying123 hi hz0 (by rw [hz1]; decide) (by rw [hz1]; decide) ?_
  rw [hz1]
  have := Great.fill_whole (s := 1) (by decide) [v] ((Array.range (1 * 1)).map ((Value.int .i64 0).cells[· % (Value.int .i64 0).cells.size]!)) (fun u hu => by rw [List.mem_singleton.1 hu, h1]; rfl) (by simp)
  refine Eq.trans this ?_
  simp [h1]
/-- An int is laid into a row of its own. -/
theorem wp_row_int {o : Oper} {a : Act} {w : World} {K : Act → World → Prop} {Q : Exit → Act → World → Prop} (v : Value) (h1 : v.cells = #[v]) (x : Operand) (ho : o.op = .buildSlice 123 1 #[(0, x)]) (hx : a.eval x = v)
    (hK : K (a.put o.dst (.slice (some ⟨w.heap.size, 0, none⟩) 1 1)) (w.alloc (.cells [v].toArray 3))) : o.wp Tryd.prog a w K Q := by
  unfold Oper.wp execOp
  simp only [ho, List.map_toArray, List.map_cons, List.map_nil, hx, Sem.run_bind, run_row_int v h1, Result.andThen_ok, Sem.run_pure]
  exact hK
theorem cell_other {w : World} {g k i : Nat} {v : Value} {j : Nat} (h : g ≠ k) : (w.setCell ⟨k, i, none⟩ v).cell? ⟨g, j, none⟩ = w.cell? ⟨g, j, none⟩ := by
  unfold World.cell?
  rw [Below.heap_setCell _ ⟨k, i, none⟩ _ g h]
theorem steps_slot {w : World} {base G cap k : Nat} {S : List Stp} {F : List Value} {s : Stp} {f : Value} (h : StepsAt w base (.slice (some ⟨G, 0, none⟩) S.length cap) S F) (hs : S[k]? = some s) (hf : F[k]? = some f) : w.cell? ⟨G, k * 257 + 256, none⟩ = some f := by
  have hk := (List.getElem?_eq_some_iff.1 hs).1
  rw [h.row.cellAt _ (by omega)]
  exact stepsC_free hs hf
theorem lead_row {w w5 : World} {R G cap k : Nat} {l : Bs} {S : List Stp} {F : List Value} {f : Value} (h : RdAt w R l S (.slice (some ⟨G, 0, none⟩) S.length cap) F) (hf : F[k]? = some f) (hg : w.grownBy w5 f.ownBlock) :
    w5.ownsRow (R + 1) 136 257 (.slice (some ⟨G, 0, none⟩) S.length cap) S.length (stepsC S F) :=
  own_asdS h.st.row (S := fun i => f.ownBlock = some i) ((Asd.refl _ w).grown hg (fun k e => .inl e)) (fun i e e' => by
    rcases h.st.off k f hf with q | q
    · rw [q] at e'; cases e'
    · exact q (e'.trans e.symm))
theorem lead_cell {w w5 : World} {R G cap k : Nat} {l : Bs} {S : List Stp} {F : List Value} {s : Stp} {f : Value} (h : RdAt w R l S (.slice (some ⟨G, 0, none⟩) S.length cap) F) (hs : S[k]? = some s) (hf : F[k]? = some f) (hg : w.grownBy w5 f.ownBlock) :
    w5.cell? ⟨G, k * 257 + 256, none⟩ = some f := by
  have hk := (List.getElem?_eq_some_iff.1 hs).1
  rw [(lead_row h hf hg).cellAt _ (by omega)]
  exact stepsC_free hs hf
theorem lead_frozen {w w5 : World} {R G cap k : Nat} {l : Bs} {S : List Stp} {F : List Value} {f : Value} (h : RdAt w R l S (.slice (some ⟨G, 0, none⟩) S.length cap) F) (hf : F[k]? = some f) (hg : w.grownBy w5 f.ownBlock) :
    w5.frozen? ⟨G, k * 257 + 256, none⟩ = false := (lead_row h hf hg).frozenAt _
/-- The end: the way is there. -/
theorem lead_fin {w w4 w5 : World} {R G cap k x : Nat} {l : Bs} {S : List Stp} {F : List Value} {s : Stp} {f f' : Value} (h : RdAt w4 R l S (.slice (some ⟨G, 0, none⟩) S.length cap) F) (hb : Below w.heap.size w w4) (hs : S[k]? = some s) (hf : F[k]? = some f)
    (hO : w5.ownsRow (R + 1) 3 1 f' (s.free.length + 1) (s.free.map intV ++ [intV x])) (hg : w4.grownBy w5 f.ownBlock) (hloc : f'.ownBlock = f.ownBlock ∨ f'.ownBlock = some w4.heap.size) :
    RdAt (w5.setCell ⟨G, k * 257 + 256, none⟩ f') R l (leadL S k x) (.slice (some ⟨G, 0, none⟩) S.length cap) (F.set k f') ∧ Grow R (.slice (some ⟨G, 0, none⟩) S.length cap) F (.slice (some ⟨G, 0, none⟩) S.length cap) (F.set k f') w (w5.setCell ⟨G, k * 257 + 256, none⟩ f') := by
  have k5 : Asd (fun i => f.ownBlock = some i) w4 w5 := (Asd.refl _ w4).grown hg (fun k e => .inl e)
  have hsz := hb.size
  have hl : f'.ownBlock = f.ownBlock ∨ ∃ g, f'.ownBlock = some g ∧ w4.heap.size ≤ g := hloc.imp id fun e => ⟨_, e, Nat.le_refl _⟩
  have s6 := h.st.lead hs hf hO k5 hl
  have hG := (h.st.row.lt G rfl).1
  have q5 : Rq w5 R l (.slice (some ⟨G, 0, none⟩) S.length cap) := Rw.grown h.q hg (fun e => by have := ((h.st.free k s f hs hf).lt _ e).1; omega)
  have q6 : Rq (w5.setCell ⟨G, k * 257 + 256, none⟩ f') R l (.slice (some ⟨G, 0, none⟩) S.length cap) := Rw.other q5 (by omega) _ _
  refine ⟨⟨q6, s6⟩, fun j hj => ?_, ?_⟩
  · rcases foot_lead hf hl hj with q | q
    · exact .inl q
    · exact .inr (by omega)
  · exact ((Asd.of_below hb).grown hg (fun j e => .inl (.inr (.inr ⟨f, List.mem_of_getElem? hf, e⟩)))).setCell (p := ⟨G, k * 257 + 256, none⟩) (.inl (.inr (.inl rfl))) _
set_option maxHeartbeats 3200000 in
set_option maxRecDepth 100000 in
theorem lead_any (R k x : Nat) (l : Bs) (S : List Stp) (V : Value) (F : List Value) (w : World) (h : RdAt w R l S V F) (s : Stp) (hs : S[k]? = some s) (hsn : s.free.length ≤ 2000) (hn : S.length ≤ 1000) :
    Calls Tryd.prog 83 #[.pointer (some ⟨R, 0, none⟩), .int .i64 (k : Int), .int .i64 (x : Int)] w fun e w' => e = .returned (.tuple #[]) ∧ RdQ w R V F l (leadL S k x) w' := by
  obtain ⟨i0, hi, hz0, hz1, hz2⟩ := info_parts0 info_int
  have hk := (List.getElem?_eq_some_iff.1 hs).1
  obtain ⟨f, hf⟩ : ∃ f, F[k]? = some f := ⟨_, List.getElem?_eq_getElem (by rw [h.st.len]; exact hk)⟩
  obtain ⟨G, cap, rfl⟩ : ∃ G cap, V = .slice (some ⟨G, 0, none⟩) S.length cap := by
    obtain ⟨m, hm⟩ : ∃ m, S.length = m + 1 := ⟨S.length - 1, by omega⟩
    have := h.st.row
    rw [hm] at this ⊢
    exact own_succ this
  obtain ⟨af, cf, rfl, _⟩ := own_slice (h.st.free k s f hs hf)
  have hRG : R ≠ G := by have := (h.st.row.lt G rfl).1; omega
  have hki : (k : Int) < (S.length : Int) := by omega
  go_enter Tryd.func83, Tryd.ntmps83
  go_upto_region 0 with fail
  refine wp_region_held (S := fun w' => w'.cell? ⟨R, 1, none⟩ = some (.slice (some ⟨G, 0, none⟩) S.length cap)) (by kernel_rfl) ?_
  have hS0 : Below w.heap.size w { w with drawn := w.drawn + 1 } := (Below.refl _ _).drew
  have h2 := h.stay hS0
  have hb2 := hS0
  clear hS0 h
  generalize { w with drawn := w.drawn + 1 } = D1 at *
  have hS : D1.cell? ⟨R, 1, none⟩ = some (.slice (some ⟨G, 0, none⟩) S.length cap) := h2.q.steps
  have hal := (Below.refl D1.heap.size D1).alloc (Nat.le_refl _) (.cells [intV x].toArray 3)
  refine held_val 0 rfl (by kernel_rfl) (by kernel_rfl) (by kernel_rfl) (fun _ _ _ _ h => h) (by rfl) hS ?_
  apply Exists.intro
  refine ⟨fun w' hw' => ?_, ?_⟩
  · skip
    go_simp
    first | done | rfl | exact ⟨rfl, rfl⟩
  simp only [Act.put, List.setIfInBounds_toArray, List.set_cons_zero, List.set_cons_succ]
  refine held_val 1 rfl (by kernel_rfl) (by kernel_rfl) (by kernel_rfl) (fun _ _ _ _ h => h) (by rfl) hS ?_
  apply Exists.intro
  refine ⟨fun w' hw' => ?_, ?_⟩
  · skip
    go_simp
    first | done | rfl | exact ⟨rfl, rfl⟩
  simp only [Act.put, List.setIfInBounds_toArray, List.set_cons_zero, List.set_cons_succ]
  refine held_val 2 rfl (by kernel_rfl) (by kernel_rfl) (by kernel_rfl) (fun _ _ _ _ h => h) (by rfl) hS ?_
  apply Exists.intro
  refine ⟨fun w' hw' => ?_, ?_⟩
  · skip
    go_simp
    first | done | rfl | exact ⟨rfl, rfl⟩
  simp only [Act.put, List.setIfInBounds_toArray, List.set_cons_zero, List.set_cons_succ]
  refine held_val 3 rfl (by kernel_rfl) (by kernel_rfl) (by kernel_rfl) (fun _ _ _ _ h => h) (by rfl) hS ?_
  apply Exists.intro
  refine ⟨fun w' hw' => ?_, ?_⟩
  · skip
    go_simp
    first | done | rfl | exact ⟨rfl, rfl⟩
  simp only [Act.put, List.setIfInBounds_toArray, List.set_cons_zero, List.set_cons_succ]
  refine held_val 4 rfl (by kernel_rfl) (by kernel_rfl) (by kernel_rfl) (fun _ _ _ _ h => h) (by rfl) hS ?_
  apply Exists.intro
  refine ⟨fun w' hw' => ?_, ?_⟩
  · skip
    go_simp
    first | done | rfl | exact ⟨rfl, rfl⟩
  simp only [Act.put, List.setIfInBounds_toArray, List.set_cons_zero, List.set_cons_succ]
  refine held_val 5 rfl (by kernel_rfl) (by kernel_rfl) (by kernel_rfl) (fun _ _ _ _ h => h) (by rfl) hS ?_
  apply Exists.intro
  refine ⟨fun w' hw' => ?_, ?_⟩
  · skip
    go_simp
    first | done | rfl | exact ⟨rfl, rfl⟩
  simp only [Act.put, List.setIfInBounds_toArray, List.set_cons_zero, List.set_cons_succ]
  refine held_val 6 rfl (by kernel_rfl) (by kernel_rfl) (by kernel_rfl) (fun _ _ _ _ h => h) (by rfl) hS ?_
  apply Exists.intro
  refine ⟨fun w' hw' => ?_, ?_⟩
  · skip
    go_simp
    first | done | rfl | exact ⟨rfl, rfl⟩
  simp only [Act.put, List.setIfInBounds_toArray, List.set_cons_zero, List.set_cons_succ]
  refine held_val 7 rfl (by kernel_rfl) (by kernel_rfl) (by kernel_rfl) (fun _ _ _ _ h => h) (by rfl) hS ?_
  apply Exists.intro
  refine ⟨fun w' hw' => ?_, ?_⟩
  · skip
    go_simp
    first | done | rfl | exact ⟨rfl, rfl⟩
  simp only [Act.put, List.setIfInBounds_toArray, List.set_cons_zero, List.set_cons_succ]
  refine held_val 8 rfl (by kernel_rfl) (by kernel_rfl) (by kernel_rfl) (fun _ _ _ _ h => h) (by rfl) hS ?_
  apply Exists.intro
  refine ⟨fun w' hw' => ?_, ?_⟩
  · skip
    go_simp
    first | done | rfl | exact ⟨rfl, rfl⟩
  simp only [Act.put, List.setIfInBounds_toArray, List.set_cons_zero, List.set_cons_succ]
  refine held_val 9 rfl (by kernel_rfl) (by kernel_rfl) (by kernel_rfl) (fun _ _ _ _ h => h) (by rfl) hS ?_
  apply Exists.intro
  refine ⟨fun w' hw' => ?_, ?_⟩
  · skip
    go_simp
    first | done | rfl | exact ⟨rfl, rfl⟩
  simp only [Act.put, List.setIfInBounds_toArray, List.set_cons_zero, List.set_cons_succ]
  refine held_val 10 rfl (by kernel_rfl) (by kernel_rfl) (by kernel_rfl) (fun _ _ _ _ h => h) (by rfl) hS ?_
  apply Exists.intro
  refine ⟨fun w' hw' => ?_, ?_⟩
  · skip
    go_simp
    first | done | rfl | exact ⟨rfl, rfl⟩
  simp only [Act.put, List.setIfInBounds_toArray, List.set_cons_zero, List.set_cons_succ]
  refine held_val 11 rfl (by kernel_rfl) (by kernel_rfl) (by kernel_rfl) (fun _ _ _ _ h => h) (by rfl) hS ?_
  apply Exists.intro
  refine ⟨fun w' hw' => ?_, ?_⟩
  · skip
    go_simp
    first | done | rfl | exact ⟨rfl, rfl⟩
  simp only [Act.put, List.setIfInBounds_toArray, List.set_cons_zero, List.set_cons_succ]
  refine held_val 13 rfl (by kernel_rfl) (by kernel_rfl) (by kernel_rfl) (fun _ _ _ _ h => h) (by rfl) hS ?_
  apply Exists.intro
  refine ⟨fun w' hw' => ?_, ?_⟩
  · skip
    go_simp
    first | done | rfl | exact ⟨rfl, rfl⟩
  simp only [Act.put, List.setIfInBounds_toArray, List.set_cons_zero, List.set_cons_succ]
  refine held_two 12 14 (by kernel_rfl) rfl rfl (by rfl) (by rfl) ?_ ?_
  · have c2 := steps_slot h2.st hs hf
    unfold Oper.wp
    go_simp
    first | refine ⟨hS, ?_⟩ | skip
    clear c2
    refine held_one 14 (by kernel_rfl) rfl (by rfl) ?_
    refine wp_row_int (intV x) rfl _ rfl rfl ?_
    refine ⟨(h2.stay hal).q.steps, ?_⟩
    simp only [Act.put, List.setIfInBounds_toArray, List.set_cons_zero, List.set_cons_succ]
    have h3 := h2.stay hal
    have rY := Rw.new D1 3 [intV x]
    have hb3 := hb2.trans (hal.mono hb2.size)
    generalize D1.alloc (.cells [intV x].toArray 3) = D2 at *
    generalize D1.heap.size = Y at *
    refine held_one 15 (by kernel_rfl) rfl (by rfl) ?_
    refine wp_own_at (.tmp 18) (.tmp 20) 123 rfl (R + 1) 3 i0 (.int .i64 0) 1 8 Tryd.underlying123 hi hz0 hz1 hz2 rfl (by decide) (.slice af s.free.length cf) s.free.length _ rfl (h3.st.free k s _ hs hf) Y [intV x] rfl rfl rY (fun u hu => by rw [List.mem_singleton.1 hu]; rfl) (by unfold maxLen; omega) (by omega) (by have := Rw.lt h3.q; omega) ?_
    intro f' w5 hO hg hloc
    have FIN := lead_fin h3 hb3 hs hf hO hg hloc
    have hS5 : w5.cell? ⟨R, 1, none⟩ = some (.slice (some ⟨G, 0, none⟩) S.length cap) := Rq.steps (Rw.grown h3.q hg (fun e => by have := ((h3.st.free k s _ hs hf).lt _ e).1; omega))
    refine ⟨hS5, ?_⟩
    have c5 := lead_cell h3 hs hf hg
    obtain ⟨g', cap', rfl⟩ := own_succ hO
    have f5 : w5.frozen? ⟨G, k * 257 + 256, none⟩ = false := lead_frozen h3 hf hg
    have FIN2 := Lib.hid FIN
    clear FIN hO hg hloc h3 rY h2
    replace hS := hS5
    simp only [Act.put, List.setIfInBounds_toArray, List.set_cons_zero, List.set_cons_succ]
    refine held_val 16 rfl (by kernel_rfl) (by kernel_rfl) (by kernel_rfl) (fun _ _ _ _ h => h) (by rfl) hS ?_
    apply Exists.intro
    refine ⟨fun w' hw' => ?_, ?_⟩
    · skip
      go_simp
      first | done | rfl | exact ⟨rfl, rfl⟩
    simp only [Act.put, List.setIfInBounds_toArray, List.set_cons_zero, List.set_cons_succ]
    refine held_val 17 rfl (by kernel_rfl) (by kernel_rfl) (by kernel_rfl) (fun _ _ _ _ h => h) (by rfl) hS ?_
    apply Exists.intro
    refine ⟨fun w' hw' => ?_, ?_⟩
    · skip
      go_simp
      first | done | rfl | exact ⟨rfl, rfl⟩
    simp only [Act.put, List.setIfInBounds_toArray, List.set_cons_zero, List.set_cons_succ]
    refine held_one 18 (by kernel_rfl) rfl (by rfl) ?_
    unfold Oper.wp
    go_simp
    refine wpAnyH_done (by kernel_rfl) ?_ _
    clear c5 f5 hS5 hS
    refine bodyPost_end (results_none (by kernel_rfl) _ _ _) rfl ?_
    exact ⟨rfl, _, _, FIN2.out.1, FIN2.out.2⟩
  · refine wp_row_int (intV x) rfl _ rfl rfl ?_
    refine ⟨(h2.stay hal).q.steps, ?_⟩
    simp only [Act.put, List.setIfInBounds_toArray, List.set_cons_zero, List.set_cons_succ]
    have c2 := steps_slot (h2.stay hal).st hs hf
    have hS2 := (h2.stay hal).q.steps
    refine held_one 12 (by kernel_rfl) rfl (by rfl) ?_
    unfold Oper.wp
    go_simp
    first | refine ⟨hS2, ?_⟩ | skip
    clear c2 hS2
    have h3 := h2.stay hal
    have rY := Rw.new D1 3 [intV x]
    have hb3 := hb2.trans (hal.mono hb2.size)
    generalize D1.alloc (.cells [intV x].toArray 3) = D2 at *
    generalize D1.heap.size = Y at *
    refine held_one 15 (by kernel_rfl) rfl (by rfl) ?_
    refine wp_own_at (.tmp 18) (.tmp 20) 123 rfl (R + 1) 3 i0 (.int .i64 0) 1 8 Tryd.underlying123 hi hz0 hz1 hz2 rfl (by decide) (.slice af s.free.length cf) s.free.length _ rfl (h3.st.free k s _ hs hf) Y [intV x] rfl rfl rY (fun u hu => by rw [List.mem_singleton.1 hu]; rfl) (by unfold maxLen; omega) (by omega) (by have := Rw.lt h3.q; omega) ?_
    intro f' w5 hO hg hloc
    have FIN := lead_fin h3 hb3 hs hf hO hg hloc
    have hS5 : w5.cell? ⟨R, 1, none⟩ = some (.slice (some ⟨G, 0, none⟩) S.length cap) := Rq.steps (Rw.grown h3.q hg (fun e => by have := ((h3.st.free k s _ hs hf).lt _ e).1; omega))
    refine ⟨hS5, ?_⟩
    have c5 := lead_cell h3 hs hf hg
    obtain ⟨g', cap', rfl⟩ := own_succ hO
    have f5 : w5.frozen? ⟨G, k * 257 + 256, none⟩ = false := lead_frozen h3 hf hg
    have FIN2 := Lib.hid FIN
    clear FIN hO hg hloc h3 rY h2
    replace hS := hS5
    simp only [Act.put, List.setIfInBounds_toArray, List.set_cons_zero, List.set_cons_succ]
    refine held_val 16 rfl (by kernel_rfl) (by kernel_rfl) (by kernel_rfl) (fun _ _ _ _ h => h) (by rfl) hS ?_
    apply Exists.intro
    refine ⟨fun w' hw' => ?_, ?_⟩
    · skip
      go_simp
      first | done | rfl | exact ⟨rfl, rfl⟩
    simp only [Act.put, List.setIfInBounds_toArray, List.set_cons_zero, List.set_cons_succ]
    refine held_val 17 rfl (by kernel_rfl) (by kernel_rfl) (by kernel_rfl) (fun _ _ _ _ h => h) (by rfl) hS ?_
    apply Exists.intro
    refine ⟨fun w' hw' => ?_, ?_⟩
    · skip
      go_simp
      first | done | rfl | exact ⟨rfl, rfl⟩
    simp only [Act.put, List.setIfInBounds_toArray, List.set_cons_zero, List.set_cons_succ]
    refine held_one 18 (by kernel_rfl) rfl (by rfl) ?_
    unfold Oper.wp
    go_simp
    refine wpAnyH_done (by kernel_rfl) ?_ _
    clear c5 f5 hS5 hS
    refine bodyPost_end (results_none (by kernel_rfl) _ _ _) rfl ?_
    exact ⟨rfl, _, _, FIN2.out.1, FIN2.out.2⟩
end Go.Proofs.YteooofakpkbgoaaDoor
/- A slice of texts that comes in. -/
namespace Go.Proofs.YteooofakpkbgoaaDoor
open Go.ChangeShapes Go.WideShapes Go.RowKit

theorem add_at (g o j : Nat) : (⟨g, o, none⟩ : Addr).add j = ⟨g, o + j, none⟩ := by unfold Addr.add; split <;> simp_all
theorem StrsAt.stay {P : Nat → Prop} {w w' : World} {v : Value} {ss : List Bs} (h : StrsAt P w v ss) (k : Below w.heap.size w w') : StrsAt P w' v ss := h.keepN (S := fun _ => False) (Asd.of_below k) (fun _ _ _ e => e)
theorem StrsAt.shape {P : Nat → Prop} {w : World} {v : Value} {ss : List Bs} (h : StrsAt P w v ss) : ∃ a c, v = .slice a ss.length c := by
  rcases h with ⟨rfl, a, c, rfl⟩ | ⟨g, o, c, rfl, _⟩
  · exact ⟨a, c, rfl⟩
  · exact ⟨_, _, rfl⟩
theorem StrsAt.text {P : Nat → Prop} {w : World} {a : Option Addr} {n c : Nat} {ss : List Bs} (h : StrsAt P w (.slice a n c) ss) {q : Nat} {s : Bs} (hq : ss[q]? = some s) : ∃ g o, a = some ⟨g, o, none⟩ ∧ g < w.heap.size ∧ w.cell? ⟨g, o + q, none⟩ = some (.string ⟨s.toArray⟩) := by
  rcases h with ⟨rfl, _⟩ | ⟨g, o, c, e, _, _, hg, hc⟩
  · cases hq
  · injection e with e1 _ _
    exact ⟨g, o, e1, hg, hc q s hq⟩
set_option maxRecDepth 100000 in
/-- Texts that come in. -/
theorem open_strs {H : Type} {enc : TypeId × Value → H} {w : World} {r : Reach} {b0 : Nat} {v : Value} {d : DataW H} {p : List MemPlace} (hv : Value.okWide Tryd.prog w r b0 44 v) (h : DataW.Trod enc Tryd.prog w 0 (fun _ => true) true 44 v d p) :
    ∃ ss : List Bs, StrsAt (fun _ => True) w v ss ∧ (∀ s ∈ ss, s.length ≤ 9223372036854775807) ∧ ss.length ≤ 9223372036854775807 := by
  obtain ⟨aa, n, cap, rfl⟩ := okWide_slice Tryd.underlying44 hv
  obtain ⟨fuel, hf⟩ := h
  rcases Go.Deep.open_strs Tryd.underlying44 Tryd.underlying9 (by kernel_rfl) hf with ⟨e, _⟩ | ⟨ad, len, cap', m, Sx, e, _, hl, hm, hmm, _, hc⟩
  · simp [Value.cells] at e
    obtain ⟨rfl, rfl, rfl⟩ := e
    exact ⟨[], .inl ⟨rfl, _, _, rfl⟩, by simp, by simp⟩
  · simp [Value.cells] at e
    obtain ⟨rfl, rfl, rfl⟩ := e
    simp at hmm
    have hml : maxLen = 9223372036854775807 := rfl
    refine ⟨(List.range n).map fun i => (Sx i).data.toList, ?_, fun s hs => ?_, by simp; omega⟩
    · cases n with
      | zero => exact .inl ⟨rfl, _, _, rfl⟩
      | succ n =>
        obtain ⟨bb, off, spot⟩ := ad
        have hspot : spot = none := by have h0 := (hc 0 (by omega)).1; have := World.cell?_spot h0; simpa [Addr.add] using this
        subst hspot
        have hlt : bb < w.heap.size := by have h0 := (hc 0 (by omega)).1; have := World.block_lt_of_cell? w _ h0; simpa [Addr.add] using this
        refine .inr ⟨bb, off, cap, by simp, by simpa using hl, trivial, hlt, fun j s hs => ?_⟩
        have hj : j < n + 1 := by have := (List.getElem?_eq_some_iff.1 hs).1; simpa using this
        have h1 := (hc j (by omega)).1
        rw [show (⟨bb, off, none⟩ : Addr).add j = ⟨bb, off + j, none⟩ from add_at bb off j] at h1
        rw [h1]
        rw [List.getElem?_map, List.getElem?_range hj] at hs
        injection hs with hs
        rw [← hs]
    · obtain ⟨i, hi, rfl⟩ := List.mem_map.1 hs
      have := (hc i (by have := List.mem_range.1 hi; omega)).2
      rw [Array.length_toList]
      exact this
end Go.Proofs.YteooofakpkbgoaaDoor
