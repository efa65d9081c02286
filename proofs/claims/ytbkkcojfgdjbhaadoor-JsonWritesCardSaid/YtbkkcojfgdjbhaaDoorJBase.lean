/- Memory that a reader of texts works in: what stays as it was, and what a byte's look and a cut of a text give. -/
import Derived.Test.YtbkkcojfgdjbhaaDoorJPlain
import Derived.Below
import Derived.Laws.Strings2
import Derived.WalkKit
import Derived.Deep.WholeRow
namespace Go.Proofs.YtbkkcojfgdjbhaaDoor
open Go.ChangeShapes Go.WideShapes Go.RowKit

/-- All blocks that there were are as they were, but for those of S. -/
structure Asd (S : Nat → Prop) (w w' : World) : Prop where
  os : w'.os = w.os
  tape : w'.tape = w.tape
  output : w'.output = w.output
  size : w.heap.size ≤ w'.heap.size
  block : ∀ k, k < w.heap.size → ¬ S k → w'.heap[k]? = w.heap[k]?
theorem Asd.refl (S : Nat → Prop) (w : World) : Asd S w w := ⟨rfl, rfl, rfl, Nat.le_refl _, fun _ _ _ => rfl⟩
theorem Asd.trans {S S' : Nat → Prop} {a b c : World} (h : Asd S a b) (k : Asd S' b c) (hs : ∀ i, S' i → i < a.heap.size → S i) : Asd S a c :=
  ⟨k.os.trans h.os, k.tape.trans h.tape, k.output.trans h.output, Nat.le_trans h.size k.size, fun i hi hn => (k.block i (Nat.lt_of_lt_of_le hi h.size) (fun e => hn (hs i e hi))).trans (h.block i hi hn)⟩
theorem Asd.andThen {S : Nat → Prop} {a b c : World} (h : Asd S a b) (k : Asd S b c) : Asd S a c := h.trans k (fun _ e _ => e)
theorem Asd.of_below {S : Nat → Prop} {w w' : World} (h : Below w.heap.size w w') : Asd S w w' := ⟨h.os, h.tape, h.output, h.size, fun k hk _ => h.block k hk⟩
theorem Asd.below {S : Nat → Prop} {a b c : World} (h : Asd S a b) (k : Below b.heap.size b c) : Asd S a c := h.andThen (Asd.of_below k)
theorem Asd.toBelow {S : Nat → Prop} {w w' : World} {B : Nat} (h : Asd S w w') (hB : B ≤ w.heap.size) (hs : ∀ k, S k → B ≤ k) : Below B w w' :=
  ⟨h.os, h.tape, h.output, h.size, fun k hk => h.block k (by omega) (fun e => by have := hs k e; omega)⟩
theorem Asd.setCell {S : Nat → Prop} {a w : World} (h : Asd S a w) {p : Addr} (hp : S p.block ∨ a.heap.size ≤ p.block) (u : Value) : Asd S a (w.setCell p u) :=
  ⟨h.os, h.tape, h.output, by simpa [World.setCell] using h.size, fun k hk hn => by
    rw [Below.heap_setCell _ _ _ _ (fun e => by subst e; rcases hp with hp | hp; exact hn hp; omega)]; exact h.block k hk hn⟩
theorem Asd.alloc {S : Nat → Prop} {a w : World} (h : Asd S a w) (o : Obj) : Asd S a (w.alloc o) := h.below ((Below.refl _ _).alloc (Nat.le_refl _) o)
theorem Asd.drew {S : Nat → Prop} {a w : World} (h : Asd S a w) : Asd S a w.drew := h.below (Below.refl _ _).drew
theorem Asd.grown {S : Nat → Prop} {a w w' : World} {row : Option Nat} (h : Asd S a w) (hg : w.grownBy w' row) (hr : ∀ k, row = some k → S k ∨ a.heap.size ≤ k) : Asd S a w' :=
  ⟨hg.os.trans h.os, hg.tape.trans h.tape, hg.output.trans h.output, Nat.le_trans h.size hg.size, fun k hk hn => by
    rw [hg.block k (Nat.lt_of_lt_of_le hk h.size) (fun e => by rcases hr k e.symm with q | q; exact hn q; omega)]; exact h.block k hk hn⟩

theorem Asd.one (w : World) (R i : Nat) (v : Value) : Asd (· = R) w (w.setCell ⟨R, i, none⟩ v) := (Asd.refl (· = R) w).setCell (p := ⟨R, i, none⟩) (.inl rfl) v
theorem Asd.set1 {a w : World} {R : Nat} (h : Asd (· = R) a w) (i : Nat) (v : Value) : Asd (· = R) a (w.setCell ⟨R, i, none⟩ v) := h.setCell (p := ⟨R, i, none⟩) (.inl rfl) v

/-- Block g holds the row cs of type t. -/
def Rw (w : World) (g : Nat) (t : TypeId) (cs : List Value) : Prop := w.heap[g]? = some (.cells cs.toArray t (0, 0))
theorem Rw.lt {w : World} {g : Nat} {t : TypeId} {cs : List Value} (h : Rw w g t cs) : g < w.heap.size := (Array.getElem?_eq_some_iff.1 h).1
theorem Rw.keep {w w' : World} {g : Nat} {t : TypeId} {cs : List Value} {S : Nat → Prop} (h : Rw w g t cs) (k : Asd S w w') (hs : ¬ S g) : Rw w' g t cs := by unfold Rw at *; rw [k.block g (Rw.lt h) hs]; exact h
theorem Rw.stay {w w' : World} {g : Nat} {t : TypeId} {cs : List Value} (h : Rw w g t cs) (k : Below w.heap.size w w') : Rw w' g t cs := by unfold Rw at *; rw [k.block g (Rw.lt h)]; exact h
theorem Rw.cell {w : World} {g : Nat} {t : TypeId} {cs : List Value} (h : Rw w g t cs) (j : Nat) : w.cell? ⟨g, j, none⟩ = cs[j]? := by
  rw [cell_of_row w g j cs.toArray t (0, 0) h]; simp
theorem Rw.frozen {w : World} {g : Nat} {t : TypeId} {cs : List Value} (h : Rw w g t cs) (j : Nat) : w.frozen? ⟨g, j, none⟩ = false := by
  unfold Rw at h; simp [World.frozen?, h]
theorem Rw.setCell {w : World} {g : Nat} {t : TypeId} {cs : List Value} (h : Rw w g t cs) (i : Nat) (v : Value) : Rw (w.setCell ⟨g, i, none⟩ v) g t (cs.set i v) := by
  rw [setCell_eq_setRow w g i cs.toArray t (0, 0) v h]
  unfold Rw
  rw [setRow_heap w g _ _ t _ h]; simp
theorem Rw.other {w : World} {g k : Nat} {t : TypeId} {cs : List Value} (h : Rw w g t cs) (hk : g ≠ k) (i : Nat) (v : Value) : Rw (w.setCell ⟨k, i, none⟩ v) g t cs := by
  unfold Rw at *; rw [← h]; exact Below.heap_setCell _ ⟨k, i, none⟩ _ g hk
theorem Rw.new (w : World) (t : TypeId) (cs : List Value) : Rw (w.alloc (.cells cs.toArray t)) w.heap.size t cs := heap_alloc_last w _

def sv (l : Bs) : Value := .string ⟨l.toArray⟩
/-- A reader: what is left, how many values were begun, the words. -/
def Rq (w : World) (R : Nat) (l : Bs) (n : Nat) (M : Value) : Prop := Rw w R 63 [sv l, .int .i64 (n : Int), M]
theorem Rq.rest {w : World} {R : Nat} {l : Bs} {n : Nat} {M : Value} (h : Rq w R l n M) : w.cell? ⟨R, 0, none⟩ = some (.string ⟨l.toArray⟩) := Rw.cell h 0
theorem Rq.count {w : World} {R : Nat} {l : Bs} {n : Nat} {M : Value} (h : Rq w R l n M) : w.cell? ⟨R, 1, none⟩ = some (.int .i64 (n : Int)) := Rw.cell h 1
theorem Rq.words {w : World} {R : Nat} {l : Bs} {n : Nat} {M : Value} (h : Rq w R l n M) : w.cell? ⟨R, 2, none⟩ = some M := Rw.cell h 2
theorem Rq.set {w : World} {R : Nat} {l : Bs} {n : Nat} {M : Value} (h : Rq w R l n M) (l' : Bs) : Rq (w.setCell ⟨R, 0, none⟩ (.string ⟨l'.toArray⟩)) R l' n M := Rw.setCell h 0 _
theorem Rq.put {w : World} {R : Nat} {l : Bs} {n : Nat} {M : Value} (h : Rq w R l n M) (n' : Nat) : Rq (w.setCell ⟨R, 1, none⟩ (.int .i64 (n' : Int))) R l n' M := Rw.setCell h 1 _
theorem Rq.stay {w w' : World} {R : Nat} {l : Bs} {n : Nat} {M : Value} (h : Rq w R l n M) (k : Below w.heap.size w w') : Rq w' R l n M := Rw.stay h k

/-- A byte of a text. -/
theorem at_text (l : Bs) (k : Nat) (c : UInt8) (hk : l[k]? = some c) (i : Int) (hi : i = (k : Int)) (w : World) : (Instr.index 9 (.string ⟨l.toArray⟩) (.int .i64 i)).run Tryd.prog w = .ok (.int .u8 (c.toNat : Int)) w := by
  subst hi
  have hlt : k < l.length := (List.getElem?_eq_some_iff.1 hk).1
  have hs : (⟨l.toArray⟩ : ByteArray).size = l.length := by simp [ByteArray.size]
  rw [run_index_string w 9 _ .i64 _ (by kernel_rfl), dif_pos ⟨by omega, by rw [hs]; omega⟩]
  have hc := (List.getElem?_eq_some_iff.1 hk).2
  congr 3
  rw [← hc]
  rfl
theorem extract_text (l : Bs) (a b : Nat) : (⟨l.toArray⟩ : ByteArray).extract a b = ⟨((l.take b).drop a).toArray⟩ := by
  apply ByteArray.ext
  rw [ByteArray.data_extract]
  apply Array.ext'
  simp [List.extract_eq_take_drop, List.drop_take]
/-- The end of a text from a byte on. -/
theorem cut_text (l : Bs) (k : Nat) (hk : k ≤ l.length) (i : Int) (hi : i = (k : Int)) (w : World) : (Instr.slice 9 (.string ⟨l.toArray⟩) (some (.int .i64 i)) none none).run Tryd.prog w = .ok (.string ⟨(l.drop k).toArray⟩) w := by
  subst hi
  have hs : (⟨l.toArray⟩ : ByteArray).size = l.length := by simp [ByteArray.size]
  simp [Instr.slice, run_underlying Tryd.underlying9, Instr.sliceBounds, run_sliceBound, hs, show (k : Int) ≤ (l.length : Int) by omega]
  rw [extract_text, List.take_length]
/-- The beginning of a text up to a byte. -/
theorem cut_upto (l : Bs) (k : Nat) (hk : k ≤ l.length) (i : Int) (hi : i = (k : Int)) (w : World) : (Instr.slice 9 (.string ⟨l.toArray⟩) none (some (.int .i64 i)) none).run Tryd.prog w = .ok (.string ⟨(l.take k).toArray⟩) w := by
  subst hi
  have hs : (⟨l.toArray⟩ : ByteArray).size = l.length := by simp [ByteArray.size]
  simp [Instr.slice, run_underlying Tryd.underlying9, Instr.sliceBounds, run_sliceBound, hs, show (k : Int) ≤ (l.length : Int) by omega]
  rw [extract_text]; rfl
/-- Is a text another one? -/
theorem text_list (l : Bs) : (⟨l.toArray⟩ : ByteArray).toList = l := by rw [ByteArray.toList_eq]
theorem same_text (a b : Bs) : ((⟨a.toArray⟩ : ByteArray).toList == (⟨b.toArray⟩ : ByteArray).toList) = (a == b) := by rw [text_list, text_list]
theorem some_text (c : UInt8) (l : Bs) : ((⟨(c :: l).toArray⟩ : ByteArray).toList == (⟨#[]⟩ : ByteArray).toList) = false := by rw [show (⟨#[]⟩ : ByteArray) = ⟨([] : Bs).toArray⟩ from rfl, same_text]; rfl
theorem full_text (c : UInt8) (l : Bs) : (⟨(c :: l).toArray⟩ : ByteArray).toList.isEmpty = false := by rw [text_list]; rfl
theorem null_text : (⟨([] : Bs).toArray⟩ : ByteArray).toList.isEmpty = true := by rw [text_list]; rfl
end Go.Proofs.YtbkkcojfgdjbhaaDoor
