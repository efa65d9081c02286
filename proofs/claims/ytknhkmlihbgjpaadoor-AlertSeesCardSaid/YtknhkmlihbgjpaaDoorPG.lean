/- PG: several texts in one. -/
import Derived.Test.YtknhkmlihbgjpaaDoorProg
import Derived.Lib.Hide
import Derived.Lib.AppendStr
import Derived.Lib.OthersKept
import Derived.StillTailTactics
import Derived.Laws.BytesArg
import Derived.Deep.Cut
import Derived.Deep.CutRange
import Derived.Maps.AppendAt
import Derived.Below
import Derived.Laws.Strings2
import Derived.WalkKit
import Derived.Deep.WholeRow
import Derived.Deep.Strs
import Derived.Laws.StructEq
/- What serves every text of pattern: memory, rows, texts. -/
namespace Go.Proofs.YtknhkmlihbgjpaaDoor
open Go.ChangeShapes Go.WideShapes Go.RowKit

abbrev Bs := List UInt8

/-- All blocks that there were are as they were, but for those of S. -/
structure Asd (S : Nat → Prop) (w w' : World) : Prop where
  os : w'.os = w.os
  tape : w'.tape = w.tape
  output : w'.output = w.output
  size : w.heap.size ≤ w'.heap.size
  block : ∀ k, k < w.heap.size → ¬ S k → w'.heap[k]? = w.heap[k]?
theorem Asd.refl (S : Nat → Prop) (w : World) : Asd S w w := ⟨rfl, rfl, rfl, Nat.le_refl _, fun _ _ _ => rfl⟩
theorem Asd.trans {S S' : Nat → Prop} {a b c : World} (h : Asd S a b) (k : Asd S' b c) (hs : ∀ i, S' i → i < a.heap.size → S i) : Asd S a c :=
  ⟨k.os.trans h.os, k.tape.trans h.tape, k.output.trans h.output, Nat.le_trans h.size k.size, fun i hi hn => (k.block i (Nat.lt_of_lt_of_le hi h.size) (fun e => hn (hs i e hi))).trans (h.block i hi hn)⟩
theorem Asd.andThen {S : Nat → Prop} {a b c : World} (h : Asd S a b) (k : Asd S b c) : Asd S a c := h.trans k (fun _ e _ => e)
theorem Asd.of_below {S : Nat → Prop} {w w' : World} (h : Below w.heap.size w w') : Asd S w w' := ⟨h.os, h.tape, h.output, h.size, fun k hk _ => h.block k hk⟩
theorem Asd.below {S : Nat → Prop} {a b c : World} (h : Asd S a b) (k : Below b.heap.size b c) : Asd S a c := h.andThen (Asd.of_below k)
theorem Asd.toBelow {S : Nat → Prop} {w w' : World} {B : Nat} (h : Asd S w w') (hB : B ≤ w.heap.size) (hs : ∀ k, S k → B ≤ k) : Below B w w' :=
  ⟨h.os, h.tape, h.output, h.size, fun k hk => h.block k (by omega) (fun e => by have := hs k e; omega)⟩
theorem Asd.setCell {S : Nat → Prop} {a w : World} (h : Asd S a w) {p : Addr} (hp : S p.block ∨ a.heap.size ≤ p.block) (u : Value) : Asd S a (w.setCell p u) :=
  ⟨h.os, h.tape, h.output, by simpa [World.setCell] using h.size, fun k hk hn => by
    rw [Below.heap_setCell _ _ _ _ (fun e => by subst e; rcases hp with hp | hp; exact hn hp; omega)]; exact h.block k hk hn⟩
theorem Asd.alloc {S : Nat → Prop} {a w : World} (h : Asd S a w) (o : Obj) : Asd S a (w.alloc o) := h.below ((Below.refl _ _).alloc (Nat.le_refl _) o)
theorem Asd.drew {S : Nat → Prop} {a w : World} (h : Asd S a w) : Asd S a w.drew := h.below (Below.refl _ _).drew
theorem Asd.grown {S : Nat → Prop} {a w w' : World} {row : Option Nat} (h : Asd S a w) (hg : w.grownBy w' row) (hr : ∀ k, row = some k → S k ∨ a.heap.size ≤ k) : Asd S a w' :=
  ⟨hg.os.trans h.os, hg.tape.trans h.tape, hg.output.trans h.output, Nat.le_trans h.size hg.size, fun k hk hn => by
    rw [hg.block k (Nat.lt_of_lt_of_le hk h.size) (fun e => by rcases hr k e.symm with q | q; exact hn q; omega)]; exact h.block k hk hn⟩

theorem Asd.any {S S' : Nat → Prop} {w w' : World} (h : Asd S w w') (k : ∀ i, S i → S' i) : Asd S' w w' := ⟨h.os, h.tape, h.output, h.size, fun i hi hn => h.block i hi (fun e => hn (k i e))⟩
theorem Asd.one (w : World) (R i : Nat) (v : Value) : Asd (· = R) w (w.setCell ⟨R, i, none⟩ v) := (Asd.refl (· = R) w).setCell (p := ⟨R, i, none⟩) (.inl rfl) v
theorem Asd.set1 {a w : World} {R : Nat} (h : Asd (· = R) a w) (i : Nat) (v : Value) : Asd (· = R) a (w.setCell ⟨R, i, none⟩ v) := h.setCell (p := ⟨R, i, none⟩) (.inl rfl) v

/-- Block g holds the row cs of type t. -/
def Rw (w : World) (g : Nat) (t : TypeId) (cs : List Value) : Prop := w.heap[g]? = some (.cells cs.toArray t (0, 0))
theorem Rw.lt {w : World} {g : Nat} {t : TypeId} {cs : List Value} (h : Rw w g t cs) : g < w.heap.size := (Array.getElem?_eq_some_iff.1 h).1
theorem Rw.keep {w w' : World} {g : Nat} {t : TypeId} {cs : List Value} {S : Nat → Prop} (h : Rw w g t cs) (k : Asd S w w') (hs : ¬ S g) : Rw w' g t cs := by unfold Rw at *; rw [k.block g (Rw.lt h) hs]; exact h
theorem Rw.stay {w w' : World} {g : Nat} {t : TypeId} {cs : List Value} (h : Rw w g t cs) (k : Below w.heap.size w w') : Rw w' g t cs := by unfold Rw at *; rw [k.block g (Rw.lt h)]; exact h
theorem Rw.cell {w : World} {g : Nat} {t : TypeId} {cs : List Value} (h : Rw w g t cs) (j : Nat) : w.cell? ⟨g, j, none⟩ = cs[j]? := by
  rw [cell_of_row w g j cs.toArray t (0, 0) h]; simp
theorem Rw.frozen {w : World} {g : Nat} {t : TypeId} {cs : List Value} (h : Rw w g t cs) (j : Nat) : w.frozen? ⟨g, j, none⟩ = false := by
  unfold Rw at h; simp [World.frozen?, h]
theorem Rw.setCell {w : World} {g : Nat} {t : TypeId} {cs : List Value} (h : Rw w g t cs) (i : Nat) (v : Value) : Rw (w.setCell ⟨g, i, none⟩ v) g t (cs.set i v) := by
  rw [setCell_eq_setRow w g i cs.toArray t (0, 0) v h]
  unfold Rw
  rw [setRow_heap w g _ _ t _ h]; simp
theorem Rw.other {w : World} {g k : Nat} {t : TypeId} {cs : List Value} (h : Rw w g t cs) (hk : g ≠ k) (i : Nat) (v : Value) : Rw (w.setCell ⟨k, i, none⟩ v) g t cs := by
  unfold Rw at *; rw [← h]; exact Below.heap_setCell _ ⟨k, i, none⟩ _ g hk
theorem Rw.new (w : World) (t : TypeId) (cs : List Value) : Rw (w.alloc (.cells cs.toArray t)) w.heap.size t cs := heap_alloc_last w _

def sv (l : Bs) : Value := .string ⟨l.toArray⟩
/-- A byte of a text. -/
theorem at_text (l : Bs) (k : Nat) (c : UInt8) (hk : l[k]? = some c) (i : Int) (hi : i = (k : Int)) (w : World) : (Instr.index 9 (.string ⟨l.toArray⟩) (.int .i64 i)).run Tryd.prog w = .ok (.int .u8 (c.toNat : Int)) w := by
  subst hi
  have hlt : k < l.length := (List.getElem?_eq_some_iff.1 hk).1
  have hs : (⟨l.toArray⟩ : ByteArray).size = l.length := by simp [ByteArray.size]
  rw [run_index_string w 9 _ .i64 _ (by kernel_rfl), dif_pos ⟨by omega, by rw [hs]; omega⟩]
  have hc := (List.getElem?_eq_some_iff.1 hk).2
  congr 3
  rw [← hc]
  rfl
theorem extract_text (l : Bs) (a b : Nat) : (⟨l.toArray⟩ : ByteArray).extract a b = ⟨((l.take b).drop a).toArray⟩ := by
  apply ByteArray.ext
  rw [ByteArray.data_extract]
  apply Array.ext'
  simp [List.extract_eq_take_drop, List.drop_take]
/-- The end of a text from a byte on. -/
theorem cut_text (l : Bs) (k : Nat) (hk : k ≤ l.length) (i : Int) (hi : i = (k : Int)) (w : World) : (Instr.slice 9 (.string ⟨l.toArray⟩) (some (.int .i64 i)) none none).run Tryd.prog w = .ok (.string ⟨(l.drop k).toArray⟩) w := by
  subst hi
  have hs : (⟨l.toArray⟩ : ByteArray).size = l.length := by simp [ByteArray.size]
  simp [Instr.slice, run_underlying Tryd.underlying9, Instr.sliceBounds, run_sliceBound, hs, show (k : Int) ≤ (l.length : Int) by omega]
  rw [extract_text, List.take_length]
/-- The beginning of a text up to a byte. -/
theorem cut_upto (l : Bs) (k : Nat) (hk : k ≤ l.length) (i : Int) (hi : i = (k : Int)) (w : World) : (Instr.slice 9 (.string ⟨l.toArray⟩) none (some (.int .i64 i)) none).run Tryd.prog w = .ok (.string ⟨(l.take k).toArray⟩) w := by
  subst hi
  have hs : (⟨l.toArray⟩ : ByteArray).size = l.length := by simp [ByteArray.size]
  simp [Instr.slice, run_underlying Tryd.underlying9, Instr.sliceBounds, run_sliceBound, hs, show (k : Int) ≤ (l.length : Int) by omega]
  rw [extract_text]; rfl
/-- Is a text another one? -/
theorem text_list (l : Bs) : (⟨l.toArray⟩ : ByteArray).toList = l := by rw [ByteArray.toList_eq]
theorem same_text (a b : Bs) : ((⟨a.toArray⟩ : ByteArray).toList == (⟨b.toArray⟩ : ByteArray).toList) = (a == b) := by rw [text_list, text_list]
theorem some_text (c : UInt8) (l : Bs) : ((⟨(c :: l).toArray⟩ : ByteArray).toList == (⟨#[]⟩ : ByteArray).toList) = false := by rw [show (⟨#[]⟩ : ByteArray) = ⟨([] : Bs).toArray⟩ from rfl, same_text]; rfl
theorem full_text (c : UInt8) (l : Bs) : (⟨(c :: l).toArray⟩ : ByteArray).toList.isEmpty = false := by rw [text_list]; rfl
theorem null_text : (⟨([] : Bs).toArray⟩ : ByteArray).toList.isEmpty = true := by rw [text_list]; rfl
theorem own_asdS {w w' : World} {base : Nat} {S : Nat → Prop} {e : TypeId} {s n : Nat} {v : Value} {xs : List Value} (h : w.ownsRow base e s v n xs) (k : Asd S w w') (hs : ∀ i, v.ownBlock = some i → ¬ S i) : w'.ownsRow base e s v n xs := by
  rcases h with ⟨h1, h2⟩
  refine ⟨h1, ?_⟩
  rcases h2 with h2 | ⟨g, cap, cur, rfl, hb, hg, hr⟩
  · exact .inl h2
  · exact .inr ⟨g, cap, cur, rfl, hb, by rw [k.block g (Array.getElem?_eq_some_iff.1 hg).1 (hs g rfl)]; exact hg, hr⟩
theorem own_ne {w w' : World} {base : Nat} {e : TypeId} {s n : Nat} {v v' u : Value} {xs : List Value} (h : w.ownsRow base e s v n xs) (hu : u.ownBlock = none ∨ u.ownBlock ≠ v.ownBlock) (hsz : w.heap.size ≤ w'.heap.size) (hl : v'.ownBlock = u.ownBlock ∨ v'.ownBlock = some w'.heap.size) : v'.ownBlock = none ∨ v'.ownBlock ≠ v.ownBlock := by
  rcases hl with e | e
  · rw [e]; exact hu
  · right
    rw [e]
    intro e2
    have := (h.lt _ e2.symm).2
    omega
theorem sym_ne {u v : Value} (h : u.ownBlock = none ∨ u.ownBlock ≠ v.ownBlock) : v.ownBlock = none ∨ v.ownBlock ≠ u.ownBlock := by
  by_cases hv : v.ownBlock = none
  · exact .inl hv
  · rcases h with h | h
    · exact .inr (by rw [h]; exact hv)
    · exact .inr (fun e => h e.symm)
/-- The text of bytes that one owns. -/
theorem own_string {w : World} {base : Nat} {v : Value} {l : Bs} (h : w.ownsRow base 5 1 v l.length (Lib.byteCells l)) : (convert 88 9 v).run Tryd.prog w = .ok (.string ⟨l.toArray⟩) w := by
  have hc := h
  rcases h.2 with ⟨rfl, h0⟩ | ⟨g, cap, cur, rfl, hb, hg, hn, _⟩
  · obtain rfl : l = [] := List.eq_nil_of_length_eq_zero h0
    exact run_convert_bytes_nil w _ 5 (by kernel_rfl) (by kernel_rfl) _ _ _ (by kernel_rfl)
  · have := run_convert_bytes_arg (P := Tryd.prog) w 88 5 (by kernel_rfl) (by kernel_rfl) g 0 l.length cap (l.map fun b => (b.toNat : Int)) (by simp) (fun i hi => by
      have h1 := hc.cells (g := g) rfl i (.int .u8 ((l[i]'hi).toNat : Int)) (by simp [Lib.byteCells, hi])
      rw [show (⟨g, 0 + i, none⟩ : Addr) = (⟨g, 0, none⟩ : Addr).add i by unfold Addr.add; split <;> simp_all]
      rw [h1]
      simp [hi]) 9 (by kernel_rfl)
    refine this.trans (congrArg (fun s => Result.ok (Value.string s) w) ?_)
    apply ByteArray.ext
    apply Array.ext'
    rw [strOfNums_data, List.map_map]
    refine (List.map_congr_left (g := id) fun b _ => ?_).trans (List.map_id _)
    simp
theorem own_slice {w : World} {base : Nat} {e : TypeId} {s n : Nat} {v : Value} {xs : List Value} (h : w.ownsRow base e s v n xs) : ∃ a c, v = .slice a n c ∧ n ≤ c := by
  rcases h.2 with ⟨rfl, h0⟩ | ⟨g, cap, cur, rfl, hb, hg, hn, _⟩
  · exact ⟨none, 0, by rw [h0], by omega⟩
  · exact ⟨_, _, rfl, hn⟩
theorem own_succ {w : World} {base : Nat} {e : TypeId} {s n : Nat} {v : Value} {xs : List Value} (h : w.ownsRow base e s v (n + 1) xs) : ∃ g cap, v = .slice (some ⟨g, 0, none⟩) (n + 1) cap := by
  rcases h.2 with ⟨_, h0⟩ | ⟨g, cap, cur, rfl, _⟩
  · omega
  · exact ⟨g, cap, rfl⟩
theorem info_u8 : (Tryd.prog.info? 5).map (fun i => (i.zero, i.size, i.bytes)) = some (some (.int .u8 0), 1, 1) := by kernel_rfl
theorem info_parts0 {e : TypeId} {z : Value} {s b : Nat} (h : (Tryd.prog.info? e).map (fun i => (i.zero, i.size, i.bytes)) = some (some z, s, b)) : ∃ i, Tryd.prog.info? e = some i ∧ i.zero = some z ∧ i.size = s ∧ i.bytes = b := by
  cases hq : Tryd.prog.info? e with
  | none => rw [hq] at h; cases h
  | some i =>
    rw [hq] at h
    simp only [Option.map_some, Option.some.injEq, Prod.mk.injEq] at h
    exact ⟨i, rfl, h.1, h.2.1, h.2.2⟩
theorem cells_one (l : Bs) : ∀ u ∈ Lib.byteCells l, u.oneCell' = true := by
  intro u hu
  simp [Lib.byteCells] at hu
  obtain ⟨b, _, rfl⟩ := hu
  rfl
theorem cells_len (l : Bs) : (Lib.byteCells l).length = l.length := by simp [Lib.byteCells]
theorem info_str : (Tryd.prog.info? 9).map (fun i => (i.zero, i.size, i.bytes)) = some (some (.string ⟨#[]⟩), 1, 16) := by kernel_rfl
/-- A slice of texts, in a block of P. -/
def StrsAt (P : Nat → Prop) (w : World) (v : Value) (ss : List Bs) : Prop :=
  (ss = [] ∧ ∃ a c, v = .slice a 0 c) ∨ ∃ g o c, v = .slice (some ⟨g, o, none⟩) ss.length c ∧ ss.length ≤ c ∧ P g ∧ g < w.heap.size ∧ ∀ (j : Nat) s, ss[j]? = some s → w.cell? ⟨g, o + j, none⟩ = some (.string ⟨s.toArray⟩)
theorem cell_asd {S : Nat → Prop} {w w' : World} (k : Asd S w w') {g j : Nat} (hg : ¬ S g) {v : Value} (h : w.cell? ⟨g, j, none⟩ = some v) : w'.cell? ⟨g, j, none⟩ = some v := by
  have hlt := World.block_lt_of_cell? w _ h
  unfold World.cell? at h ⊢
  rw [k.block g hlt hg]; exact h
theorem StrsAt.keepN {P S : Nat → Prop} {w w' : World} {v : Value} {ss : List Bs} (h : StrsAt P w v ss) (k : Asd S w w') (hd : ∀ i, P i → i < w.heap.size → ¬ S i) : StrsAt P w' v ss := by
  rcases h with h | ⟨g, o, c, e, hle, hp, hlt, hc⟩
  · exact .inl h
  · exact .inr ⟨g, o, c, e, hle, hp, Nat.lt_of_lt_of_le hlt k.size, fun j s hs => cell_asd k (hd g hp hlt) (hc j s hs)⟩
theorem StrsAt.mono {P P' : Nat → Prop} {w : World} {v : Value} {ss : List Bs} (h : StrsAt P w v ss) (hp : ∀ i, P i → i < w.heap.size → P' i) : StrsAt P' w v ss := by
  rcases h with h | ⟨g, o, c, e, hle, hq, hlt, hc⟩
  · exact .inl h
  · exact .inr ⟨g, o, c, e, hle, hp g hq hlt, hlt, hc⟩
theorem StrsAt.one {P : Nat → Prop} {w : World} {v : Value} {ss : List Bs} (h : StrsAt P w v ss) : v.oneCell' = true := by
  rcases h with ⟨_, a, c, rfl⟩ | ⟨g, o, c, rfl, _⟩ <;> rfl
theorem own_strs {w : World} {base : Nat} {v : Value} {ss : List Bs} (h : w.ownsRow base 9 1 v ss.length (ss.map sv)) : StrsAt (fun k => v.ownBlock = some k) w v ss := by
  have hc := h
  rcases h.2 with ⟨rfl, h0⟩ | ⟨g, cap, cur, rfl, hb, hg, hn, _⟩
  · exact .inl ⟨List.eq_nil_of_length_eq_zero h0, none, 0, rfl⟩
  · refine .inr ⟨g, 0, cap, rfl, hn, rfl, (Array.getElem?_eq_some_iff.1 hg).1, fun j s hs => ?_⟩
    have h1 := hc.cells (g := g) rfl j (sv s) (by simp [hs])
    rw [show (⟨g, 0 + j, none⟩ : Addr) = (⟨g, 0, none⟩ : Addr).add j by unfold Addr.add; split <;> simp_all]
    exact h1
end Go.Proofs.YtknhkmlihbgjpaaDoor
/- A slice of texts that comes in. -/
namespace Go.Proofs.YtknhkmlihbgjpaaDoor
open Go.ChangeShapes Go.WideShapes Go.RowKit

theorem add_at (g o j : Nat) : (⟨g, o, none⟩ : Addr).add j = ⟨g, o + j, none⟩ := by unfold Addr.add; split <;> simp_all
theorem StrsAt.stay {P : Nat → Prop} {w w' : World} {v : Value} {ss : List Bs} (h : StrsAt P w v ss) (k : Below w.heap.size w w') : StrsAt P w' v ss := h.keepN (S := fun _ => False) (Asd.of_below k) (fun _ _ _ e => e)
theorem StrsAt.shape {P : Nat → Prop} {w : World} {v : Value} {ss : List Bs} (h : StrsAt P w v ss) : ∃ a c, v = .slice a ss.length c := by
  rcases h with ⟨rfl, a, c, rfl⟩ | ⟨g, o, c, rfl, _⟩
  · exact ⟨a, c, rfl⟩
  · exact ⟨_, _, rfl⟩
theorem StrsAt.text {P : Nat → Prop} {w : World} {a : Option Addr} {n c : Nat} {ss : List Bs} (h : StrsAt P w (.slice a n c) ss) {q : Nat} {s : Bs} (hq : ss[q]? = some s) : ∃ g o, a = some ⟨g, o, none⟩ ∧ g < w.heap.size ∧ w.cell? ⟨g, o + q, none⟩ = some (.string ⟨s.toArray⟩) := by
  rcases h with ⟨rfl, _⟩ | ⟨g, o, c, e, _, _, hg, hc⟩
  · cases hq
  · injection e with e1 _ _
    exact ⟨g, o, e1, hg, hc q s hq⟩
set_option maxRecDepth 100000 in
/-- Texts that come in. -/
theorem open_strs {H : Type} {enc : TypeId × Value → H} {w : World} {r : Reach} {b0 : Nat} {v : Value} {d : DataW H} {p : List MemPlace} (hv : Value.okWide Tryd.prog w r b0 99 v) (h : DataW.Trod enc Tryd.prog w 0 (fun _ => true) true 99 v d p) :
    ∃ ss : List Bs, StrsAt (fun _ => True) w v ss ∧ (∀ s ∈ ss, s.length ≤ 9223372036854775807) ∧ ss.length ≤ 9223372036854775807 := by
  obtain ⟨aa, n, cap, rfl⟩ := okWide_slice Tryd.underlying99 hv
  obtain ⟨fuel, hf⟩ := h
  rcases Go.Deep.open_strs Tryd.underlying99 Tryd.underlying9 (by kernel_rfl) hf with ⟨e, _⟩ | ⟨ad, len, cap', m, Sx, e, _, hl, hm, hmm, _, hc⟩
  · simp [Value.cells] at e
    obtain ⟨rfl, rfl, rfl⟩ := e
    exact ⟨[], .inl ⟨rfl, _, _, rfl⟩, by simp, by simp⟩
  · simp [Value.cells] at e
    obtain ⟨rfl, rfl, rfl⟩ := e
    simp at hmm
    have hml : maxLen = 9223372036854775807 := rfl
    refine ⟨(List.range n).map fun i => (Sx i).data.toList, ?_, fun s hs => ?_, by simp; omega⟩
    · cases n with
      | zero => exact .inl ⟨rfl, _, _, rfl⟩
      | succ n =>
        obtain ⟨bb, off, spot⟩ := ad
        have hspot : spot = none := by have h0 := (hc 0 (by omega)).1; have := World.cell?_spot h0; simpa [Addr.add] using this
        subst hspot
        have hlt : bb < w.heap.size := by have h0 := (hc 0 (by omega)).1; have := World.block_lt_of_cell? w _ h0; simpa [Addr.add] using this
        refine .inr ⟨bb, off, cap, by simp, by simpa using hl, trivial, hlt, fun j s hs => ?_⟩
        have hj : j < n + 1 := by have := (List.getElem?_eq_some_iff.1 hs).1; simpa using this
        have h1 := (hc j (by omega)).1
        rw [show (⟨bb, off, none⟩ : Addr).add j = ⟨bb, off + j, none⟩ from add_at bb off j] at h1
        rw [h1]
        rw [List.getElem?_map, List.getElem?_range hj] at hs
        injection hs with hs
        rw [← hs]
    · obtain ⟨i, hi, rfl⟩ := List.mem_map.1 hs
      have := (hc i (by have := List.mem_range.1 hi; omega)).2
      rw [Array.length_toList]
      exact this
end Go.Proofs.YtknhkmlihbgjpaaDoor
