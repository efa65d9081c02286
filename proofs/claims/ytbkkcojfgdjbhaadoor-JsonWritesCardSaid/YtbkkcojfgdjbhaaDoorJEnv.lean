/- What the program's own variables hold, and blanks that are passed over. -/
import Derived.Test.YtbkkcojfgdjbhaaDoorJTake
import Derived.Test.YtbkkcojfgdjbhaaDoorJHex
import Derived.Test.YtbkkcojfgdjbhaaDoorShelf
import Derived.Shelf.Strings.SlTrimAscii
import Derived.Lib.LaidTab
namespace Go.Proofs.YtbkkcojfgdjbhaaDoor
open Go.ChangeShapes Go.WideShapes Go.RowKit

/-- The tables and the errors that the program's variables hold. -/
structure Env (w : World) : Prop where
  utf : Lib.Utf8Tabs 2 3 w
  syn : ∃ t p, w.cell? ⟨5, 0, none⟩ = some (.iface t p)
  rng : ∃ t p, w.cell? ⟨6, 0, none⟩ = some (.iface t p)
  pow : ∀ w', Below 10 w w' → Lib.TabIs Tryd.prog w' "internal/strconv.uint64pow10" .u64 Lib.pow10Tab
  opn : ∀ (j c : Nat), [0, 0, 0, 0, 0, 91, 123][j]? = some c → w.cell? ⟨0, j, none⟩ = some (.int .u8 (c : Int))
  cls : ∀ (j c : Nat), [0, 0, 0, 0, 0, 93, 125][j]? = some c → w.cell? ⟨1, j, none⟩ = some (.int .u8 (c : Int))
  big : 10 ≤ w.heap.size
theorem low_cell {w w' : World} (h : Below 10 w w') {g j : Nat} {v : Value} (hg : g < 10) (k : w.cell? ⟨g, j, none⟩ = some v) : w'.cell? ⟨g, j, none⟩ = some v := by rw [h.cell hg]; exact k
theorem Env.keep {w w' : World} (h : Env w) (k : Below 10 w w') : Env w' := by
  obtain ⟨t1, p1, e1⟩ := h.syn
  obtain ⟨t2, p2, e2⟩ := h.rng
  exact ⟨⟨fun c hc => low_cell k (by decide) (h.utf.1 c hc), fun i hi => ⟨low_cell k (by decide) (h.utf.2 i hi).1, low_cell k (by decide) (h.utf.2 i hi).2⟩⟩, ⟨t1, p1, low_cell k (by decide) e1⟩, ⟨t2, p2, low_cell k (by decide) e2⟩,
    fun w2 h2 => h.pow w2 (k.trans h2), fun j c e => low_cell k (by decide) (h.opn j c e), fun j c e => low_cell k (by decide) (h.cls j c e), Nat.le_trans h.big k.size⟩
/-- What a reader does keeps the variables. -/
theorem Env.asd {w w' : World} {S : Nat → Prop} (h : Env w) (k : Asd S w w') (hs : ∀ i, S i → 10 ≤ i) : Env w' := h.keep (k.toBelow h.big hs)
theorem Env.one {w w' : World} {R : Nat} (h : Env w) (k : Asd (· = R) w w') (hR : 10 ≤ R) : Env w' := h.asd k (fun _ e => e ▸ hR)

theorem trim_any (l : Bs) (w : World) : Calls Tryd.prog 45 #[.string ⟨l.toArray⟩, .string ⟨#[9, 10, 13, 32]⟩] w fun e w' => e = .returned (.string ⟨(skipB l).toArray⟩) ∧ Below w.heap.size w w' :=
  (Any.strings_TrimLeft_laid Tryd.lays161 (by kernel_rfl) ⟨l.toArray⟩ ⟨#[9, 10, 13, 32]⟩ w (by decide) (ascii_of_all (by decide))).mono fun e w' h => h

set_option maxHeartbeats 400000 in
theorem skip_any (R : Nat) (l : Bs) (n : Nat) (M : Value) (w : World) (h : Rq w R l n M) :
    Calls Tryd.prog 30 #[.pointer (some ⟨R, 0, none⟩)] w fun e w' => e = .returned (.tuple #[]) ∧ Rq w' R (skipB l) n M ∧ Asd (· = R) w w' := by
  have c0 := h.rest
  have K := Lib.hid (trim_any l w)
  generalize skipB l = l2 at *
  go_enter Tryd.func30, Tryd.ntmps30
  go_wp2_with fail
  with_reducible refine K.out.mono ?_
  rintro e w1 ⟨rfl, hb⟩
  replace h := h.stay hb
  have f0 := Rw.frozen h 0
  have c1 := h.rest
  clear c0 K
  go_wp2_with fail
  go_end0
  exact ⟨rfl, h.set l2, (Asd.of_below hb).set1 _ _⟩
set_option maxHeartbeats 400000 in
theorem comma_hit (R : Nat) (l : Bs) (n : Nat) (M : Value) (w : World) (h : Rq w R (44 :: l) n M) :
    Calls Tryd.prog 69 #[.pointer (some ⟨R, 0, none⟩)] w fun e w' => e = .returned (.bool true) ∧ Rq w' R (skipB l) n M ∧ Asd (· = R) w w' := by
  have K := Lib.hid (take_hit R 44 l n M w h)
  go_enter Tryd.func69, Tryd.ntmps69
  go_wp2_with fail
  refine K.out.mono ?_
  rintro e w1 ⟨rfl, h1, a1⟩
  clear K h
  go_wp2_with fail
  refine (skip_any R l n M w1 h1).mono ?_
  rintro e w2 ⟨rfl, h2, a2⟩
  go_wp2_with fail
  go_ret
  exact ⟨rfl, h2, a1.andThen a2⟩
set_option maxHeartbeats 400000 in
theorem comma_miss (R : Nat) (l : Bs) (n : Nat) (M : Value) (w : World) (h : Rq w R l n M) (hm : l.head? ≠ some 44) :
    Calls Tryd.prog 69 #[.pointer (some ⟨R, 0, none⟩)] w fun e w' => e = .returned (.bool false) ∧ w' = w := by
  have K := Lib.hid (take_miss R 44 l n M w h hm 44 rfl)
  go_enter Tryd.func69, Tryd.ntmps69
  go_wp2_with fail
  refine K.out.mono ?_
  rintro e w1 ⟨rfl, rfl⟩
  go_wp2_with fail
  go_ret
  exact ⟨rfl, rfl⟩
end Go.Proofs.YtbkkcojfgdjbhaaDoor
