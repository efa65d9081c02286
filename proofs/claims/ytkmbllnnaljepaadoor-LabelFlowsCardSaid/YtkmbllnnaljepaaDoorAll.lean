/- label.All: the join of all labels of a slice; old memory stays as it was. -/
import Derived.Test.YtkmbllnnaljepaaDoorLeast
namespace Go.Proofs.YtkmbllnnaljepaaDoor
open Go.ChangeShapes Go.WideShapes Go.RowKit

/-- The join of all labels of a list, the lowest one first. -/
def allP (xs : List (Int × Int)) : Int × Int := xs.foldl (fun p x => (jL p.1 x.1, jC p.1 p.2 x.1 x.2)) (0, 0)
theorem allP_step {xs : List (Int × Int)} {k : Nat} {x : Int × Int} (h : xs[k]? = some x) : allP (xs.take (k + 1)) = (jL (allP (xs.take k)).1 x.1, jC (allP (xs.take k)).1 (allP (xs.take k)).2 x.1 x.2) := by
  rw [List.take_add_one, h]
  simp [allP, List.foldl_append]
theorem jC_range (l c m d : Int) (hc : c < 4294967296) (hd : d < 4294967296) : 0 ≤ jC l c m d ∧ jC l c m d < 4294967296 := by
  unfold jC
  split
  · exact or_range c d hc hd
  · omega
theorem allP_range (xs : List (Int × Int)) (hr : ∀ x ∈ xs, 0 ≤ x.2 ∧ x.2 < 4294967296) (k : Nat) : 0 ≤ (allP (xs.take k)).2 ∧ (allP (xs.take k)).2 < 4294967296 := by
  induction k with
  | zero => simp [allP]
  | succ k ih =>
    cases h : xs[k]? with
    | none =>
      rw [List.take_add_one, h]
      simpa using ih
    | some x =>
      rw [allP_step h]
      exact jC_range _ _ _ _ ih.2 (hr x (List.mem_of_getElem? h)).2

/-- The slice that starts at a holds the labels xs. -/
def LabsAt (w : World) (a : Option Addr) (xs : List (Int × Int)) : Prop := ∀ (j : Nat) (x : Int × Int), xs[j]? = some x → ∃ g o, a = some ⟨g, o, none⟩ ∧ w.cell? ⟨g, o + j * 2, none⟩ = some (.int .i64 x.1) ∧ w.cell? ⟨g, o + j * 2 + 1, none⟩ = some (.int .u32 x.2)
theorem LabsAt.keep {w w' : World} {a : Option Addr} {xs : List (Int × Int)} (h : LabsAt w a xs) (hb : Below w.heap.size w w') : LabsAt w' a xs := fun j x hx =>
  let ⟨g, o, e, h1, h2⟩ := h j x hx
  ⟨g, o, e, Below.keeps hb h1, Below.keeps hb h2⟩

set_option maxHeartbeats 1000000 in
set_option maxRecDepth 100000 in
theorem all_any (a : Option Addr) (cap : Nat) (xs : List (Int × Int)) (hn : xs.length ≤ 1000000000) (hr : ∀ x ∈ xs, 0 ≤ x.2 ∧ x.2 < 4294967296) (w : World) (hc : LabsAt w a xs) :
    Calls Tryd.prog 27 #[.slice a xs.length cap] w fun e w' => e = .returned (.agg #[.int .i64 (allP xs).1, .int .u32 (allP xs).2]) ∧ Below w.heap.size w w' := by
  have Hr := Lib.hid hr
  clear hr
  have Hc := Lib.hid hc
  clear hc
  have hu0 := LabU.one w 0 0
  have hB0 := (Below.refl w.heap.size w).alloc (Nat.le_refl _) (.cells #[.int .i64 0, .int .u32 0] 24)
  go_enter Tryd.func27, Tryd.ntmps27
  go_wp2_with fail
  refine (lowest_any _).mono ?_
  rintro e w1 ⟨rfl, hb⟩
  have hB1 := hB0.trans (hb.mono hB0.size)
  have hu1 := hu0.keep hb
  have hlt : w.heap.size < w1.heap.size := World.block_lt_of_cell? _ _ hu1.1
  clear hb hu0 hB0
  go_wp2
  go_loopw [9] (fun i wr => ∃ k : Nat, k ≤ xs.length ∧ i = .int .i64 k ∧ LabU wr w1.heap.size (allP (xs.take k)).1 (allP (xs.take k)).2 ∧ LabU wr w.heap.size 0 0 ∧ Below w.heap.size w wr)
    (fun i _ => xs.length - (intOf i).toNat)
  case atStart =>
    exact ⟨0, Nat.zero_le _, rfl, LabU.one w1 0 0, hu1.later _, hB1.alloc (by omega) _⟩
  case round =>
    obtain ⟨k, hk, rfl, hJ, hU, hB⟩ := hrel
    by_cases hlt2 : k < xs.length
    · obtain ⟨x, hx⟩ : ∃ x, xs[k]? = some x := ⟨_, List.getElem?_eq_getElem hlt2⟩
      have hs := allP_step hx
      have hr1 := Hr.out x (List.mem_of_getElem? hx)
      have hr2 := allP_range xs Hr.out k
      obtain ⟨g, o, rfl, c0, c1⟩ := (Hc.out.keep hB) k x hx
      obtain ⟨lx, cx⟩ := x
      generalize allP (xs.take k) = y at *
      obtain ⟨ly, cy⟩ := y
      simp only at c0 c1 hr1 hr2 hs
      have Hs := Lib.hid hs
      clear hs hx
      have hJ1 := hJ.later (.cells #[.int .i64 lx, .int .u32 cx] 24)
      have hU1 := hU.later (.cells #[.int .i64 lx, .int .u32 cx] 24)
      have hB2 := hB.alloc (World.block_lt_of_cell? _ _ hU.1 |> Nat.le_of_lt) (.cells #[.int .i64 lx, .int .u32 cx] 24)
      have hlt3 : w1.heap.size < wr.heap.size := World.block_lt_of_cell? _ _ hJ.1
      have HU := Lib.hid hU
      clear hU
      obtain ⟨j0, j1, j2, j3⟩ := hJ
      go_wp2_with fail
      refine (join_any ly cy lx cx (by omega) (by omega) (by omega) (by omega) _).mono ?_
      rintro e w2 ⟨rfl, hb⟩
      have hJ2 := hJ1.keep hb
      have hU2 := hU1.keep hb
      have hB3 := hB2.trans (hb.mono hB2.size)
      have hJ3 := hJ2.put (jL ly lx) (jC ly cy lx cx)
      have hU3 := hU2.far (g := w1.heap.size) (by omega) (.int .i64 (jL ly lx)) (.int .u32 (jC ly cy lx cx))
      have hB4 := (hB3.setCell (p := ⟨w1.heap.size, 0, none⟩) (by simp; omega) (.int .i64 (jL ly lx))).setCell (p := ⟨w1.heap.size, 1, none⟩) (by simp; omega) (.int .u32 (jC ly cy lx cx))
      clear hJ1 hU1 hB2 hb j0 j1 j2 j3 hU2 hB3 c0 c1 hB
      obtain ⟨j0, j1, j2, j3⟩ := hJ2
      go_wp2
      go_roundw
      case rel => exact ⟨k + 1, by omega, by go_num, by rw [Hs.out]; exact hJ3, hU3, hB4⟩
      case measure => simp [intOf]; omega
    · have hke : k = xs.length := by omega
      subst hke
      have hlt3 : w.heap.size < wr.heap.size := World.block_lt_of_cell? _ _ hU.1
      rw [List.take_length] at hJ
      generalize hy : allP xs = y at *
      obtain ⟨ly, cy⟩ := y
      have hU3 := hU.put ly cy
      obtain ⟨j0, j1, j2, j3⟩ := hJ
      obtain ⟨u0, u1, u2, u3⟩ := hU
      go_wp2
      obtain ⟨v0, v1, _, _⟩ := hU3
      exact bodyPost_ret (v := .agg #[.int .i64 ly, .int .u32 cy]) (by simp [results, Tryd.results27, go_sem, v0, v1]) rfl ⟨rfl, (hB.setCell (p := ⟨w.heap.size, 0, none⟩) (by simp) _).setCell (p := ⟨w.heap.size, 1, none⟩) (by simp) _⟩
end Go.Proofs.YtkmbllnnaljepaaDoor
