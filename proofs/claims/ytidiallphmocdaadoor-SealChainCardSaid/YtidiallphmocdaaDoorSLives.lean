/- lives: the seal of known bytes. early: the first bytes. -/
import Derived.Test.YtidiallphmocdaaDoorSOf
import Derived.Lib.SlBytesConst
namespace Go.Proofs.YtidiallphmocdaaDoor
open Go.ChangeShapes Go.WideShapes Go.RowKit

def jefeL : List Nat := [74, 101, 102, 101]
def wantL : List Nat := [119, 104, 97, 116, 32, 100, 111, 32, 121, 97, 32, 119, 97, 110, 116, 32, 102, 111, 114, 32, 110, 111, 116, 104, 105, 110, 103, 63]
theorem jefe_u : ∀ x ∈ jefeL, U8 x := by unfold U8; decide
theorem want_u : ∀ x ∈ wantL, U8 x := by unfold U8; decide
theorem jefe_known : bs (headN jefeL wantL) = ⟨([115, 104, 97, 50, 53, 54, 61, 53, 98, 100, 99, 99, 49, 52, 54, 98, 102, 54, 48, 55, 53, 52, 101, 54, 97, 48, 52, 50, 52, 50, 54, 48, 56, 57, 53].append [55, 53, 99, 55, 53, 97, 48, 48, 51, 102, 48, 56, 57, 100, 50, 55, 51, 57, 56, 51, 57, 100, 101, 99, 53, 56, 98, 57, 54, 52, 101, 99, 51, 56, 52, 51]).toArray⟩ := by kernel_rfl
theorem fresh_const (w : World) (xs : List Nat) (fr : Nat × Nat) : Cls (w.alloc (.cells (xs.map v8).toArray 5 fr)) w.heap.size 0 (xs.map v8) := fun j v hv => by
  rw [cell_of_row _ _ _ _ _ _ (heap_alloc_last w _), Nat.zero_add, List.getElem?_toArray]; exact hv

set_option maxRecDepth 100000 in
set_option maxHeartbeats 1600000 in
theorem slives_any (w : World) (ht : Tabs w) :
    Calls Tryd.prog 27 #[] w fun e w' => e = .returned (.bool true) ∧ Below w.heap.size w w' := by
  have Hj : Unit → bs (headN jefeL wantL) = _ := fun _ => jefe_known
  have hcv := Lib.run_convert_bytes_const (P := Tryd.prog) w 22 5 #[.int .u8 74, .int .u8 101, .int .u8 102, .int .u8 101] 4 4 (by kernel_rfl) (by kernel_rfl)
  have hcw := Lib.run_convert_bytes_const (P := Tryd.prog) (w.alloc (.cells #[.int .u8 74, .int .u8 101, .int .u8 102, .int .u8 101] 5 (4, 5))) 22 5 #[.int .u8 119, .int .u8 104, .int .u8 97, .int .u8 116, .int .u8 32, .int .u8 100, .int .u8 111, .int .u8 32, .int .u8 121, .int .u8 97, .int .u8 32, .int .u8 119, .int .u8 97, .int .u8 110, .int .u8 116, .int .u8 32, .int .u8 102, .int .u8 111, .int .u8 114, .int .u8 32, .int .u8 110, .int .u8 111, .int .u8 116, .int .u8 104, .int .u8 105, .int .u8 110, .int .u8 103, .int .u8 63] 28 28 (by kernel_rfl) (by kernel_rfl)
  rw [World.size_alloc] at hcw
  go_enter Tryd.func27, Tryd.ntmps27
  go_wp2_with fail
  clear hcv hcw
  have h0 := fresh_const w jefeL (4, 5)
  have h1 := fresh_const (w.alloc (.cells (jefeL.map v8).toArray 5 (4, 5))) wantL (28, 29)
  have hB1 : Below w.heap.size w (w.alloc (.cells (jefeL.map v8).toArray 5 (4, 5))) := (Below.refl _ w).alloc (Nat.le_refl _) _
  have hB2 : Below (w.alloc (.cells (jefeL.map v8).toArray 5 (4, 5))).heap.size (w.alloc (.cells (jefeL.map v8).toArray 5 (4, 5))) ((w.alloc (.cells (jefeL.map v8).toArray 5 (4, 5))).alloc (.cells (wantL.map v8).toArray 5 (28, 29))) := (Below.refl _ _).alloc (Nat.le_refl _) _
  have hs1 : (w.alloc (.cells (jefeL.map v8).toArray 5 (4, 5))).heap.size = w.heap.size + 1 := World.size_alloc ..
  have hw : (w.alloc (.cells #[.int .u8 74, .int .u8 101, .int .u8 102, .int .u8 101] 5 (4, 5))).alloc (.cells #[.int .u8 119, .int .u8 104, .int .u8 97, .int .u8 116, .int .u8 32, .int .u8 100, .int .u8 111, .int .u8 32, .int .u8 121, .int .u8 97, .int .u8 32, .int .u8 119, .int .u8 97, .int .u8 110, .int .u8 116, .int .u8 32, .int .u8 102, .int .u8 111, .int .u8 114, .int .u8 32, .int .u8 110, .int .u8 111, .int .u8 116, .int .u8 104, .int .u8 105, .int .u8 110, .int .u8 103, .int .u8 63] 5 (28, 29)) = (w.alloc (.cells (jefeL.map v8).toArray 5 (4, 5))).alloc (.cells (wantL.map v8).toArray 5 (28, 29)) := rfl
  rw [hw]
  clear hw
  replace h0 := h0.keep hB2
  rw [hs1] at h1
  have hB := hB1.trans (hB2.mono hB1.size)
  clear hB1 hB2 hs1
  generalize (w.alloc (.cells (jefeL.map v8).toArray 5 (4, 5))).alloc (.cells (wantL.map v8).toArray 5 (28, 29)) = W at *
  refine (header_any _ _ jefeL wantL W (ht.keep hB) ⟨_, 4, rfl, Nat.le_refl _, fun _ => ⟨_, 0, rfl, h0⟩⟩ ⟨_, 28, rfl, Nat.le_refl _, fun _ => ⟨_, 0, rfl, h1⟩⟩ jefe_u want_u (by decide) (by decide)).mono ?_
  rintro e w1 ⟨rfl, hb1⟩
  replace hB := hB.trans (hb1.mono hB.size)
  rw [Hj ()]
  clear h0 h1 hb1 Hj
  go_wp2_with fail
  go_ret
  exact ⟨rfl, hB⟩

set_option maxHeartbeats 800000 in
theorem searly_any (v : Value) (b : List Nat) (w : World) (hv : BytesAt w v b) (hl : b.length ≤ 9223372036854775807) :
    Calls Tryd.prog 28 #[v] w fun e w' => (∃ u, e = .returned u ∧ BytesAt w' u (b.take 200)) ∧ w' = w := by
  obtain ⟨a, cap, rfl, hc, hk⟩ := hv
  go_enter Tryd.func28, Tryd.ntmps28
  go_wp2_with fail
  · go_ret
    refine ⟨⟨_, rfl, a, cap, ?_, by simp; omega, fun hn => ?_⟩, rfl⟩
    · rw [List.length_take, show min 200 b.length = 200 by omega]; rfl
    · obtain ⟨g, o, e, hcl⟩ := hk (fun e => hn (by rw [e]; rfl))
      exact ⟨g, o, e, by rw [List.map_take]; exact hcl.take 200⟩
  · go_ret
    refine ⟨⟨_, rfl, a, cap, ?_, by simp; omega, fun hn => ?_⟩, rfl⟩
    · rw [List.length_take, show min 200 b.length = b.length by omega]; rfl
    · obtain ⟨g, o, e, hcl⟩ := hk (fun e => hn (by rw [e]; rfl))
      exact ⟨g, o, e, by rw [List.map_take]; exact hcl.take 200⟩
end Go.Proofs.YtidiallphmocdaaDoor
