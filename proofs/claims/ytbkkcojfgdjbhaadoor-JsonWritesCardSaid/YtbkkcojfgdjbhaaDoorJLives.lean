/- The statements' head: a list is read, and written. -/
import Derived.Test.YtbkkcojfgdjbhaaDoorJWrite
namespace Go.Proofs.YtbkkcojfgdjbhaaDoor
open Go.ChangeShapes Go.WideShapes Go.RowKit

def liveL : Bs := [32, 91, 32, 49, 32, 44, 32, 34, 97, 92, 117, 48, 48, 101, 57, 34, 32, 93, 32]
def liveJ : J := .mk 5 0 [] [] [.mk 3 1 [] [] [], .mk 4 0 [97, 195, 169] [] []]
theorem live_read : readN liveL = (liveJ, 0) := by kernel_rfl
theorem live_write : writeN liveJ = ([91, 49, 44, 34, 97, 195, 169, 34, 93], 0) := by kernel_rfl
theorem live_right : rightN liveJ = true := by kernel_rfl
theorem live_siz : Siz 7 liveJ := by
  refine ⟨by simp, by simp, by simp, by simp, ?_⟩
  intro kid hk
  simp at hk
  rcases hk with rfl | rfl <;> exact ⟨by simp, by simp, by simp, by simp, by simp⟩
theorem live_rg : Rg 6 liveJ := by
  refine ⟨by decide, ?_⟩
  intro kid hk
  simp at hk
  rcases hk with rfl | rfl <;> exact ⟨by decide, by simp⟩
set_option maxHeartbeats 1600000 in
set_option maxRecDepth 100000 in
theorem lives_any (w : World) (hE : Env w) : Calls Tryd.prog 11 #[] w fun e w' => e = .returned (.bool true) ∧ Below w.heap.size w w' := by
  have hbig := hE.big
  have K : Hid (Calls Tryd.prog 19 #[.string { data := #[32, 91, 32, 49, 32, 44, 32, 34, 97, 92, 117, 48, 48, 101, 57, 34, 32, 93, 32] }] w fun e w' => ∃ cs, e = .returned (.tuple #[.agg cs.toArray, .int .i64 0]) ∧ JAt (fun k => w.heap.size ≤ k) w' 7 cs liveJ ∧ Below w.heap.size w w') := by
    have := read_any liveL w hE (by decide)
    rw [live_read] at this
    exact this
  go_enter Tryd.func11, Tryd.ntmps11
  go_wp2_with fail
  refine K.out.mono ?_
  rintro e w1 ⟨cs, rfl, hJ, hb1⟩
  clear K
  obtain ⟨h5, h1⟩ := hJ.five
  have rN := Rw.new w1 29 zero5
  go_upto_region 2 with (refine store_arr w1.heap.size 29 zero5 rN 5 rfl 29 (by kernel_rfl) cs h5 h1 _ _ rfl rfl rfl rfl ?_)
  rw [World.setRow_alloc_new]
  have rT := Rw.new w1 29 cs
  have hb2 : Below w1.heap.size w1 (w1.alloc (.cells cs.toArray 29)) := (Below.refl _ _).alloc (Nat.le_refl _) _
  replace hJ := hJ.keep (S := fun _ => False) (Asd.of_below hb2) (fun _ _ _ h => h)
  have hB2 := hb1.trans (hb2.mono hb1.size)
  clear rN hb1 hb2
  generalize w1.alloc (.cells cs.toArray 29) = W2 at *
  generalize w1.heap.size = T at *
  have K2 : Hid (Calls Tryd.prog 13 #[.agg cs.toArray] W2 fun e w' => e = .returned (.tuple #[.string { data := #[91, 49, 44, 34, 97, 195, 169, 34, 93] }, .int .i64 0]) ∧ Below W2.heap.size W2 w') := by
    have := write_any _ 7 cs liveJ W2 hJ (hE.keep (hB2.mono hbig)) live_siz live_rg
    rw [live_write] at this
    exact this
  go_wp2_with (refine load_val T 29 cs rT h5 _ rfl rfl rfl ?_)
  refine K2.out.mono ?_
  rintro e w3 ⟨rfl, hb3⟩
  replace hJ := hJ.keep (S := fun _ => False) (Asd.of_below hb3) (fun _ _ _ h => h)
  replace rT := rT.stay hb3
  have hB3 := hB2.trans (hb3.mono hB2.size)
  clear K2 hB2 hb3
  have K3 : Hid (Calls Tryd.prog 16 #[.agg cs.toArray] w3 fun e w' => e = .returned (.bool true) ∧ Below w3.heap.size w3 w') := by
    have := right_any _ 7 cs liveJ w3 hJ (hE.keep (hB3.mono hbig)) live_siz
    rw [live_right] at this
    exact this
  obtain ⟨kv, dv, rfl, _, hdv⟩ := hJ
  obtain ⟨g, o, c, rfl⟩ : ∃ g o c, dv = .slice (some ⟨g, o, none⟩) 2 c := by
    rcases hdv with ⟨h, _⟩ | ⟨g, o, c, e, _⟩
    · cases h
    · exact ⟨g, o, c, e⟩
  have c4 := Rw.cell rT 4
  change _ = some (Value.slice (some ⟨g, o, none⟩) 2 c) at c4
  have c0 := Rw.cell rT 0
  have c1 := Rw.cell rT 1
  have c2 := Rw.cell rT 2
  have c3 := Rw.cell rT 3
  change _ = some (Value.int .i64 5) at c0
  change _ = some (Value.int .i64 0) at c1
  change _ = some (Value.string ⟨#[]⟩) at c2
  change _ = some kv at c3
  clear hdv
  go_wp2_with fail
  refine K3.out.mono ?_
  rintro e w4 ⟨rfl, hb4⟩
  have hB4 := hB3.trans (hb4.mono hB3.size)
  clear K3 c0 c1 c2 c3 c4
  go_wp2_with fail
  go_ret
  exact ⟨rfl, hB4⟩
end Go.Proofs.YtbkkcojfgdjbhaaDoor
