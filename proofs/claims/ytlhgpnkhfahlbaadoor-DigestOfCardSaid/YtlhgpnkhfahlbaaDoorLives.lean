/- lives: the digest of abc. early: the first bytes. -/
import Derived.Test.YtlhgpnkhfahlbaaDoorHex
import Derived.Lib.SlBytesConst
namespace Go.Proofs.YtlhgpnkhfahlbaaDoor
open Go.ChangeShapes Go.WideShapes Go.RowKit

theorem sha_abc : bs (hexN (shaN [97, 98, 99])) = ⟨#[98, 97, 55, 56, 49, 54, 98, 102, 56, 102, 48, 49, 99, 102, 101, 97, 52, 49, 52, 49, 52, 48, 100, 101, 53, 100, 97, 101, 50, 50, 50, 51, 98, 48, 48, 51, 54, 49, 97, 51, 57, 54, 49, 55, 55, 97, 57, 99, 98, 52, 49, 48, 102, 102, 54, 49, 102, 50, 48, 48, 49, 53, 97, 100]⟩ := by kernel_rfl
theorem dg_u {ws : List Nat} (h : ∀ x ∈ ws, U32 x) (k : Nat) : ∀ x ∈ dg ws k, U8 x := by
  induction k with
  | zero => exact zs_u 32
  | succ k ih => exact put4L_u ih _ (u32_get h k)
theorem shaN_u (l : List Nat) : ∀ x ∈ shaN l, U8 x := dg_u (hsN_u _ _) 8
theorem Rw.bytes {w : World} {g : Nat} {t : TypeId} {xs : List Nat} (h : Rw w g t (xs.map v8)) (cap : Nat) (hc : xs.length ≤ cap) : BytesAt w (.slice (some ⟨g, 0, none⟩) xs.length cap) xs :=
  ⟨_, cap, rfl, hc, fun _ => ⟨g, 0, rfl, Rw.cls h 0 _ (fun j v hv => by rw [Nat.zero_add]; exact hv)⟩⟩

set_option maxHeartbeats 800000 in
theorem lives_any (w : World) (ht : Tabs w) :
    Calls Tryd.prog 8 #[] w fun e w' => e = .returned (.bool true) ∧ Below w.heap.size w w' := by
  have Habc : Unit → bs (hexN (shaN [97, 98, 99])) = _ := fun _ => sha_abc
  have hsl : (shaN [97, 98, 99]).length = 32 := shaN_len _
  have hsu := shaN_u [97, 98, 99]
  generalize hS : shaN [97, 98, 99] = S at *
  have HS : Unit → shaN [97, 98, 99] = S := fun _ => hS
  clear hS
  have hcv := Lib.run_convert_bytes_const (P := Tryd.prog) w 22 5 #[.int .u8 97, .int .u8 98, .int .u8 99] 3 3 (by kernel_rfl) (by kernel_rfl)
  go_enter Tryd.func8, Tryd.ntmps8
  go_wp2_with fail
  clear hcv
  have hB := (Below.refl _ w).alloc (Nat.le_refl _) (.cells #[.int .u8 97, .int .u8 98, .int .u8 99] 5 (3, 4))
  have hC : Cls (w.alloc (.cells #[.int .u8 97, .int .u8 98, .int .u8 99] 5 (3, 4))) w.heap.size 0 ([97, 98, 99].map v8) := fun j v hv => by
    rw [cell_of_row _ _ _ _ _ _ (heap_alloc_last w _), Nat.zero_add, show (#[.int .u8 97, .int .u8 98, .int .u8 99] : Array Value) = ([97, 98, 99].map v8).toArray from rfl, List.getElem?_toArray]; exact hv
  generalize w.alloc (.cells #[.int .u8 97, .int .u8 98, .int .u8 99] 5 (3, 4)) = W at *
  replace ht := ht.keep hB
  refine (of_any _ [97, 98, 99] _ ht ⟨_, 3, rfl, by simp, fun _ => ⟨_, 0, rfl, hC⟩⟩ (by intro x hx; simp at hx; unfold U8; omega) (by simp)).mono ?_
  rintro e w1 ⟨rfl, hb1⟩
  rw [HS ()]
  replace hB := hB.trans (hb1.mono hB.size)
  have r0 := Rw.new w1 25 (S.map v8)
  replace hB := hB.alloc hB.size (.cells (S.map v8).toArray 25)
  have hs : (S.map v8).length = 32 := by rw [List.length_map, hsl]
  have h1 := one8 S
  clear hb1 hC ht
  go_upto_region 2 with (refine store_arr w1.heap.size 25 ((zs 32).map v8) (Rw.new w1 25 ((zs 32).map v8)) 32 rfl 25 (by kernel_rfl) _ hs h1 _ _ rfl rfl rfl rfl ?_)
  rw [World.setRow_alloc_new]
  generalize w1.alloc (.cells (S.map v8).toArray 25) = W1 at *
  generalize w1.heap.size = D at *
  have hca := cut_all (P := Tryd.prog) 25 5 32 D (by kernel_rfl) (by kernel_rfl)
  go_wp2_with fail
  clear hca
  have hby := r0.bytes 32 (by omega)
  rw [hsl] at hby
  refine (hex_any _ S _ hby hsu (by omega)).mono ?_
  rintro e w2 ⟨rfl, hb2⟩
  replace hB := hB.trans (hb2.mono hB.size)
  rw [Habc ()]
  clear r0 hby hb2
  go_wp2_with fail
  go_ret
  exact ⟨rfl, hB⟩

set_option maxHeartbeats 800000 in
theorem early_any (v : Value) (b : List Nat) (w : World) (hv : BytesAt w v b) (hl : b.length ≤ 9223372036854775807) :
    Calls Tryd.prog 9 #[v] w fun e w' => (∃ u, e = .returned u ∧ BytesAt w' u (b.take 300)) ∧ w' = w := by
  obtain ⟨a, cap, rfl, hc, hk⟩ := hv
  go_enter Tryd.func9, Tryd.ntmps9
  go_wp2_with fail
  · go_ret
    refine ⟨⟨_, rfl, a, cap, ?_, by simp; omega, fun hn => ?_⟩, rfl⟩
    · rw [List.length_take, show min 300 b.length = 300 by omega]; rfl
    · obtain ⟨g, o, e, hcl⟩ := hk (fun e => hn (by rw [e]; rfl))
      exact ⟨g, o, e, by rw [List.map_take]; exact hcl.take 300⟩
  · go_ret
    refine ⟨⟨_, rfl, a, cap, ?_, by simp; omega, fun hn => ?_⟩, rfl⟩
    · rw [List.length_take, show min 300 b.length = b.length by omega]; rfl
    · obtain ⟨g, o, e, hcl⟩ := hk (fun e => hn (by rw [e]; rfl))
      exact ⟨g, o, e, by rw [List.map_take]; exact hcl.take 300⟩
end Go.Proofs.YtlhgpnkhfahlbaaDoor
