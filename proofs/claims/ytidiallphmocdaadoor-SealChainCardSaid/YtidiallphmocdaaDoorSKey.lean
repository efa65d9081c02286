/- What Key and Chain return. -/
import Derived.Test.YtidiallphmocdaaDoorSApp
namespace Go.Proofs.YtidiallphmocdaaDoor
open Go.ChangeShapes Go.WideShapes Go.RowKit

theorem u8_app {k b : List Nat} (h : ∀ x ∈ k, U8 x) (h' : ∀ x ∈ b, U8 x) : ∀ x ∈ k ++ b, U8 x := fun x hx => by
  rcases List.mem_append.1 hx with h1 | h1
  · exact h x h1
  · exact h' x h1
theorem u8_zero : ∀ x ∈ [0], U8 x := fun x hx => by rw [List.mem_singleton.1 hx]; exact (show 0 < 256 by omega)
/-- A byte 0, alone in a new block. -/
theorem cls_zero (w : World) : Cls (w.alloc (.cells #[.int .u8 0] 5)) w.heap.size 0 ([0].map v8) := fun j v hv => by
  rw [cell_of_row _ _ _ _ _ _ (heap_alloc_last w _), Nat.zero_add, show (#[.int .u8 0] : Array Value) = ([0].map v8).toArray from rfl, List.getElem?_toArray]; exact hv

set_option maxRecDepth 100000 in
set_option maxHeartbeats 1600000 in
theorem key_any (v : Value) (s : ByteArray) (k : List Nat) (w : World) (ht : Tabs w) (hv : BytesAt w v k) (uk : ∀ x ∈ k, U8 x) (hl : k.length ≤ 1000000) (hs : s.size ≤ 10000) :
    Calls Tryd.prog 33 #[v, .string s] w fun e w' => (∃ u, e = .returned u ∧ BytesAt w' u (sealN k (0 :: sl s))) ∧ Below w.heap.size w w' := by
  go_enter Tryd.func33, Tryd.ntmps33
  have hb0 : Below w.heap.size w (w.alloc (.cells #[.int .u8 0] 5)) := (Below.refl _ w).alloc (Nat.le_refl _) _
  have hc0 := cls_zero w
  go_wp2_with (at_builtin; refine list_full_str w.heap.size 0 1 [0] rfl hc0 s (by omega) _ _ rfl rfl rfl rfl ?_)
  intro v1 w1 hv1 hb1
  replace hb0 := hb0.trans (hb1.mono (by omega))
  clear hb1 hc0
  have hl1 : ([0] ++ sl s).length ≤ 1000000 := by rw [List.length_append, sl_len, List.length_singleton]; omega
  have ua := u8_app u8_zero (sl_u s)
  have K1 := Lib.hid (seal_any _ _ k ([0] ++ sl s) w1 (ht.keep hb0) (hv.keep hb0) hv1 uk ua hl hl1)
  have Hs : Unit → sealN k (0 :: sl s) = sealN k ([0] ++ sl s) := fun _ => rfl
  have hsl := sealN_len k ([0] ++ sl s)
  generalize sealN k ([0] ++ sl s) = S at *
  clear hl1 ua hv1 hv
  go_wp2_with fail
  refine (K1.out).mono ?_
  rintro e w2 ⟨rfl, hb2⟩
  replace hb0 := hb0.trans (hb2.mono hb0.size)
  clear K1 hb2
  have hs' : (S.map v8).length = 32 := by rw [List.length_map, hsl]
  have h1 := one8 S
  go_upto_region 2 with (refine store_arr w2.heap.size 25 ((zs 32).map v8) (Rw.new w2 25 ((zs 32).map v8)) 32 rfl 25 (by kernel_rfl) _ hs' h1 _ _ rfl rfl rfl rfl ?_)
  rw [World.setRow_alloc_new]
  have r2 := Rw.new w2 25 (S.map v8)
  replace hb0 := hb0.alloc hb0.size (.cells (S.map v8).toArray 25)
  generalize w2.alloc (.cells (S.map v8).toArray 25) = W at *
  generalize w2.heap.size = D at *
  generalize (S.map v8).toArray = SA
  have hca := cut_all (P := Tryd.prog) 25 5 32 D (by kernel_rfl) (by kernel_rfl)
  have hby := r2.bytes 32 (by omega)
  rw [hsl] at hby
  clear hs' h1 r2
  go_wp2_with fail
  go_ret
  exact ⟨⟨_, rfl, by rw [Hs ()]; exact hby⟩, hb0⟩

/-- Slices of bytes in a row, from place o of block g on. -/
def PartsAt (w : World) (v : Value) (ls : List (List Nat)) : Prop := ∃ a cap, v = .slice a ls.length cap ∧ ∀ j p, ls[j]? = some p → ∃ g o u, a = some ⟨g, o, none⟩ ∧ w.cell? ⟨g, o + j, none⟩ = some u ∧ BytesAt w u p
theorem PartsAt.keep {w w' : World} {v : Value} {ls : List (List Nat)} (h : PartsAt w v ls) (hb : Below w.heap.size w w') : PartsAt w' v ls := by
  obtain ⟨a, cap, rfl, hk⟩ := h
  refine ⟨a, cap, rfl, fun j p hp => ?_⟩
  obtain ⟨g, o, u, e, hc, hu⟩ := hk j p hp
  exact ⟨g, o, u, e, by rw [hb.cell (World.block_lt_of_cell? w _ hc)]; exact hc, hu.keep hb⟩
theorem take_snoc {α : Type} {ls : List α} {j : Nat} {p : α} (h : ls[j]? = some p) : ls.take (j + 1) = ls.take j ++ [p] := by rw [List.take_add_one, h]; rfl
theorem chainN_nil (k : List Nat) : chainN k [] = sealN k [] := by rw [chainN, List.foldl_nil]
theorem chainN_u (k : List Nat) (ls : List (List Nat)) : ∀ x ∈ chainN k ls, U8 x := by
  unfold chainN
  generalize hd : sealN k [] = d
  have hl : ∀ x ∈ d, U8 x := by rw [← hd]; exact sealN_u _ _
  clear hd
  induction ls generalizing d with
  | nil => exact hl
  | cons p ps ih => rw [List.foldl_cons]; exact ih _ (sealN_u _ _)

set_option maxRecDepth 100000 in
set_option maxHeartbeats 1600000 in
theorem chain_any (v l : Value) (k : List Nat) (ls : List (List Nat)) (w : World) (ht : Tabs w) (hv : BytesAt w v k) (uk : ∀ x ∈ k, U8 x) (hl : k.length ≤ 1000000) (hls : PartsAt w l ls) (ull : ∀ p ∈ ls, (∀ x ∈ p, U8 x) ∧ p.length ≤ 1000) (hln : ls.length ≤ 1000000) :
    Calls Tryd.prog 36 #[v, l] w fun e w' => e = .returned (.agg ((chainN k ls).map v8).toArray) ∧ Below w.heap.size w w' := by
  obtain ⟨al, cl, hle, hkl⟩ := id hls
  subst hle
  have Hkl : Unit → ∀ j p, ls[j]? = some p → ∃ g o u, al = some ⟨g, o, none⟩ ∧ w.cell? ⟨g, o + j, none⟩ = some u ∧ BytesAt w u p := fun _ => hkl
  clear hkl hls
  go_enter Tryd.func36, Tryd.ntmps36
  go_upto_region 1 with fail
  have r0 := Rw.new w 25 ((zs 32).map v8)
  have hB := (Below.refl _ w).alloc (Nat.le_refl _) (.cells ((zs 32).map v8).toArray 25)
  change Code.wp _ _ _ _ (w.alloc (.cells ((zs 32).map v8).toArray 25))
  generalize w.alloc (.cells ((zs 32).map v8).toArray 25) = W at *
  generalize hZ : (zs 32).map v8 = Z at r0
  have HZ : Unit → Z.length = 32 := fun _ => by rw [← hZ]; rfl
  clear hZ
  have K1 := Lib.hid (seal_any v (.slice none 0 0) k [] W (ht.keep hB) (hv.keep hB) ⟨none, 0, rfl, Nat.le_refl _, fun h => absurd rfl h⟩ uk (fun x hx => absurd hx (by simp)) hl (by simp))
  have H0 : Unit → chainN k (ls.take 0) = sealN k [] := fun _ => by rw [List.take_zero, chainN_nil]
  have hCl0 := sealN_len k []
  generalize sealN k [] = C0 at *
  have hS : (C0.map v8).length = 32 := by rw [List.length_map, hCl0]
  have h1 := one8 C0
  go_wp2_with fail
  refine (K1.out).mono ?_
  rintro e w1 ⟨rfl, hb1⟩
  clear K1
  replace r0 := r0.keep hb1
  replace hB := hB.trans (hb1.mono hB.size)
  go_upto_region 2 with (refine store_arr w1.heap.size 25 ((zs 32).map v8) (Rw.new w1 25 ((zs 32).map v8)) 32 rfl 25 (by kernel_rfl) _ hS h1 _ _ rfl rfl rfl rfl ?_)
  rw [World.setRow_alloc_new]
  have r1 := Rw.new w1 25 (C0.map v8)
  have hND := r0.lt
  replace r0 := r0.past (.cells (C0.map v8).toArray 25)
  replace hB := hB.alloc hB.size (.cells (C0.map v8).toArray 25)
  generalize w1.alloc (.cells (C0.map v8).toArray 25) = W1 at *
  generalize w1.heap.size = D at *
  generalize (C0.map v8).toArray = CA
  clear hb1 hS h1
  go_upto_region 3 with fail
  go_loopw [12] (fun i wr => ∃ j : Nat, j ≤ ls.length ∧ i = .int .i64 (j : Int) ∧ Rw wr w.heap.size 25 Z ∧ Rw wr D 25 ((chainN k (ls.take j)).map v8) ∧ Below w.heap.size w wr) (fun i _ => ls.length - (intOf i).toNat)
  case atStart => exact ⟨0, by omega, rfl, r0, by rw [H0 ()]; exact r1, hB⟩
  case round =>
    clear r0 r1 hB H0
    obtain ⟨j, hj, rfl, r0, r1, hB⟩ := hrel
    by_cases hlt : j < ls.length
    · obtain ⟨p, hp⟩ : ∃ p, ls[j]? = some p := ⟨_, List.getElem?_eq_getElem hlt⟩
      obtain ⟨gp, op, up, rfl, hcp, hup⟩ := Hkl () j p hp
      obtain ⟨upp, lpp⟩ := ull p (List.mem_of_getElem? hp)
      have cp : wr.cell? ⟨gp, op + j, none⟩ = some up := by rw [hB.cell (World.block_lt_of_cell? w _ hcp)]; exact hcp
      replace hup := hup.keep hB
      have Hnx : Unit → chainN k (ls.take (j + 1)) = sealN k (chainN k (ls.take j) ++ p) := fun _ => by rw [take_snoc hp, chainN_snoc]
      have hCl := chainN_len k (ls.take j)
      have hCu := chainN_u k (ls.take j)
      generalize chainN k (ls.take j) = C at *
      have hji : (j : Int) < (ls.length : Int) := by omega
      have hca := cut_all (P := Tryd.prog) 25 5 32 D (by kernel_rfl) (by kernel_rfl)
      have hcD : Cls wr D 0 (C.map v8) := r1.cls 0 _ (fun j v hv => by rw [Nat.zero_add]; exact hv)
      clear hp hcp
      go_wp2_with (at_builtin; refine list_full_bytes D 0 32 C hCl hcD _ p hup (by omega) _ _ rfl rfl rfl rfl ?_)
      intro v5 w5 hv5 hb5
      replace r0 := r0.keep hb5
      replace r1 := r1.keep hb5
      replace hB := hB.trans (hb5.mono hB.size)
      have hl5 : (C ++ p).length ≤ 1000000 := by rw [List.length_append, hCl]; omega
      have K1 := Lib.hid (seal_any _ _ k (C ++ p) w5 (ht.keep hB) (hv.keep hB) hv5 uk (u8_app hCu upp) hl hl5)
      clear hb5 hcD cp hup hca hv5
      go_wp2_with fail
      refine (K1.out).mono ?_
      rintro e w6 ⟨rfl, hb6⟩
      clear K1
      replace r0 := r0.keep hb6
      replace r1 := r1.keep hb6
      replace hB := hB.trans (hb6.mono hB.size)
      have hC32 : (C.map v8).length = 32 := by rw [List.length_map, hCl]
      have Hcs : Unit → (chainN k (ls.take (j + 1))).map v8 = (sealN k (C ++ p)).map v8 := fun _ => by rw [Hnx ()]
      have hN : ((sealN k (C ++ p)).map v8).length = 32 := by rw [List.length_map, sealN_len]
      have h1 := one8 (sealN k (C ++ p))
      generalize (sealN k (C ++ p)).map v8 = cs at *
      clear hb6 Hnx hl5
      go_wp2_with (refine store_arr _ _ _ r1 32 hC32 25 (by kernel_rfl) cs hN h1 _ _ rfl rfl rfl rfl ?_)
      refine ⟨⟨j + 1, by omega, by simp, r0.rowOther (by omega) _, ?_, below_setRow hB (by omega) _⟩, by simp [intOf]; omega⟩
      rw [Hcs ()]
      exact r1.row cs
    · obtain rfl : j = ls.length := by omega
      rw [List.take_length] at r1
      have hs : ((chainN k ls).map v8).length = 32 := by rw [List.length_map, chainN_len]
      have h1 := one8 (chainN k ls)
      have hzl := HZ ()
      generalize hcs : (chainN k ls).map v8 = cs at *
      have Hcs : Unit → (chainN k ls).map v8 = cs := fun _ => hcs
      clear hcs hj hlt
      go_wp2_with (first
        | (refine load_arr _ _ _ r1 32 hs 25 5 (by kernel_rfl) (by kernel_rfl) _ rfl rfl rfl ?_)
        | (refine store_arr _ _ _ r0 32 hzl 25 (by kernel_rfl) cs hs h1 _ _ rfl rfl rfl rfl ?_))
      refine ret_arr w.heap.size 25 cs (r0.row cs) 32 hs 5 (by kernel_rfl) (by kernel_rfl) (by rfl) rfl rfl ?_
      exact ⟨by rw [Hcs ()], below_setRow hB (Nat.le_refl _) _⟩
end Go.Proofs.YtidiallphmocdaaDoor
