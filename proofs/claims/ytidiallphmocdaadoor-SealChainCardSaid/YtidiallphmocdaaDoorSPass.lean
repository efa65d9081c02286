/- The two passes of a seal: what the closure returns, and what Of returns. -/
import Derived.Test.YtidiallphmocdaaDoorSBlock
import Derived.Test.YtidiallphmocdaaDoorPieces
namespace Go.Proofs.YtidiallphmocdaaDoor
open Go.ChangeShapes Go.WideShapes Go.RowKit

theorem b8_xor {a b : Nat} (ha : U8 a) (hb : U8 b) : bits .xor .u8 (a : Int) (b : Int) = ((a ^^^ b : Nat) : Int) := u8_xor_nat a b ha hb
theorem u8_xor {a b : Nat} (ha : U8 a) (hb : U8 b) : U8 (a ^^^ b) := Nat.xor_lt_two_pow (n := 8) ha hb

set_option maxRecDepth 100000 in
set_option maxHeartbeats 1600000 in
theorem pass_any (m : Nat) (hm : U8 m) (M : Int) (hM : M = (m : Int)) (u : Value) (r : List Nat) (B : Nat) (blk : List Nat) (w : World) (ht : Tabs w) (hu : BytesAt w u r) (ur : ∀ x ∈ r, U8 x) (hl : r.length ≤ 1000000)
    (hk : Rw w B 63 (blk.map v8)) (hbl : blk.length = 64) (ub : ∀ x ∈ blk, U8 x) :
    Calls Tryd.prog 49 #[.int .u8 M, u, .pointer (some ⟨B, 0, none⟩)] w fun e w' => e = .returned (.agg ((passN blk m r).map v8).toArray) ∧ Below w.heap.size w w' := by
  subst hM
  obtain ⟨a, cap, hue, hc, _⟩ := id hu
  subst hue
  have h64 : (blk.map v8).length = 64 := by rw [List.length_map, hbl]
  go_enter Tryd.func49, Tryd.ntmps49
  go_upto_region 1 with fail
  have r0 := Rw.new w 25 ((zs 32).map v8)
  have hB := (Below.refl _ w).alloc (Nat.le_refl _) (.cells ((zs 32).map v8).toArray 25)
  change Code.wp _ _ _ _ (w.alloc (.cells ((zs 32).map v8).toArray 25))
  have hBlt := hk.lt
  replace hk := hk.keep hB
  generalize w.alloc (.cells ((zs 32).map v8).toArray 25) = W at *
  generalize hZ : (zs 32).map v8 = Z at r0
  have HZ : Unit → Z.length = 32 := fun _ => by rw [← hZ]; rfl
  clear hZ
  have h1 := one8 blk
  go_upto_region 2 with (first
    | (refine load_arr _ _ _ hk 64 h64 63 5 (by kernel_rfl) (by kernel_rfl) _ rfl rfl rfl ?_)
    | (refine store_arr W.heap.size 63 ((zs 64).map v8) (Rw.new W 63 ((zs 64).map v8)) 64 rfl 63 (by kernel_rfl) (blk.map v8) h64 h1 _ _ rfl rfl rfl rfl ?_))
  rw [World.setRow_alloc_new]
  have hN := r0.lt
  have r1 : Rw (W.alloc (.cells (blk.map v8).toArray 63)) W.heap.size 63 ((mskK m blk 0).map v8) := by rw [mskK_zero]; exact Rw.new W 63 (blk.map v8)
  replace r0 := r0.past (.cells (blk.map v8).toArray 63)
  replace hB := hB.alloc hB.size (.cells (blk.map v8).toArray 63)
  generalize W.alloc (.cells (blk.map v8).toArray 63) = W1 at *
  clear hk h1 h64
  generalize W.heap.size = G at *
  generalize (blk.map v8).toArray = BA
  go_upto_region 3 with fail
  go_loopw [10] (fun i wr => ∃ k : Nat, k ≤ 64 ∧ i = .int .i64 (k : Int) ∧ Rw wr w.heap.size 25 Z ∧ Rw wr G 63 ((mskK m blk k).map v8) ∧ Below w.heap.size w wr) (fun i _ => 64 - (intOf i).toNat)
  case atStart => exact ⟨0, by omega, rfl, r0, r1, hB⟩
  case round =>
    clear r0 r1 hB
    obtain ⟨k, hk, rfl, r0, r1, hB⟩ := hrel
    by_cases hlt : k < 64
    · obtain ⟨x, hx⟩ : ∃ x, blk[k]? = some x := ⟨_, List.getElem?_eq_getElem (by omega)⟩
      have ux := ub x (List.mem_of_getElem? hx)
      obtain ⟨hx0, hx1⟩ := mskK_get (m := m) hx
      have Hnx : Unit → mskK m blk (k + 1) = (mskK m blk k).set k (x ^^^ m) := fun _ => hx1
      have z1 := (r1.cell k).trans (at8 hx0)
      have y1 := r1.frozen k
      have hxo := b8_xor ux hm
      have hki : (k : Int) < 64 := by omega
      clear hx hx0 hx1
      go_wp2_with fail
      refine ⟨⟨k + 1, by omega, by simp, r0.other (by omega) _ _, ?_, hB.setCell (p := ⟨G, k, none⟩) (by simp; omega) _⟩, by simp [intOf]; omega⟩
      have h7 := r1.setCell k (v8 (x ^^^ m))
      rw [← List.map_set, ← Hnx ()] at h7
      exact h7
    · obtain rfl : k = 64 := by omega
      have Hmk : Unit → mskK m blk 64 = mskN m blk := fun _ => by rw [← hbl]; exact mskK_all m blk
      rw [Hmk ()] at r1
      have Hps : Unit → passN blk m r = shaN (mskN m blk ++ r) := fun _ => rfl
      have hml : (mskN m blk).length = 64 := by rw [mskN_len, hbl]
      have uml := mskN_u hm ub
      generalize mskN m blk = mb at *
      clear Hmk hk hlt
      have hca := cut_all (P := Tryd.prog) 63 5 64 G (by kernel_rfl) (by kernel_rfl)
      have hni : ¬ ((64 : Nat) : Int) < 64 := by omega
      go_wp2_with fail
      refine (new_any _).mono ?_
      rintro e w1 ⟨rfl, rfl⟩
      have ht2 := ht.keep hB
      have hu2 := hu.keep hB
      have hbm := r1.bytes 64 (by omega)
      have hp := PtrAt.new wr
      have hb1 : Below wr.heap.size wr (wr.alloc (.cells zsum.toArray 65)) := (Below.refl _ _).alloc (Nat.le_refl _) _
      generalize wr.alloc (.cells zsum.toArray 65) = w2 at *
      have Ka := Lib.hid (add_own wr.heap.size [] mb _ wr w2 ht2 hb1 (Nat.le_refl _) hp hbm uml (by rw [hml]; simp))
      rw [hml] at Ka
      go_wp2_with fail
      clear hca
      refine (Ka.out).mono ?_
      rintro e w3 ⟨rfl, hp3, hb3⟩
      rw [List.nil_append] at hp3
      clear Ka hp hb1
      generalize (([] ++ mb).length : Int) = z1
      have Kb := Lib.hid (add_own wr.heap.size mb r _ wr w3 ht2 hb3 (Nat.le_refl _) hp3 hu2 ur (by rw [hml]; omega))
      go_wp2_with fail
      refine (Kb.out).mono ?_
      rintro e w4 ⟨rfl, hp4, hb4⟩
      clear Kb hp3 hb3
      have hll : (mb ++ r).length < 576460752303423488 := by rw [List.length_append, hml]; omega
      have uml2 : ∀ x ∈ mb ++ r, U8 x := fun x hx => by
        rcases List.mem_append.1 hx with h | h
        · exact uml x h
        · exact ur x h
      generalize mb ++ r = mr at *
      generalize (mr.length : Int) = z2
      have Kn := Lib.hid (now_any _ mr w4 (ht2.keep hb4) hp4 hll uml2)
      go_wp2_with fail
      refine (Kn.out).mono ?_
      rintro e w5 ⟨rfl, hb5⟩
      replace hB := (hB.trans (hb4.mono hB.size))
      replace hB := hB.trans (hb5.mono hB.size)
      replace r0 := (r0.keep hb4).keep hb5
      have hs : ((shaN mr).map v8).length = 32 := by rw [List.length_map, shaN_len]
      have h1 := one8 (shaN mr)
      have hZl := HZ ()
      have Hcs : Unit → (passN blk m r).map v8 = (shaN mr).map v8 := fun _ => by rw [Hps ()]
      generalize (shaN mr).map v8 = cs at *
      clear Kn hp4 hb4 hb5 Hps
      go_wp2_with (refine store_arr _ _ _ r0 32 hZl 25 (by kernel_rfl) cs hs h1 _ _ rfl rfl rfl rfl ?_)
      refine ret_arr w.heap.size 25 cs (r0.row cs) 32 hs 5 (by kernel_rfl) (by kernel_rfl) (by rfl) rfl rfl ?_
      exact ⟨by rw [Hcs ()], below_setRow hB (Nat.le_refl _) _⟩
end Go.Proofs.YtidiallphmocdaaDoor
