/- Now: the digest of the bytes that were added; Of: the digest of bytes. -/
import Derived.Test.YtknhkmlihbgjpaaDoorDPad
namespace Go.Proofs.YtknhkmlihbgjpaaDoor.Dg
open Go.ChangeShapes Go.WideShapes Go.RowKit

/-- The bytes of the first k words. -/
def dg (ws : List Nat) : Nat → List Nat
  | 0 => zs 32
  | k + 1 => put4L (dg ws k) (4 * k) (ws[k]?.getD 0)
theorem dg_len (ws : List Nat) (k : Nat) : (dg ws k).length = 32 := by
  induction k with
  | zero => rfl
  | succ k ih => rw [dg, put4L_len, ih]
/-- The digest of bytes. -/
def shaN (l : List Nat) : List Nat := dg (hsN (l ++ padL l.length) ((l ++ padL l.length).length / 64)) 8
theorem shaN_len (l : List Nat) : (shaN l).length = 32 := dg_len _ _
theorem Tabs.lt {w : World} (h : Tabs w) : 0 < w.heap.size ∧ 1 < w.heap.size :=
  ⟨World.block_lt_of_cell? w _ (h.1 0 _ rfl), World.block_lt_of_cell? w _ (h.2 0 _ rfl)⟩
/-- A pointer to a Sum to which the bytes l were added, or nil. -/
def PtrAt (w : World) (p : Option Addr) (l : List Nat) : Prop :=
  (p = none ∧ l = []) ∨ ∃ s ws bf, p = some ⟨s, 0, none⟩ ∧ SumAt w s ws bf l.length ∧ ws.length = 8 ∧ bf.length = 64 ∧ (l ≠ [] → St ws bf l) ∧ (∀ x ∈ bf, U8 x)
theorem zsum_is : zsum = sumV (List.replicate 8 0) (List.replicate 64 0) 0 := rfl
theorem rep_u8 (n : Nat) : ∀ x ∈ List.replicate n 0, U8 x := by intro x hx; rw [List.eq_of_mem_replicate hx]; exact (show 0 < 256 by omega)
theorem one_sum (ws bf : List Nat) (n : Nat) : ∀ v ∈ sumV ws bf n, v.oneCell' = true := by
  intro v hv
  unfold sumV at hv
  rcases List.mem_append.1 hv with h | h
  · exact one32 _ v h
  · rcases List.mem_append.1 h with h | h
    · exact one8 _ v h
    · rw [List.mem_singleton.1 h]; rfl
theorem splice_all {α : Type} (L cs : List α) (h : L.length = cs.length) : splice L 0 cs = cs := by
  unfold splice; rw [List.drop_eq_nil_of_le (by omega)]; simp

theorem PtrAt.keep {w w' : World} {p : Option Addr} {l : List Nat} (h : PtrAt w p l) (hb : Below w.heap.size w w') : PtrAt w' p l := by
  rcases h with h | ⟨s, ws, bf, h1, h2, h3⟩
  · exact .inl h
  · exact .inr ⟨s, ws, bf, h1, Rw.keep h2 hb, h3⟩
/-- A copy of the Sum lies in block s, the result's row in block g. -/
def EndAt (w : World) (g s : Nat) (l : List Nat) (Z : List Value) (wx : World) : Prop :=
  ∃ ws bf, SumAt wx s ws bf l.length ∧ ws.length = 8 ∧ bf.length = 64 ∧ (l ≠ [] → St ws bf l) ∧ (∀ x ∈ bf, U8 x) ∧ Rw wx g 90 Z ∧ Below w.heap.size w wx

set_option maxHeartbeats 1600000 in
set_option maxRecDepth 100000 in
theorem now_any (p : Option Addr) (l : List Nat) (w : World) (ht : Tabs w) (hp : PtrAt w p l) (hl : l.length < 576460752303423488) (ul : ∀ x ∈ l, U8 x) :
    Calls Tryd.prog 82 #[.pointer p] w fun e w' => e = .returned (.agg ((shaN l).map v8).toArray) ∧ Below w.heap.size w w' := by
  have hz := zero_sum
  go_enter Tryd.func82, Tryd.ntmps82
  go_upto_if 8 with fail
  have r0 := (Rw.new w 90 ((zs 32).map v8)).past (.cells zsum.toArray 150)
  have r1 := Rw.new (w.alloc (.cells ((zs 32).map v8).toArray 90)) 150 zsum
  have hB := ((Below.refl _ w).alloc (Nat.le_refl _) (.cells ((zs 32).map v8).toArray 90)).alloc (by simp) (.cells zsum.toArray 150)
  simp only [World.size_alloc] at r1
  change Code.wp _ _ _ _ ((w.alloc (.cells ((zs 32).map v8).toArray 90)).alloc (.cells zsum.toArray 150))
  generalize (w.alloc (.cells ((zs 32).map v8).toArray 90)).alloc (.cells zsum.toArray 150) = W at *
  generalize hZ : (zs 32).map v8 = Z at r0
  have HZ : Unit → (zs 32).map v8 = Z := fun _ => hZ
  clear hZ
  have htl := ht.lt
  have ht0 := ht
  replace ht := ht.keep hB
  replace hp := hp.keep hB
  go_cut [2] (fun s2 wx => s2 = .pointer (some ⟨w.heap.size, 0, none⟩) ∧ EndAt w w.heap.size (w.heap.size + 1) l Z wx)
  case first =>
    rcases hp with ⟨rfl, rfl⟩ | ⟨s, ws, bf, rfl, h1, h2, h3, h4, h5⟩
    · go_wp2_with fail
      go_meet
      exact ⟨rfl, List.replicate 8 0, List.replicate 64 0, r1, rfl, rfl, fun h => absurd rfl h, rep_u8 64, r0, hB⟩
    · have hc : Cls W s 0 (sumV ws bf l.length) := Rw.cls h1 0 _ (fun j v hv => by rw [Nat.zero_add]; exact hv)
      have hn : (sumV ws bf l.length).length = 73 := sumV_len h2 h3 _
      go_wp2_with (first
        | (refine load_at _ 0 _ hc 73 hn 150 _ Tryd.underlying150 rfl (by kernel_rfl) _ rfl rfl rfl ?_)
        | (refine store_at (w.heap.size + 1) 0 _ _ r1 150 73 (by kernel_rfl) (sumV ws bf l.length) hn (by rw [zsum_is, sumV_len rfl rfl]; omega) (one_sum _ _ _) _ _ rfl rfl rfl rfl ?_))
      go_meet
      refine ⟨rfl, ws, bf, ?_, h2, h3, h4, h5, r0.rowOther (by omega) _, below_setRow hB (by omega) _⟩
      rw [splice_all _ _ (by rw [hn, zsum_is, sumV_len rfl rfl])]
      exact Rw.row r1 _
  case rest =>
    obtain ⟨rfl, ws, bf, h1, h2, h3, h4, h5, h6, h7⟩ := hcut
    have c72 := (Rw.cell h1 72).trans (sumV_total h2 h3 _)
    have htc := ht0.keep h7
    clear hp r0 r1 hB ht ht0
    go_wp2_with fail
    clear c72
    refine (padding_any l.length (by omega) _).mono ?_
    rintro e w1 ⟨rfl, hr, hb1⟩
    have hpn : w.heap.size + 1 < wc.heap.size := h1.lt
    replace h1 : SumAt w1 (w.heap.size + 1) ws bf l.length := Rw.keep h1 hb1
    replace h6 := h6.keep hb1
    replace h7 := h7.trans (hb1.mono h7.size)
    replace htc := htc.keep hb1
    clear hb1
    have hpl : (padL l.length).length < 100 := by rw [padL_len]; unfold tlN; omega
    go_wp2_with fail
    refine (add_bytes (w.heap.size + 1) ws bf l (padL l.length) (some ⟨wc.heap.size, 0, none⟩) _ w1 htc (by omega) (by omega) h1 h2 h3 h4 h5 (padL_u _ (by omega)) (Nat.le_refl _) (by omega)
      (fun _ => ⟨_, 0, rfl, by omega, Rw.cls hr 0 _ (fun j v hv => by rw [Nat.zero_add]; exact hv)⟩)).mono ?_
    rintro e w2 ⟨rfl, ws', bf', cs, k1, k2, k3, k4⟩
    have hN1 : w.heap.size < w1.heap.size := h6.lt
    replace h6 := rw_below (h6.rowOther (by omega) cs) hN1 k4
    replace h7 := (below_setRow h7 (g := w.heap.size + 1) (by omega) cs).trans (k4.mono (by omega))
    have hw8 := k2.ulen
    have hwu := k2.u
    have Hsha : Unit → shaN l = dg ws' 8 := fun _ => by unfold shaN; rw [k2.words]
    have hc := (SumAt.words k1).keep ((Below.refl _ w2).alloc (Nat.le_refl _) (.cells ((zs 32).map v8).toArray 90))
    replace h6 := h6.past (.cells ((zs 32).map v8).toArray 90)
    replace h7 := h7.alloc h7.size (.cells ((zs 32).map v8).toArray 90)
    have h8 := Rw.new w2 90 ((zs 32).map v8)
    have hD : w.heap.size < w2.heap.size := by have := k4.size; rw [setRow_size] at this; omega
    clear k1 k2 k3 k4 h1 hr htc h4 h5
    go_upto_region 6 with fail
    change Code.wp _ _ _ _ (w2.alloc (.cells ((zs 32).map v8).toArray 90))
    generalize w2.alloc (.cells ((zs 32).map v8).toArray 90) = W2 at *
    generalize w2.heap.size = D at *
    have hl32 : (ws'.map v32).length = 8 := by rw [List.length_map, hw8]
    go_upto_region 7 with (refine load_at _ 0 _ hc 8 hl32 115 (.array 8 23) (by kernel_rfl) rfl (by kernel_rfl) _ rfl rfl rfl ?_)
    clear hc hz hpl hl ul hpn hN1 htl
    generalize (padL l.length).length = pn
    go_loopw [18] (fun i wr => ∃ k : Nat, k ≤ 8 ∧ i = .int .i64 (k : Int) ∧ Rw wr w.heap.size 90 Z ∧ Rw wr D 90 ((dg ws' k).map v8) ∧ Below w.heap.size w wr) (fun i _ => 8 - (intOf i).toNat)
    case atStart => exact ⟨0, by omega, rfl, h6, h8, h7⟩
    case round =>
      clear h6 h7 h8
      obtain ⟨k, hk, rfl, q0, q1, qB⟩ := hrel
      by_cases hlt : k < 8
      · obtain ⟨y, hy⟩ : ∃ y, ws'[k]? = some y := ⟨_, List.getElem?_eq_getElem (by omega)⟩
        have Uy := Lib.hid (hwu y (List.mem_of_getElem? hy))
        have Hnx : Unit → dg ws' (k + 1) = put4L (dg ws' k) (4 * k) y := fun _ => by rw [dg, hy]; rfl
        have hix := idx_arr (P := Tryd.prog) 115 23 8 .u32 (ws'.map v32) k (.int .u32 (y : Int)) (by kernel_rfl) (by kernel_rfl) (by kernel_rfl) hlt (at32 hy)
        have hcut := cut_from (P := Tryd.prog) 90 5 32 D (4 * k) (4 * (k : Int)) (by omega) (by omega) (by kernel_rfl) (by kernel_rfl)
        clear hy
        go_wp2_with fail
        clear hix hcut
        refine (putWord_row D (4 * k) _ _ (by omega) y Uy.out _ _ (by rw [dg_len]; omega) _ q1).mono ?_
        rintro e w3 ⟨⟨v, rfl⟩, rfl⟩
        replace q0 := Rw.put4_other q0 (k := D) (by omega) (4 * k) y
        replace q1 := Rw.put4 q1 (4 * k) y
        replace qB := below_put4 qB (g := D) (by omega) (4 * k) y
        rw [← Hnx ()] at q1
        generalize put4 wr D (4 * k) y = W3 at *
        go_wp2_with fail
        go_roundw
        case rel => exact ⟨k + 1, by omega, by go_num, q0, q1, qB⟩
        case measure => simp [intOf]; omega
      · obtain rfl : k = 8 := by omega
        have hzl : Z.length = 32 := by rw [← HZ ()]; rfl
        have hs : ((dg ws' 8).map v8).length = 32 := by rw [List.length_map, dg_len]
        have h1 := one8 (dg ws' 8)
        generalize hcs : (dg ws' 8).map v8 = cs2 at *
        have Hcs : Unit → (dg ws' 8).map v8 = cs2 := fun _ => hcs
        clear hcs hk hlt
        go_wp2_with (first
          | (refine load_arr _ _ _ q1 32 hs 90 5 (by kernel_rfl) (by kernel_rfl) _ rfl rfl rfl ?_)
          | (refine store_arr _ _ _ q0 32 hzl 90 (by kernel_rfl) cs2 hs h1 _ _ rfl rfl rfl rfl ?_))
        refine ret_arr w.heap.size 90 cs2 (q0.row cs2) 32 hs 5 (by kernel_rfl) (by kernel_rfl) (by rfl) rfl rfl ?_
        exact ⟨by rw [Hsha (), Hcs ()], below_setRow qB (Nat.le_refl _) _⟩
end Go.Proofs.YtknhkmlihbgjpaaDoor.Dg
