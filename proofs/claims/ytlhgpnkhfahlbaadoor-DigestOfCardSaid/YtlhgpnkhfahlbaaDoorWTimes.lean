/- Long numbers are multiplied: the document's own way. -/
import Derived.Test.YtlhgpnkhfahlbaaDoorWAbove
import Derived.Test.YtlhgpnkhfahlbaaDoorLoose
namespace Go.Proofs.YtlhgpnkhfahlbaaDoor
open Go.ChangeShapes Go.WideShapes Go.RowKit

theorem info_u64 : (Tryd.prog.info? 40).map (fun i => (i.zero, i.size, i.bytes)) = some (some (.int .u64 0), 1, 8) := by kernel_rfl
theorem make_u64 (c : Nat) (hc : c ≤ 1000000) (l : Int) (hl : l = (c : Int)) (w : World) :
    (Instr.makeSlice 43 (.int .i64 l) (.int .i64 l)).run Tryd.prog w = .ok (.slice (some ⟨w.heap.size, 0, none⟩) c c) (w.alloc (.cells ((zs c).map v64).toArray 40)) := by
  subst hl
  have h := info_u64
  cases hq : Tryd.prog.info? 40 with
  | none => rw [hq] at h; cases h
  | some i =>
    rw [hq] at h
    simp only [Option.map_some, Option.some.injEq, Prod.mk.injEq] at h
    obtain ⟨hz, hs, hb⟩ := h
    have := run_make w 43 40 i (.int .u64 0) (by kernel_rfl) hq hz .i64 .i64 (c : Int) (c : Int) (by omega) (by omega) (by rw [hb]; omega) (by omega)
    rw [this, hs, Int.toNat_natCast, Nat.mul_one]
    congr 3
    apply Array.ext
    · simp [size_madeCells, zs_len]
    · intro j h1 h2
      simp [madeCells, Value.cells, v64, Nat.mod_one, zs]
theorem stT_len (out : List Nat) (j x y : Nat) : (stT out j x y).length = out.length := by simp [stT]
theorem rowT_len (out : List Nat) (i x : Nat) (ys : List Nat) (k : Nat) : (rowT out i x ys k).length = out.length := by
  induction k with
  | zero => rfl
  | succ k ih => rw [rowT, stT_len, ih]
theorem tmN_len (xs ys : List Nat) (i : Nat) : (tmN xs ys i).length = xs.length + ys.length := by
  induction i with
  | zero => simp [tmN]
  | succ i ih => rw [tmN, rowT_len, ih]
def pT (p x y : Nat) : Nat := (p + x * y % 18446744073709551616) % 18446744073709551616
def qT (q p : Nat) : Nat := (q + p / 65536) % 18446744073709551616
theorem stT_is (out : List Nat) (j x y p q : Nat) (hp : out[j]? = some p) (hq : out[j + 1]? = some q) :
    stT out j x y = ((out.set j (pT p x y)).set (j + 1) (qT q (pT p x y))).set j (pT p x y % 65536) := by
  have h1 : j < out.length := (List.getElem?_eq_some_iff.1 hp).1
  have h2 : j + 1 < out.length := (List.getElem?_eq_some_iff.1 hq).1
  simp only [stT, hp, Option.getD_some]
  rw [List.getElem?_set_ne (by omega), hq, List.getElem?_set_self h1, List.getElem?_set_ne (by omega), List.getElem?_set_self h1]
  rfl
/-- What lies in memory: the product so far, the two numbers. -/
def Tm (w : World) (g ga gb : Nat) (xs ys L : List Nat) (wr : World) : Prop :=
  Rw wr g 40 (L.map v64) ∧ Cls wr ga 0 (xs.map v64) ∧ Cls wr gb 0 (ys.map v64) ∧ Below g w wr ∧ ga < g ∧ gb < g
theorem Cls.drew {w w' : World} {g o : Nat} {cs : List Value} (h : Cls w g o cs) (k : Drew w w') : Cls w' g o cs := fun j v hv => by rw [k.cell]; exact h j v hv
theorem Cls.other {w : World} {g o k : Nat} {cs : List Value} (h : Cls w g o cs) (hk : g ≠ k) (i : Nat) (v : Value) : Cls (w.setCell ⟨k, i, none⟩ v) g o cs := fun j u hu => by
  have := h j u hu
  unfold World.cell? at this ⊢
  rw [Below.heap_setCell _ ⟨k, i, none⟩ _ g hk]; exact this
theorem Tm.set {w wr w5 : World} {g ga gb : Nat} {xs ys L : List Nat} (h : Tm w g ga gb xs ys L wr) (hd : Drew wr w5) (j y : Nat) : Tm w g ga gb xs ys (L.set j y) (w5.setCell ⟨g, j, none⟩ (v64 y)) := by
  obtain ⟨h1, h2, h3, h4, h5, h6⟩ := h
  refine ⟨?_, (h2.drew hd).other (by omega) _ _, (h3.drew hd).other (by omega) _ _, ?_, h5, h6⟩
  · rw [List.map_set]; exact (h1.drew hd).setCell j (v64 y)
  · exact (h4.trans (hd.below.mono (Nat.le_of_lt (Rw.lt h1)))).setCell (p := ⟨g, j, none⟩) (Nat.le_refl _) _

set_option maxHeartbeats 1600000 in
theorem times_any (ga gb ca cb : Nat) (xs ys : List Nat) (hx : xs.length ≤ 1000) (hy : ys.length ≤ 1000) (w : World) (h1 : Cls w ga 0 (xs.map v64)) (h2 : Cls w gb 0 (ys.map v64)) (hga : ga < w.heap.size) (hgb : gb < w.heap.size) :
    Calls Tryd.prog 31 #[.slice (some ⟨ga, 0, none⟩) xs.length ca, .slice (some ⟨gb, 0, none⟩) ys.length cb] w fun e w' => e = .returned (.slice (some ⟨w.heap.size, 0, none⟩) (timesN xs ys).length (timesN xs ys).length) ∧ Rw w' w.heap.size 40 ((timesN xs ys).map v64) ∧ Below w.heap.size w w' := by
  obtain ⟨n, hn⟩ : ∃ n, n = xs.length + ys.length := ⟨_, rfl⟩
  have hmk := make_u64 n (by omega) ((xs.length : Int) + (ys.length : Int)) (by omega)
  rw [show (timesN xs ys).length = n by rw [hn]; exact tmN_len xs ys _]
  have Hn : Unit → n = xs.length + ys.length := fun _ => hn
  have H0 : Unit → tmN xs ys 0 = zs n := fun _ => by rw [hn]; rfl
  clear hn
  go_enter Tryd.func31, Tryd.ntmps31
  go_upto_region 3 with fail
  clear hmk
  have hB := (Below.refl _ w).alloc (Nat.le_refl _) (.cells ((zs n).map v64).toArray 40)
  have hT : Tm w w.heap.size ga gb xs ys (tmN xs ys 0) (w.alloc (.cells ((zs n).map v64).toArray 40)) := ⟨by rw [H0 ()]; exact Rw.new w _ _, h1.keep hB, h2.keep hB, hB, hga, hgb⟩
  generalize w.alloc (.cells ((zs n).map v64).toArray 40) = W at *
  clear hB h1 h2 hga hgb
  generalize hN : w.heap.size = g at *
  have HN : Unit → w.heap.size = g := fun _ => hN
  clear hN
  go_loopw [6] (fun i wr => ∃ k : Nat, k ≤ xs.length ∧ i = .int .i64 (k : Int) ∧ Tm w g ga gb xs ys (tmN xs ys k) wr) (fun i _ => xs.length - (intOf i).toNat)
  case atStart => exact ⟨0, by omega, rfl, hT⟩
  case round =>
    clear hT
    obtain ⟨i, hi, rfl, hT⟩ := hrel
    by_cases hlt : i < xs.length
    · obtain ⟨x, hxi⟩ : ∃ x, xs[i]? = some x := ⟨_, List.getElem?_eq_getElem hlt⟩
      have hli : (i : Int) < (xs.length : Int) := by omega
      have hTl := tmN_len xs ys i
      have Hnx : Unit → tmN xs ys (i + 1) = rowT (tmN xs ys i) i x ys ys.length := fun _ => by rw [tmN, hxi]; rfl
      generalize tmN xs ys i = L at *
      go_upto_region 6 with fail
      try simp only [show ((i : Int) < (xs.length : Int)) = True from eq_true hli, decide_true]
      go_loopw [7] (fun i' wr => ∃ k : Nat, k ≤ ys.length ∧ i' = .int .i64 (k : Int) ∧ Tm w g ga gb xs ys (rowT L i x ys k) wr) (fun i _ => ys.length - (intOf i).toNat)
      case atStart => exact ⟨0, by omega, rfl, hT⟩
      case round =>
        clear hT
        obtain ⟨k, hk, rfl, hT⟩ := hrel
        by_cases hlt2 : k < ys.length
        · obtain ⟨y, hyk⟩ : ∃ y, ys[k]? = some y := ⟨_, List.getElem?_eq_getElem hlt2⟩
          have hlk : (k : Int) < (ys.length : Int) := by omega
          obtain ⟨j, hj⟩ : ∃ j, j = i + k := ⟨_, rfl⟩
          have hRl : (rowT L i x ys k).length = n := by rw [rowT_len, hTl, Hn ()]
          have Hr : Unit → rowT L i x ys (k + 1) = stT (rowT L i x ys k) j x y := fun _ => by rw [rowT, hyk, hj]; rfl
          generalize rowT L i x ys k = R at *
          have hj1 : j + 1 < n := by have := Hn (); omega
          obtain ⟨p, hp⟩ : ∃ p, R[j]? = some p := ⟨_, List.getElem?_eq_getElem (by omega)⟩
          obtain ⟨q, hq⟩ : ∃ q, R[j + 1]? = some q := ⟨_, List.getElem?_eq_getElem (by omega)⟩
          have Hst : Unit → stT R j x y = _ := fun _ => stT_is R j x y p q hp hq
          have z0 := (hT.1.cell j).trans (at64 hp)
          have z1 := hT.2.1 i _ (at64 hxi)
          have z2 := hT.2.2.1 k _ (at64 hyk)
          rw [Nat.zero_add] at z1 z2
          have y0 := hT.1.frozen j
          have x1 : IntKind.i64.wrap ((i : Int) + (k : Int)) = (j : Int) := by simp [IntKind.wrap, IntKind.bits, IntKind.signed]; omega
          have x2 : IntKind.u64.wrap ((p : Int) + IntKind.u64.wrap ((x : Int) * (y : Int))) = (pT p x y : Int) := by
            simp [IntKind.wrap, IntKind.bits, IntKind.signed, pT]
          have wj : IntKind.i64.wrap (j : Int) = (j : Int) := by simp [IntKind.wrap, IntKind.bits, IntKind.signed]; omega
          have x1' : (i : Int) + (k : Int) = (j : Int) := by omega
          have hjn : (j : Int) < (n : Int) := by omega
          have hjn1 : ((j + 1 : Nat) : Int) < (n : Int) := by omega
          generalize hP : pT p x y = P at *
          have HP : Unit → pT p x y = P := fun _ => hP
          have hjn0 : j < n := by omega
          have Hq : Unit → R[j + 1]? = some q := fun _ => hq
          clear hj hp hq hP hxi hyk hi hk Hnx
          go_upto_region 8 with fail
          refine region_loose (fun _ w' => Drew wr w' ∧ w'.cell? ⟨g, j, none⟩ = some (.int .u64 (p : Int)) ∧ w'.cell? ⟨ga, i, none⟩ = some (.int .u64 (x : Int)) ∧ w'.cell? ⟨gb, k, none⟩ = some (.int .u64 (y : Int))) 16 16 2 #[true, true, true, true, true, true, true, true, true, true, true, true, true, true, true, true, false, false] rfl (by kernel_rfl) (by kernel_rfl) (by kernel_rfl) (⟨⟨_, rfl⟩, z0, z1, z2⟩) ?_
          simp only [List.take_succ_cons, List.take_zero]
          repeat
            first
            | (refine loose_val (by decide) rfl ?_
               apply Exists.intro
               refine ⟨fun L' w' hw' => ?_, ?_⟩
               · obtain ⟨_, e0, e1, e2⟩ := hw'
                 go_simp
                 first | done | rfl | exact ⟨rfl, rfl⟩
               simp only [Act.put, List.setIfInBounds_toArray, List.set_cons_zero, List.set_cons_succ])
            | (refine loose_call (by decide) rfl ?_
               apply Exists.intro
               apply Exists.intro
               refine ⟨fun w' => ?_, ?_⟩
               · go_simp
                 first | done | rfl | exact ⟨rfl, rfl⟩
               apply Exists.intro
               refine ⟨fun L' w' hw' => ?_, ?_⟩
               · first
                 | fail
               simp only [Act.put, List.setIfInBounds_toArray, List.set_cons_zero, List.set_cons_succ])
            | (refine loose_new (by decide) rfl (fun L' w' hw' => ?_) (fun v => ?_)
               · fail
               simp only [Act.put, List.setIfInBounds_toArray, List.set_cons_zero, List.set_cons_succ])
          intro w5 hw5
          obtain ⟨hdr, e0, _⟩ := hw5
          replace hT := hT.set hdr j P
          rw [← hdr.frozen] at y0
          clear hdr z0 z1 z2
          refine wpAny_ready (rs := [16]) (by kernel_rfl) (by simp) ?_
          refine AllReady.cons rfl (fun K hK => ?_) AllReady.nil
          go_simp
          refine hK _ _ ?_
          clear hK K
          refine wpAny_ready (rs := [17]) (by kernel_rfl) (by simp) ?_
          refine AllReady.cons rfl (fun K hK => ?_) AllReady.nil
          go_simp
          refine hK _ _ ?_
          clear hK K
          refine wpAny_done (by kernel_rfl) ?_ _
          clear e0 y0 x2
          change Exit.then _ _ _ _ (w5.setCell ⟨g, j, none⟩ (v64 P))
          generalize w5.setCell ⟨g, j, none⟩ (v64 P) = W8 at *
          obtain ⟨i1, hi1⟩ : ∃ i1, i1 = j + 1 := ⟨_, rfl⟩
          have z0 := (hT.1.cell j).trans (at64 (x := P) (List.getElem?_set_self (by omega)))
          have z1 := (hT.1.cell i1).trans (at64 (x := q) (by rw [List.getElem?_set_ne (by omega), hi1]; exact Hq ()))
          have y1 := hT.1.frozen i1
          have x3 : IntKind.u64.wrap ((q : Int) + IntKind.u64.wrap ((P : Int) / 65536)) = (qT q P : Int) := by
            have h1 : (P : Int) / 65536 = ((P / 65536 : Nat) : Int) := rfl
            rw [h1]
            simp [IntKind.wrap, IntKind.bits, IntKind.signed, qT]
          have wj1 : IntKind.i64.wrap ((j : Int) + 1) = (i1 : Int) := by simp [IntKind.wrap, IntKind.bits, IntKind.signed]; omega
          have wj2 : IntKind.i64.wrap (i1 : Int) = (i1 : Int) := by simp [IntKind.wrap, IntKind.bits, IntKind.signed]; omega
          have hjn2 : i1 < n := by omega
          have hjn3 : (i1 : Int) < (n : Int) := by omega
          have Hi1 : Unit → i1 = j + 1 := fun _ => hi1
          clear hi1
          generalize hQ : qT q P = Q at *
          go_upto_region 9 with fail
          refine region_loose (fun _ w' => Drew W8 w' ∧ w'.cell? ⟨g, j, none⟩ = some (.int .u64 (P : Int)) ∧ w'.cell? ⟨g, i1, none⟩ = some (.int .u64 (q : Int))) 15 15 2 #[true, true, true, true, true, true, true, true, true, true, true, true, true, true, true, false, false] rfl (by kernel_rfl) (by kernel_rfl) (by kernel_rfl) (⟨⟨_, rfl⟩, z0, z1⟩) ?_
          simp only [List.take_succ_cons, List.take_zero]
          repeat
            first
            | (refine loose_val (by decide) rfl ?_
               apply Exists.intro
               refine ⟨fun L' w' hw' => ?_, ?_⟩
               · obtain ⟨_, e0, e1⟩ := hw'
                 go_simp
                 first | done | rfl | exact ⟨rfl, rfl⟩
               simp only [Act.put, List.setIfInBounds_toArray, List.set_cons_zero, List.set_cons_succ])
            | (refine loose_call (by decide) rfl ?_
               apply Exists.intro
               apply Exists.intro
               refine ⟨fun w' => ?_, ?_⟩
               · go_simp
                 first | done | rfl | exact ⟨rfl, rfl⟩
               apply Exists.intro
               refine ⟨fun L' w' hw' => ?_, ?_⟩
               · first
                 | fail
               simp only [Act.put, List.setIfInBounds_toArray, List.set_cons_zero, List.set_cons_succ])
            | (refine loose_new (by decide) rfl (fun L' w' hw' => ?_) (fun v => ?_)
               · fail
               simp only [Act.put, List.setIfInBounds_toArray, List.set_cons_zero, List.set_cons_succ])
          intro w5 hw5
          obtain ⟨hdr, e0, e1⟩ := hw5
          replace hT := hT.set hdr i1 Q
          rw [← hdr.frozen] at y1
          clear hdr z0 z1
          refine wpAny_ready (rs := [15]) (by kernel_rfl) (by simp) ?_
          refine AllReady.cons rfl (fun K hK => ?_) AllReady.nil
          go_simp
          refine hK _ _ ?_
          clear hK K
          refine wpAny_ready (rs := [16]) (by kernel_rfl) (by simp) ?_
          refine AllReady.cons rfl (fun K hK => ?_) AllReady.nil
          go_simp
          refine hK _ _ ?_
          clear hK K
          refine wpAny_done (by kernel_rfl) ?_ _
          clear e0 e1 y1 x3
          change Exit.then _ _ _ _ (w5.setCell ⟨g, i1, none⟩ (v64 Q))
          generalize w5.setCell ⟨g, i1, none⟩ (v64 Q) = W9 at *
          have z0 := (hT.1.cell j).trans (at64 (x := P) (by rw [List.getElem?_set_ne (by have := Hi1 (); omega)]; exact List.getElem?_set_self (by omega)))
          have y1 := hT.1.frozen j
          obtain ⟨Pm, hPm⟩ : ∃ Pm, Pm = P % 65536 := ⟨_, rfl⟩
          have h10 : (P : Int) % 65536 = (Pm : Int) := by omega
          have HPm : Unit → Pm = P % 65536 := fun _ => hPm
          have hPl : Pm < 65536 := by omega
          have hwP : IntKind.u64.wrap (Pm : Int) = (Pm : Int) := by simp [IntKind.wrap, IntKind.bits, IntKind.signed]; omega
          clear hPm hQ
          replace hT := hT.set (Drew.refl _) j Pm
          go_wp2_with fail
          go_roundw
          case rel => exact ⟨k + 1, by omega, by go_num, by rw [Hr (), Hst (), ← HPm (), ← Hi1 ()]; exact hT⟩
          case measure => simp [intOf]; omega
        · obtain rfl : k = ys.length := by omega
          rw [← Hnx ()] at hT
          go_wp2_with fail
          go_roundw
          case rel => exact ⟨i + 1, by omega, by go_num, hT⟩
          case measure => simp [intOf]; omega
    · obtain rfl : i = xs.length := by omega
      go_wp2_with fail
      go_ret
      rw [HN ()]
      exact ⟨rfl, hT.1, hT.2.2.2.1⟩
end Go.Proofs.YtlhgpnkhfahlbaaDoor
