/- A list or an object is written. -/
import Derived.Test.YtbkkcojfgdjbhaaDoorJWrN
namespace Go.Proofs.YtbkkcojfgdjbhaaDoor
open Go.ChangeShapes Go.WideShapes Go.RowKit

/-- The contract of addValue, d lists and objects more. -/
def WCt (d : Nat) : Prop := ∀ (P : Nat → Prop) (D : Nat) (cs : List Value) (j : J) (l l2 : Int) (base : Nat) (bv : Value) (bs : Bs) (w : World), JAt P w D cs j → fitN d j l = some l2 → Rg d j → (∀ i, P i → i < base) → w.ownsRow base 5 1 bv bs.length (Lib.byteCells bs) → base ≤ w.heap.size → 10 ≤ base → Env w → (bs.length : Int) + 3000 * l ≤ 10000000 →
  Calls Tryd.prog 23 #[bv, .agg cs.toArray] w (AddP base w (bs ++ wrN d j))
theorem below_asd {B : Nat} {w w' : World} (h : Below B w w') : Asd (fun k => B ≤ k) w w' := ⟨h.os, h.tape, h.output, h.size, fun k _ hn => h.block k (by simpa using hn)⟩
theorem JAt.low {P : Nat → Prop} {w w' : World} {D B : Nat} {cs : List Value} {j : J} (h : JAt P w D cs j) (hb : Below B w w') (hp : ∀ i, P i → i < B) : JAt P w' D cs j := h.keep (below_asd hb) (fun i hi _ hn => by have := hp i hi; omega)
theorem StrsAt.low {P : Nat → Prop} {w w' : World} {B : Nat} {v : Value} {ss : List Bs} (h : StrsAt P w v ss) (hb : Below B w w') (hp : ∀ i, P i → i < B) : StrsAt P w' v ss := h.keepN (below_asd hb) (fun i hi _ hn => by have := hp i hi; omega)
theorem kidsW_next (W : J → Bs) (k : Int) (q : Nat) (keys : List Bs) (kids : List J) (kid : J) (h : kids[q]? = some kid) (b : Bool) : kidsW W k b (keys.drop q) (kids.drop q) = ((if b then [] else [44]) ++ (if k = 6 then quoteN (keys.getD q []) ++ [58] else [])) ++ W kid ++ kidsW W k false (keys.drop (q + 1)) (kids.drop (q + 1)) := by
  have hlt := (List.getElem?_eq_some_iff.1 h).1
  have hd : kids.drop q = kid :: kids.drop (q + 1) := by rw [List.drop_eq_getElem_cons hlt]; congr 1; exact (List.getElem?_eq_some_iff.1 h).2
  have e1 : (keys.drop q).headD [] = keys.getD q [] := by rw [List.headD_eq_head?_getD, List.head?_drop]; rfl
  rw [hd, kidsW, e1, List.tail_drop]
theorem fold_at (f : J → Int → Option Int) (kids : List J) (q : Nat) (kid : J) (x l2 : Int) (h : kids[q]? = some kid) (hf : (kids.drop q).foldl (fun o kid => o.bind (fun x => f kid x)) (some x) = some l2) : ∃ y, f kid x = some y ∧ (kids.drop (q + 1)).foldl (fun o kid => o.bind (fun x => f kid x)) (some y) = some l2 := by
  have hlt := (List.getElem?_eq_some_iff.1 h).1
  have hd : kids.drop q = kid :: kids.drop (q + 1) := by rw [List.drop_eq_getElem_cons hlt]; congr 1; exact (List.getElem?_eq_some_iff.1 h).2
  rw [hd, List.foldl_cons] at hf
  change (kids.drop (q + 1)).foldl _ (f kid x) = _ at hf
  cases hx : f kid x with
  | none => rw [hx, fold_none] at hf; cases hf
  | some y => rw [hx] at hf; exact ⟨y, rfl, hf⟩
/-- What lies in memory between two entries: what is written (acc), what is left to be written, how many values are left. -/
def Kw (d : Nat) (k : Int) (keys : List Bs) (kids : List J) (base : Nat) (W : World) (l2 : Int) (out : Bs) (q : Nat) (v : Value) (wr : World) : Prop :=
  ∃ (acc : Bs) (x : Int), out = acc ++ kidsW (wrN d) k (q == 0) (keys.drop q) (kids.drop q) ∧ (kids.drop q).foldl (fun o kid => o.bind (fun x => fitN d kid x)) (some x) = some l2 ∧ (acc.length : Int) + 3000 * x ≤ 9998000 ∧ 0 ≤ x ∧ wr.ownsRow base 5 1 v acc.length (Lib.byteCells acc) ∧ Fr base W wr
theorem strs_cell {P : Nat → Prop} {w : World} {v : Value} {ss : List Bs} (h : StrsAt P w v ss) (q : Nat) (s : Bs) (hq : ss[q]? = some s) : ∃ g o c, v = .slice (some ⟨g, o, none⟩) ss.length c ∧ P g ∧ g < w.heap.size ∧ w.cell? ⟨g, o + q, none⟩ = some (.string ⟨s.toArray⟩) := by
  rcases h with ⟨rfl, _⟩ | ⟨g, o, c, rfl, _, hp, hlt, hc⟩
  · simp at hq
  · exact ⟨g, o, c, rfl, hp, hlt, hc q s hq⟩
set_option maxHeartbeats 3200000 in
set_option maxRecDepth 100000 in
theorem addKids_5 (d : Nat) (HW : WCt d) (P : Nat → Prop) (D : Nat) (n : Int) (s : Bs) (kv dv : Value) (keys : List Bs) (kids : List J) (l l2 : Int) (base : Nat) (bv : Value) (bs : Bs) (w : World) (hkv : StrsAt P w kv keys)
    (hdv : (kids = [] ∧ ∃ a c, dv = .slice a 0 c) ∨ ∃ g o c, dv = .slice (some ⟨g, o, none⟩) kids.length c ∧ P g ∧ g < w.heap.size ∧ ∀ (i : Nat) kid, kids[i]? = some kid → ∃ cs', cs'.length = 5 ∧ (∀ (j : Nat) u, cs'[j]? = some u → w.cell? ⟨g, o + 5 * i + j, none⟩ = some u) ∧ JAt P w D cs' kid)
    (hf : kids.foldl (fun o kid => o.bind (fun x => fitN d kid x)) (some (l - 1)) = some l2) (hlk : (kids.length : Int) ≤ l - 1) (hR : ∀ kid ∈ kids, Rg d kid) (hP : ∀ i, P i → i < base) (hown : w.ownsRow base 5 1 bv bs.length (Lib.byteCells bs)) (hb : base ≤ w.heap.size) (hb10 : 10 ≤ base) (hE : Env w) (hl : (bs.length : Int) + 3000 * l ≤ 10000000) :
    Calls Tryd.prog 38 #[bv, .agg (cells5 5 n s kv dv).toArray] w (AddP base w (bs ++ ([91] ++ kidsW (wrN d) 5 true keys kids ++ [93]))) := by
  have HO : Unit → bs ++ ([91] ++ kidsW (wrN d) 5 true keys kids ++ [93]) = (bs ++ [91] ++ kidsW (wrN d) 5 true keys kids) ++ [93] := fun _ => by simp
  generalize bs ++ ([91] ++ kidsW (wrN d) 5 true keys kids ++ [93]) = FULL at *
  obtain ⟨ka, kc, rfl⟩ : ∃ ka kc, kv = .slice ka keys.length kc := by
    rcases hkv with ⟨rfl, a, c, rfl⟩ | ⟨g, o, c, rfl, _⟩
    · exact ⟨a, c, rfl⟩
    · exact ⟨_, c, rfl⟩
  obtain ⟨da, dc, rfl⟩ : ∃ da dc, dv = .slice da kids.length dc := by
    rcases hdv with ⟨rfl, a, c, rfl⟩ | ⟨g, o, c, rfl, _⟩
    · exact ⟨a, c, rfl⟩
    · exact ⟨_, c, rfl⟩
  have rV := Rw.new w 29 (cells5 5 n s (.slice ka keys.length kc) (.slice da kids.length dc))
  have hbl : Below w.heap.size w (w.alloc (.cells (cells5 5 n s (.slice ka keys.length kc) (.slice da kids.length dc)).toArray 29)) := (Below.refl _ _).alloc (Nat.le_refl _) _
  have hbn : bs.length ≤ 10000000 := by omega
  go_enter Tryd.func38, Tryd.ntmps38
  go_upto_region 1 with fail
  have hF : Fr base w (w.alloc (.cells (cells5 5 n s (.slice ka keys.length kc) (.slice da kids.length dc)).toArray 29)) := Fr.of_below hbl hb
  have hE1 := hE.keep (hF.low.mono hb10)
  replace hown := own_stay hown hbl
  have HD := Lib.hid hdv
  have HKV := Lib.hid hkv
  clear hdv hkv hbl
  generalize w.alloc (.cells (cells5 5 n s (.slice ka keys.length kc) (.slice da kids.length dc)).toArray 29) = W1 at *
  generalize hN : w.heap.size = V at *
  have HN : Unit → w.heap.size = V := fun _ => hN
  clear hN
  have hb1 : base ≤ W1.heap.size := by have := Rw.lt rV; omega
  have c0 := Rw.cell rV 0
  have c4 := Rw.cell rV 4
  change _ = some (Value.int .i64 5) at c0
  change _ = some (Value.slice da kids.length dc) at c4
  have co := hE1.opn 5 91 rfl
  go_upto_region 2 with (at_builtin; refine list_new base _ bs [91] _ rfl hown hb1 (by simp; omega) _ _ rfl rfl rfl 1 rfl ?_; intro v2 w2 hown2 hF2)
  clear hown c0 c4 co
  have r2 := rV.frame hF2 (by decide)
  have c4 := Rw.cell r2 4
  change _ = some (Value.slice da kids.length dc) at c4
  have hK0 : Kw d 5 keys kids base W1 l2 (bs ++ [91] ++ kidsW (wrN d) 5 true keys kids) 0 v2 w2 := ⟨bs ++ [91], l - 1, by simp, by simpa using hf, by rw [List.length_append]; simp only [List.length_cons, List.length_nil]; omega, by omega, hown2, hF2⟩
  generalize bs ++ [91] ++ kidsW (wrN d) 5 true keys kids = OUT at *
  clear hown2 hF2 hf
  go_upto_region 3 with fail
  clear c4 r2
  go_loopw [0, 17] (fun v i wr => ∃ q : Nat, q ≤ kids.length ∧ i = .int .i64 (q : Int) ∧ Kw d 5 keys kids base W1 l2 OUT q v wr) (fun _ i _ => kids.length - (intOf i).toNat)
  case atStart => exact ⟨0, by omega, rfl, hK0⟩
  case round =>
    clear hK0
    obtain ⟨q, hq, rfl, acc, x, hout, hfx, hal, hx0, hownr, hFr⟩ := hrel
    have hbr : base ≤ wr.heap.size := Nat.le_trans hb1 hFr.low.size
    have hac : acc.length ≤ 10000000 := by omega
    by_cases hlt : q < kids.length
    · rcases HD.out with ⟨h0, _⟩ | ⟨g, o, c, hsl, hPg, hgV, hkc⟩
      · rw [h0] at hlt; simp at hlt
      · obtain ⟨kid, hkid⟩ : ∃ s, kids[q]? = some s := ⟨_, List.getElem?_eq_getElem hlt⟩
        obtain ⟨cs', h5, hcell, hJk⟩ := hkc q kid hkid
        injection hsl with hda hle hca
        subst hda hca
        clear hle
        have hqi : (q : Int) < (kids.length : Int) := by omega
        have hFw := hF.trans hFr
        have hgb := hP g hPg
        have hcw : ∀ (j : Nat) u, cs'[j]? = some u → wr.cell? ⟨g, o + q * 5 + j, none⟩ = some u := fun j u h => by rw [Nat.mul_comm q 5, hFw.low.cell hgb]; exact hcell j u h
        have HJ := hJk.low hFw.low hP
        obtain ⟨_, h1⟩ := HJ.five
        obtain ⟨y, hy, hfy⟩ := fold_at (fitN d) kids q kid x l2 hkid hfx
        have hyx := fitN_le d kid x y hy
        have hRk := hR kid (List.mem_of_getElem? hkid)
        have hwl := wr_len d kid x y hRk hy
        have Hn : Unit → OUT = acc ++ (((if (q == 0) then [] else [44]) ++ (if (5 : Int) = 6 then quoteN (keys.getD q []) ++ [58] else [])) ++ wrN d kid ++ kidsW (wrN d) 5 false (keys.drop (q + 1)) (kids.drop (q + 1))) := fun _ => by rw [hout, kidsW_next (wrN d) 5 q keys kids kid hkid]
        have Hy : Unit → fitN d kid x = some y := fun _ => hy
        have Hfy : Unit → (kids.drop (q + 1)).foldl (fun o kid => o.bind (fun x => fitN d kid x)) (some y) = some l2 := fun _ => hfy
        have rr := rV.frame hFr (by decide)
        clear hout hfx hy hfy hkc hcell hJk
        have rN := Rw.new wr 29 zero5
        go_upto_region 5 with (first
          | (refine load5_at g (o + q * 5) cs' h5 hcw _ rfl rfl rfl ?_)
          | (refine store_arr wr.heap.size 29 zero5 rN 5 rfl 29 (by kernel_rfl) cs' h5 h1 _ _ rfl rfl rfl rfl ?_))
        rw [World.setRow_alloc_new]
        clear rN hcw
        have rT := Rw.new wr 29 cs'
        have hbl : Below wr.heap.size wr (wr.alloc (.cells cs'.toArray 29)) := (Below.refl _ _).alloc (Nat.le_refl _) _
        replace hownr := own_stay hownr hbl
        replace rr := rr.stay hbl
        have hFn := Fr.of_below hbl hbr
        replace HJ := HJ.low hFn.low hP
        replace hFr := hFr.trans hFn
        replace hFw := hFw.trans hFn
        generalize wr.heap.size = T at *
        generalize wr.alloc (.cells cs'.toArray 29) = wq at *
        clear hbl hFn hbr
        have hbq : base ≤ wq.heap.size := Nat.le_trans hb1 hFr.low.size
        by_cases hq0 : q = 0
        · have hq1 : ¬ (0 : Int) < (q : Int) := by omega
          have HQ0 : Unit → (q == 0) = true := fun _ => by rw [hq0]; rfl
          clear hq0
          have hEz := hE.keep (hFw.low.mono hb10)
          have hbz : base ≤ wq.heap.size := Nat.le_trans hb1 hFr.low.size
          have c0 := Rw.cell rr 0
          change _ = some (Value.int .i64 5) at c0
          go_wp2_with (refine load_val T 29 cs' rT h5 _ rfl rfl rfl ?_)
          refine (HW P D cs' kid x y base _ acc wq HJ (Hy ()) hRk hP hownr hbz hb10 hEz (by (try simp only [List.length_append]); (try simp only [List.length_cons, List.length_nil]); omega)).mono ?_
          rintro e w9 ⟨v9, rfl, hown9, hF9⟩
          have hF9' := hFr.trans hF9
          clear c0 rr rT HJ hownr hFr hFw hF9 hEz
          go_wp2_with fail
          go_roundw
          case rel => exact ⟨q + 1, by omega, by go_num, _, y, by rw [Hn (), HQ0 ()]; simp, Hfy (), by (try simp only [List.length_append]); (try simp only [List.length_cons, List.length_nil]); omega, by omega, hown9, hF9'⟩
          case measure => simp [intOf]; omega
        · have hq1 : (0 : Int) < (q : Int) := by omega
          have HQ0 : Unit → (q == 0) = false := fun _ => by rw [beq_eq_false_iff_ne]; exact hq0
          clear hq0
          go_upto_region 7 with (at_builtin; refine list_new base _ acc [44] _ rfl hownr hbq (by simp; omega) _ _ rfl rfl rfl 1 rfl ?_; intro v6 w6 hown6 hF6)
          replace rr := rr.frame hF6 (by decide)
          replace rT := rT.frame hF6 (by decide)
          replace HJ := HJ.low hF6.low hP
          replace hFr := hFr.trans hF6
          replace hFw := hFw.trans hF6
          clear hownr hF6 hbq
          have hEz := hE.keep (hFw.low.mono hb10)
          have hbz : base ≤ w6.heap.size := Nat.le_trans hb1 hFr.low.size
          have c0 := Rw.cell rr 0
          change _ = some (Value.int .i64 5) at c0
          go_wp2_with (refine load_val T 29 cs' rT h5 _ rfl rfl rfl ?_)
          refine (HW P D cs' kid x y base _ (acc ++ [44]) w6 HJ (Hy ()) hRk hP hown6 hbz hb10 hEz (by (try simp only [List.length_append]); (try simp only [List.length_cons, List.length_nil]); omega)).mono ?_
          rintro e w9 ⟨v9, rfl, hown9, hF9⟩
          have hF9' := hFr.trans hF9
          clear c0 rr rT HJ hown6 hFr hFw hF9 hEz
          go_wp2_with fail
          go_roundw
          case rel => exact ⟨q + 1, by omega, by go_num, _, y, by rw [Hn (), HQ0 ()]; simp, Hfy (), by (try simp only [List.length_append]); (try simp only [List.length_cons, List.length_nil]); omega, by omega, hown9, hF9'⟩
          case measure => simp [intOf]; omega
    · obtain rfl : q = kids.length := by omega
      rw [List.drop_length, kidsW, List.append_nil] at hout
      subst hout
      have rr := rV.frame hFr (by decide)
      have c0 := Rw.cell rr 0
      change _ = some (Value.int .i64 5) at c0
      have cc := (hE1.keep (hFr.low.mono hb10)).cls 5 93 rfl
      clear hfx
      go_wp2_with (at_builtin; refine list_new base _ OUT [93] _ rfl hownr hbr (by simp; omega) _ _ rfl rfl rfl 1 rfl ?_; intro v3 w3 hown3 hF3)
      go_ret
      exact ⟨_, rfl, by rw [HO ()]; exact hown3, (hF.trans hFr).trans hF3⟩
set_option maxHeartbeats 3200000 in
set_option maxRecDepth 100000 in
theorem addKids_6 (d : Nat) (HW : WCt d) (P : Nat → Prop) (D : Nat) (n : Int) (s : Bs) (kv dv : Value) (keys : List Bs) (kids : List J) (l l2 : Int) (base : Nat) (bv : Value) (bs : Bs) (w : World) (hkv : StrsAt P w kv keys)
    (hdv : (kids = [] ∧ ∃ a c, dv = .slice a 0 c) ∨ ∃ g o c, dv = .slice (some ⟨g, o, none⟩) kids.length c ∧ P g ∧ g < w.heap.size ∧ ∀ (i : Nat) kid, kids[i]? = some kid → ∃ cs', cs'.length = 5 ∧ (∀ (j : Nat) u, cs'[j]? = some u → w.cell? ⟨g, o + 5 * i + j, none⟩ = some u) ∧ JAt P w D cs' kid)
    (hf : kids.foldl (fun o kid => o.bind (fun x => fitN d kid x)) (some (l - 1)) = some l2) (hlk : (kids.length : Int) ≤ l - 1) (hkk : keys.length = kids.length) (hky : ∀ s ∈ keys, s.length ≤ 200) (hR : ∀ kid ∈ kids, Rg d kid) (hP : ∀ i, P i → i < base) (hown : w.ownsRow base 5 1 bv bs.length (Lib.byteCells bs)) (hb : base ≤ w.heap.size) (hb10 : 10 ≤ base) (hE : Env w) (hl : (bs.length : Int) + 3000 * l ≤ 10000000) :
    Calls Tryd.prog 38 #[bv, .agg (cells5 6 n s kv dv).toArray] w (AddP base w (bs ++ ([123] ++ kidsW (wrN d) 6 true keys kids ++ [125]))) := by
  have HO : Unit → bs ++ ([123] ++ kidsW (wrN d) 6 true keys kids ++ [125]) = (bs ++ [123] ++ kidsW (wrN d) 6 true keys kids) ++ [125] := fun _ => by simp
  generalize bs ++ ([123] ++ kidsW (wrN d) 6 true keys kids ++ [125]) = FULL at *
  obtain ⟨ka, kc, rfl⟩ : ∃ ka kc, kv = .slice ka keys.length kc := by
    rcases hkv with ⟨rfl, a, c, rfl⟩ | ⟨g, o, c, rfl, _⟩
    · exact ⟨a, c, rfl⟩
    · exact ⟨_, c, rfl⟩
  obtain ⟨da, dc, rfl⟩ : ∃ da dc, dv = .slice da kids.length dc := by
    rcases hdv with ⟨rfl, a, c, rfl⟩ | ⟨g, o, c, rfl, _⟩
    · exact ⟨a, c, rfl⟩
    · exact ⟨_, c, rfl⟩
  have rV := Rw.new w 29 (cells5 6 n s (.slice ka keys.length kc) (.slice da kids.length dc))
  have hbl : Below w.heap.size w (w.alloc (.cells (cells5 6 n s (.slice ka keys.length kc) (.slice da kids.length dc)).toArray 29)) := (Below.refl _ _).alloc (Nat.le_refl _) _
  have hbn : bs.length ≤ 10000000 := by omega
  have HKK : Unit → keys.length = kids.length := fun _ => hkk
  clear hkk
  go_enter Tryd.func38, Tryd.ntmps38
  go_upto_region 1 with fail
  have hF : Fr base w (w.alloc (.cells (cells5 6 n s (.slice ka keys.length kc) (.slice da kids.length dc)).toArray 29)) := Fr.of_below hbl hb
  have hE1 := hE.keep (hF.low.mono hb10)
  replace hown := own_stay hown hbl
  have HD := Lib.hid hdv
  have HKV := Lib.hid hkv
  clear hdv hkv hbl
  generalize w.alloc (.cells (cells5 6 n s (.slice ka keys.length kc) (.slice da kids.length dc)).toArray 29) = W1 at *
  generalize hN : w.heap.size = V at *
  have HN : Unit → w.heap.size = V := fun _ => hN
  clear hN
  have hb1 : base ≤ W1.heap.size := by have := Rw.lt rV; omega
  have c0 := Rw.cell rV 0
  have c4 := Rw.cell rV 4
  change _ = some (Value.int .i64 6) at c0
  change _ = some (Value.slice da kids.length dc) at c4
  have co := hE1.opn 6 123 rfl
  go_upto_region 2 with (at_builtin; refine list_new base _ bs [123] _ rfl hown hb1 (by simp; omega) _ _ rfl rfl rfl 1 rfl ?_; intro v2 w2 hown2 hF2)
  clear hown c0 c4 co
  have r2 := rV.frame hF2 (by decide)
  have c4 := Rw.cell r2 4
  change _ = some (Value.slice da kids.length dc) at c4
  have hK0 : Kw d 6 keys kids base W1 l2 (bs ++ [123] ++ kidsW (wrN d) 6 true keys kids) 0 v2 w2 := ⟨bs ++ [123], l - 1, by simp, by simpa using hf, by rw [List.length_append]; simp only [List.length_cons, List.length_nil]; omega, by omega, hown2, hF2⟩
  generalize bs ++ [123] ++ kidsW (wrN d) 6 true keys kids = OUT at *
  clear hown2 hF2 hf
  go_upto_region 3 with fail
  clear c4 r2
  go_loopw [0, 17] (fun v i wr => ∃ q : Nat, q ≤ kids.length ∧ i = .int .i64 (q : Int) ∧ Kw d 6 keys kids base W1 l2 OUT q v wr) (fun _ i _ => kids.length - (intOf i).toNat)
  case atStart => exact ⟨0, by omega, rfl, hK0⟩
  case round =>
    clear hK0
    obtain ⟨q, hq, rfl, acc, x, hout, hfx, hal, hx0, hownr, hFr⟩ := hrel
    have hbr : base ≤ wr.heap.size := Nat.le_trans hb1 hFr.low.size
    have hac : acc.length ≤ 10000000 := by omega
    by_cases hlt : q < kids.length
    · rcases HD.out with ⟨h0, _⟩ | ⟨g, o, c, hsl, hPg, hgV, hkc⟩
      · rw [h0] at hlt; simp at hlt
      · obtain ⟨kid, hkid⟩ : ∃ s, kids[q]? = some s := ⟨_, List.getElem?_eq_getElem hlt⟩
        obtain ⟨cs', h5, hcell, hJk⟩ := hkc q kid hkid
        injection hsl with hda hle hca
        subst hda hca
        clear hle
        have hqi : (q : Int) < (kids.length : Int) := by omega
        have hFw := hF.trans hFr
        have hgb := hP g hPg
        have hcw : ∀ (j : Nat) u, cs'[j]? = some u → wr.cell? ⟨g, o + q * 5 + j, none⟩ = some u := fun j u h => by rw [Nat.mul_comm q 5, hFw.low.cell hgb]; exact hcell j u h
        have HJ := hJk.low hFw.low hP
        obtain ⟨_, h1⟩ := HJ.five
        obtain ⟨y, hy, hfy⟩ := fold_at (fitN d) kids q kid x l2 hkid hfx
        have hyx := fitN_le d kid x y hy
        have hRk := hR kid (List.mem_of_getElem? hkid)
        have hwl := wr_len d kid x y hRk hy
        have Hn : Unit → OUT = acc ++ (((if (q == 0) then [] else [44]) ++ (if (6 : Int) = 6 then quoteN (keys.getD q []) ++ [58] else [])) ++ wrN d kid ++ kidsW (wrN d) 6 false (keys.drop (q + 1)) (kids.drop (q + 1))) := fun _ => by rw [hout, kidsW_next (wrN d) 6 q keys kids kid hkid]
        have Hy : Unit → fitN d kid x = some y := fun _ => hy
        have Hfy : Unit → (kids.drop (q + 1)).foldl (fun o kid => o.bind (fun x => fitN d kid x)) (some y) = some l2 := fun _ => hfy
        have rr := rV.frame hFr (by decide)
        clear hout hfx hy hfy hkc hcell hJk
        obtain ⟨key, hkey⟩ : ∃ s, keys[q]? = some s := ⟨_, List.getElem?_eq_getElem (by rw [HKK ()]; exact hlt)⟩
        obtain ⟨gk, ok, ck', hks, hPk, hgkV, hkcell⟩ := strs_cell HKV.out q key hkey
        injection hks with hka hle hca
        subst hka hca
        clear hle
        have hgkb := hP gk hPk
        have hkl := hky key (List.mem_of_getElem? hkey)
        have hql := quote_len key
        have hqk : (q : Int) < (keys.length : Int) := by rw [HKK ()]; exact hqi
        rw [show keys.getD q [] = key by rw [List.getD, hkey]; rfl] at Hn
        clear hkey
        have rN := Rw.new wr 29 zero5
        go_upto_region 5 with (first
          | (refine load5_at g (o + q * 5) cs' h5 hcw _ rfl rfl rfl ?_)
          | (refine store_arr wr.heap.size 29 zero5 rN 5 rfl 29 (by kernel_rfl) cs' h5 h1 _ _ rfl rfl rfl rfl ?_))
        rw [World.setRow_alloc_new]
        clear rN hcw
        have rT := Rw.new wr 29 cs'
        have hbl : Below wr.heap.size wr (wr.alloc (.cells cs'.toArray 29)) := (Below.refl _ _).alloc (Nat.le_refl _) _
        replace hownr := own_stay hownr hbl
        replace rr := rr.stay hbl
        have hFn := Fr.of_below hbl hbr
        replace HJ := HJ.low hFn.low hP
        replace hFr := hFr.trans hFn
        replace hFw := hFw.trans hFn
        generalize wr.heap.size = T at *
        generalize wr.alloc (.cells cs'.toArray 29) = wq at *
        clear hbl hFn hbr
        have hbq : base ≤ wq.heap.size := Nat.le_trans hb1 hFr.low.size
        by_cases hq0 : q = 0
        · have hq1 : ¬ (0 : Int) < (q : Int) := by omega
          have HQ0 : Unit → (q == 0) = true := fun _ => by rw [hq0]; rfl
          clear hq0
          have hEz := hE.keep (hFw.low.mono hb10)
          have hbz : base ≤ wq.heap.size := Nat.le_trans hb1 hFr.low.size
          have c0 := Rw.cell rr 0
          change _ = some (Value.int .i64 6) at c0
          have c3 := Rw.cell rr 3
          change _ = some (Value.slice (some ⟨gk, ok, none⟩) keys.length kc) at c3
          have ck : wq.cell? ⟨gk, ok + q, none⟩ = some (.string ⟨key.toArray⟩) := by rw [hFw.low.cell hgkb]; exact hkcell
          go_wp2_with fail
          refine (addText_any base _ acc key wq hownr hbz (by (try simp only [List.length_append]); (try simp only [List.length_cons, List.length_nil]); omega) (by omega)).mono ?_
          rintro e w8 ⟨v8, rfl, hown8, hF8⟩
          replace rr := rr.frame hF8 (by decide)
          replace rT := rT.frame hF8 (by decide)
          replace HJ := HJ.low hF8.low hP
          replace hFr := hFr.trans hF8
          replace hFw := hFw.trans hF8
          clear c0 c3 ck hownr hF8 hEz hbz
          have hbz : base ≤ w8.heap.size := Nat.le_trans hb1 hFr.low.size
          go_upto_region 9 with (at_builtin; refine list_new base _ (acc ++ quoteN key) [58] _ rfl hown8 hbz (by (try simp only [List.length_append]); (try simp only [List.length_cons, List.length_nil]); omega) _ _ rfl rfl rfl 1 rfl ?_; intro v10 w10 hown10 hF10)
          replace rr := rr.frame hF10 (by decide)
          replace rT := rT.frame hF10 (by decide)
          replace HJ := HJ.low hF10.low hP
          replace hFr := hFr.trans hF10
          replace hFw := hFw.trans hF10
          clear hown8 hF10 hbz
          have hEz := hE.keep (hFw.low.mono hb10)
          have hbz : base ≤ w10.heap.size := Nat.le_trans hb1 hFr.low.size
          go_wp2_with (refine load_val T 29 cs' rT h5 _ rfl rfl rfl ?_)
          refine (HW P D cs' kid x y base _ _ w10 HJ (Hy ()) hRk hP hown10 hbz hb10 hEz (by (try simp only [List.length_append]); (try simp only [List.length_cons, List.length_nil]); omega)).mono ?_
          rintro e w9 ⟨v9, rfl, hown9, hF9⟩
          have hF9' := hFr.trans hF9
          clear rr rT HJ hown10 hFr hFw hF9 hEz
          go_wp2_with fail
          go_roundw
          case rel => exact ⟨q + 1, by omega, by go_num, _, y, by rw [Hn (), HQ0 ()]; simp, Hfy (), by (try simp only [List.length_append]); (try simp only [List.length_cons, List.length_nil]); omega, by omega, hown9, hF9'⟩
          case measure => simp [intOf]; omega
        · have hq1 : (0 : Int) < (q : Int) := by omega
          have HQ0 : Unit → (q == 0) = false := fun _ => by rw [beq_eq_false_iff_ne]; exact hq0
          clear hq0
          go_upto_region 7 with (at_builtin; refine list_new base _ acc [44] _ rfl hownr hbq (by simp; omega) _ _ rfl rfl rfl 1 rfl ?_; intro v6 w6 hown6 hF6)
          replace rr := rr.frame hF6 (by decide)
          replace rT := rT.frame hF6 (by decide)
          replace HJ := HJ.low hF6.low hP
          replace hFr := hFr.trans hF6
          replace hFw := hFw.trans hF6
          clear hownr hF6 hbq
          have hEz := hE.keep (hFw.low.mono hb10)
          have hbz : base ≤ w6.heap.size := Nat.le_trans hb1 hFr.low.size
          have c0 := Rw.cell rr 0
          change _ = some (Value.int .i64 6) at c0
          have c3 := Rw.cell rr 3
          change _ = some (Value.slice (some ⟨gk, ok, none⟩) keys.length kc) at c3
          have ck : w6.cell? ⟨gk, ok + q, none⟩ = some (.string ⟨key.toArray⟩) := by rw [hFw.low.cell hgkb]; exact hkcell
          go_wp2_with fail
          refine (addText_any base _ (acc ++ [44]) key w6 hown6 hbz (by (try simp only [List.length_append]); (try simp only [List.length_cons, List.length_nil]); omega) (by omega)).mono ?_
          rintro e w8 ⟨v8, rfl, hown8, hF8⟩
          replace rr := rr.frame hF8 (by decide)
          replace rT := rT.frame hF8 (by decide)
          replace HJ := HJ.low hF8.low hP
          replace hFr := hFr.trans hF8
          replace hFw := hFw.trans hF8
          clear c0 c3 ck hown6 hF8 hEz hbz
          have hbz : base ≤ w8.heap.size := Nat.le_trans hb1 hFr.low.size
          go_upto_region 9 with (at_builtin; refine list_new base _ ((acc ++ [44]) ++ quoteN key) [58] _ rfl hown8 hbz (by (try simp only [List.length_append]); (try simp only [List.length_cons, List.length_nil]); omega) _ _ rfl rfl rfl 1 rfl ?_; intro v10 w10 hown10 hF10)
          replace rr := rr.frame hF10 (by decide)
          replace rT := rT.frame hF10 (by decide)
          replace HJ := HJ.low hF10.low hP
          replace hFr := hFr.trans hF10
          replace hFw := hFw.trans hF10
          clear hown8 hF10 hbz
          have hEz := hE.keep (hFw.low.mono hb10)
          have hbz : base ≤ w10.heap.size := Nat.le_trans hb1 hFr.low.size
          go_wp2_with (refine load_val T 29 cs' rT h5 _ rfl rfl rfl ?_)
          refine (HW P D cs' kid x y base _ _ w10 HJ (Hy ()) hRk hP hown10 hbz hb10 hEz (by (try simp only [List.length_append]); (try simp only [List.length_cons, List.length_nil]); omega)).mono ?_
          rintro e w9 ⟨v9, rfl, hown9, hF9⟩
          have hF9' := hFr.trans hF9
          clear rr rT HJ hown10 hFr hFw hF9 hEz
          go_wp2_with fail
          go_roundw
          case rel => exact ⟨q + 1, by omega, by go_num, _, y, by rw [Hn (), HQ0 ()]; simp, Hfy (), by (try simp only [List.length_append]); (try simp only [List.length_cons, List.length_nil]); omega, by omega, hown9, hF9'⟩
          case measure => simp [intOf]; omega
    · obtain rfl : q = kids.length := by omega
      rw [List.drop_length, kidsW, List.append_nil] at hout
      subst hout
      have rr := rV.frame hFr (by decide)
      have c0 := Rw.cell rr 0
      change _ = some (Value.int .i64 6) at c0
      have cc := (hE1.keep (hFr.low.mono hb10)).cls 6 125 rfl
      clear hfx
      go_wp2_with (at_builtin; refine list_new base _ OUT [125] _ rfl hownr hbr (by simp; omega) _ _ rfl rfl rfl 1 rfl ?_; intro v3 w3 hown3 hF3)
      go_ret
      exact ⟨_, rfl, by rw [HO ()]; exact hown3, (hF.trans hFr).trans hF3⟩
end Go.Proofs.YtbkkcojfgdjbhaaDoor
