/- The document's ends: alternatives, rows, once or not (written by wip/tools/genends.py). -/
import Derived.Test.YteooofakpkbgoaaDoorQBoth
import Derived.Deep.MidRow
namespace Go.Proofs.YteooofakpkbgoaaDoor.Dn
open Go.ChangeShapes Go.WideShapes Go.RowKit

theorem pl_none (n j : Nat) : Pl n (fun _ => false) j ↔ False := by simp [Pl]
theorem pl_or (n j : Nat) (f g : Nat → Bool) : Pl n (fun i => f i || g i) j ↔ Pl n f j ∨ Pl n g j := by
  unfold Pl
  rw [Bool.or_eq_true]
  constructor
  · rintro ⟨h, h1 | h1⟩
    · exact .inl ⟨h, h1⟩
    · exact .inr ⟨h, h1⟩
  · rintro (⟨h, h1⟩ | ⟨h, h1⟩)
    · exact ⟨h, .inl h1⟩
    · exact ⟨h, .inr h1⟩
theorem drop_get {α : Type} {l : List α} {i : Nat} {x : α} (h : l[i]? = some x) : l.drop i = x :: l.drop (i + 1) := by
  have hi := (List.getElem?_eq_some_iff.1 h).1
  rw [List.drop_eq_getElem_cons hi, (List.getElem?_eq_some_iff.1 h).2]
set_option maxHeartbeats 3200000 in
set_option maxRecDepth 100000 in
theorem ends_row (d : Nat) (ts : List T) (Ls : List (Bx → Prop)) (hl : ts.length = Ls.length) (h1k : ts.length ≤ 1000) (H : ∀ (i : Nat) t L, ts[i]? = some t → Ls[i]? = some L → EndsC d t L) : EndsC (d + 1) (.mk 2 noSet ts) (catL Ls) := by
  intro P w cs s v f hs ht hv
  obtain ⟨vk, css, rfl, hr, hkl, hk⟩ := ht
  obtain ⟨gA, rfl, rA⟩ := hv
  obtain ⟨a0, c0, rfl⟩ := hr.shape
  obtain ⟨N, hNN⟩ : ∃ N, s.length + 1 = N := ⟨_, rfl⟩
  rw [hNN] at rA ⊢
  have hN : N ≤ 1001 := by omega
  have hmk := make_bool N (by omega) (N : Int) rfl
  obtain ⟨X, eX⟩ : ∃ X, nodeC 2 noSet (.slice a0 css.length c0) = X := ⟨_, rfl⟩
  have hlX := nodeC_len 2 noSet (.slice a0 css.length c0)
  have x0 := nodeC_kind 2 noSet (.slice a0 css.length c0)
  have x257 := nodeC_kids 2 noSet (.slice a0 css.length c0)
  rw [eX] at hlX x0 x257
  simp only [eX]
  clear eX
  have hX : (Value.agg X.toArray).cells = X.toArray := rfl
  go_enter Tryd.func66, Tryd.ntmps66
  go_upto_region 1 with fail
  have rN := Rw.new w 61 X
  have A := Asd.of_below (S := fun _ => False) ((Below.refl w.heap.size w).alloc (Nat.le_refl _) (.cells X.toArray 61))
  generalize w.alloc (.cells X.toArray 61) = w1 at *
  obtain ⟨bN, hbN, eN⟩ : ∃ bN, w.heap.size ≤ bN ∧ w.heap.size = bN := ⟨_, Nat.le_refl _, rfl⟩
  rw [eN] at rN
  simp only [eN]
  have hsz1 := A.size
  have hlN := Rw.lt rN
  have hlA := Rw.lt rA
  go_upto_region 2 with fail
  have ro := Rw.new w1 4 (rowB N (fun _ => false))
  have hb1 := (Below.refl w1.heap.size w1).alloc (Nat.le_refl _) (.cells (rowB N (fun _ => false)).toArray 4)
  replace A := A.below hb1
  replace rN := rN.stay hb1
  have hNB := Rw.lt rN
  generalize w1.alloc (.cells (rowB N (fun _ => false)).toArray 4) = w2 at *
  obtain ⟨gO, eO⟩ : ∃ gO, w1.heap.size = gO := ⟨_, rfl⟩
  rw [eO] at ro hsz1 hlN
  simp only [eO]
  have k0 := (rN.cell 0).trans x0
  have k257 := (rN.cell 257).trans x257
  clear hmk hb1 hX
  replace rA := rA.keep A (fun e => e)
  replace hr := hr.keepN A (fun _ _ _ e => e)
  replace hk := fun (i : Nat) c t h1 h2 => (hk i c t h1 h2).keep A (fun _ _ _ e => e)
  go_wp2_with fail
  go_loopw [7, 10] (fun u7 iv wr => ∃ (i : Nat) (fo : Nat → Bool), iv = .int .i64 (i : Int) ∧ i ≤ css.length ∧ BAt wr u7 N fo ∧ Asd (fun _ => False) w2 wr ∧ ∀ j, Ends (catL (Ls.drop i)) s (Pl N fo) j ↔ Ends (catL Ls) s (Pl N f) j) (fun _ iv _ => css.length - (intOf iv).toNat)
  case atStart => exact ⟨0, f, rfl, by omega, ⟨gA, rfl, rA⟩, Asd.refl _ _, fun j => Iff.rfl⟩
  case round =>
    obtain ⟨i, fo, rfl, hi, hB, A2, hE⟩ := hrel
    have k2 := ((rN.keep A2 (fun e => e)).cell 257).trans x257
    by_cases hlt : i < css.length
    · have hli : (i : Int) < (css.length : Int) := by omega
      obtain ⟨c, hc⟩ : ∃ c, css[i]? = some c := ⟨_, List.getElem?_eq_getElem (by omega)⟩
      obtain ⟨t, ht⟩ : ∃ t, ts[i]? = some t := ⟨_, List.getElem?_eq_getElem (by omega)⟩
      obtain ⟨L, hL⟩ : ∃ L, Ls[i]? = some L := ⟨_, List.getElem?_eq_getElem (by omega)⟩
      have hT := hk i c t hc ht
      have hcl := hT.node.1
      have HE := H i t L ht hL
      obtain ⟨g, o, rfl, _, hg, hcc⟩ := hr.part hc
      have hrg : wr.rangeAt g (o + i * 258) c := fun j u hu => cell_asd A2 (fun e => e) (hcc j u hu)
      have KE := Lib.hid (HE P wr c s _ fo hs (hT.keep A2 (fun _ _ _ e => e)) (by rw [hNN]; exact hB))
      rw [hNN] at KE
      go_wp2_with (refine wpList_load_mid rfl 61 _ rfl g (o + i * 258) rfl c _ hrg Tryd.underlying61 rfl (by rw [size_node]; simp [hcl]) ?_)
      refine KE.out.mono ?_
      rintro e w3 ⟨hb3, v3, f3, rfl, hB3, hE3⟩
      go_wp2_with fail
      go_roundw
      case rel => exact ⟨i + 1, f3, by go_num, by omega, hB3, A2.below hb3, fun j => by
        rw [← hE j, drop_get hL, catL]
        exact (ends_iff hE3 j).trans ends_then.symm⟩
      case measure => simp [intOf]; omega
    · have hli : ¬ (i : Int) < (css.length : Int) := by omega
      go_wp2_with fail
      go_ret
      refine ⟨by rw [← eN]; exact below_asd (A.andThen A2), _, rfl, fo, hB, fun j => ?_⟩
      rw [← hE j, List.drop_eq_nil_of_le (by omega), catL]
      exact (ends_nil (fun k hk => by have := hk.1; omega)).symm
set_option maxHeartbeats 3200000 in
set_option maxRecDepth 100000 in
theorem ends_alts (d : Nat) (ts : List T) (Ls : List (Bx → Prop)) (hl : ts.length = Ls.length) (h1k : ts.length ≤ 1000) (H : ∀ (i : Nat) t L, ts[i]? = some t → Ls[i]? = some L → EndsC d t L) : EndsC (d + 1) (.mk 1 noSet ts) (anyL Ls) := by
  intro P w cs s v f hs ht hv
  obtain ⟨vk, css, rfl, hr, hkl, hk⟩ := ht
  obtain ⟨gA, rfl, rA⟩ := hv
  obtain ⟨a0, c0, rfl⟩ := hr.shape
  obtain ⟨N, hNN⟩ : ∃ N, s.length + 1 = N := ⟨_, rfl⟩
  rw [hNN] at rA ⊢
  have hN : N ≤ 1001 := by omega
  have hmk := make_bool N (by omega) (N : Int) rfl
  obtain ⟨X, eX⟩ : ∃ X, nodeC 1 noSet (.slice a0 css.length c0) = X := ⟨_, rfl⟩
  have hlX := nodeC_len 1 noSet (.slice a0 css.length c0)
  have x0 := nodeC_kind 1 noSet (.slice a0 css.length c0)
  have x257 := nodeC_kids 1 noSet (.slice a0 css.length c0)
  rw [eX] at hlX x0 x257
  simp only [eX]
  clear eX
  have hX : (Value.agg X.toArray).cells = X.toArray := rfl
  go_enter Tryd.func66, Tryd.ntmps66
  go_upto_region 1 with fail
  have rN := Rw.new w 61 X
  have A := Asd.of_below (S := fun _ => False) ((Below.refl w.heap.size w).alloc (Nat.le_refl _) (.cells X.toArray 61))
  generalize w.alloc (.cells X.toArray 61) = w1 at *
  obtain ⟨bN, hbN, eN⟩ : ∃ bN, w.heap.size ≤ bN ∧ w.heap.size = bN := ⟨_, Nat.le_refl _, rfl⟩
  rw [eN] at rN
  simp only [eN]
  have hsz1 := A.size
  have hlN := Rw.lt rN
  have hlA := Rw.lt rA
  go_upto_region 2 with fail
  have ro := Rw.new w1 4 (rowB N (fun _ => false))
  have hb1 := (Below.refl w1.heap.size w1).alloc (Nat.le_refl _) (.cells (rowB N (fun _ => false)).toArray 4)
  replace A := A.below hb1
  replace rN := rN.stay hb1
  have hNB := Rw.lt rN
  generalize w1.alloc (.cells (rowB N (fun _ => false)).toArray 4) = w2 at *
  obtain ⟨gO, eO⟩ : ∃ gO, w1.heap.size = gO := ⟨_, rfl⟩
  rw [eO] at ro hsz1 hlN
  simp only [eO]
  have k0 := (rN.cell 0).trans x0
  have k257 := (rN.cell 257).trans x257
  clear hmk hb1 hX
  replace rA := rA.keep A (fun e => e)
  replace hr := hr.keepN A (fun _ _ _ e => e)
  replace hk := fun (i : Nat) c t h1 h2 => (hk i c t h1 h2).keep A (fun _ _ _ e => e)
  go_wp2_with fail
  go_loopw [7, 9] (fun u7 iv wr => ∃ (i : Nat) (fo : Nat → Bool), iv = .int .i64 (i : Int) ∧ i ≤ css.length ∧ BAt wr u7 N fo ∧ Asd (fun _ => False) w2 wr ∧ ∀ j, (Pl N fo j ∨ Ends (anyL (Ls.drop i)) s (Pl N f) j) ↔ Ends (anyL Ls) s (Pl N f) j) (fun _ iv _ => css.length - (intOf iv).toNat)
  case atStart => exact ⟨0, fun _ => false, rfl, by omega, ⟨gO, rfl, ro⟩, Asd.refl _ _, fun j => by rw [pl_none, false_or]; rfl⟩
  case round =>
    obtain ⟨i, fo, rfl, hi, hB, A2, hE⟩ := hrel
    have k2 := ((rN.keep A2 (fun e => e)).cell 257).trans x257
    by_cases hlt : i < css.length
    · have hli : (i : Int) < (css.length : Int) := by omega
      obtain ⟨c, hc⟩ : ∃ c, css[i]? = some c := ⟨_, List.getElem?_eq_getElem (by omega)⟩
      obtain ⟨t, ht⟩ : ∃ t, ts[i]? = some t := ⟨_, List.getElem?_eq_getElem (by omega)⟩
      obtain ⟨L, hL⟩ : ∃ L, Ls[i]? = some L := ⟨_, List.getElem?_eq_getElem (by omega)⟩
      have hT := hk i c t hc ht
      have hcl := hT.node.1
      have HE := H i t L ht hL
      obtain ⟨g, o, rfl, _, hg, hcc⟩ := hr.part hc
      have hrg : wr.rangeAt g (o + i * 258) c := fun j u hu => cell_asd A2 (fun e => e) (hcc j u hu)
      have KE := Lib.hid (HE P wr c s _ f hs (hT.keep A2 (fun _ _ _ e => e)) (by rw [hNN]; exact ⟨gA, rfl, rA.keep A2 (fun e => e)⟩))
      rw [hNN] at KE
      have KB := Lib.hid (fun w' f3 v3 (h : BAt w' v3 N f3) (k : BAt w' u7 N fo) => both_any N fo f3 u7 v3 w' k h (by omega))
      go_wp2_with (refine wpList_load_mid rfl 61 _ rfl g (o + i * 258) rfl c _ hrg Tryd.underlying61 rfl (by rw [size_node]; simp [hcl]) ?_)
      refine KE.out.mono ?_
      rintro e w3 ⟨hb3, v3, f3, rfl, hB3, hE3⟩
      replace hB := hB.stay hb3
      go_wp2_with fail
      refine (KB.out _ _ _ hB3 hB).mono ?_
      rintro e w4 ⟨hb4, v4, rfl, hB4⟩
      go_wp2_with fail
      go_roundw
      case rel => exact ⟨i + 1, _, by go_num, by omega, hB4, (A2.below hb3).below hb4, fun j => by
        rw [← hE j, drop_get hL, anyL, pl_or, hE3 j, or_assoc]
        exact or_congr_right ends_or.symm⟩
      case measure => simp [intOf]; omega
    · have hli : ¬ (i : Int) < (css.length : Int) := by omega
      go_wp2_with fail
      go_ret
      refine ⟨by rw [← eN]; exact below_asd (A.andThen A2), _, rfl, fo, hB, fun j => ?_⟩
      rw [← hE j, List.drop_eq_nil_of_le (by omega), anyL, ends_none, or_false]
set_option maxHeartbeats 3200000 in
set_option maxRecDepth 100000 in
theorem ends_opt (d : Nat) (t0 : T) (L0 : Bx → Prop) (H0 : EndsC d t0 L0) : EndsC (d + 1) (.mk 5 noSet [t0]) (fun u => u = [] ∨ L0 u) := by
  intro P w cs s v f hs ht hv
  obtain ⟨vk, css, rfl, hr, hkl, hk⟩ := ht
  obtain ⟨gA, rfl, rA⟩ := hv
  obtain ⟨a0, c0, rfl⟩ := hr.shape
  obtain ⟨N, hNN⟩ : ∃ N, s.length + 1 = N := ⟨_, rfl⟩
  rw [hNN] at rA ⊢
  have hN : N ≤ 1001 := by omega
  have hmk := make_bool N (by omega) (N : Int) rfl
  obtain ⟨X, eX⟩ : ∃ X, nodeC 5 noSet (.slice a0 css.length c0) = X := ⟨_, rfl⟩
  have hlX := nodeC_len 5 noSet (.slice a0 css.length c0)
  have x0 := nodeC_kind 5 noSet (.slice a0 css.length c0)
  have x257 := nodeC_kids 5 noSet (.slice a0 css.length c0)
  rw [eX] at hlX x0 x257
  simp only [eX]
  clear eX
  have hX : (Value.agg X.toArray).cells = X.toArray := rfl
  go_enter Tryd.func66, Tryd.ntmps66
  go_upto_region 1 with fail
  have rN := Rw.new w 61 X
  have A := Asd.of_below (S := fun _ => False) ((Below.refl w.heap.size w).alloc (Nat.le_refl _) (.cells X.toArray 61))
  generalize w.alloc (.cells X.toArray 61) = w1 at *
  obtain ⟨bN, hbN, eN⟩ : ∃ bN, w.heap.size ≤ bN ∧ w.heap.size = bN := ⟨_, Nat.le_refl _, rfl⟩
  rw [eN] at rN
  simp only [eN]
  have hsz1 := A.size
  have hlN := Rw.lt rN
  have hlA := Rw.lt rA
  go_upto_region 2 with fail
  have ro := Rw.new w1 4 (rowB N (fun _ => false))
  have hb1 := (Below.refl w1.heap.size w1).alloc (Nat.le_refl _) (.cells (rowB N (fun _ => false)).toArray 4)
  replace A := A.below hb1
  replace rN := rN.stay hb1
  have hNB := Rw.lt rN
  generalize w1.alloc (.cells (rowB N (fun _ => false)).toArray 4) = w2 at *
  obtain ⟨gO, eO⟩ : ∃ gO, w1.heap.size = gO := ⟨_, rfl⟩
  rw [eO] at ro hsz1 hlN
  simp only [eO]
  have k0 := (rN.cell 0).trans x0
  have k257 := (rN.cell 257).trans x257
  clear hmk hb1 hX
  replace rA := rA.keep A (fun e => e)
  replace hr := hr.keepN A (fun _ _ _ e => e)
  replace hk := fun (i : Nat) c t h1 h2 => (hk i c t h1 h2).keep A (fun _ _ _ e => e)
  have hc1 : css.length = 1 := by simpa using hkl
  obtain ⟨c, hc⟩ : ∃ c, css[0]? = some c := ⟨_, List.getElem?_eq_getElem (by omega)⟩
  have hT := hk 0 c t0 hc rfl
  have hcl := hT.node.1
  obtain ⟨g, o, rfl, _, hg, hcc⟩ := hr.part hc
  have hrg : w2.rangeAt g o c := fun j u hu => by
    have := hcc j u hu
    simpa using this
  have KE := Lib.hid (H0 P w2 c s _ f hs hT (by rw [hNN]; exact ⟨gA, rfl, rA⟩))
  rw [hNN] at KE
  have KB := Lib.hid (fun w' f3 v3 (h : BAt w' v3 N f3) (k : BAt w' (.slice (some ⟨gA, 0, none⟩) N N) N f) => both_any N f f3 (.slice (some ⟨gA, 0, none⟩) N N) v3 w' k h (by omega))
  rw [hc1] at k257
  go_wp2_with (refine wpList_load_mid rfl 61 _ rfl g o rfl c _ hrg Tryd.underlying61 rfl (by rw [size_node]; simp [hcl]) ?_)
  refine KE.out.mono ?_
  rintro e w3 ⟨hb3, v3, f3, rfl, hB3, hE3⟩
  go_wp2_with fail
  refine (KB.out _ _ _ hB3 ⟨gA, rfl, rA.stay hb3⟩).mono ?_
  rintro e w4 ⟨hb4, v4, rfl, hB4⟩
  go_wp2_with fail
  go_ret
  refine ⟨below_asd ((A.below hb3).below hb4), _, _, rfl, hB4, fun j => ?_⟩
  rw [pl_or, hE3 j, ends_or, ends_nil (fun k hk => by have := hk.1; omega)]
end Go.Proofs.YteooofakpkbgoaaDoor.Dn
