/- A value is written. -/
import Derived.Test.YtbkkcojfgdjbhaaDoorJKidsW
import Derived.Test.YtbkkcojfgdjbhaaDoorJFitsStep
import Derived.Shelf.Strconv.AppendIntPublic10
namespace Go.Proofs.YtbkkcojfgdjbhaaDoor
open Go.ChangeShapes Go.WideShapes Go.RowKit

theorem form_kind {k n : Int} {s : Bs} {a b : Nat} (h : formB k n s a b = true) : 0 ≤ k ∧ k ≤ 6 ∧ (k = 6 → a = b) := by
  unfold formB at h
  simp only [Bool.and_eq_true, decide_eq_true_eq] at h
  refine ⟨h.1.1.1.1, h.1.1.1.2, fun e => ?_⟩
  have := h.2
  subst e
  simpa using this
set_option maxHeartbeats 3200000 in
set_option maxRecDepth 100000 in
theorem addValue_step (d : Nat) (HK : ∀ d', d = d' + 1 → WCt d') : WCt d := by
  intro P D cs j l l2 base bv bs w hJ hfit hR hP hown hb hb10 hE hl
  cases D with
  | zero => exact hJ.elim
  | succ D =>
  obtain ⟨k, n, s, keys, kids⟩ := j
  obtain ⟨kv, dv, rfl, hkv, hdv⟩ := hJ
  have hwl := wr_len d _ l l2 hR hfit
  obtain ⟨hlk, hform, hcase⟩ := fit_form hfit
  obtain ⟨hk0, hk6, hk66⟩ := form_kind hform
  have hle := fitN_le d _ _ _ hfit
  have hbn : bs.length ≤ 10000000 := by omega
  rcases hcase with ⟨h5, h6, htx, _⟩ | ⟨h56, d', hd', hky, hfold⟩
  · have hout : wrN d (.mk k n s keys kids) = leafW k n s := by
      cases d with
      | zero => rfl
      | succ d => rw [wrN, if_neg (by omega)]
    rw [hout] at hwl ⊢
    have htl := textOk_len htx
    have hnr := hR.num
    clear hout hfit hR hform hdv
    have rV := Rw.new w 29 (cells5 k n s kv dv)
    have hbl : Below w.heap.size w (w.alloc (.cells (cells5 k n s kv dv).toArray 29)) := (Below.refl _ _).alloc (Nat.le_refl _) _
    have hcases : k = 0 ∨ k = 1 ∨ k = 2 ∨ k = 3 ∨ k = 4 := by omega
    clear h5 h6 hk0 hk6 hk66 hkv
    rcases hcases with rfl | rfl | rfl | rfl | rfl
    all_goals
      go_enter Tryd.func23, Tryd.ntmps23
      go_upto_region 1 with fail
      have hF : Fr base w (w.alloc (.cells (cells5 _ n s kv dv).toArray 29)) := Fr.of_below hbl hb
      have hE1 := hE.keep (hF.low.mono hb10)
      replace hown := own_stay hown hbl
      clear hbl
      generalize w.alloc (.cells (cells5 _ n s kv dv).toArray 29) = W1 at *
      generalize hN : w.heap.size = V at *
      have HN : Unit → w.heap.size = V := fun _ => hN
      clear hN
      have hb1 : base ≤ W1.heap.size := by have := Rw.lt rV; omega
      have c0 := Rw.cell rV 0
      have c1 := Rw.cell rV 1
      have c2 := Rw.cell rV 2
      change _ = some (Value.int .i64 _) at c0
      change _ = some (Value.int .i64 n) at c1
      change _ = some (Value.string ⟨s.toArray⟩) at c2
      clear rV
    · go_wp2_with (at_builtin; refine list_str base _ bs [110, 117, 108, 108] hown hb1 (by simp; omega) _ _ rfl rfl rfl rfl ?_; intro v2 w2 hown2 hF2)
      go_ret
      exact ⟨_, rfl, hown2, hF.trans hF2⟩
    · go_wp2_with (at_builtin; refine list_str base _ bs [102, 97, 108, 115, 101] hown hb1 (by simp; omega) _ _ rfl rfl rfl rfl ?_; intro v2 w2 hown2 hF2)
      go_ret
      exact ⟨_, rfl, hown2, hF.trans hF2⟩
    · go_wp2_with (at_builtin; refine list_str base _ bs [116, 114, 117, 101] hown hb1 (by simp; omega) _ _ rfl rfl rfl rfl ?_; intro v2 w2 hown2 hF2)
      go_ret
      exact ⟨_, rfl, hown2, hF.trans hF2⟩
    · have K := Lib.hid (Any.strconv_AppendInt_10 Tryd.laysM176 base bs.length n hnr.1 hnr.2 bv (Lib.byteCells bs) W1 hown hb1 (by omega) (fun w' h => hE1.pow w' (h.mono hb10)))
      go_wp2_with fail
      refine K.out.mono ?_
      rintro e w2 ⟨v2, rfl, hown2, hlo2, hke2⟩
      clear K c0 c1 c2 hown
      go_wp2_with fail
      go_ret
      have hF2 : Fr base W1 w2 := ⟨hlo2, hke2⟩
      refine ⟨_, rfl, ?_, hF.trans hF2⟩
      have e1 : Lib.byteCells bs ++ Lib.byteCells (Lib.itoa n) = Lib.byteCells (bs ++ Lib.itoa n) := by simp [Lib.byteCells]
      rw [e1, ← List.length_append] at hown2
      exact hown2
    · have K := Lib.hid (addText_any base bv bs s W1 hown hb1 (by omega) (by omega))
      go_wp2_with fail
      refine K.out.mono ?_
      rintro e w2 ⟨v2, rfl, hown2, hF2⟩
      clear K c0 c1 c2 hown
      go_wp2_with fail
      go_ret
      exact ⟨_, rfl, hown2, hF.trans hF2⟩
  · subst hd'
    have hout : wrN (d' + 1) (.mk k n s keys kids) = [opN k] ++ kidsW (wrN d') k true keys kids ++ [clN k] := by rw [wrN, if_pos h56]
    rw [hout] at hwl ⊢
    have hRk := hR.2
    have rV := Rw.new w 29 (cells5 k n s kv dv)
    have hbl : Below w.heap.size w (w.alloc (.cells (cells5 k n s kv dv).toArray 29)) := (Below.refl _ _).alloc (Nat.le_refl _) _
    have hF0 : Fr base w (w.alloc (.cells (cells5 k n s kv dv).toArray 29)) := Fr.of_below hbl hb
    have hown1 := own_stay hown hbl
    have hE1 := hE.keep (hF0.low.mono hb10)
    have hkv1 := hkv.low hF0.low hP
    have hdv1 : (kids = [] ∧ ∃ a c, dv = .slice a 0 c) ∨ ∃ g o c, dv = .slice (some ⟨g, o, none⟩) kids.length c ∧ P g ∧ g < (w.alloc (.cells (cells5 k n s kv dv).toArray 29)).heap.size ∧ ∀ (i : Nat) kid, kids[i]? = some kid → ∃ cs', cs'.length = 5 ∧ (∀ (j : Nat) u, cs'[j]? = some u → (w.alloc (.cells (cells5 k n s kv dv).toArray 29)).cell? ⟨g, o + 5 * i + j, none⟩ = some u) ∧ JAt P (w.alloc (.cells (cells5 k n s kv dv).toArray 29)) D cs' kid := by
      rcases hdv with h | ⟨g, o, c, e2, hp, hlt, hc⟩
      · exact .inl h
      · refine .inr ⟨g, o, c, e2, hp, Nat.lt_of_lt_of_le hlt hF0.low.size, fun i kid hi => ?_⟩
        obtain ⟨cs', h5, h6, h7⟩ := hc i kid hi
        exact ⟨cs', h5, fun j u hu => by rw [hF0.low.cell (hP g hp)]; exact h6 j u hu, h7.low hF0.low hP⟩
    have hb1 : base ≤ (w.alloc (.cells (cells5 k n s kv dv).toArray 29)).heap.size := Nat.le_trans hb hF0.low.size
    have hW := HK d' rfl
    rcases h56 with rfl | rfl
    · have K := Lib.hid (addKids_5 d' hW P D n s kv dv keys kids l l2 base bv bs _ hkv1 hdv1 hfold hlk hRk hP hown1 hb1 hb10 hE1 hl)
      clear hout hfit hR hform hdv hkv hown1 hdv1 hkv1 hfold hky hown hW HK hk66
      go_enter Tryd.func23, Tryd.ntmps23
      go_upto_region 1 with fail
      clear hbl
      generalize w.alloc (.cells (cells5 5 n s kv dv).toArray 29) = W1 at *
      have c0 := Rw.cell rV 0
      change _ = some (Value.int .i64 _) at c0
      go_wp2_with (refine load_val w.heap.size 29 (cells5 5 n s kv dv) rV rfl _ rfl rfl rfl ?_)
      refine K.out.mono ?_
      rintro e w2 ⟨v2, rfl, hown2, hF2⟩
      clear K c0 rV
      go_wp2_with fail
      go_ret
      exact ⟨_, rfl, hown2, hF0.trans hF2⟩
    · have K := Lib.hid (addKids_6 d' hW P D n s kv dv keys kids l l2 base bv bs _ hkv1 hdv1 hfold hlk (hk66 rfl) (fun s hs => textOk_len (ky_each hky s hs)) hRk hP hown1 hb1 hb10 hE1 hl)
      clear hout hfit hR hform hdv hkv hown1 hdv1 hkv1 hfold hky hown hW HK hk66
      go_enter Tryd.func23, Tryd.ntmps23
      go_upto_region 1 with fail
      clear hbl
      generalize w.alloc (.cells (cells5 6 n s kv dv).toArray 29) = W1 at *
      have c0 := Rw.cell rV 0
      change _ = some (Value.int .i64 _) at c0
      go_wp2_with (refine load_val w.heap.size 29 (cells5 6 n s kv dv) rV rfl _ rfl rfl rfl ?_)
      refine K.out.mono ?_
      rintro e w2 ⟨v2, rfl, hown2, hF2⟩
      clear K c0 rV
      go_wp2_with fail
      go_ret
      exact ⟨_, rfl, hown2, hF0.trans hF2⟩
theorem addValue_any (d : Nat) : WCt d := by
  induction d with
  | zero => exact addValue_step 0 (fun d' e => by omega)
  | succ d ih => exact addValue_step (d + 1) (fun d' e => by obtain rfl : d = d' := by omega
                                                             exact ih)
/-- The text of a value, or why there is none. -/
def writeN (j : J) : Bs × Int := if rightN j then (wrN 6 j, 0) else ([], 1)
set_option maxHeartbeats 1600000 in
theorem write_any (P : Nat → Prop) (D : Nat) (cs : List Value) (j : J) (w : World) (hJ : JAt P w D cs j) (hE : Env w) (hS : Siz 7 j) (hR : Rg 6 j) :
    Calls Tryd.prog 13 #[.agg cs.toArray] w fun e w' => e = .returned (.tuple #[.string ⟨(writeN j).1.toArray⟩, .int .i64 (writeN j).2]) ∧ Below w.heap.size w w' := by
  obtain ⟨h5, h1⟩ := hJ.five
  have rV := Rw.new w 29 cs
  have hb1 : Below w.heap.size w (w.alloc (.cells cs.toArray 29)) := (Below.refl _ _).alloc (Nat.le_refl _) _
  have hJ1 := (hJ.mono (P' := fun k => k < w.heap.size) (fun _ _ h => h)).keep (S := fun _ => False) (Asd.of_below hb1) (fun _ _ _ h => h)
  have hbig := hE.big
  go_enter Tryd.func13, Tryd.ntmps13
  go_upto_region 1 with fail
  generalize w.alloc (.cells cs.toArray 29) = W1 at *
  have K := Lib.hid (right_any _ D cs j W1 hJ1 (hE.keep (hb1.mono hbig)) hS)
  cases hr : rightN j with
  | false =>
    have HW : Unit → writeN j = ([], 1) := fun _ => by unfold writeN; rw [hr]; rfl
    rw [hr] at K
    go_wp2_with (refine load_val w.heap.size 29 cs rV h5 _ rfl rfl rfl ?_)
    refine K.out.mono ?_
    rintro e w2 ⟨rfl, hb2⟩
    have hb2' := hb1.trans (hb2.mono hb1.size)
    clear K hb2
    go_wp2_with fail
    go_ret2
    exact ⟨by rw [HW ()]; rfl, hb2'⟩
  | true =>
    have HW : Unit → writeN j = (wrN 6 j, 0) := fun _ => by unfold writeN; rw [hr]; rfl
    rw [hr] at K
    obtain ⟨l2, hl2⟩ : ∃ l2, fitN 6 j 400 = some l2 := by
      unfold rightN at hr
      cases hf : fitN 6 j 400 with
      | none => rw [hf] at hr; cases hr
      | some l2 => exact ⟨l2, rfl⟩
    go_wp2_with (refine load_val w.heap.size 29 cs rV h5 _ rfl rfl rfl ?_)
    refine K.out.mono ?_
    rintro e w2 ⟨rfl, hb2⟩
    have hb2' := hb1.trans (hb2.mono hb1.size)
    have hJ2 := hJ1.keep (S := fun _ => False) (Asd.of_below hb2) (fun _ _ _ h => h)
    have rV2 := rV.stay hb2
    have K2 := Lib.hid (addValue_any 6 _ D cs j 400 l2 w2.heap.size (.slice none 0 0) [] w2 hJ2 hl2 hR (fun i h => by have := hb2'.size; omega) (World.ownsRow_nil _ _ _ _) (Nat.le_refl _) (Nat.le_trans hbig hb2'.size) (hE.keep (hb2'.mono hbig)) (by simp))
    clear K hb2 hl2 rV hJ1
    go_wp2_with (refine load_val w.heap.size 29 cs rV2 h5 _ rfl rfl rfl ?_)
    refine K2.out.mono ?_
    rintro e w3 ⟨v3, rfl, hown3, hF3⟩
    rw [List.nil_append] at hown3
    have hs := own_string hown3
    have hb3 := hb2'.trans (hF3.low.mono hb2'.size)
    clear K2 hown3 hF3 rV2 hJ2
    go_wp2_with fail
    go_ret2
    exact ⟨by rw [HW ()]; rfl, hb3⟩
end Go.Proofs.YtbkkcojfgdjbhaaDoor
