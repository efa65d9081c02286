/- One step of fits. -/
import Derived.Test.YtbkkcojfgdjbhaaDoorJFits
import Derived.StillTailTactics
namespace Go.Proofs.YtbkkcojfgdjbhaaDoor
open Go.ChangeShapes Go.WideShapes Go.RowKit
set_option maxHeartbeats 3200000 in
set_option maxRecDepth 100000 in
theorem fits_step (d : Nat) (HF : ∀ d', d = d' + 1 → FCt d') : FCt d := by
  intro P D cs j left X w hJ hPX hX hE hX10 hS hl0 hl1 hdm
  cases D with
  | zero => exact hJ.elim
  | succ D =>
  obtain ⟨k, n, s, keys, kids⟩ := j
  obtain ⟨kv, dv, rfl, hkv, hdv⟩ := hJ
  obtain ⟨hs1, hs2, hs3, hs4, hs5⟩ := hS
  obtain ⟨ka, kc, rfl⟩ : ∃ ka kc, kv = .slice ka keys.length kc := by
    rcases hkv with ⟨rfl, a, c, rfl⟩ | ⟨g, o, c, rfl, _⟩
    · exact ⟨a, c, rfl⟩
    · exact ⟨_, c, rfl⟩
  obtain ⟨da, dc, rfl⟩ : ∃ da dc, dv = .slice da kids.length dc := by
    rcases hdv with ⟨rfl, a, c, rfl⟩ | ⟨g, o, c, rfl, _⟩
    · exact ⟨a, c, rfl⟩
    · exact ⟨_, c, rfl⟩
  have hXw := Rw.lt hX
  have rV := Rw.new w 29 (cells5 k n s (.slice ka keys.length kc) (.slice da kids.length dc))
  have hb : Below w.heap.size w (w.alloc (.cells (cells5 k n s (.slice ka keys.length kc) (.slice da kids.length dc)).toArray 29)) := (Below.refl _ _).alloc (Nat.le_refl _) _
  go_enter Tryd.func25, Tryd.ntmps25
  go_upto_region 1 with fail
  have hX1 := hX.stay hb
  have cX := Rw.cell hX1 0
  have fX := Rw.frozen hX1 0
  change _ = some (Value.int .i64 left) at cX
  have a1 : Asd (· = X) w (w.alloc (.cells (cells5 k n s (.slice ka keys.length kc) (.slice da kids.length dc)).toArray 29)) := Asd.of_below hb
  generalize w.alloc (.cells (cells5 k n s (.slice ka keys.length kc) (.slice da kids.length dc)).toArray 29) = W1 at *
  generalize hN : w.heap.size = V at *
  have HN : Unit → w.heap.size = V := fun _ => hN
  have hVX : V ≠ X := by omega
  clear hN
  have hw1 : IntKind.i64.wrap (left - 1) = left - 1 := by simp [IntKind.wrap, IntKind.bits, IntKind.signed]; omega
  have c0 := Rw.cell rV 0
  have c2 := Rw.cell rV 2
  have c3 := Rw.cell rV 3
  have c4 := Rw.cell rV 4
  change _ = some (Value.int .i64 k) at c0
  change _ = some (Value.string ⟨s.toArray⟩) at c2
  change _ = some (Value.slice ka keys.length kc) at c3
  change _ = some (Value.slice da kids.length dc) at c4
  go_upto_region 2 with fail
  have hX2 := hX1.setCell 0 (.int .i64 (left - 1))
  have rV2 := rV.other hVX 0 (.int .i64 (left - 1))
  have a2 := a1.set1 0 (.int .i64 (left - 1))
  change Rw _ _ _ [.int .i64 (left - 1)] at hX2
  clear cX fX c0 c2 c3 c4 rV hX1 a1
  generalize W1.setCell ⟨X, 0, none⟩ (.int .i64 (left - 1)) = W2 at *
  have cX := Rw.cell hX2 0
  have c0 := Rw.cell rV2 0
  have c1 := Rw.cell rV2 1
  have c2 := Rw.cell rV2 2
  have c3 := Rw.cell rV2 3
  have c4 := Rw.cell rV2 4
  change _ = some (Value.int .i64 (left - 1)) at cX
  change _ = some (Value.int .i64 k) at c0
  change _ = some (Value.int .i64 n) at c1
  change _ = some (Value.string ⟨s.toArray⟩) at c2
  change _ = some (Value.slice ka keys.length kc) at c3
  change _ = some (Value.slice da kids.length dc) at c4
  by_cases hlk : left - 1 < (kids.length : Int)
  · have he : fitN d (.mk k n s keys kids) left = none := by cases d <;> simp [fitN, fitG, hlk]
    go_quiet (fail)
    go_wp2_with fail
    go_ret
    exact ⟨by rw [he]; rfl, ⟨left - 1, hX2, by rw [he]; intro _ h; cases h⟩, a2.andThen ⟨rfl, rfl, rfl, Nat.le_refl _, fun _ _ _ => rfl⟩⟩
  · have hd : decide (left - 1 < (kids.length : Int)) = false := decide_eq_false hlk
    have HLK : Hid (¬ left - 1 < (kids.length : Int)) := hlk
    have a3 : Asd (· = X) w W2.drew := a2.drew
    have K1 : Hid (Calls Tryd.prog 41 #[.agg #[.int .i64 k, .int .i64 n, .string ⟨s.toArray⟩, .slice ka keys.length kc, .slice da kids.length dc]] W2.drew fun e w' => e = .returned (.bool (formB k n s keys.length kids.length)) ∧ Below W2.drew.heap.size W2.drew w') := formed_any k n s ka da keys.length kc kids.length dc W2.drew
    go_still_tail 8, (by kernel_rfl)
    change wpList _ _ _ _ _ W2.drew
    have hX3 : Rw W2.drew X 3 [.int .i64 (left - 1)] := hX2
    have rV3 : Rw W2.drew V 29 _ := rV2
    have d0 : W2.drew.cell? _ = _ := c0
    have d1 : W2.drew.cell? _ = _ := c1
    have d2 : W2.drew.cell? _ = _ := c2
    have d3 : W2.drew.cell? _ = _ := c3
    have d4 : W2.drew.cell? _ = _ := c4
    clear c0 c1 c2 c3 c4 hX2 rV2 a2 cX
    generalize W2.drew = W3 at *
    go_wp2_with fail
    refine K1.out.mono ?_
    rintro e W4 ⟨rfl, hb4⟩
    clear K1 d0 d1 d2 d3 d4
    have hX4 := hX3.stay hb4
    have rV4 := rV3.stay hb4
    have a4 := a3.below hb4
    have e0 := Rw.cell rV4 0
    have e2 := Rw.cell rV4 2
    have e3 := Rw.cell rV4 3
    have e4 := Rw.cell rV4 4
    change _ = some (Value.int .i64 k) at e0
    change _ = some (Value.string ⟨s.toArray⟩) at e2
    change _ = some (Value.slice ka keys.length kc) at e3
    change _ = some (Value.slice da kids.length dc) at e4
    clear hX3 rV3 hb4 a3
    have hE4 := hE.one a4 hX10
    cases hfb : formB k n s keys.length kids.length with
    | false =>
      have he : fitN d (.mk k n s keys kids) left = none := by cases d <;> simp [fitN, fitG, hfb]
      go_wp2_with fail
      go_ret
      exact ⟨by rw [he]; rfl, ⟨left - 1, hX4, by rw [he]; intro _ h; cases h⟩, a4⟩
    | true =>
    by_cases hk : k ≠ 5 ∧ k ≠ 6
    · have he := fitN_leaf (d := d) (Int.not_lt.2 HLK.out) hfb hk
      have K2 := Lib.hid (fitsText_any s W4 hE4 hs1)
      obtain ⟨hk5, hk6⟩ := hk
      have hd5 : (k != 5) = true := by simpa using hk5
      have hd6 : (k != 6) = true := by simpa using hk6
      cases hto : textOk s
      all_goals
        rw [hto] at he K2
        go_wp2_with fail
        refine K2.out.mono ?_
        rintro e W5 ⟨rfl, hb5⟩
        clear K2
        go_wp2_with fail
        go_ret
        refine ⟨by rw [he]; rfl, ⟨left - 1, hX4.stay hb5, ?_⟩, a4.below hb5⟩
        rw [he]
        intro l2 h
        cases h
        try rfl
    · have hdk : ((k != 5) = false) ∨ ((k != 5) = true ∧ (k != 6) = false) := by
        by_cases h5 : k = 5
        · exact .inl (by simp [h5])
        · exact .inr ⟨by simpa using h5, by simp; omega⟩
      cases d with
      | zero =>
        have he := fitN_low (Int.not_lt.2 HLK.out) hfb hk
        rcases hdk with hd5 | ⟨hd5, hd6⟩
        all_goals
          go_wp2_with fail
          go_ret
          exact ⟨by rw [he]; rfl, ⟨left - 1, hX4, by rw [he]; intro _ h; cases h⟩, a4⟩
      | succ d =>
        have He : Unit → _ := fun _ => fitN_more (d := d) (Int.not_lt.2 HLK.out) hfb hk
        have K3 := Lib.hid (fitKeys_any P (.slice ka keys.length kc) keys W4 hE4 (hkv.keepN a4 (fun i hi _ e => hPX (e ▸ hi))) hs2 hs3)
        clear hk
        have hdp : decide (((d + 1 : Nat) : Int) = 0) = false := decide_eq_false (by omega)
        have HD := Lib.hid hdv
        clear hdv
        cases hky : kyN [] keys with
        | false =>
          rw [hky] at He K3
          rcases hdk with hd5 | ⟨hd5, hd6⟩
          all_goals
            go_wp2_with fail
            refine K3.out.mono ?_
            rintro e W5 ⟨rfl, hb5⟩
            clear K3
            go_wp2_with fail
            go_ret
            exact ⟨by rw [He ()]; rfl, ⟨left - 1, hX4.stay hb5, by rw [He ()]; intro _ h; cases h⟩, a4.below hb5⟩
        | true =>
          rw [hky] at He K3
          replace He : Unit → fitN (d + 1) (.mk k n s keys kids) left = kids.foldl (fun o kid => o.bind (fun l => fitN d kid l)) (some (left - 1)) := fun _ => (He ()).trans (if_pos rfl)
          rcases hdk with hd5 | ⟨hd5, hd6⟩
          all_goals
            go_wp2_with fail
            refine K3.out.mono ?_
            rintro e W5 ⟨rfl, hb5⟩
            clear K3 e0 e2 e3
            have e5 := (Rw.cell (rV4.stay hb5) 4)
            change _ = some (Value.slice da kids.length dc) at e5
            have hX5 := hX4.stay hb5
            have a5 := a4.below hb5
            clear e4 rV4 hX4 a4 hb5
            go_wp2_with fail
            go_loopw [48] (fun i wr => ∃ q : Nat, q ≤ kids.length ∧ i = .int .i64 (q : Int) ∧ ∃ l : Int, Rw wr X 3 [.int .i64 l] ∧ Hid (kids.foldl (fun o kid => o.bind (fun l => fitN d kid l)) (some (left - 1)) = (kids.drop q).foldl (fun o kid => o.bind (fun l => fitN d kid l)) (some l)) ∧ Asd (· = X) w wr ∧ -1000000 ≤ l ∧ l ≤ 1000000) (fun i _ => kids.length - (intOf i).toNat)
            case atStart => exact ⟨0, by omega, rfl, left - 1, hX5, rfl, a5, by have := HLK.out; omega, by omega⟩
            case round =>
              obtain ⟨q, hq, rfl, l, hXr, hf, hA, hb0, hb1⟩ := hrel
              by_cases hlt2 : q < kids.length
              · rcases HD.out with ⟨h0, _⟩ | ⟨g, o, c, hsl, hPg, hgV, hkc⟩
                · rw [h0] at hlt2; simp at hlt2
                · obtain ⟨kid, hkid⟩ : ∃ s, kids[q]? = some s := ⟨_, List.getElem?_eq_getElem hlt2⟩
                  obtain ⟨cs', h5, hcell, hJk⟩ := hkc q kid hkid
                  injection hsl with hda hle hca
                  subst hda hca
                  clear hle
                  have hqi : (q : Int) < (kids.length : Int) := by omega
                  have hgX : ¬ g = X := fun e => hPX (e ▸ hPg)
                  have hcw : ∀ (j : Nat) u, cs'[j]? = some u → wr.cell? ⟨g, o + q * 5 + j, none⟩ = some u := fun j u h => by rw [Nat.mul_comm q 5]; exact cell_asd hA hgX (hcell j u h)
                  have HJ := hJk.keep hA (fun i hi _ e => hPX (e ▸ hi))
                  obtain ⟨_, h1⟩ := HJ.five
                  have hdrop : kids.drop q = kid :: kids.drop (q + 1) := by rw [List.drop_eq_getElem_cons hlt2]; congr 1; exact (List.getElem?_eq_some_iff.1 hkid).2
                  have Hf : Unit → kids.foldl (fun o kid => o.bind (fun l => fitN d kid l)) (some (left - 1)) = (kids.drop (q + 1)).foldl (fun o kid => o.bind (fun l => fitN d kid l)) (fitN d kid l) := fun _ => by rw [hf.out, hdrop]; rfl
                  have hSk := hs5 kid (List.mem_of_getElem? hkid)
                  have hEr := hE.one hA hX10
                  clear hf hkc hcell hJk hkid hdrop
                  have rN := Rw.new wr 29 zero5
                  go_upto_region 11 with (first
                    | (refine load5_at g (o + q * 5) cs' h5 hcw _ rfl rfl rfl ?_)
                    | (refine store_arr wr.heap.size 29 zero5 rN 5 rfl 29 (by kernel_rfl) cs' h5 h1 _ _ rfl rfl rfl rfl ?_))
                  rw [World.setRow_alloc_new]
                  clear rN hcw
                  have rT := Rw.new wr 29 cs'
                  have hbl : Below wr.heap.size wr (wr.alloc (.cells cs'.toArray 29)) := (Below.refl _ _).alloc (Nat.le_refl _) _
                  have HJ2 := HJ.keep (S := fun _ => False) (Asd.of_below hbl) (fun _ _ _ h => h)
                  have hX2 := hXr.stay hbl
                  have HA6 := hA.below hbl
                  have K6 := Lib.hid (HF d rfl P D cs' kid l X _ HJ2 hPX hX2 (hE.one HA6 hX10) hX10 hSk hb0 hb1 (by omega))
                  clear HJ HJ2 hA hXr hX2 hbl hEr
                  generalize wr.heap.size = T at *
                  generalize wr.alloc (.cells cs'.toArray 29) = wq at *
                  have hdz : ((d : Int) + 1 - 1) = (d : Int) := by omega
                  cases hfk : fitN d kid l with
                  | none =>
                    rw [hfk] at K6 Hf
                    go_wp2_with (refine load_val T 29 cs' rT h5 _ rfl rfl rfl ?_)
                    refine K6.out.mono ?_
                    rintro e w7 ⟨rfl, ⟨l', hX7, hl'⟩, a7⟩
                    clear K6 rT
                    go_wp2_with fail
                    go_ret
                    exact ⟨by rw [He (), Hf (), fold_none (fitN d)]; rfl, ⟨l', hX7, by rw [He (), Hf (), fold_none (fitN d)]; intro _ h; cases h⟩, HA6.andThen a7⟩
                  | some l2 =>
                    rw [hfk] at K6 Hf
                    have hle2 := fitN_le d kid l l2 hfk
                    clear hfk
                    go_wp2_with (refine load_val T 29 cs' rT h5 _ rfl rfl rfl ?_)
                    refine K6.out.mono ?_
                    rintro e w7 ⟨rfl, ⟨l', hX7, hl'⟩, a7⟩
                    obtain rfl := hl' _ rfl
                    clear K6 rT
                    have A7 := HA6.andThen a7
                    clear HA6 a7
                    go_wp2_with fail
                    go_roundw
                    case rel => (repeat apply Exists.intro); refine ⟨?_, rfl⟩; exact ⟨q + 1, by omega, by go_num, l', hX7, Hf (), A7, by omega, by omega⟩
                    case measure => simp [intOf]; omega
              · obtain rfl : q = kids.length := by omega
                have Hf : Unit → _ := fun _ => hf.out
                rw [List.drop_eq_nil_of_le (Nat.le_refl _)] at Hf
                clear hf
                go_wp2_with fail
                go_ret
                refine ⟨by rw [He (), Hf ()]; rfl, ⟨l, hXr, ?_⟩, hA⟩
                rw [He (), Hf ()]
                intro l2 h
                cases h
                rfl
theorem fits_any (d : Nat) : FCt d := by
  induction d with
  | zero => exact fits_step 0 (fun d' e => by omega)
  | succ d ih => exact fits_step (d + 1) (fun d' e => by obtain rfl : d = d' := by omega
                                                         exact ih)
/-- The contract of Right. -/
def rightN (j : J) : Bool := (fitN 6 j 400).isSome
set_option maxHeartbeats 1600000 in
theorem right_any (P : Nat → Prop) (D : Nat) (cs : List Value) (j : J) (w : World) (hJ : JAt P w D cs j) (hE : Env w) (hS : Siz 7 j) :
    Calls Tryd.prog 16 #[.agg cs.toArray] w fun e w' => e = .returned (.bool (rightN j)) ∧ Below w.heap.size w w' := by
  obtain ⟨h5, h1⟩ := hJ.five
  have rV := Rw.new w 29 cs
  have hb1 : Below w.heap.size w (w.alloc (.cells cs.toArray 29)) := (Below.refl _ _).alloc (Nat.le_refl _) _
  have hJ0 := (hJ.mono (P' := fun k => k < w.heap.size) (fun _ _ h => h)).keep (S := fun _ => False) (Asd.of_below hb1) (fun _ _ _ h => h)
  have hX0 := Rw.new (w.alloc (.cells cs.toArray 29)) 3 [.int .i64 400]
  have hb2 : Below (w.alloc (.cells cs.toArray 29)).heap.size (w.alloc (.cells cs.toArray 29)) ((w.alloc (.cells cs.toArray 29)).alloc (.cells #[.int .i64 400] 3)) := (Below.refl _ _).alloc (Nat.le_refl _) _
  have hsz : (w.alloc (.cells cs.toArray 29)).heap.size = w.heap.size + 1 := by simp
  go_enter Tryd.func16, Tryd.ntmps16
  go_upto_region 2 with fail
  have hJ2 := hJ0.keep (S := fun _ => False) (Asd.of_below hb2) (fun _ _ _ h => h)
  have rV2 := rV.stay hb2
  rw [hsz] at hX0 hb2
  have hbb : Below w.heap.size w ((w.alloc (.cells cs.toArray 29)).alloc (.cells #[.int .i64 400] 3)) := hb1.trans (hb2.mono (by omega))
  have hX1 : Rw ((w.alloc (.cells cs.toArray 29)).alloc (.cells #[.int .i64 400] 3)) (w.heap.size + 1) 3 [.int .i64 400] := hX0
  clear hX0 hb2 hb1 hsz hJ0 rV
  generalize (w.alloc (.cells cs.toArray 29)).alloc (.cells #[.int .i64 400] 3) = W2 at *
  have hbig := hE.big
  have K := Lib.hid (fits_any 6 (fun k => k < w.heap.size) D cs j 400 (w.heap.size + 1) W2 hJ2 (by omega) hX1 (hE.keep (hbb.mono hbig)) (by omega) hS (by omega) (by omega) (by omega))
  go_wp2_with (refine load_val w.heap.size 29 cs rV2 h5 _ rfl rfl rfl ?_)
  refine K.out.mono ?_
  rintro e w3 ⟨rfl, _, a3⟩
  have hb3 : Below w.heap.size w w3 := hbb.trans (a3.toBelow hbb.size (fun k e => by omega))
  clear K a3
  go_wp2_with fail
  go_ret
  exact ⟨rfl, hb3⟩
end Go.Proofs.YtbkkcojfgdjbhaaDoor
