/- A value: every way. -/
import Derived.Test.YtbkkcojfgdjbhaaDoorJVal
namespace Go.Proofs.YtbkkcojfgdjbhaaDoor
open Go.ChangeShapes Go.WideShapes Go.RowKit

set_option maxHeartbeats 6400000 in
set_option maxRecDepth 100000 in
theorem val_main (d : Nat) (HK : KCt d) : VCt d := by
  intro R mb l n w hq hE hm hR hmR hl hn
  by_cases h4 : n = 400
  · subst h4
    exact val_full d R mb l w hq
  have hz := zero_val
  have hRw := Rw.lt hq
  have c1 := hq.count
  have hn4 : ((n : Int) == 400) = false := by rw [beq_eq_false_iff_ne]; omega
  have Hnil : Unit → l = [] → valN d l n = .err 2 := fun _ e => by rw [e]; cases d <;> simp [valN, h4]
  have HK5 : ∀ (r : Bs) (w2 : World), Rq w2 R (91 :: r) (n + 1) (.map (some mb)) → Env w2 → Wm w2 mb → r.length ≤ 1000000 → Calls Tryd.prog 47 #[.pointer (some ⟨R, 0, none⟩), .int .i64 5, .int .i64 (6 - (d : Int))] w2 (ValQ R mb w2 d (kidsN d 5 r (n + 1))) := fun r w2 q e m hr => HK R mb 5 91 r (n + 1) w2 q e m hR hmR hr (by omega) (by omega) rfl rfl
  have HK6 : ∀ (r : Bs) (w2 : World), Rq w2 R (123 :: r) (n + 1) (.map (some mb)) → Env w2 → Wm w2 mb → r.length ≤ 1000000 → Calls Tryd.prog 47 #[.pointer (some ⟨R, 0, none⟩), .int .i64 6, .int .i64 (6 - (d : Int))] w2 (ValQ R mb w2 d (kidsN d 6 r (n + 1))) := fun r w2 q e m hr => HK R mb 6 123 r (n + 1) w2 q e m hR hmR hr (by omega) (by omega) rfl rfl
  generalize (6 - (d : Int)) = D at *
  clear HK
  go_enter_defers Tryd.func31, Tryd.ntmps31
  go_upto_region 2 with fail
  have rN := Rw.new w 29 zero5
  have hb1 : Below w.heap.size w (w.alloc (.cells zero5.toArray 29)) := (Below.refl _ _).alloc (Nat.le_refl _) _
  replace hq := hq.stay hb1
  have a1 : Asd (· = R) w (w.alloc (.cells zero5.toArray 29)) := Asd.of_below hb1
  replace hE := hE.one a1 hR
  replace hm := hm.keep a1 hmR
  replace c1 := hq.count
  have f1 := Rw.frozen hq 1
  clear hb1
  generalize w.alloc (.cells zero5.toArray 29) = W1 at *
  generalize hN : w.heap.size = N at *
  have HN : Unit → w.heap.size = N := fun _ => hN
  have hNR : N ≠ R := by omega
  clear hN
  go_upto_region 5 with fail
  rw [show (n : Int) + 1 = ((n + 1 : Nat) : Int) by omega]
  replace rN := rN.other hNR 1 (.int .i64 ((n + 1 : Nat) : Int))
  have a2 := a1.set1 1 (.int .i64 ((n + 1 : Nat) : Int))
  replace hE := hE.one (Asd.one W1 R 1 (.int .i64 ((n + 1 : Nat) : Int))) hR
  replace hm := hm.keep (Asd.one W1 R 1 (.int .i64 ((n + 1 : Nat) : Int))) hmR
  replace hq := hq.put (n + 1)
  clear c1 f1 a1
  generalize W1.setCell ⟨R, 1, none⟩ (.int .i64 ((n + 1 : Nat) : Int)) = W2 at *
  have cr := hq.rest
  cases l with
  | nil =>
    have HN0 : Unit → valN d [] n = .err 2 := fun _ => Hnil () rfl
    clear Hnil
    have he := null_text
    generalize (⟨([] : Bs).toArray⟩ : ByteArray) = X at *
    go_wp2_with (refine store_arr N 29 zero5 rN 5 rfl 29 (by kernel_rfl) zero5 rfl (one5 _ _ _ rfl rfl) _ _ rfl rfl rfl rfl ?_)
    refine val_door R [] (n + 1) (.map (some mb)) (Rw.rowOther hq (by omega) _) N 29 zero5 (rN.row _) rfl _ hNR rfl rfl rfl ?_
    intro w' hq' a'
    refine ⟨?_, (a2.setRow (.inr (by rw [HN ()]; exact Nat.le_refl _)) _).andThen a'⟩
    rw [HN0 ()]
    exact ⟨⟨zero5, rfl, rfl, one5 _ _ _ rfl rfl, rfl⟩, _, _, hq'⟩
  | cons c r =>
    have he := full_text c r
    have hi := at_text (c :: r) 0 c rfl 0 rfl
    have HS : Unit → valN d (c :: r) n = _ := fun _ => val_step d c r n h4
    clear Hnil
    have hlr : r.length ≤ 1000000 := by simp at hl; omega
    generalize hX : (⟨(c :: r).toArray⟩ : ByteArray) = X at *
    clear hX
    by_cases e34 : c = 34
    · subst e34
      rw [if_pos rfl] at HS
      clear HK5 HK6
      have KT := Lib.hid (text_any R (34 :: r) (n + 1) (.map (some mb)) W2 hq hE hR hl)
      cases ht : textN (34 :: r) with
      | err er =>
        have hne : (er == 0) = false := by rcases text_err ht with rfl | rfl <;> rfl
        have HV : Unit → valN d (34 :: r) n = .err er := fun _ => by rw [HS ()]; unfold textV; rw [ht]; rfl
        rw [ht] at KT
        clear HS ht
        go_wp2_with fail
        refine KT.out.mono ?_
        rintro e w5 ⟨⟨s5, r5, rfl, hq5⟩, a5⟩
        obtain ⟨sl, rfl⟩ : ∃ sl : Bs, s5 = ⟨sl.toArray⟩ := ⟨s5.data.toList, by simp⟩
        clear KT
        have rN5 := rN.keep a5 hNR
        replace a2 := a2.andThen a5
        go_wp2_with (refine store_arr N 29 zero5 rN5 5 rfl 29 (by kernel_rfl) (cells5 4 0 sl (.slice none 0 0) (.slice none 0 0)) rfl (one5 _ _ _ rfl rfl) _ _ rfl rfl rfl rfl ?_)
        refine val_door R r5 (n + 1) (.map (some mb)) (Rw.rowOther hq5 (by omega) _) N 29 _ (rN5.row _) rfl _ hNR rfl rfl rfl ?_
        intro w' hq' a'
        refine ⟨?_, (a2.setRow (.inr (by rw [HN ()]; exact Nat.le_refl _)) _).andThen a'⟩
        rw [HV ()]
        exact ⟨⟨_, rfl, rfl, one5 _ _ _ rfl rfl, hne⟩, _, _, hq'⟩
      | ok s5 r5 =>
        have HV : Unit → valN d (34 :: r) n = .ok (.mk 4 0 s5 [] [], n + 1) (skipB r5) := fun _ => by rw [HS ()]; unfold textV; rw [ht]; rfl
        rw [ht] at KT
        clear HS ht
        go_wp2_with fail
        refine KT.out.mono ?_
        rintro e w5 ⟨⟨rfl, hq5⟩, a5⟩
        clear KT
        have rN5 := rN.keep a5 hNR
        replace a2 := a2.andThen a5
        go_wp2_with (refine store_arr N 29 zero5 rN5 5 rfl 29 (by kernel_rfl) (cells5 4 0 s5 (.slice none 0 0) (.slice none 0 0)) rfl (one5 _ _ _ rfl rfl) _ _ rfl rfl rfl rfl ?_)
        refine val_door R r5 (n + 1) (.map (some mb)) (Rw.rowOther hq5 (by omega) _) N 29 _ (rN5.row _) rfl _ hNR rfl rfl rfl ?_
        intro w' hq' a'
        refine ⟨?_, (a2.setRow (.inr (by rw [HN ()]; exact Nat.le_refl _)) _).andThen a'⟩
        rw [HV ()]
        exact ⟨⟨_, rfl, JAt.leaf _ _ _ _ _ _⟩, hq'⟩
    · have n34 : ((c.toNat : Int) == 34) = false := by rw [beq_eq_false_iff_ne]; intro e; exact e34 (UInt8.toNat_inj.1 (by show c.toNat = 34; omega))
      rw [if_neg e34] at HS
      by_cases e91 : c = 91
      · subst e91
        rw [if_pos rfl] at HS
        have KT := Lib.hid (HK5 r W2 hq hE hm hlr)
        clear HK5 HK6
        have co5 := hE.opn 5 91 rfl
        have co6 := hE.opn 6 123 rfl
        cases hk : kidsN d 5 r (n + 1) with
        | err er =>
          have HV : Unit → valN d (91 :: r) n = .err er := fun _ => by rw [HS (), hk]; rfl
          rw [hk] at KT
          clear HS hk
          go_wp2_with fail
          refine KT.out.mono ?_
          rintro e w5 ⟨⟨⟨cs5, rfl, h5, h1, hne⟩, r5, n5, hq5⟩, a5⟩
          clear KT co5 co6
          have rN5 := rN.keep a5 hNR
          replace a2 := a2.andThen a5
          go_wp2_with (refine store_arr N 29 zero5 rN5 5 rfl 29 (by kernel_rfl) cs5 h5 h1 _ _ rfl rfl rfl rfl ?_)
          refine val_door R r5 n5 (.map (some mb)) (Rw.rowOther hq5 (by omega) _) N 29 _ (rN5.row _) h5 _ hNR rfl rfl rfl ?_
          intro w' hq' a'
          refine ⟨?_, (a2.setRow (.inr (by rw [HN ()]; exact Nat.le_refl _)) _).andThen a'⟩
          rw [HV ()]
          exact ⟨⟨_, rfl, h5, h1, hne⟩, _, _, hq'⟩
        | ok x r5 =>
          obtain ⟨j5, n5⟩ := x
          have HV : Unit → valN d (91 :: r) n = .ok (j5, n5) (skipB r5) := fun _ => by rw [HS (), hk]; rfl
          rw [hk] at KT
          clear HS hk
          go_wp2_with fail
          refine KT.out.mono ?_
          rintro e w5 ⟨⟨⟨cs5, rfl, hJ5⟩, hq5⟩, a5⟩
          obtain ⟨h5, h1⟩ := hJ5.five
          clear KT co5 co6
          have hszW := Rw.lt rN
          have rN5 := rN.keep a5 hNR
          replace a2 := a2.andThen a5
          go_wp2_with (refine store_arr N 29 zero5 rN5 5 rfl 29 (by kernel_rfl) cs5 h5 h1 _ _ rfl rfl rfl rfl ?_)
          refine val_door R r5 n5 (.map (some mb)) (Rw.rowOther hq5 (by omega) _) N 29 _ (rN5.row _) h5 _ hNR rfl rfl rfl ?_
          intro w' hq' a'
          refine ⟨?_, (a2.setRow (.inr (by rw [HN ()]; exact Nat.le_refl _)) _).andThen a'⟩
          rw [HV ()]
          refine ⟨⟨_, rfl, ?_⟩, hq'⟩
          have k6 : Asd (· = N) w5 (w5.setRow N cs5.toArray) := (Asd.refl (· = N) w5).setRow (g := N) (.inl rfl) _
          refine ((hJ5.keep k6 (fun i hi _ e => by have hi : W2.heap.size ≤ i := hi; omega)).keep a' (fun i hi _ e => by have hi : W2.heap.size ≤ i := hi; have := Rw.lt hq; omega)).mono (fun i hi _ => ?_)
          have hi : W2.heap.size ≤ i := hi
          have := HN ()
          omega
      · have n91 : ((c.toNat : Int) == 91) = false := by rw [beq_eq_false_iff_ne]; intro e; exact e91 (UInt8.toNat_inj.1 (by show c.toNat = 91; omega))
        rw [if_neg e91] at HS
        by_cases e123 : c = 123
        · subst e123
          rw [if_pos rfl] at HS
          have KT := Lib.hid (HK6 r W2 hq hE hm hlr)
          clear HK5 HK6
          have co5 := hE.opn 5 91 rfl
          have co6 := hE.opn 6 123 rfl
          cases hk : kidsN d 6 r (n + 1) with
          | err er =>
            have HV : Unit → valN d (123 :: r) n = .err er := fun _ => by rw [HS (), hk]; rfl
            rw [hk] at KT
            clear HS hk
            go_wp2_with fail
            refine KT.out.mono ?_
            rintro e w5 ⟨⟨⟨cs5, rfl, h5, h1, hne⟩, r5, n5, hq5⟩, a5⟩
            clear KT co5 co6
            have rN5 := rN.keep a5 hNR
            replace a2 := a2.andThen a5
            go_wp2_with (refine store_arr N 29 zero5 rN5 5 rfl 29 (by kernel_rfl) cs5 h5 h1 _ _ rfl rfl rfl rfl ?_)
            refine val_door R r5 n5 (.map (some mb)) (Rw.rowOther hq5 (by omega) _) N 29 _ (rN5.row _) h5 _ hNR rfl rfl rfl ?_
            intro w' hq' a'
            refine ⟨?_, (a2.setRow (.inr (by rw [HN ()]; exact Nat.le_refl _)) _).andThen a'⟩
            rw [HV ()]
            exact ⟨⟨_, rfl, h5, h1, hne⟩, _, _, hq'⟩
          | ok x r5 =>
            obtain ⟨j5, n5⟩ := x
            have HV : Unit → valN d (123 :: r) n = .ok (j5, n5) (skipB r5) := fun _ => by rw [HS (), hk]; rfl
            rw [hk] at KT
            clear HS hk
            go_wp2_with fail
            refine KT.out.mono ?_
            rintro e w5 ⟨⟨⟨cs5, rfl, hJ5⟩, hq5⟩, a5⟩
            obtain ⟨h5, h1⟩ := hJ5.five
            clear KT co5 co6
            have hszW := Rw.lt rN
            have rN5 := rN.keep a5 hNR
            replace a2 := a2.andThen a5
            go_wp2_with (refine store_arr N 29 zero5 rN5 5 rfl 29 (by kernel_rfl) cs5 h5 h1 _ _ rfl rfl rfl rfl ?_)
            refine val_door R r5 n5 (.map (some mb)) (Rw.rowOther hq5 (by omega) _) N 29 _ (rN5.row _) h5 _ hNR rfl rfl rfl ?_
            intro w' hq' a'
            refine ⟨?_, (a2.setRow (.inr (by rw [HN ()]; exact Nat.le_refl _)) _).andThen a'⟩
            rw [HV ()]
            refine ⟨⟨_, rfl, ?_⟩, hq'⟩
            have k6 : Asd (· = N) w5 (w5.setRow N cs5.toArray) := (Asd.refl (· = N) w5).setRow (g := N) (.inl rfl) _
            refine ((hJ5.keep k6 (fun i hi _ e => by have hi : W2.heap.size ≤ i := hi; omega)).keep a' (fun i hi _ e => by have hi : W2.heap.size ≤ i := hi; have := Rw.lt hq; omega)).mono (fun i hi _ => ?_)
            have hi : W2.heap.size ≤ i := hi
            have := HN ()
            omega
        · have n123 : ((c.toNat : Int) == 123) = false := by rw [beq_eq_false_iff_ne]; intro e; exact e123 (UInt8.toNat_inj.1 (by show c.toNat = 123; omega))
          rw [if_neg e123] at HS
          have co5 := hE.opn 5 91 rfl
          have co6 := hE.opn 6 123 rfl
          clear HK5 HK6
          have KD := Lib.hid (digit_any c W2)
          by_cases e45 : c = 45
          · rw [if_pos (.inl e45)] at HS
            have e45' : (c.toNat : Int) = 45 := by rw [e45]; rfl
            have KT := Lib.hid (num_any R c r (n + 1) (.map (some mb)) W2 hq hE hl)
            rcases num_split (c :: r) with ⟨v5, r5, hN5, hC5⟩ | ⟨hN5, hC5⟩
            · have HV : Unit → valN d (c :: r) n = .ok (.mk 3 v5 [] [] [], n + 1) (skipB r5) := fun _ => by rw [HS (), hN5]; rfl
              rw [hC5] at KT
              clear HS hN5 hC5
              go_wp2_with fail
              refine KT.out.mono ?_
              rintro e w5 ⟨⟨rfl, hq5⟩, a5⟩
              clear KT
              have rN5 := rN.keep a5 hNR
              replace a2 := a2.andThen a5
              go_wp2_with (refine store_arr N 29 zero5 rN5 5 rfl 29 (by kernel_rfl) (cells5 3 v5 [] (.slice none 0 0) (.slice none 0 0)) rfl (one5 _ _ _ rfl rfl) _ _ rfl rfl rfl rfl ?_)
              refine val_door R r5 (n + 1) (.map (some mb)) (Rw.rowOther hq5 (by omega) _) N 29 _ (rN5.row _) rfl _ hNR rfl rfl rfl ?_
              intro w' hq' a'
              refine ⟨?_, (a2.setRow (.inr (by rw [HN ()]; exact Nat.le_refl _)) _).andThen a'⟩
              rw [HV ()]
              exact ⟨⟨_, rfl, JAt.leaf _ _ _ _ _ _⟩, hq'⟩
            · have HV : Unit → valN d (c :: r) n = .err 2 := fun _ => by rw [HS (), hN5]; rfl
              rw [hC5] at KT
              clear HS hN5 hC5
              go_wp2_with fail
              refine KT.out.mono ?_
              rintro e w5 ⟨⟨r5, rfl, hq5⟩, a5⟩
              clear KT
              have rN5 := rN.keep a5 hNR
              replace a2 := a2.andThen a5
              go_wp2_with (refine store_arr N 29 zero5 rN5 5 rfl 29 (by kernel_rfl) zero5 rfl (one5 _ _ _ rfl rfl) _ _ rfl rfl rfl rfl ?_)
              refine val_door R r5 (n + 1) (.map (some mb)) (Rw.rowOther hq5 (by omega) _) N 29 _ (rN5.row _) rfl _ hNR rfl rfl rfl ?_
              intro w' hq' a'
              refine ⟨?_, (a2.setRow (.inr (by rw [HN ()]; exact Nat.le_refl _)) _).andThen a'⟩
              rw [HV ()]
              exact ⟨⟨_, rfl, rfl, one5 _ _ _ rfl rfl, rfl⟩, _, _, hq'⟩
          · have n45 : ((c.toNat : Int) == 45) = false := by rw [beq_eq_false_iff_ne]; intro e; exact e45 (UInt8.toNat_inj.1 (by show c.toNat = 45; omega))
            cases hd : isDig c with
            | true =>
              rw [if_pos (.inr hd)] at HS
              rw [hd] at KD
              have KT := Lib.hid (num_any R c r (n + 1) (.map (some mb)) W2 hq hE hl)
              rcases num_split (c :: r) with ⟨v5, r5, hN5, hC5⟩ | ⟨hN5, hC5⟩
              · have HV : Unit → valN d (c :: r) n = .ok (.mk 3 v5 [] [] [], n + 1) (skipB r5) := fun _ => by rw [HS (), hN5]; rfl
                rw [hC5] at KT
                clear HS hN5 hC5
                go_wp2_with (go_at_call 48; refine KD.out.mono ?_; rintro e w' ⟨rfl, rfl⟩)
                refine KT.out.mono ?_
                rintro e w5 ⟨⟨rfl, hq5⟩, a5⟩
                clear KT
                have rN5 := rN.keep a5 hNR
                replace a2 := a2.andThen a5
                go_wp2_with (refine store_arr N 29 zero5 rN5 5 rfl 29 (by kernel_rfl) (cells5 3 v5 [] (.slice none 0 0) (.slice none 0 0)) rfl (one5 _ _ _ rfl rfl) _ _ rfl rfl rfl rfl ?_)
                refine val_door R r5 (n + 1) (.map (some mb)) (Rw.rowOther hq5 (by omega) _) N 29 _ (rN5.row _) rfl _ hNR rfl rfl rfl ?_
                intro w' hq' a'
                refine ⟨?_, (a2.setRow (.inr (by rw [HN ()]; exact Nat.le_refl _)) _).andThen a'⟩
                rw [HV ()]
                exact ⟨⟨_, rfl, JAt.leaf _ _ _ _ _ _⟩, hq'⟩
              · have HV : Unit → valN d (c :: r) n = .err 2 := fun _ => by rw [HS (), hN5]; rfl
                rw [hC5] at KT
                clear HS hN5 hC5
                go_wp2_with (go_at_call 48; refine KD.out.mono ?_; rintro e w' ⟨rfl, rfl⟩)
                refine KT.out.mono ?_
                rintro e w5 ⟨⟨r5, rfl, hq5⟩, a5⟩
                clear KT
                have rN5 := rN.keep a5 hNR
                replace a2 := a2.andThen a5
                go_wp2_with (refine store_arr N 29 zero5 rN5 5 rfl 29 (by kernel_rfl) zero5 rfl (one5 _ _ _ rfl rfl) _ _ rfl rfl rfl rfl ?_)
                refine val_door R r5 (n + 1) (.map (some mb)) (Rw.rowOther hq5 (by omega) _) N 29 _ (rN5.row _) rfl _ hNR rfl rfl rfl ?_
                intro w' hq' a'
                refine ⟨?_, (a2.setRow (.inr (by rw [HN ()]; exact Nat.le_refl _)) _).andThen a'⟩
                rw [HV ()]
                exact ⟨⟨_, rfl, rfl, one5 _ _ _ rfl rfl, rfl⟩, _, _, hq'⟩
            | false =>
              rw [if_neg (by rintro (e | e); exact e45 e; rw [hd] at e; cases e)] at HS
              rw [hd] at KD
              have KT := Lib.hid (word_any R mb (c :: r) (n + 1) W2 hq hm hl)
              rcases word_split (c :: r) with ⟨v5, r5, hN5, hC5⟩ | ⟨hN5, hC5⟩
              · have HV : Unit → valN d (c :: r) n = .ok (.mk v5 0 [] [] [], n + 1) (skipB r5) := fun _ => by rw [HS (), hN5]; rfl
                rw [hC5] at KT
                clear HS hN5 hC5
                go_wp2_with (go_at_call 48; refine KD.out.mono ?_; rintro e w' ⟨rfl, rfl⟩)
                refine KT.out.mono ?_
                rintro e w5 ⟨⟨rfl, hq5⟩, a5⟩
                clear KT
                have rN5 := rN.keep a5 hNR
                replace a2 := a2.andThen a5
                go_wp2_with (refine store_arr N 29 zero5 rN5 5 rfl 29 (by kernel_rfl) (cells5 v5 0 [] (.slice none 0 0) (.slice none 0 0)) rfl (one5 _ _ _ rfl rfl) _ _ rfl rfl rfl rfl ?_)
                refine val_door R r5 (n + 1) (.map (some mb)) (Rw.rowOther hq5 (by omega) _) N 29 _ (rN5.row _) rfl _ hNR rfl rfl rfl ?_
                intro w' hq' a'
                refine ⟨?_, (a2.setRow (.inr (by rw [HN ()]; exact Nat.le_refl _)) _).andThen a'⟩
                rw [HV ()]
                exact ⟨⟨_, rfl, JAt.leaf _ _ _ _ _ _⟩, hq'⟩
              · have HV : Unit → valN d (c :: r) n = .err 2 := fun _ => by rw [HS (), hN5]; rfl
                rw [hC5] at KT
                clear HS hN5 hC5
                go_wp2_with (go_at_call 48; refine KD.out.mono ?_; rintro e w' ⟨rfl, rfl⟩)
                refine KT.out.mono ?_
                rintro e w5 ⟨⟨r5, rfl, hq5⟩, a5⟩
                clear KT
                have rN5 := rN.keep a5 hNR
                replace a2 := a2.andThen a5
                go_wp2_with (refine store_arr N 29 zero5 rN5 5 rfl 29 (by kernel_rfl) zero5 rfl (one5 _ _ _ rfl rfl) _ _ rfl rfl rfl rfl ?_)
                refine val_door R r5 (n + 1) (.map (some mb)) (Rw.rowOther hq5 (by omega) _) N 29 _ (rN5.row _) rfl _ hNR rfl rfl rfl ?_
                intro w' hq' a'
                refine ⟨?_, (a2.setRow (.inr (by rw [HN ()]; exact Nat.le_refl _)) _).andThen a'⟩
                rw [HV ()]
                exact ⟨⟨_, rfl, rfl, one5 _ _ _ rfl rfl, rfl⟩, _, _, hq'⟩
theorem kids_all (d : Nat) (hd : d ≤ 6) : (∀ k, k < d → VCt k) → KCt d := by
  intro hV
  cases d with
  | zero =>
    intro R mb kN oc l n w hq _ _ _ _ _ _ _ _ _
    exact kids_deep R mb kN _ n w hq
  | succ d =>
    intro R mb kN oc l n w hq hE hm hR hmR hl hn hk hop hcl
    exact kids_any d (hV d (by omega)) R mb kN oc l n w hq hE hm hR hmR hl hn (by omega) hk hop hcl
theorem val_any (d : Nat) (hd : d ≤ 6) : VCt d := by
  induction d using Nat.strongRecOn with
  | _ d ih => exact val_main d (kids_all d hd (fun k hk => ih k hk (by omega)))
end Go.Proofs.YtbkkcojfgdjbhaaDoor
