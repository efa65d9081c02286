/- One entry of an object: the walk. -/
import Derived.Test.YtbkkcojfgdjbhaaDoorJEnt
namespace Go.Proofs.YtbkkcojfgdjbhaaDoor
open Go.ChangeShapes Go.WideShapes Go.RowKit

theorem key_err {keys : List Bs} {l : Bs} {e : Int} (h : keyN keys l = .err e) : e = 2 ∨ e = 4 := by
  unfold keyN at h
  cases ht : textN l with
  | err e2 => rw [ht] at h; cases h; exact text_err ht
  | ok s r =>
    rw [ht] at h
    simp only at h
    split at h
    · cases h; exact .inl rfl
    · split at h
      · split at h
        · cases h
        · cases h; exact .inl rfl
      · cases h; exact .inl rfl
theorem key_len {keys : List Bs} {l s r : Bs} (h : keyN keys l = .ok s r) : r.length < l.length ∧ s.length ≤ 200 := by
  unfold keyN at h
  cases ht : textN l with
  | err e2 => rw [ht] at h; cases h
  | ok s2 r2 =>
    have h1 := text_len ht
    have h2 := skip_len r2
    rw [ht] at h
    simp only at h
    split at h
    · cases h
    · split at h
      · rename_i c r3 hs
        split at h
        · simp at h
          have h3 := skip_len r3
          rw [hs] at h2
          simp at h2
          rw [← h.1, ← h.2]; omega
        · cases h
      · cases h

set_option maxHeartbeats 3200000 in
set_option maxRecDepth 100000 in
theorem ent_obj (d : Nat) (HV : VCt d) (R V mb : Nat) (keys : List Bs) (kids : List J) (l : Bs) (n : Nat) (w : World) (h : Kst R V (.map (some mb)) 6 (d + 1) keys kids l n w) (hE : Env w) (hm : Wm w mb) (hR : 10 ≤ R) (hmR : mb ≠ R) (hmV : mb < V) (hRV : R < V) (hl : l.length ≤ 1000000) (hn : n ≤ 400) (hkl : kids.length ≤ 400) (hkk : keys.length ≤ 400) :
    Calls Tryd.prog 70 #[.pointer (some ⟨R, 0, none⟩), .pointer (some ⟨V, 0, none⟩), .int .i64 (6 - (d : Int))] w (EntQ R V mb w d 6 keys kids (entN (valN d) 6 keys l n)) := by
  obtain ⟨kv, dv, css, hq, hc⟩ := h
  unfold entN
  rw [if_pos rfl]
  have hkvV : ∀ i, kv.ownBlock = some i → V + 1 ≤ i := fun i e => (hc.2.1.lt i e).1
  have KK := Lib.hid (key_any (fun k => kv.ownBlock = some k) R l n (.map (some mb)) kv keys w hq hE hR hl (own_strs hc.2.1) (fun e => by have := hkvV R e; omega) (by omega))
  have c0 : w.cell? ⟨V, 0, none⟩ = some (.int .i64 6) := Rw.cell hc.1 0
  have c3 : w.cell? ⟨V, 3, none⟩ = some kv := Rw.cell hc.1 3
  have hz := zero_val
  obtain ⟨i0, hi, hz0, hz1, hz2⟩ := info_parts info_jval
  obtain ⟨is, his, hs0, hs1, hs2⟩ := info_parts info_str
  cases hke : keyN keys l with
  | err er =>
    have hne : (er == 0) = false := by rcases key_err hke with rfl | rfl <;> rfl
    rw [hke] at KK
    simp only
    go_enter Tryd.func70, Tryd.ntmps70
    go_wp2_with fail
    refine KK.out.mono ?_
    rintro e w1 ⟨⟨s, r, rfl, hq1⟩, a1⟩
    clear KK
    go_wp2_with fail
    go_ret
    exact ⟨⟨rfl, hne, r, n, hq1⟩, a1.any (fun i e => .inl e)⟩
  | ok s r =>
    have hrl := key_len hke
    rw [hke] at KK
    simp only
    clear hke
    have KVf : ∀ w1, Rq w1 R r n (.map (some mb)) → Env w1 → Wm w1 mb → Calls Tryd.prog 31 #[.pointer (some ⟨R, 0, none⟩), .int .i64 (6 - (d : Int))] w1 (ValQ R mb w1 d (valN d r n)) := fun w1 q1 e1 m1 => HV R mb r n w1 q1 e1 m1 hR hmR (by omega) hn
    cases hv : valN d r n with
    | err er =>
      rw [hv] at KVf
      simp only
      go_enter Tryd.func70, Tryd.ntmps70
      go_wp2_with fail
      refine KK.out.mono ?_
      rintro e w1 ⟨⟨rfl, hq1⟩, a1⟩
      clear KK
      have hsz1 := a1.size
      have hE1 := hE.one a1 hR
      have hm1 := hm.keep a1 hmR
      replace hc := hc.asd a1 (fun i e => by rw [e]; exact hRV)
      have hV1 := Rw.lt hc.1
      clear hq hE hm c0 c3
      have c3 : w1.cell? ⟨V, 3, none⟩ = some kv := Rw.cell hc.1 3
      have f3 := Rw.frozen hc.1 3
      have hown1 := hc.2.1
      go_upto_region 5 with fail
      go_wp2_with (first
        | (at_builtin; refine wpList_append_own_at _ rfl _ _ 22 rfl (V + 1) 9 is (.string ⟨#[]⟩) 1 16 Tryd.underlying22 his hs0 hs1 hs2 rfl (by decide) kv keys.length _ rfl (World.ownsRow.alloc hown1 _) ⟨w1.heap.size, 0, none⟩ 1 1 [.string ⟨s.toArray⟩] rfl rfl (cell_one_new _ _ _) (fun u hu => by simp at hu; subst hu; rfl) (by unfold maxLen; omega) (by omega) (by simp; omega) ?_))
      intro kv' w4 hO hg _ hloc
      obtain ⟨g3, cap3, rfl⟩ := own_succ hO
      have hW : Below w1.heap.size w1 (w1.alloc (.cells #[.string ⟨s.toArray⟩] 9)) := (Below.refl _ _).alloc (Nat.le_refl _) _
      have hO' : w4.ownsRow (V + 1) 9 1 (.slice (some ⟨g3, 0, none⟩) (keys.length + 1) cap3) (keys ++ [s]).length ((keys ++ [s]).map sv) := by rw [List.length_append, List.map_append]; exact hO
      have hc5 := hc.addKey s hW hg hO' (by simpa using hloc)
      have k4 : Asd (fun k => kv.ownBlock = some k) w1 w4 := (Asd.of_below hW).grown hg (fun k e => .inl e)
      have r4 := hc.1.keep k4 (fun e => by have := hkvV V e; omega)
      have k5 : Asd (fun k => kv.ownBlock = some k ∨ k = V) w1 (w4.setCell ⟨V, 3, none⟩ (.slice (some ⟨g3, 0, none⟩) (keys.length + 1) cap3)) := (k4.any (fun i e => .inl e)).setCell (p := ⟨V, 3, none⟩) (.inl (.inr rfl)) _
      have hq5 : Rq (w4.setCell ⟨V, 3, none⟩ (.slice (some ⟨g3, 0, none⟩) (keys.length + 1) cap3)) R r n (.map (some mb)) := Rw.keep hq1 k5 (by rintro (e | e); have := hkvV R e; omega; omega)
      have hE5 := hE1.asd k5 (fun i e => by rcases e with e | e; have := hkvV i e; omega; omega)
      have hm5 := hm1.keep k5 (by rintro (e | e); have := hkvV mb e; omega; omega)
      have AS : Asd (fun k => k = R ∨ V ≤ k) w (w4.setCell ⟨V, 3, none⟩ (.slice (some ⟨g3, 0, none⟩) (keys.length + 1) cap3)) := (a1.any (S' := fun k => k = R ∨ V ≤ k) (fun i e => .inl e)).trans k5 (fun i e _ => by rcases e with e | e; exact .inr (by have := hkvV i e; omega); exact .inr (by omega))
      have c4 : w4.cell? ⟨V, 3, none⟩ = some kv := Rw.cell r4 3
      have f4 := Rw.frozen r4 3
      have KV := Lib.hid (KVf _ hq5 hE5 hm5)
      replace hc := hc5
      clear hc5 hO hO' hg hloc k4 k5 hE1 hm1 hq1 a1 c3 f3 hown1 hW r4 hkvV
      go_upto_region 6 with fail
      clear c4 f4
      generalize w4.setCell ⟨V, 3, none⟩ (.slice (some ⟨g3, 0, none⟩) (keys.length + 1) cap3) = wS at *
      generalize Value.slice (some ⟨g3, 0, none⟩) (keys.length + 1) cap3 = kv2 at *
      go_wp2_with fail
      refine KV.out.mono ?_
      rintro e w2 ⟨⟨⟨cs, rfl, h5, h1, hne⟩, r, n', hq2⟩, a2⟩
      clear KV
      go_wp2_with (refine store_arr w2.heap.size 29 zero5 (Rw.new w2 _ zero5) 5 rfl 29 (by kernel_rfl) cs h5 h1 _ _ rfl rfl rfl rfl ?_)
      go_ret
      refine ⟨⟨rfl, hne, r, n', ?_⟩, ?_⟩
      · rw [World.setRow_alloc_new]
        exact hq2.stay ((Below.refl _ _).alloc (Nat.le_refl _) _)
      · rw [World.setRow_alloc_new]
        exact (AS.andThen (a2.any (fun i e => .inl e))).alloc _
    | ok x r2 =>
      obtain ⟨j, n2⟩ := x
      rw [hv] at KVf
      simp only
      go_enter Tryd.func70, Tryd.ntmps70
      go_wp2_with fail
      refine KK.out.mono ?_
      rintro e w1 ⟨⟨rfl, hq1⟩, a1⟩
      clear KK
      have hsz1 := a1.size
      have hE1 := hE.one a1 hR
      have hm1 := hm.keep a1 hmR
      replace hc := hc.asd a1 (fun i e => by rw [e]; exact hRV)
      have hV1 := Rw.lt hc.1
      clear hq hE hm c0 c3
      have c3 : w1.cell? ⟨V, 3, none⟩ = some kv := Rw.cell hc.1 3
      have f3 := Rw.frozen hc.1 3
      have hown1 := hc.2.1
      go_upto_region 5 with fail
      go_wp2_with (first
        | (at_builtin; refine wpList_append_own_at _ rfl _ _ 22 rfl (V + 1) 9 is (.string ⟨#[]⟩) 1 16 Tryd.underlying22 his hs0 hs1 hs2 rfl (by decide) kv keys.length _ rfl (World.ownsRow.alloc hown1 _) ⟨w1.heap.size, 0, none⟩ 1 1 [.string ⟨s.toArray⟩] rfl rfl (cell_one_new _ _ _) (fun u hu => by simp at hu; subst hu; rfl) (by unfold maxLen; omega) (by omega) (by simp; omega) ?_))
      intro kv' w4 hO hg _ hloc
      obtain ⟨g3, cap3, rfl⟩ := own_succ hO
      have hW : Below w1.heap.size w1 (w1.alloc (.cells #[.string ⟨s.toArray⟩] 9)) := (Below.refl _ _).alloc (Nat.le_refl _) _
      have hO' : w4.ownsRow (V + 1) 9 1 (.slice (some ⟨g3, 0, none⟩) (keys.length + 1) cap3) (keys ++ [s]).length ((keys ++ [s]).map sv) := by rw [List.length_append, List.map_append]; exact hO
      have hc5 := hc.addKey s hW hg hO' (by simpa using hloc)
      have k4 : Asd (fun k => kv.ownBlock = some k) w1 w4 := (Asd.of_below hW).grown hg (fun k e => .inl e)
      have r4 := hc.1.keep k4 (fun e => by have := hkvV V e; omega)
      have k5 : Asd (fun k => kv.ownBlock = some k ∨ k = V) w1 (w4.setCell ⟨V, 3, none⟩ (.slice (some ⟨g3, 0, none⟩) (keys.length + 1) cap3)) := (k4.any (fun i e => .inl e)).setCell (p := ⟨V, 3, none⟩) (.inl (.inr rfl)) _
      have hq5 : Rq (w4.setCell ⟨V, 3, none⟩ (.slice (some ⟨g3, 0, none⟩) (keys.length + 1) cap3)) R r n (.map (some mb)) := Rw.keep hq1 k5 (by rintro (e | e); have := hkvV R e; omega; omega)
      have hE5 := hE1.asd k5 (fun i e => by rcases e with e | e; have := hkvV i e; omega; omega)
      have hm5 := hm1.keep k5 (by rintro (e | e); have := hkvV mb e; omega; omega)
      have AS : Asd (fun k => k = R ∨ V ≤ k) w (w4.setCell ⟨V, 3, none⟩ (.slice (some ⟨g3, 0, none⟩) (keys.length + 1) cap3)) := (a1.any (S' := fun k => k = R ∨ V ≤ k) (fun i e => .inl e)).trans k5 (fun i e _ => by rcases e with e | e; exact .inr (by have := hkvV i e; omega); exact .inr (by omega))
      have c4 : w4.cell? ⟨V, 3, none⟩ = some kv := Rw.cell r4 3
      have f4 := Rw.frozen r4 3
      have KV := Lib.hid (KVf _ hq5 hE5 hm5)
      replace hc := hc5
      clear hc5 hO hO' hg hloc k4 k5 hE1 hm1 hq1 a1 c3 f3 hown1 hW r4 hkvV
      go_upto_region 6 with fail
      clear c4 f4
      generalize w4.setCell ⟨V, 3, none⟩ (.slice (some ⟨g3, 0, none⟩) (keys.length + 1) cap3) = wS at *
      generalize Value.slice (some ⟨g3, 0, none⟩) (keys.length + 1) cap3 = kv2 at *
      go_wp2_with fail
      refine KV.out.mono ?_
      rintro e w2 ⟨⟨⟨cs, rfl, hJ⟩, hq2⟩, a2⟩
      clear KV
      obtain ⟨h5, h1⟩ := hJ.five
      go_upto_region 9 with (refine store_arr w2.heap.size 29 zero5 (Rw.new w2 _ zero5) 5 rfl 29 (by kernel_rfl) cs h5 h1 _ _ rfl rfl rfl rfl ?_)
      rw [World.setRow_alloc_new]
      have rT := Rw.new w2 29 cs
      have hb3 : Below w2.heap.size w2 (w2.alloc (.cells cs.toArray 29)) := (Below.refl _ _).alloc (Nat.le_refl _) _
      have hV2 := Rw.lt hc.1
      have hkvl : ∀ i, kv2.ownBlock = some i → i < wS.heap.size := fun i e => (hc.2.1.lt i e).2
      have hdvl : ∀ i, dv.ownBlock = some i → i < wS.heap.size := fun i e => (hc.2.2.1.lt i e).2
      have hsz2 := a2.size
      replace hc := (hc.asd a2 (fun i e => by rw [e]; exact hRV)).asd (S := fun _ => False) (Asd.of_below hb3) (fun i e => e.elim)
      replace hq2 := hq2.stay hb3
      replace a2 := a2.below hb3
      replace hJ := hJ.keep (S := fun _ => False) (Asd.of_below hb3) (fun i _ _ e => e)
      clear hb3 hq5 hE5 hm5 KVf
      generalize w2.alloc (.cells cs.toArray 29) = W3 at *
      generalize w2.heap.size = T at *
      obtain ⟨ad, cap, rfl, hcap⟩ := own_slice hc.2.2.1
      have c4 : W3.cell? ⟨V, 4, none⟩ = some (.slice ad kids.length cap) := Rw.cell hc.1 4
      have hVb := Rw.lt hc.1
      have hc4 : ∀ w', Below W3.heap.size W3 w' → w'.cell? ⟨V, 4, none⟩ = some (.slice ad kids.length cap) := fun w' h => by rw [h.cell hVb]; exact c4
      have hcT : ∀ (L : Marks) w', (fun L w' => CE W3 L w' ∧ w'.cell? ⟨V, 4, none⟩ = some (.slice ad kids.length cap)) L w' → Rw w' T 29 cs := fun L w' h => rT.stay h.1.1
      refine region_loose (fun L w' => CE W3 L w' ∧ w'.cell? ⟨V, 4, none⟩ = some (.slice ad kids.length cap)) 6 7 6 #[true, true, true, true, true, true, true, false, false, false, false, false, false] rfl (by kernel_rfl) (by kernel_rfl) (by kernel_rfl) (⟨⟨(Below.refl _ _).drew, fun _ h => by cases h⟩, c4⟩) ?_
      simp only [List.take_succ_cons, List.take_zero]
      repeat
        first
        | (refine loose_loadv T 29 cs h5 hcT _ (by decide) rfl rfl rfl ?_
           simp only [Act.put, List.setIfInBounds_toArray, List.set_cons_zero, List.set_cons_succ])
        | (refine loose_val (by decide) rfl ?_
           apply Exists.intro
           refine ⟨fun L' w' hw' => ?_, ?_⟩
           · obtain ⟨_, e4⟩ := hw'
             go_simp
             first | done | rfl | exact ⟨rfl, rfl⟩
           simp only [Act.put, List.setIfInBounds_toArray, List.set_cons_zero, List.set_cons_succ])
        | (refine loose_call (by decide) rfl ?_
           apply Exists.intro
           apply Exists.intro
           refine ⟨fun w' => ?_, ?_⟩
           · go_simp
             first | done | rfl | exact ⟨rfl, rfl⟩
           apply Exists.intro
           refine ⟨fun L' w' hw' => ?_, ?_⟩
           · first
             | fail
           simp only [Act.put, List.setIfInBounds_toArray, List.set_cons_zero, List.set_cons_succ])
        | (refine loose_new (by decide) rfl (fun L' w' hw' => ?_) (fun v => ?_)
           · exact ⟨.slice (some ⟨w'.heap.size, 0, none⟩) 1 1, w'.alloc (.cells zero5.toArray 29), by go_simp; rfl, CE.new hw'.1, hc4 _ (CE.new hw'.1).1⟩
           simp only [Act.put, List.setIfInBounds_toArray, List.set_cons_zero, List.set_cons_succ])
      intro w5 hw5
      obtain ⟨⟨hb5, hmk⟩, _⟩ := hw5
      obtain ⟨g2, hg2, rfl, hz5⟩ := hmk v (by simp [upd])
      have hown5 := own_asdS (S := fun _ => False) hc.2.2.1 (Asd.of_below hb5) (fun i _ e => e)
      have hsz5 := hb5.size
      clear hmk c4 hc4 hcT
      refine wpAny_ready (rs := [7]) (by kernel_rfl) (by simp) ?_
      refine AllReady.cons rfl (fun K hK => ?_) AllReady.nil
      refine step_own_at rfl (.tmp 50) (.tmp 53) 27 rfl (V + 1) 29 i0 (.agg zero5.toArray) 5 80 Tryd.underlying27 hi hz0 hz1 hz2 rfl (by decide) _ kids.length _ rfl hown5 ⟨g2, 0, none⟩ 1 1 zero5 rfl rfl (fun j u hu => by
        rw [show (⟨g2, 0, none⟩ : Addr).add j = ⟨g2, j, none⟩ by unfold Addr.add; split <;> simp_all]
        exact hz5 j u hu) (one5 _ _ _ rfl rfl) (by unfold maxLen; omega) (by omega) (by omega) ?_
      intro v' w6 hO hg hloc
      refine hK _ _ ?_
      change wpAny Tryd.prog .any _ _ _ _ (Act.put _ (some 54) _) _
      clear hK K
      obtain ⟨g', cap', rfl⟩ := own_succ hO
      have hidx : (kids.length : Int) < (kids.length : Int) + 1 := by omega
      refine wpAny_of_held (S := fun _ => True) _ _ _ _ ?_
      have hS : (fun _ : World => True) w6 := trivial
      simp only [Act.put, List.setIfInBounds_toArray, List.set_cons_zero, List.set_cons_succ]
      refine held_val 8 rfl (by kernel_rfl) (by kernel_rfl) (by kernel_rfl) (fun _ _ _ _ h => h) (by rfl) hS ?_
      apply Exists.intro
      refine ⟨fun w' hw' => ?_, ?_⟩
      · skip
        go_simp
        first | done | rfl | exact ⟨rfl, rfl⟩
      simp only [Act.put, List.setIfInBounds_toArray, List.set_cons_zero, List.set_cons_succ]
      refine held_val 10 rfl (by kernel_rfl) (by kernel_rfl) (by kernel_rfl) (fun _ _ _ _ h => h) (by rfl) hS ?_
      apply Exists.intro
      refine ⟨fun w' hw' => ?_, ?_⟩
      · skip
        go_simp
        first | done | rfl | exact ⟨rfl, rfl⟩
      simp only [Act.put, List.setIfInBounds_toArray, List.set_cons_zero, List.set_cons_succ]
      refine held_val 11 rfl (by kernel_rfl) (by kernel_rfl) (by kernel_rfl) (fun _ _ _ _ h => h) (by rfl) hS ?_
      apply Exists.intro
      refine ⟨fun w' hw' => ?_, ?_⟩
      · skip
        go_simp
        first | done | rfl | exact ⟨rfl, rfl⟩
      simp only [Act.put, List.setIfInBounds_toArray, List.set_cons_zero, List.set_cons_succ]
      have hflat : css.flatten.length = kids.length * 5 := hc.2.2.1.1
      have hgV : V + 1 ≤ g' := (hO.lt g' rfl).1
      have hdV : ∀ k, (Value.slice ad kids.length cap).ownBlock = some k → V + 1 ≤ k := fun k e => (hown5.lt k e).1
      have r5 : Rw w5 V 29 (cells5 6 0 [] kv2 (.slice ad kids.length cap)) := hc.1.stay hb5
      have r6 : Rw w6 V 29 (cells5 6 0 [] kv2 (.slice ad kids.length cap)) := by
        unfold Rw at r5 ⊢
        rw [hg.block V (Array.getElem?_eq_some_iff.1 r5).1 (fun e => by have := hdV V e.symm; omega)]; exact r5
      have k6 : Asd (fun k => (Value.slice ad kids.length cap).ownBlock = some k ∨ k = V) W3 w6 := (Asd.of_below hb5).grown hg (fun k e => .inl (.inl e))
      have hg'S : (Value.slice ad kids.length cap).ownBlock = some g' ∨ W3.heap.size ≤ g' := by
        rcases hloc with e | e
        · exact .inl e.symm
        · injection e with e
          simp at e
          exact .inr (by omega)
      have fin := fun (w8 : World) hr hown hk => ent_fin (R := R) (n2 := n2) (r := r2) (j := j) (cs := cs) (w8 := w8) hc hb5 hloc hr hown hk hJ hV2 hkvl hdvl hq2 hRV
      have HF : Unit → _ := fun _ => fin
      clear fin
      refine held_two 9 12 (by kernel_rfl) rfl rfl (by rfl) (by rfl) ?_ ?_
      · obtain ⟨w7, hst, hO7, hg7⟩ := own_store hO hflat h5 h1
        refine wp_store_val _ _ rfl _ _ rfl rfl hst ?_
        refine ⟨trivial, ?_⟩
        have r7 : Rw w7 V 29 (cells5 6 0 [] kv2 (.slice ad kids.length cap)) := by
          unfold Rw at r6 ⊢
          rw [hg7.block V (Array.getElem?_eq_some_iff.1 r6).1 (fun e => by injection e with e; omega)]; exact r6
        have k8 : Asd (fun k => (Value.slice ad kids.length cap).ownBlock = some k ∨ k = V) W3 (w7.setCell ⟨V, 4, none⟩ (.slice (some ⟨g', 0, none⟩) (kids.length + 1) cap')) :=
          (k6.grown hg7 (fun k e => by injection e with e; subst e; rcases hg'S with q | q; exact .inl (.inl q); exact .inr q)).setCell (p := ⟨V, 4, none⟩) (.inl (.inr rfl)) _
        have K8 := HF () _ (r7.setCell 4 (.slice (some ⟨g', 0, none⟩) (kids.length + 1) cap')) (ownsRow_setCell_below hO7 (a := ⟨V, 4, none⟩) (Nat.lt_succ_self V) _) k8
        have A8 : Asd (fun k => k = R ∨ V ≤ k) w (w7.setCell ⟨V, 4, none⟩ (.slice (some ⟨g', 0, none⟩) (kids.length + 1) cap')) := (AS.andThen (a2.any (S' := fun k => k = R ∨ V ≤ k) (fun i e => .inl e))).trans k8 (fun i e _ => by rcases e with e | e; exact .inr (by have := hdV i e; omega); exact .inr (by omega))
        have c7 := Rw.cell r7 4
        have f7 := Rw.frozen r7 4
        change w7.cell? ⟨V, 4, none⟩ = some (.slice ad kids.length cap) at c7
        clear hst hO7 hg7 r7 k8 HF hc hO hown5 hg k6 hJ
        refine held_one 12 (by kernel_rfl) rfl (by rfl) ?_
        unfold Oper.wp
        go_simp
        refine wpAnyH_done (by kernel_rfl) ?_ _
        clear c7 f7
        generalize w7.setCell ⟨V, 4, none⟩ (.slice (some ⟨g', 0, none⟩) (kids.length + 1) cap') = w8 at *
        go_wp2_with fail
        go_ret
        exact ⟨⟨rfl, by rw [if_pos rfl]; exact K8⟩, A8⟩
      · have c6 := Rw.cell r6 4
        have f6 := Rw.frozen r6 4
        change w6.cell? ⟨V, 4, none⟩ = some (.slice ad kids.length cap) at c6
        unfold Oper.wp
        go_simp
        have hO7 := ownsRow_setCell_below hO (a := ⟨V, 4, none⟩) (Nat.lt_succ_self V) (.slice (some ⟨g', 0, none⟩) (kids.length + 1) cap')
        have r7 := r6.setCell 4 (.slice (some ⟨g', 0, none⟩) (kids.length + 1) cap')
        have k7 := k6.setCell (p := ⟨V, 4, none⟩) (.inl (.inr rfl)) (.slice (some ⟨g', 0, none⟩) (kids.length + 1) cap')
        change Rw _ V 29 (cells5 6 0 [] kv2 (.slice (some ⟨g', 0, none⟩) (kids.length + 1) cap')) at r7
        clear c6 f6
        generalize w6.setCell ⟨V, 4, none⟩ (.slice (some ⟨g', 0, none⟩) (kids.length + 1) cap') = w7 at *
        obtain ⟨w8, hst, hO8, hg8⟩ := own_store hO7 hflat h5 h1
        have r8 : Rw w8 V 29 (cells5 6 0 [] kv2 (.slice (some ⟨g', 0, none⟩) (kids.length + 1) cap')) := by
          unfold Rw at r7 ⊢
          rw [hg8.block V (Array.getElem?_eq_some_iff.1 r7).1 (fun e => by injection e with e; omega)]; exact r7
        have k8 : Asd (fun k => (Value.slice ad kids.length cap).ownBlock = some k ∨ k = V) W3 w8 := k7.grown hg8 (fun k e => by injection e with e; subst e; rcases hg'S with q | q; exact .inl (.inl q); exact .inr q)
        have K8 := HF () _ r8 hO8 k8
        have A8 : Asd (fun k => k = R ∨ V ≤ k) w w8 := (AS.andThen (a2.any (S' := fun k => k = R ∨ V ≤ k) (fun i e => .inl e))).trans k8 (fun i e _ => by rcases e with e | e; exact .inr (by have := hdV i e; omega); exact .inr (by omega))
        clear hO7 hg8 r7 r8 k7 k8 HF hc hO hown5 hg k6 hJ hO8
        refine held_one 9 (by kernel_rfl) rfl (by rfl) ?_
        refine wp_store_val _ _ rfl _ _ rfl rfl hst ?_
        refine ⟨trivial, ?_⟩
        refine wpAnyH_done (by kernel_rfl) ?_ _
        clear hst
        go_wp2_with fail
        go_ret
        exact ⟨⟨rfl, by rw [if_pos rfl]; exact K8⟩, A8⟩
end Go.Proofs.YtbkkcojfgdjbhaaDoor
