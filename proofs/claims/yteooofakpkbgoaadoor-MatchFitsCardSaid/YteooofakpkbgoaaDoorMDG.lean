/- The document's Fits and All: the walks. -/
import Derived.Test.YteooofakpkbgoaaDoorMDF
namespace Go.Proofs.YteooofakpkbgoaaDoor
open Go.ChangeShapes Go.WideShapes Go.RowKit

set_option maxHeartbeats 6400000 in
set_option maxRecDepth 100000 in
theorem rfits_at (P : Nat → Prop) (v : Value) (fs : List (Bs × Bs)) (m : Mt) (w : World) (h : FldsAt P w v fs) (hl : fs.length ≤ 9223372036854775807) (hfl : (valueF fs m.n).length ≤ 1000) (hn : m.n.length ≤ 9223372036854775807) (hv : m.v.length ≤ 9223372036854775807) :
    Calls Tryd.prog 26 #[v, .agg #[.string ⟨m.n.toArray⟩, .int .i64 m.op, .string ⟨m.v.toArray⟩]] w fun e w' => e = .returned (.bool (fitsB fs m)) ∧ Below w.heap.size w w' := by
  have KF := Lib.hid fun w => Dn.dfine_any m.n m.op m.v w hn hv
  rw [fine_same] at KF
  have hal := (Below.refl w.heap.size w).alloc (Nat.le_refl _) (.cells #[.string ⟨m.n.toArray⟩, .int .i64 m.op, .string ⟨m.v.toArray⟩] 31)
  have rM : Rw (w.alloc (.cells #[.string ⟨m.n.toArray⟩, .int .i64 m.op, .string ⟨m.v.toArray⟩] 31)) w.heap.size 31 [.string ⟨m.n.toArray⟩, .int .i64 m.op, .string ⟨m.v.toArray⟩] := Rw.new w 31 [.string ⟨m.n.toArray⟩, .int .i64 m.op, .string ⟨m.v.toArray⟩]
  have KV := Lib.hid fun w' (hb : Below w.heap.size w w') => rvalue_any P v fs m.n w' (h.stay hb) hl
  obtain ⟨a, c, rfl⟩ := h.shape
  have hzc := Dn.zero_node
  obtain ⟨Z, eZ⟩ : ∃ Z, Dn.nodeC 0 noSet Dn.nilS = Z := ⟨_, rfl⟩
  have hlZ := Dn.nodeC_len 0 noSet Dn.nilS
  rw [eZ] at hzc hlZ
  clear eZ
  cases hf : fineB m with
  | false =>
    have e : fitsB fs m = false := by unfold fitsB; rw [hf]; rfl
    rw [e]
    rw [hf] at KF
    clear e KV
    obtain ⟨n, op, x⟩ := m
    simp only at *
    generalize (⟨n.toArray⟩ : ByteArray) = TN at *
    generalize (⟨x.toArray⟩ : ByteArray) = TX at *
    go_enter Tryd.func26, Tryd.ntmps26
    go_upto_region 1 with fail
    generalize w.alloc (.cells #[.string TN, .int .i64 op, .string TX] 31) = w1 at *
    obtain ⟨bM, hbM, eM⟩ : ∃ bM, w.heap.size ≤ bM ∧ w.heap.size = bM := ⟨_, Nat.le_refl _, rfl⟩
    rw [eM] at rM
    simp only [eM]
    have m0 := Rw.cell rM 0
    have m1 := Rw.cell rM 1
    have m2 := Rw.cell rM 2
    have hsz := hal.size
    go_wp2_with fail
    refine (KF.out _).mono ?_
    rintro e w2 ⟨rfl, hb⟩
    go_wp2_with fail
    go_ret
    exact ⟨rfl, by first | exact hal.trans (hb.mono hsz) | (rw [← eM]; exact hal.trans (hb.mono hsz))⟩
  | true =>
    have ho := fine_op hf
    have hvl := fine_len hf
    have e : fitsB fs m = cmpB m.op (valueF fs m.n) m.v := by unfold fitsB; rw [hf]; rfl
    rw [e]
    rw [hf] at KF
    have HPS : Unit → 2 ≤ m.op → ∃ a, patM m.v = some a := fun _ h => pat_some hf h
    have KD := Lib.hid fun w => Dn.dread_any m.v (by omega) w
    clear e hf
    obtain ⟨n, op, x⟩ := m
    simp only at *
    obtain ⟨V, hV⟩ : ∃ V, valueF fs n = V := ⟨_, rfl⟩
    rw [hV] at KV hfl ⊢
    clear hV
    have hsame := same_text V x
    have HFB : Unit → ∀ (a : Al) (b : Bool), patM x = some a → (b = true ↔ langA a V) → b = fb x V := fun _ a b h1 h2 => fb_is h1 h2
    have KX := Lib.hid fun (a : Al) (cs : List Value) (d : Nat) (P : Nat → Prop) w' (hT : Dn.TAt P w' d cs (Dn.treeA a)) (ha : lenA a ≤ 1000) => Dn.dfits_any P d a cs V w' hT ha hfl
    have hRM := (Dn.read_one x).1
    obtain ⟨R, hR⟩ : ∃ R, cmpB op V x = R := ⟨_, rfl⟩
    rw [hR]
    have HR : Unit → cmpB op V x = R := fun _ => hR
    clear hR
    have HQ : Unit → (V == x) = (V == x) := fun _ => rfl
    obtain ⟨q, hq⟩ : ∃ q, (V == x) = q := ⟨_, rfl⟩
    rw [hq] at hsame
    have hQ : Unit → (V == x) = q := fun _ => hq
    clear hq HQ
    generalize (⟨n.toArray⟩ : ByteArray) = TN at *
    generalize (⟨x.toArray⟩ : ByteArray) = TX at *
    generalize (⟨V.toArray⟩ : ByteArray) = TV at *
    go_enter Tryd.func26, Tryd.ntmps26
    go_upto_region 1 with fail
    generalize w.alloc (.cells #[.string TN, .int .i64 op, .string TX] 31) = w1 at *
    obtain ⟨bM, hbM, eM⟩ : ∃ bM, w.heap.size ≤ bM ∧ w.heap.size = bM := ⟨_, Nat.le_refl _, rfl⟩
    rw [eM] at rM
    simp only [eM]
    have hsz := hal.size
    have m0 := Rw.cell rM 0
    have m1 := Rw.cell rM 1
    have m2 := Rw.cell rM 2
    go_wp2_with fail
    refine (KF.out _).mono ?_
    rintro e w2 ⟨rfl, hb⟩
    have hB2 := hal.trans (hb.mono hsz)
    replace rM := rM.stay hb
    clear KF hb m0 m1 m2 hal
    have m0 := Rw.cell rM 0
    go_wp2_with fail
    refine (KV.out _ hB2).mono ?_
    rintro e w3 ⟨rfl, hb⟩
    have hB3 := hB2.trans (hb.mono hB2.size)
    replace rM := rM.stay hb
    clear KV hb m0 hB2
    have m1 := Rw.cell rM 1
    have m2 := Rw.cell rM 2
    by_cases h2 : op < 2
    · by_cases h0 : op = 0
      · subst h0
        obtain rfl : q = R := by rw [← HR (), ← hQ ()]; unfold cmpB; rw [if_pos rfl]
        go_wp2_with fail
        go_ret
        exact ⟨by first | rfl | simp, by first | exact hB3 | (rw [← eM]; exact hB3)⟩
      · obtain rfl : op = 1 := by omega
        obtain rfl : (!q) = R := by rw [← HR (), ← hQ ()]; unfold cmpB; rw [if_neg (by decide), if_pos rfl]
        go_wp2_with fail
        go_ret
        exact ⟨by first | rfl | simp, by first | exact hB3 | (rw [← eM]; exact hB3)⟩
    · obtain ⟨al, hal2⟩ := HPS () (by omega)
      have hlen := (patM_ok hal2).2.1
      rw [hal2] at hRM
      go_wp2_with fail
      refine (KD.out _).mono ?_
      rintro e w4 ⟨⟨cs, rfl, hcl, hc1, hT⟩, hb⟩
      have hT2 := hT al hRM
      have hB4 := hB3.trans (hb.mono hB3.size)
      replace rM := rM.stay hb
      have rn0 := Rw.new w4 61 Z
      have rn := Rw.new w4 61 cs
      have hb2 := (Below.refl w4.heap.size w4).alloc (Nat.le_refl _) (.cells cs.toArray 61)
      clear KD hB3 hb m1 m2 hT
      go_upto_region 7 with (refine Dn.store_node _ _ rn0 hlZ cs hcl hc1 _ _ rfl rfl rfl rfl ?_)
      rw [World.setRow_alloc_new]
      replace rM := rM.stay hb2
      replace hT2 := hT2.stay hb2
      have hB5 := hB4.trans (hb2.mono hB4.size)
      generalize w4.alloc (.cells cs.toArray 61) = w5 at *
      obtain ⟨bn, ebn⟩ : ∃ bn, w4.heap.size = bn := ⟨_, rfl⟩
      rw [ebn] at rn
      simp only [ebn]
      clear rn0 hb2 hB4
      have hMl := Rw.lt rM
      have m1 := Rw.cell rM 1
      refine wp_region_held (S := fun w' => Below w5.heap.size w5 w') (by kernel_rfl) ?_
      have hS : Below w5.heap.size w5 { w5 with drawn := w5.drawn + 1 } := (Below.refl _ _).drew
      generalize { w5 with drawn := w5.drawn + 1 } = D1 at *
      refine held_val 0 rfl (by kernel_rfl) (by kernel_rfl) (by kernel_rfl) (fun _ _ _ _ h => h) (by rfl) hS ⟨_, fun w' hw' => exec_load_node _ rfl rfl (rn.stay hw') hcl, ?_⟩
      simp only [Act.put, List.setIfInBounds_toArray, List.set_cons_zero, List.set_cons_succ]
      refine held_val 1 rfl (by kernel_rfl) (by kernel_rfl) (by kernel_rfl) (fun _ _ _ _ h => h) (by rfl) hS ?_
      apply Exists.intro
      refine ⟨fun w' hw' => ?_, ?_⟩
      · skip
        go_simp
        first | done | rfl | exact ⟨rfl, rfl⟩
      simp only [Act.put, List.setIfInBounds_toArray, List.set_cons_zero, List.set_cons_succ]
      refine held_val 3 rfl (by kernel_rfl) (by kernel_rfl) (by kernel_rfl) (fun _ _ _ _ h => h) (by rfl) hS ?_
      apply Exists.intro
      refine ⟨fun w' hw' => ?_, ?_⟩
      · skip
        go_simp
        first | done | rfl | exact ⟨rfl, rfl⟩
      simp only [Act.put, List.setIfInBounds_toArray, List.set_cons_zero, List.set_cons_succ]
      refine held_val 4 rfl (by kernel_rfl) (by kernel_rfl) (by kernel_rfl) (fun _ _ _ _ h => h) (by rfl) hS ?_
      apply Exists.intro
      refine ⟨fun w' hw' => ?_, ?_⟩
      · have e1 : w'.cell? ⟨bM, 1, none⟩ = some (.int .i64 op) := (hw'.cell (p := ⟨bM, 1, none⟩) hMl).trans m1
        go_simp
        first | done | rfl | exact ⟨rfl, rfl⟩
      simp only [Act.put, List.setIfInBounds_toArray, List.set_cons_zero, List.set_cons_succ]
      refine held_val 5 rfl (by kernel_rfl) (by kernel_rfl) (by kernel_rfl) (fun _ _ _ _ h => h) (by rfl) hS ?_
      apply Exists.intro
      refine ⟨fun w' hw' => ?_, ?_⟩
      · skip
        go_simp
        first | done | rfl | exact ⟨rfl, rfl⟩
      simp only [Act.put, List.setIfInBounds_toArray, List.set_cons_zero, List.set_cons_succ]
      refine held_call 2 (by kernel_rfl) rfl (by rfl) ?_
      apply Exists.intro
      apply Exists.intro
      refine ⟨?_, ?_⟩
      · go_simp
        first | done | rfl | exact ⟨rfl, rfl⟩
      refine (KX.out al cs _ _ _ (hT2.stay hS) (by omega)).mono ?_
      rintro e w6 ⟨⟨b, rfl, hbb⟩, hb6⟩
      have hS6 := hS.trans (hb6.mono hS.size)
      refine ⟨_, rfl, hS6, ?_⟩
      simp only [Act.put, List.setIfInBounds_toArray, List.set_cons_zero, List.set_cons_succ]
      replace hS := hS6
      clear hb6 hS6
      have HBF : Unit → b = fb x V := fun _ => HFB () al b hal2 hbb
      clear hbb
      refine held_val 6 rfl (by kernel_rfl) (by kernel_rfl) (by kernel_rfl) (fun _ _ _ _ h => h) (by rfl) hS ?_
      apply Exists.intro
      refine ⟨fun w' hw' => ?_, ?_⟩
      · skip
        go_simp
        first | done | rfl | exact ⟨rfl, rfl⟩
      simp only [Act.put, List.setIfInBounds_toArray, List.set_cons_zero, List.set_cons_succ]
      refine held_val 7 rfl (by kernel_rfl) (by kernel_rfl) (by kernel_rfl) (fun _ _ _ _ h => h) (by rfl) hS ?_
      apply Exists.intro
      refine ⟨fun w' hw' => ?_, ?_⟩
      · skip
        go_simp
        first | done | rfl | exact ⟨rfl, rfl⟩
      simp only [Act.put, List.setIfInBounds_toArray, List.set_cons_zero, List.set_cons_succ]
      refine wpAnyH_done (by kernel_rfl) ?_ _
      have hB6 := hB5.trans (hS.mono hB5.size)
      by_cases h3 : op = 2
      · subst h3
        obtain rfl : b = R := by rw [← HR (), HBF ()]; unfold cmpB; rw [if_neg (by decide), if_neg (by decide), if_pos rfl]
        go_wp2_with fail
        go_ret
        exact ⟨by first | rfl | simp, by first | exact hB6 | (rw [← eM]; exact hB6)⟩
      · obtain rfl : op = 3 := by omega
        obtain rfl : (!b) = R := by rw [← HR (), HBF ()]; unfold cmpB; rw [if_neg (by decide), if_neg (by decide), if_neg (by decide)]
        go_wp2_with fail
        go_ret
        exact ⟨by first | rfl | simp, by first | exact hB6 | (rw [← eM]; exact hB6)⟩
set_option maxHeartbeats 3200000 in
set_option maxRecDepth 100000 in
theorem rall_at (P P' : Nat → Prop) (v v' : Value) (fs : List (Bs × Bs)) (ms : List Mt) (w : World) (h : FldsAt P w v fs) (h' : MtsAt P' w v' ms) (hl : fs.length ≤ 9223372036854775807) (hfl : ∀ f ∈ fs, f.2.length ≤ 1000) (hl' : ms.length ≤ 9223372036854775807) (hml : ∀ m ∈ ms, m.n.length ≤ 9223372036854775807 ∧ m.v.length ≤ 9223372036854775807) :
    Calls Tryd.prog 30 #[v, v'] w fun e w' => e = .returned (.bool (allM fs ms)) ∧ Below w.heap.size w w' := by
  have KV := Lib.hid fun m (hm : m ∈ ms) w' (hb : Below w.heap.size w w') => rfits_at P v fs m w' (h.stay hb) hl (valueF_len hfl m.n) (hml m hm).1 (hml m hm).2
  obtain ⟨a, c, rfl⟩ := h.shape
  obtain ⟨a', c', rfl⟩ := h'.shape
  obtain ⟨n, hn⟩ : ∃ n, ms.length = n := ⟨_, rfl⟩
  rw [hn] at hl' h' ⊢
  have HN : Unit → ms.length = n := fun _ => hn
  clear hn hml hfl
  obtain ⟨O, hO⟩ : ∃ O, allM fs ms = O := ⟨_, rfl⟩
  have HO : Unit → allM fs ms = O := fun _ => hO
  rw [hO]
  clear hO
  have hni : (n : Int) ≤ 9223372036854775807 := by omega
  go_enter Tryd.func30, Tryd.ntmps30
  go_upto_region 2 with fail
  go_loopw [5] (fun iv wr => ∃ k : Nat, k ≤ n ∧ iv = .int .i64 (k : Int) ∧ allM fs (ms.take k) = true ∧ Below w.heap.size w wr) (fun iv _ => n - (intOf iv).toNat)
  case atStart => exact ⟨0, Nat.zero_le _, rfl, rfl, Below.refl _ _⟩
  case round =>
    obtain ⟨k, hk, rfl, hV, hB⟩ := hrel
    have HV : Unit → allM fs (ms.take k) = true := fun _ => hV
    clear hV
    by_cases hlt : k < n
    · have hki : (k : Int) < (n : Int) := by omega
      obtain ⟨m, hm⟩ : ∃ m, ms[k]? = some m := ⟨_, List.getElem?_eq_getElem (by have := HN (); omega)⟩
      obtain ⟨g, o, rfl, _, hg, c0, c1, c2⟩ := (h'.stay hB).part hm
      have KM := Lib.hid (KV.out m (List.mem_of_getElem? hm) _ hB)
      have HBad : Unit → fitsB fs m = false → O = false := fun _ e => (HO ()).symm.trans (allM_bad hm e)
      have HGood : Unit → fitsB fs m = true → allM fs (ms.take (k + 1)) = true := fun _ e => by
        have h0 := HV ()
        unfold allM at *
        rw [take_mt hm, List.all_append, h0]
        simp [e]
      have HEnd : Unit → ms[k]? = some m := fun _ => hm
      clear hm
      generalize fitsB fs m = d at *
      obtain ⟨mn, mo, mv⟩ := m
      simp only at *
      replace c2 : wr.cell? ⟨g, o + k * 3 + 1 + 1, none⟩ = some (.string ⟨mv.toArray⟩) := c2
      generalize (⟨mn.toArray⟩ : ByteArray) = TN at *
      generalize (⟨mv.toArray⟩ : ByteArray) = TX at *
      cases d with
      | false =>
        obtain rfl := HBad () rfl
        go_wp2_with fail
        refine KM.out.mono ?_
        rintro e w2 ⟨rfl, hB2⟩
        have hB3 := hB.trans (hB2.mono hB.size)
        go_wp2_with fail
        go_ret
        exact ⟨rfl, hB3⟩
      | true =>
        go_wp2_with fail
        refine KM.out.mono ?_
        rintro e w2 ⟨rfl, hB2⟩
        have hB3 := hB.trans (hB2.mono hB.size)
        go_wp2_with fail
        go_roundw
        case rel => exact ⟨k + 1, by omega, by go_num, HGood () trivial, hB3⟩
        case measure => simp [intOf]; omega
    · have hki : ¬ (k : Int) < (n : Int) := by omega
      have e : true = O := by rw [← HO (), ← HV (), List.take_of_length_le (by have := HN (); omega)]
      subst e
      go_wp2_with fail
      go_ret
      exact ⟨rfl, hB⟩
end Go.Proofs.YteooofakpkbgoaaDoor
