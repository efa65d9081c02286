/- MatchFields returns true: the law. -/
import Derived.Test.YteooofakpkbgoaaDoorMRight
namespace Go.Proofs.YteooofakpkbgoaaDoor
open Go.ChangeShapes Go.WideShapes Go.RowKit

theorem StrsAt.upto {P : Nat → Prop} {w : World} {a : Option Addr} {n c : Nat} {ss : List Bs} (h : StrsAt P w (.slice a n c) ss) {k : Nat} (hk : k ≤ ss.length) : StrsAt P w (.slice a k c) (ss.take k) := by
  rcases h with ⟨rfl, _⟩ | ⟨g, o, c', e, hle, hp, hg, hc⟩
  · obtain rfl : k = 0 := by simpa using hk
    exact .inl ⟨rfl, a, c, rfl⟩
  · injection e with e1 _ e3
    subst e1 e3
    refine .inr ⟨g, o, c, ?_, ?_, hp, hg, fun j s hj => hc j s ?_⟩
    · rw [List.length_take, Nat.min_eq_left hk]
    · rw [List.length_take]; omega
    · exact (List.getElem?_take_of_lt (by have := (List.getElem?_eq_some_iff.1 hj).1; rw [List.length_take] at this; omega)).symm.trans hj
theorem cut_names (a : Option Addr) (n c : Nat) (hn : min n 20 ≤ c) (w : World) : (Instr.slice 44 (.slice a n c) none (some (.int .i64 (min (n : Int) 20))) none).run Tryd.prog w = .ok (.slice a (min n 20) c) w := by
  have hs : ∀ w, (sizeOf 9).run Tryd.prog w = .ok 1 w := fun w => by kernel_rfl
  obtain ⟨k, hk⟩ : ∃ k, min n 20 = k := ⟨_, rfl⟩
  have e : min (n : Int) 20 = (k : Int) := by omega
  rw [e, hk]
  rw [hk] at hn
  have h0 : ∀ b : Addr, b.add 0 = b := fun b => by unfold Addr.add; simp
  cases a with
  | none => simp [Instr.slice, Sem.run_bind, run_underlying Tryd.underlying44, Instr.sliceBounds, run_sliceBound, hs, show (k : Int) ≤ (c : Int) by omega, show (0 : Int) ≤ (k : Int) by omega]
  | some b => simp [Instr.slice, Sem.run_bind, run_underlying Tryd.underlying44, Instr.sliceBounds, run_sliceBound, hs, show (k : Int) ≤ (c : Int) by omega, show (0 : Int) ≤ (k : Int) by omega, h0]
/-- A field that lies in memory, whatever is laid besides. -/
def F2 (W : World) (b : Nat) (x y : Value) (w : World) : Prop := Below W.heap.size W w ∧ w.cell? ⟨b, 0, none⟩ = some x ∧ w.cell? ⟨b, 1, none⟩ = some y
theorem F2.go {W w w' : World} {b : Nat} {x y : Value} (h : F2 W b x y w) (k : Below w.heap.size w w') : F2 W b x y w' := by
  obtain ⟨h1, h2, h3⟩ := h
  have hb := World.block_lt_of_cell? w _ h2
  exact ⟨h1.trans (k.mono h1.size), (k.cell (p := ⟨b, 0, none⟩) hb).trans h2, (k.cell (p := ⟨b, 1, none⟩) hb).trans h3⟩
set_option maxHeartbeats 3200000 in
set_option maxRecDepth 100000 in
theorem fields_law (P P' : Nat → Prop) (v v2 : Value) (fs : List (Bs × Bs)) (nm val : Bs) (ss : List Bs) (w : World) (h : FldsAt P w v fs) (hl : fs.length ≤ 9223372036854775807) (hfl : ∀ f ∈ fs, f.1.length ≤ 9223372036854775807 ∧ f.2.length ≤ 9223372036854775807)
    (hn : nm.length ≤ 9223372036854775807) (hv : val.length ≤ 9223372036854775807) (h2 : StrsAt P' w v2 ss) (hs : ss.length ≤ 9223372036854775807) (hg : SgAt w) :
    Calls Tryd.prog 5 #[v, .agg #[.string ⟨nm.toArray⟩, .string ⟨val.toArray⟩], v2] w fun e w' => e = .returned (.bool true) ∧ Below w.heap.size w w' := by
  have KL := Lib.hid fun w' (hb : Below w.heap.size w w') => lives_any w' (hg.keep hb hg.lt)
  have KG := Lib.hid fun w' (hb : Below w.heap.size w w') => good_any P v fs w' (h.stay hb) hl hfl
  have hgd := good_gd fs
  obtain ⟨aS, cS, rfl⟩ := h.shape
  have hcap : ∃ aT cT, v2 = .slice aT ss.length cT ∧ min ss.length 20 ≤ cT := by
    rcases h2 with ⟨rfl, a, c, rfl⟩ | ⟨g, o, c, rfl, hle, _⟩
    · exact ⟨a, c, rfl, by simp⟩
    · exact ⟨_, _, rfl, by omega⟩
  obtain ⟨aT, cT, rfl, hcT⟩ := hcap
  generalize goodN fs = F at *
  clear h hl hfl
  generalize fs.length = nS at *
  have hFl := hgd.len
  have hFn : ∀ f ∈ F, f.1.length ≤ 9223372036854775807 := fun f hf => by have := (name_len12 (hgd.name hf)).2; omega
  have hT := h2.upto (k := min ss.length 20) (by omega)
  have hTl : (ss.take (min ss.length 20)).length ≤ 20 := by rw [List.length_take]; omega
  have hcut := fun w => cut_names aT ss.length cT hcT w
  obtain ⟨nT, hnT⟩ : ∃ k, min ss.length 20 = k := ⟨_, rfl⟩
  have hTn : (ss.take (min ss.length 20)).length = nT := by rw [List.length_take]; omega
  have HTN : Unit → _ := fun _ => hTn
  simp only [hnT] at *
  clear hTn hnT hcT
  generalize ss.take nT = T at *
  have hsI : (ss.length : Int) ≤ 9223372036854775807 := by omega
  clear h2 hs hg
  have hal := (Below.refl w.heap.size w).alloc (Nat.le_refl _) (.cells #[.string ⟨nm.toArray⟩, .string ⟨val.toArray⟩] 28)
  have rB : Rw (w.alloc (.cells #[.string ⟨nm.toArray⟩, .string ⟨val.toArray⟩] 28)) w.heap.size 28 [.string ⟨nm.toArray⟩, .string ⟨val.toArray⟩] := Rw.new w 28 [.string ⟨nm.toArray⟩, .string ⟨val.toArray⟩]
  go_enter Tryd.func5, Tryd.ntmps5
  go_upto_region 1 with fail
  generalize w.alloc (.cells #[.string ⟨nm.toArray⟩, .string ⟨val.toArray⟩] 28) = w1 at *
  go_wp2_with fail
  refine (KL.out _ hal).mono ?_
  rintro e w2 ⟨rfl, hb⟩
  clear KL
  have hB2 := hal.trans (hb.mono hal.size)
  replace rB := rB.stay hb
  clear hb hal
  go_wp2_with fail
  refine (KG.out _ hB2).mono ?_
  rintro e w3 ⟨vF, rfl, hF, hb⟩
  clear KG
  have hB3 := hB2.trans (hb.mono hB2.size)
  replace rB := rB.stay hb
  replace hT := hT.stay hB3
  obtain ⟨aF, cF, rfl⟩ := hF.shape
  clear hb hB2
  have d0 := Rw.cell rB 0
  have d1 := Rw.cell rB 1
  simp only [List.getElem?_cons_zero, List.getElem?_cons_succ] at d0 d1
  have hA := ((right_iff F).1 hgd.1).2.1
  have hRr := right_with hgd.1 nm val
  have hRw := wout_with F nm val
  have hRv := value_with F nm val
  have hWv := value_wout F nm
  have hRc : (withR F nm val).length = (woutF nm F).length + 1 := by rw [with_count, wout_with]
  have hRl : (withR F nm val).length ≤ 9 := by have := wout_len nm F; omega
  have hRe : ∀ f ∈ withR F nm val, f.1.length ≤ 9223372036854775807 ∧ f.2.length ≤ 9223372036854775807 := fun f hf => by
    rcases with_mem hf with hf | rfl
    · exact ⟨hFn f hf, by have := hgd.2 f hf; omega⟩
    · exact ⟨hn, hv⟩
  have KW := withm_any _ _ F nm val w3 hF (by omega)
  rw [with_same hA] at KW
  have KD := Lib.hid fun w' (hb : Below w3.heap.size w3 w') => with_any _ _ F nm val w' (hF.stay hb) (by omega) hn hFn
  have KO9 := Lib.hid fun w' (hb : Below w3.heap.size w3 w') => wout_any _ _ F nm w' (hF.stay hb) (by omega)
  have KP := Lib.hid fun w' (hb : Below w3.heap.size w3 w') => pick_any _ _ _ _ F T w' (hF.stay hb) (hT.stay hb) (by omega) (by have := HTN (); omega)
  have KPr := Lib.hid fun w' (hb : Below w3.heap.size w3 w') => rpick_any _ _ _ _ F T w' (hF.stay hb) (hT.stay hb) (by omega) (by have := HTN (); omega)
  generalize withR F nm val = R at *
  generalize woutF nm F = O at *
  have hPl : (pickF T F).length ≤ 8 := Nat.le_trans (pick_len T F) hFl
  generalize pickF T F = Z at *
  replace KW := Lib.hid KW
  have HX : Unit → rightB R = (nameB nm && decide (val.length ≤ 200) && decide (R.length ≤ 8)) ∧ woutF nm R = O ∧ valueF R nm = val ∧ valueF O nm = [] ∧ R.length = O.length + 1 := fun _ => ⟨hRr, hRw, hRv, hWv, hRc⟩
  clear hRr hRw hRv hWv hRc hA hT hF hgd
  go_wp2_with fail
  refine KW.out.mono ?_
  rintro e w4 ⟨v7, rfl, hown7, hb⟩
  clear KW
  have hB4 : Below w3.heap.size w3 w4 := hb
  have h7 := own_flds hown7
  replace rB := rB.stay hb
  clear hb hown7 d0 d1
  have d0 := Rw.cell rB 0
  have d1 := Rw.cell rB 1
  simp only [List.getElem?_cons_zero, List.getElem?_cons_succ] at d0 d1
  have KO := wout_any _ _ R nm w4 h7 (by omega)
  rw [(HX ()).2.1] at KO
  replace KO := Lib.hid KO
  obtain ⟨a7, c7, e7⟩ := h7.shape
  rw [(HX ()).2.2.2.2] at e7
  subst e7
  go_wp2_with fail
  refine KO.out.mono ?_
  rintro e w5 ⟨v8, rfl, hown8, hb⟩
  clear KO
  have hB5 := hB4.trans (hb.mono hB4.size)
  have h8 := own_flds hown8
  replace h7 := h7.stay hb
  replace rB := rB.stay hb
  clear hb hown8 hB4 d0 d1
  obtain ⟨a8, c8, rfl⟩ := h8.shape
  have KV7 := Lib.hid fun w' (hb : Below w5.heap.size w5 w') => value_any _ _ R nm w' (h7.stay hb) (by omega)
  rw [(HX ()).2.2.1] at KV7
  have KV8 := Lib.hid fun w' (hb : Below w5.heap.size w5 w') => value_any _ _ O nm w' (h8.stay hb) (by have := (HX ()).2.2.2.2; omega)
  rw [(HX ()).2.2.2.1] at KV8
  go_upto_region 7 with fail
  go_cut [63] from 29 to 62 (fun u63 wx => u63 = .bool false ∧ Below w5.heap.size w5 wx)
  case first =>
    refine wp_region_held (S := F2 w5 w.heap.size (.string ⟨nm.toArray⟩) (.string ⟨val.toArray⟩)) (by kernel_rfl) ?_
    have hS : F2 w5 w.heap.size (.string ⟨nm.toArray⟩) (.string ⟨val.toArray⟩) { w5 with drawn := w5.drawn + 1 } := ⟨(Below.refl _ _).drew, Rw.cell rB 0, Rw.cell rB 1⟩
    generalize { w5 with drawn := w5.drawn + 1 } = D1 at *
    refine held_val 0 rfl (by kernel_rfl) (by kernel_rfl) (by kernel_rfl) (fun _ _ _ _ h => h) (by rfl) hS ?_
    apply Exists.intro
    refine ⟨fun w' hw' => ?_, ?_⟩
    · obtain ⟨_, e0, e1⟩ := hw'
      go_simp
      first | done | rfl | exact ⟨rfl, rfl⟩
    simp only [Act.put, List.setIfInBounds_toArray, List.set_cons_zero, List.set_cons_succ]
    refine held_val 1 rfl (by kernel_rfl) (by kernel_rfl) (by kernel_rfl) (fun _ _ _ _ h => h) (by rfl) hS ?_
    apply Exists.intro
    refine ⟨fun w' hw' => ?_, ?_⟩
    · obtain ⟨_, e0, e1⟩ := hw'
      go_simp
      first | done | rfl | exact ⟨rfl, rfl⟩
    simp only [Act.put, List.setIfInBounds_toArray, List.set_cons_zero, List.set_cons_succ]
    refine held_val 2 rfl (by kernel_rfl) (by kernel_rfl) (by kernel_rfl) (fun _ _ _ _ h => h) (by rfl) hS ?_
    apply Exists.intro
    refine ⟨fun w' hw' => ?_, ?_⟩
    · obtain ⟨_, e0, e1⟩ := hw'
      go_simp
      first | done | rfl | exact ⟨rfl, rfl⟩
    simp only [Act.put, List.setIfInBounds_toArray, List.set_cons_zero, List.set_cons_succ]
    refine held_val 3 rfl (by kernel_rfl) (by kernel_rfl) (by kernel_rfl) (fun _ _ _ _ h => h) (by rfl) hS ?_
    apply Exists.intro
    refine ⟨fun w' hw' => ?_, ?_⟩
    · obtain ⟨_, e0, e1⟩ := hw'
      go_simp
      first | done | rfl | exact ⟨rfl, rfl⟩
    simp only [Act.put, List.setIfInBounds_toArray, List.set_cons_zero, List.set_cons_succ]
    refine held_val 4 rfl (by kernel_rfl) (by kernel_rfl) (by kernel_rfl) (fun _ _ _ _ h => h) (by rfl) hS ?_
    apply Exists.intro
    refine ⟨fun w' hw' => ?_, ?_⟩
    · obtain ⟨_, e0, e1⟩ := hw'
      go_simp
      first | done | rfl | exact ⟨rfl, rfl⟩
    simp only [Act.put, List.setIfInBounds_toArray, List.set_cons_zero, List.set_cons_succ]
    refine held_val 5 rfl (by kernel_rfl) (by kernel_rfl) (by kernel_rfl) (fun _ _ _ _ h => h) (by rfl) hS ?_
    apply Exists.intro
    refine ⟨fun w' hw' => ?_, ?_⟩
    · obtain ⟨_, e0, e1⟩ := hw'
      go_simp
      first | done | rfl | exact ⟨rfl, rfl⟩
    simp only [Act.put, List.setIfInBounds_toArray, List.set_cons_zero, List.set_cons_succ]
    refine held_call 6 (by kernel_rfl) rfl (by rfl) ?_
    apply Exists.intro
    apply Exists.intro
    refine ⟨?_, ?_⟩
    · go_simp
      first | done | rfl | exact ⟨rfl, rfl⟩
    refine (KD.out _ (hB5.trans (hS.1.mono hB5.size))).mono ?_
    rintro e wA ⟨vA, heA, hownA, hbA⟩
    replace hS := hS.go hbA
    refine ⟨_, heA, hS, ?_⟩
    simp only [Act.put, List.setIfInBounds_toArray, List.set_cons_zero, List.set_cons_succ]
    refine held_call 7 (by kernel_rfl) rfl (by rfl) ?_
    apply Exists.intro
    apply Exists.intro
    refine ⟨?_, ?_⟩
    · go_simp
      first | done | rfl | exact ⟨rfl, rfl⟩
    have K1 := same_any _ _ _ vA R R wA (h7.stay hS.1) (own_flds hownA) (by omega)
    rw [beq_self_eq_true] at K1
    refine K1.mono ?_
    rintro e wB ⟨heB, hbB⟩
    replace hS := hS.go hbB
    refine ⟨_, heB, hS, ?_⟩
    simp only [Act.put, List.setIfInBounds_toArray, List.set_cons_zero, List.set_cons_succ]
    clear hownA hbA hbB heA heB
    refine held_val 8 rfl (by kernel_rfl) (by kernel_rfl) (by kernel_rfl) (fun _ _ _ _ h => h) (by rfl) hS ?_
    apply Exists.intro
    refine ⟨fun w' hw' => ?_, ?_⟩
    · skip
      go_simp
      first | done | rfl | exact ⟨rfl, rfl⟩
    simp only [Act.put, List.setIfInBounds_toArray, List.set_cons_zero, List.set_cons_succ]
    refine held_val 9 rfl (by kernel_rfl) (by kernel_rfl) (by kernel_rfl) (fun _ _ _ _ h => h) (by rfl) hS ?_
    apply Exists.intro
    refine ⟨fun w' hw' => ?_, ?_⟩
    · skip
      go_simp
      first | done | rfl | exact ⟨rfl, rfl⟩
    simp only [Act.put, List.setIfInBounds_toArray, List.set_cons_zero, List.set_cons_succ]
    refine held_val 10 rfl (by kernel_rfl) (by kernel_rfl) (by kernel_rfl) (fun _ _ _ _ h => h) (by rfl) hS ?_
    apply Exists.intro
    refine ⟨fun w' hw' => ?_, ?_⟩
    · skip
      go_simp
      first | done | rfl | exact ⟨rfl, rfl⟩
    simp only [Act.put, List.setIfInBounds_toArray, List.set_cons_zero, List.set_cons_succ]
    refine held_val 11 rfl (by kernel_rfl) (by kernel_rfl) (by kernel_rfl) (fun _ _ _ _ h => h) (by rfl) hS ?_
    apply Exists.intro
    refine ⟨fun w' hw' => ?_, ?_⟩
    · skip
      go_simp
      first | done | rfl | exact ⟨rfl, rfl⟩
    simp only [Act.put, List.setIfInBounds_toArray, List.set_cons_zero, List.set_cons_succ]
    refine held_val 13 rfl (by kernel_rfl) (by kernel_rfl) (by kernel_rfl) (fun _ _ _ _ h => h) (by rfl) hS ?_
    apply Exists.intro
    refine ⟨fun w' hw' => ?_, ?_⟩
    · skip
      go_simp
      first | done | rfl | exact ⟨rfl, rfl⟩
    simp only [Act.put, List.setIfInBounds_toArray, List.set_cons_zero, List.set_cons_succ]
    refine held_val 14 rfl (by kernel_rfl) (by kernel_rfl) (by kernel_rfl) (fun _ _ _ _ h => h) (by rfl) hS ?_
    apply Exists.intro
    refine ⟨fun w' hw' => ?_, ?_⟩
    · skip
      go_simp
      first | done | rfl | exact ⟨rfl, rfl⟩
    simp only [Act.put, List.setIfInBounds_toArray, List.set_cons_zero, List.set_cons_succ]
    refine held_call 12 (by kernel_rfl) rfl (by rfl) ?_
    apply Exists.intro
    apply Exists.intro
    refine ⟨?_, ?_⟩
    · go_simp
      first | done | rfl | exact ⟨rfl, rfl⟩
    refine (KP.out _ (hB5.trans (hS.1.mono hB5.size))).mono ?_
    rintro e wC ⟨vC, heC, hownC, hbC⟩
    replace hS := hS.go hbC
    refine ⟨_, heC, hS, ?_⟩
    simp only [Act.put, List.setIfInBounds_toArray, List.set_cons_zero, List.set_cons_succ]
    have hC := own_flds hownC
    refine held_call 15 (by kernel_rfl) rfl (by rfl) ?_
    apply Exists.intro
    apply Exists.intro
    refine ⟨?_, ?_⟩
    · go_simp
      first | done | rfl | exact ⟨rfl, rfl⟩
    refine (KPr.out _ (hB5.trans (hS.1.mono hB5.size))).mono ?_
    rintro e wD ⟨vD, heD, hownD, hbD⟩
    replace hS := hS.go hbD
    refine ⟨_, heD, hS, ?_⟩
    simp only [Act.put, List.setIfInBounds_toArray, List.set_cons_zero, List.set_cons_succ]
    refine held_call 16 (by kernel_rfl) rfl (by rfl) ?_
    apply Exists.intro
    apply Exists.intro
    refine ⟨?_, ?_⟩
    · go_simp
      first | done | rfl | exact ⟨rfl, rfl⟩
    have K1 := same_any _ _ vC vD Z Z wD (hC.stay hbD) (own_flds hownD) (by omega)
    rw [beq_self_eq_true] at K1
    refine K1.mono ?_
    rintro e wE ⟨heE, hbE⟩
    replace hS := hS.go hbE
    refine ⟨_, heE, hS, ?_⟩
    simp only [Act.put, List.setIfInBounds_toArray, List.set_cons_zero, List.set_cons_succ]
    clear hownC hC hownD hbC hbD hbE heC heD heE
    refine held_val 17 rfl (by kernel_rfl) (by kernel_rfl) (by kernel_rfl) (fun _ _ _ _ h => h) (by rfl) hS ?_
    apply Exists.intro
    refine ⟨fun w' hw' => ?_, ?_⟩
    · skip
      go_simp
      first | done | rfl | exact ⟨rfl, rfl⟩
    simp only [Act.put, List.setIfInBounds_toArray, List.set_cons_zero, List.set_cons_succ]
    refine held_val 18 rfl (by kernel_rfl) (by kernel_rfl) (by kernel_rfl) (fun _ _ _ _ h => h) (by rfl) hS ?_
    apply Exists.intro
    refine ⟨fun w' hw' => ?_, ?_⟩
    · skip
      go_simp
      first | done | rfl | exact ⟨rfl, rfl⟩
    simp only [Act.put, List.setIfInBounds_toArray, List.set_cons_zero, List.set_cons_succ]
    refine held_val 19 rfl (by kernel_rfl) (by kernel_rfl) (by kernel_rfl) (fun _ _ _ _ h => h) (by rfl) hS ?_
    apply Exists.intro
    refine ⟨fun w' hw' => ?_, ?_⟩
    · skip
      go_simp
      first | done | rfl | exact ⟨rfl, rfl⟩
    simp only [Act.put, List.setIfInBounds_toArray, List.set_cons_zero, List.set_cons_succ]
    refine held_val 20 rfl (by kernel_rfl) (by kernel_rfl) (by kernel_rfl) (fun _ _ _ _ h => h) (by rfl) hS ?_
    apply Exists.intro
    refine ⟨fun w' hw' => ?_, ?_⟩
    · obtain ⟨_, e0, e1⟩ := hw'
      go_simp
      first | done | rfl | exact ⟨rfl, rfl⟩
    simp only [Act.put, List.setIfInBounds_toArray, List.set_cons_zero, List.set_cons_succ]
    refine held_val 21 rfl (by kernel_rfl) (by kernel_rfl) (by kernel_rfl) (fun _ _ _ _ h => h) (by rfl) hS ?_
    apply Exists.intro
    refine ⟨fun w' hw' => ?_, ?_⟩
    · obtain ⟨_, e0, e1⟩ := hw'
      go_simp
      first | done | rfl | exact ⟨rfl, rfl⟩
    simp only [Act.put, List.setIfInBounds_toArray, List.set_cons_zero, List.set_cons_succ]
    refine held_val 22 rfl (by kernel_rfl) (by kernel_rfl) (by kernel_rfl) (fun _ _ _ _ h => h) (by rfl) hS ?_
    apply Exists.intro
    refine ⟨fun w' hw' => ?_, ?_⟩
    · obtain ⟨_, e0, e1⟩ := hw'
      go_simp
      first | done | rfl | exact ⟨rfl, rfl⟩
    simp only [Act.put, List.setIfInBounds_toArray, List.set_cons_zero, List.set_cons_succ]
    refine held_val 24 rfl (by kernel_rfl) (by kernel_rfl) (by kernel_rfl) (fun _ _ _ _ h => h) (by rfl) hS ?_
    apply Exists.intro
    refine ⟨fun w' hw' => ?_, ?_⟩
    · obtain ⟨_, e0, e1⟩ := hw'
      go_simp
      first | done | rfl | exact ⟨rfl, rfl⟩
    simp only [Act.put, List.setIfInBounds_toArray, List.set_cons_zero, List.set_cons_succ]
    refine held_val 25 rfl (by kernel_rfl) (by kernel_rfl) (by kernel_rfl) (fun _ _ _ _ h => h) (by rfl) hS ?_
    apply Exists.intro
    refine ⟨fun w' hw' => ?_, ?_⟩
    · obtain ⟨_, e0, e1⟩ := hw'
      go_simp
      first | done | rfl | exact ⟨rfl, rfl⟩
    simp only [Act.put, List.setIfInBounds_toArray, List.set_cons_zero, List.set_cons_succ]
    refine held_call 23 (by kernel_rfl) rfl (by rfl) ?_
    apply Exists.intro
    apply Exists.intro
    refine ⟨?_, ?_⟩
    · go_simp
      first | done | rfl | exact ⟨rfl, rfl⟩
    refine (KV7.out _ hS.1).mono ?_
    rintro e wG ⟨heG, hbG⟩
    replace hS := hS.go hbG
    refine ⟨_, heG, hS, ?_⟩
    simp only [Act.put, List.setIfInBounds_toArray, List.set_cons_zero, List.set_cons_succ]
    refine held_val 26 rfl (by kernel_rfl) (by kernel_rfl) (by kernel_rfl) (fun _ _ _ _ h => h) (by rfl) hS ?_
    apply Exists.intro
    refine ⟨fun w' hw' => ?_, ?_⟩
    · skip
      go_simp
      first | done | rfl | exact ⟨rfl, rfl⟩
    simp only [Act.put, List.setIfInBounds_toArray, List.set_cons_zero, List.set_cons_succ]
    refine held_val 27 rfl (by kernel_rfl) (by kernel_rfl) (by kernel_rfl) (fun _ _ _ _ h => h) (by rfl) hS ?_
    apply Exists.intro
    refine ⟨fun w' hw' => ?_, ?_⟩
    · skip
      go_simp
      first | done | rfl | exact ⟨rfl, rfl⟩
    simp only [Act.put, List.setIfInBounds_toArray, List.set_cons_zero, List.set_cons_succ]
    refine held_val 28 rfl (by kernel_rfl) (by kernel_rfl) (by kernel_rfl) (fun _ _ _ _ h => h) (by rfl) hS ?_
    apply Exists.intro
    refine ⟨fun w' hw' => ?_, ?_⟩
    · skip
      go_simp
      first | done | rfl | exact ⟨rfl, rfl⟩
    simp only [Act.put, List.setIfInBounds_toArray, List.set_cons_zero, List.set_cons_succ]
    refine held_val 29 rfl (by kernel_rfl) (by kernel_rfl) (by kernel_rfl) (fun _ _ _ _ h => h) (by rfl) hS ?_
    apply Exists.intro
    refine ⟨fun w' hw' => ?_, ?_⟩
    · obtain ⟨_, e0, e1⟩ := hw'
      go_simp
      first | done | rfl | exact ⟨rfl, rfl⟩
    simp only [Act.put, List.setIfInBounds_toArray, List.set_cons_zero, List.set_cons_succ]
    refine held_val 30 rfl (by kernel_rfl) (by kernel_rfl) (by kernel_rfl) (fun _ _ _ _ h => h) (by rfl) hS ?_
    apply Exists.intro
    refine ⟨fun w' hw' => ?_, ?_⟩
    · obtain ⟨_, e0, e1⟩ := hw'
      go_simp
      first | done | rfl | exact ⟨rfl, rfl⟩
    simp only [Act.put, List.setIfInBounds_toArray, List.set_cons_zero, List.set_cons_succ]
    refine held_val 31 rfl (by kernel_rfl) (by kernel_rfl) (by kernel_rfl) (fun _ _ _ _ h => h) (by rfl) hS ?_
    apply Exists.intro
    refine ⟨fun w' hw' => ?_, ?_⟩
    · obtain ⟨_, e0, e1⟩ := hw'
      go_simp
      first | done | rfl | exact ⟨rfl, rfl⟩
    simp only [Act.put, List.setIfInBounds_toArray, List.set_cons_zero, List.set_cons_succ]
    refine held_call 32 (by kernel_rfl) rfl (by rfl) ?_
    apply Exists.intro
    apply Exists.intro
    refine ⟨?_, ?_⟩
    · go_simp
      first | done | rfl | exact ⟨rfl, rfl⟩
    refine (KV8.out _ hS.1).mono ?_
    rintro e wH ⟨heH, hbH⟩
    replace hS := hS.go hbH
    refine ⟨_, heH, hS, ?_⟩
    simp only [Act.put, List.setIfInBounds_toArray, List.set_cons_zero, List.set_cons_succ]
    refine held_val 33 rfl (by kernel_rfl) (by kernel_rfl) (by kernel_rfl) (fun _ _ _ _ h => h) (by rfl) hS ?_
    apply Exists.intro
    refine ⟨fun w' hw' => ?_, ?_⟩
    · skip
      go_simp
      first | done | rfl | exact ⟨rfl, rfl⟩
    simp only [Act.put, List.setIfInBounds_toArray, List.set_cons_zero, List.set_cons_succ]
    refine held_val 34 rfl (by kernel_rfl) (by kernel_rfl) (by kernel_rfl) (fun _ _ _ _ h => h) (by rfl) hS ?_
    apply Exists.intro
    refine ⟨fun w' hw' => ?_, ?_⟩
    · skip
      go_simp
      first | done | rfl | exact ⟨rfl, rfl⟩
    simp only [Act.put, List.setIfInBounds_toArray, List.set_cons_zero, List.set_cons_succ]
    refine wpAnyH_done (by kernel_rfl) ?_ _
    have hb5 := hS.1
    go_wp2_with fail
    go_meet
    exact ⟨rfl, hb5⟩
  case rest =>
    obtain ⟨rfl, hB6⟩ := hcut
    generalize wc = w6 at *
    replace rB := rB.stay hB6
    replace h8 := h8.stay hB6
    replace h7 := h7.stay hB6
    have hB7 := hB5.trans (hB6.mono hB5.size)
    have KN := Lib.hid fun w => name_any nm w hn
    have KR := rightm_any _ _ R w6 h7 (by omega) hRe
    rw [(HX ()).1] at KR
    have hsz : ((⟨val.toArray⟩ : ByteArray).size : Int) = (val.length : Int) := by simp [ByteArray.size]
    have hOl : O.length ≤ 8 := by have := (HX ()).2.2.2.2; omega
    have d0 := Rw.cell rB 0
    have d1 := Rw.cell rB 1
    simp only [List.getElem?_cons_zero, List.getElem?_cons_succ] at d0 d1
    clear KD KP KPr KV7 KV8 h7 hB5 hB6 hRe hFn
    cases hnb : nameB nm with
    | false =>
      rw [hnb] at KN

      have e : (nameB nm && decide (val.length ≤ 200) && decide (R.length ≤ 8)) = false := by rw [hnb]; rfl
      rw [e] at KR
      replace KR := Lib.hid KR
      clear e HX hnb
      go_wp2_with fail
      refine (KN.out _).mono ?_
      rintro e wn ⟨rfl, e2⟩
      rw [e2]
      clear e2
      clear KN
      go_wp2_with fail
      refine KR.out.mono ?_
      rintro e wa ⟨rfl, hb⟩
      have hba := hB7.trans (hb.mono hB7.size)
      replace h8 := h8.stay hb
      replace rB := rB.stay hb
      clear KR hb d0 d1
      have d0 := Rw.cell rB 0
      have d1 := Rw.cell rB 1
      simp only [List.getElem?_cons_zero, List.getElem?_cons_succ] at d0 d1
      go_wp2_with fail
      refine (KO9.out _ hba).mono ?_
      rintro e wb ⟨vb, rfl, hob, hb⟩
      have hbb := hba.trans (hb.mono hba.size)
      have K9 := same_any _ _ _ vb O O wb (h8.stay hb) (own_flds hob) (by omega)
      rw [beq_self_eq_true] at K9
      replace K9 := Lib.hid K9
      clear KO9 hb hob hba
      go_wp2_with fail
      refine K9.out.mono ?_
      rintro e we ⟨rfl, hb⟩
      have hbe := hbb.trans (hb.mono hbb.size)
      clear K9 hb
      go_wp2_with fail
      go_ret
      exact ⟨rfl, hB3.trans (hbe.mono hB3.size)⟩
    | true =>
      rw [hnb] at KN
      by_cases hv2 : val.length ≤ 200
      · have hvi : (val.length : Int) ≤ 200 := by omega
        by_cases h88 : O.length + 1 ≤ 8
        · have h8i : (O.length : Int) + 1 ≤ 8 := by omega
          have h8j : ((O.length + 1 : Nat) : Int) ≤ 8 := by omega

          have e : (nameB nm && decide (val.length ≤ 200) && decide (R.length ≤ 8)) = true := by rw [hnb, decide_eq_true hv2, decide_eq_true (by have := (HX ()).2.2.2.2; omega)]; rfl
          rw [e] at KR
          replace KR := Lib.hid KR
          clear e HX hnb
          go_wp2_with fail
          refine (KN.out _).mono ?_
          rintro e wn ⟨rfl, e2⟩
          rw [e2]
          clear e2
          clear KN
          go_wp2_with fail
          refine KR.out.mono ?_
          rintro e wa ⟨rfl, hb⟩
          have hba := hB7.trans (hb.mono hB7.size)
          replace h8 := h8.stay hb
          replace rB := rB.stay hb
          clear KR hb d0 d1
          have d0 := Rw.cell rB 0
          have d1 := Rw.cell rB 1
          simp only [List.getElem?_cons_zero, List.getElem?_cons_succ] at d0 d1
          go_wp2_with fail
          refine (KO9.out _ hba).mono ?_
          rintro e wb ⟨vb, rfl, hob, hb⟩
          have hbb := hba.trans (hb.mono hba.size)
          have K9 := same_any _ _ _ vb O O wb (h8.stay hb) (own_flds hob) (by omega)
          rw [beq_self_eq_true] at K9
          replace K9 := Lib.hid K9
          clear KO9 hb hob hba
          go_wp2_with fail
          refine K9.out.mono ?_
          rintro e we ⟨rfl, hb⟩
          have hbe := hbb.trans (hb.mono hbb.size)
          clear K9 hb
          go_wp2_with fail
          go_ret
          exact ⟨rfl, hB3.trans (hbe.mono hB3.size)⟩
        · have h8i : decide ((O.length : Int) + 1 ≤ 8) = false := decide_eq_false (by omega)

          have e : (nameB nm && decide (val.length ≤ 200) && decide (R.length ≤ 8)) = false := by rw [hnb, decide_eq_true hv2, decide_eq_false (by have := (HX ()).2.2.2.2; omega)]; rfl
          rw [e] at KR
          replace KR := Lib.hid KR
          clear e HX hnb
          go_wp2_with fail
          refine (KN.out _).mono ?_
          rintro e wn ⟨rfl, e2⟩
          rw [e2]
          clear e2
          clear KN
          go_wp2_with fail
          refine KR.out.mono ?_
          rintro e wa ⟨rfl, hb⟩
          have hba := hB7.trans (hb.mono hB7.size)
          replace h8 := h8.stay hb
          replace rB := rB.stay hb
          clear KR hb d0 d1
          have d0 := Rw.cell rB 0
          have d1 := Rw.cell rB 1
          simp only [List.getElem?_cons_zero, List.getElem?_cons_succ] at d0 d1
          go_wp2_with fail
          refine (KO9.out _ hba).mono ?_
          rintro e wb ⟨vb, rfl, hob, hb⟩
          have hbb := hba.trans (hb.mono hba.size)
          have K9 := same_any _ _ _ vb O O wb (h8.stay hb) (own_flds hob) (by omega)
          rw [beq_self_eq_true] at K9
          replace K9 := Lib.hid K9
          clear KO9 hb hob hba
          go_wp2_with fail
          refine K9.out.mono ?_
          rintro e we ⟨rfl, hb⟩
          have hbe := hbb.trans (hb.mono hbb.size)
          clear K9 hb
          go_wp2_with fail
          go_ret
          exact ⟨rfl, hB3.trans (hbe.mono hB3.size)⟩
      · have hvi : ¬ (val.length : Int) ≤ 200 := by omega

        have e : (nameB nm && decide (val.length ≤ 200) && decide (R.length ≤ 8)) = false := by rw [hnb, decide_eq_false hv2]; rfl
        rw [e] at KR
        replace KR := Lib.hid KR
        clear e HX hnb
        go_wp2_with fail
        refine (KN.out _).mono ?_
        rintro e wn ⟨rfl, e2⟩
        rw [e2]
        clear e2
        clear KN
        go_wp2_with fail
        refine KR.out.mono ?_
        rintro e wa ⟨rfl, hb⟩
        have hba := hB7.trans (hb.mono hB7.size)
        replace h8 := h8.stay hb
        replace rB := rB.stay hb
        clear KR hb d0 d1
        have d0 := Rw.cell rB 0
        have d1 := Rw.cell rB 1
        simp only [List.getElem?_cons_zero, List.getElem?_cons_succ] at d0 d1
        go_wp2_with fail
        refine (KO9.out _ hba).mono ?_
        rintro e wb ⟨vb, rfl, hob, hb⟩
        have hbb := hba.trans (hb.mono hba.size)
        have K9 := same_any _ _ _ vb O O wb (h8.stay hb) (own_flds hob) (by omega)
        rw [beq_self_eq_true] at K9
        replace K9 := Lib.hid K9
        clear KO9 hb hob hba
        go_wp2_with fail
        refine K9.out.mono ?_
        rintro e we ⟨rfl, hb⟩
        have hbe := hbb.trans (hb.mono hbb.size)
        clear K9 hb
        go_wp2_with fail
        go_ret
        exact ⟨rfl, hB3.trans (hbe.mono hB3.size)⟩
end Go.Proofs.YteooofakpkbgoaaDoor
