/- MatchPicks returns true: the law. -/
import Derived.Test.YteooofakpkbgoaaDoorMPicksP
namespace Go.Proofs.YteooofakpkbgoaaDoor
open Go.ChangeShapes Go.WideShapes Go.RowKit

/-- A field that lies in memory, whatever is laid besides. -/
def G2 (W : World) (p q : Addr) (x y : Value) (w : World) : Prop := Below W.heap.size W w ∧ w.cell? p = some x ∧ w.cell? q = some y
theorem G2.go {W w w' : World} {p q : Addr} {x y : Value} (h : G2 W p q x y w) (k : Below w.heap.size w w') : G2 W p q x y w' := by
  obtain ⟨h1, h2, h3⟩ := h
  exact ⟨h1.trans (k.mono h1.size), (k.cell (World.block_lt_of_cell? w _ h2)).trans h2, (k.cell (World.block_lt_of_cell? w _ h3)).trans h3⟩
set_option maxHeartbeats 3200000 in
set_option maxRecDepth 100000 in
theorem picks_law (P P' : Nat → Prop) (v v2 : Value) (fs : List (Bs × Bs)) (ss : List Bs) (w : World) (h : FldsAt P w v fs) (hl : fs.length ≤ 9223372036854775807) (hfl : ∀ f ∈ fs, f.1.length ≤ 9223372036854775807 ∧ f.2.length ≤ 9223372036854775807)
    (h2 : StrsAt P' w v2 ss) (hs : ss.length ≤ 9223372036854775807) (hg : SgAt w) :
    Calls Tryd.prog 8 #[v, v2] w fun e w' => e = .returned (.bool true) ∧ Below w.heap.size w w' := by
  have KL := Lib.hid (lives_any w hg)
  have KG := Lib.hid fun w' (hb : Below w.heap.size w w') => good_any P v fs w' (h.stay hb) hl hfl
  have hgd := good_gd fs
  obtain ⟨aS, cS, rfl⟩ := h.shape
  have hcap : ∃ aT cT, v2 = .slice aT ss.length cT ∧ min ss.length 20 ≤ cT := by
    rcases h2 with ⟨rfl, a, c, rfl⟩ | ⟨g, o, c, rfl, hle, _⟩
    · exact ⟨a, c, rfl, by simp⟩
    · exact ⟨_, _, rfl, by omega⟩
  obtain ⟨aT, cT, rfl, hcT⟩ := hcap
  generalize goodN fs = F at *
  clear h hl hfl
  generalize fs.length = nS at *
  have hFl := hgd.len
  have hFn : ∀ f ∈ F, f.1.length ≤ 9223372036854775807 ∧ f.2.length ≤ 9223372036854775807 := fun f hf => ⟨by have := (name_len12 (hgd.name hf)).2; omega, by have := hgd.2 f hf; omega⟩
  have hT := h2.upto (k := min ss.length 20) (by omega)
  have hTl : (ss.take (min ss.length 20)).length ≤ 20 := by rw [List.length_take]; omega
  have hcut := fun w => cut_names aT ss.length cT hcT w
  obtain ⟨nT, hnT⟩ : ∃ k, min ss.length 20 = k := ⟨_, rfl⟩
  have hTn : (ss.take (min ss.length 20)).length = nT := by rw [List.length_take]; omega
  have hnT20 : nT ≤ 20 := by omega
  have HTN : Unit → _ := fun _ => hTn
  simp only [hnT] at *
  clear hTn hnT hcT
  generalize ss.take nT = T at *
  have hsI : (ss.length : Int) ≤ 9223372036854775807 := by omega
  clear h2 hs hg
  have hTi : ∀ i, (woutsF (T.take i) F).length ≤ 8 := fun i => Nat.le_trans (wouts_len _ _) hFl
  have hTall : woutsF (T.take nT) F = woutsF T F := by rw [List.take_of_length_le (by have := HTN (); omega)]
  have HX : Unit → rightB (pickF T F) = true ∧ rightB (woutsF T F) = true ∧ (pickF T F).length + (woutsF T F).length = F.length ∧ withsF (woutsF T F) (pickF T F) = F ∧ (∀ f ∈ pickF T F, valueF F f.1 = f.2 ∧ valueF (woutsF T F) f.1 = []) ∧
      (∀ f ∈ pickF T F, f.1.length ≤ 9223372036854775807 ∧ f.2.length ≤ 9223372036854775807) ∧ (∀ f ∈ woutsF T F, f.1.length ≤ 9223372036854775807 ∧ f.2.length ≤ 9223372036854775807) ∧ Asc (woutsF T F) := fun _ => by
    have hA : Asc F := ((right_iff F).1 hgd.1).2.1
    have hRr : rightB (woutsF T F) = true := by rw [wouts_is]; exact right_sub hgd.1 _
    exact ⟨right_sub hgd.1 _, hRr, picks_count T F, picks_all hA T, fun f hf => picks_value hA hf, fun f hf => hFn f (List.mem_filter.1 hf).1, fun f hf => by rw [wouts_is] at hf; exact hFn f (List.mem_filter.1 hf).1, ((right_iff _).1 hRr).2.1⟩
  have hZl : (pickF T F).length ≤ 8 := Nat.le_trans (pick_len T F) hFl
  clear hgd hFn
  go_enter Tryd.func8, Tryd.ntmps8
  go_wp2_with fail
  refine KL.out.mono ?_
  rintro e w1 ⟨rfl, hB1⟩
  clear KL
  go_wp2_with fail
  refine (KG.out _ hB1).mono ?_
  rintro e w2 ⟨vF, rfl, hF, hb⟩
  clear KG
  have hB2 := hB1.trans (hb.mono hB1.size)
  replace hT := hT.stay hB2
  replace hF : FldsAt (fun _ => True) _ _ _ := hF.mono fun _ _ _ => trivial
  obtain ⟨aF, cF, rfl⟩ := hF.shape
  clear hb hB1
  have KP := Lib.hid (pick_any _ _ _ _ F T w2 hF hT (by omega) (by have := HTN (); omega))
  go_wp2_with fail
  refine KP.out.mono ?_
  rintro e w3 ⟨vP, rfl, hP0, hb⟩
  clear KP
  have hB3 := hB2.trans (hb.mono hB2.size)
  replace hT := hT.stay hb
  replace hF := hF.stay hb
  have hP : FldsAt (fun _ => True) w3 vP (pickF T F) := (own_flds hP0).mono fun _ _ _ => trivial
  clear hP0 hb hB2
  obtain ⟨aP, cP, rfl⟩ := hP.shape
  generalize pickF T F = Z at *
  obtain ⟨nZ, hnZ⟩ : ∃ n, Z.length = n := ⟨_, rfl⟩
  have HZN : Unit → Z.length = nZ := fun _ => hnZ
  rw [hnZ] at hZl
  simp only [hnZ] at hP ⊢
  clear hnZ
  go_upto_region 8 with fail
  go_loopw [6, 7] (fun u6 u7 wr => ∃ (i : Nat) (O : List (Bs × Bs)), u7 = .int .i64 (i : Int) ∧ i ≤ nT ∧ O = woutsF (T.take i) F ∧ FldsAt (fun _ => True) wr u6 O ∧ Below w3.heap.size w3 wr) (fun _ u7 _ => nT - (intOf u7).toNat)
  case atStart => exact ⟨0, F, rfl, Nat.zero_le _, rfl, hF, Below.refl _ _⟩
  case round =>
    obtain ⟨i, O, rfl, hin, hO, hOat, hB⟩ := hrel
    have HOO : Unit → O = woutsF (T.take i) F := fun _ => hO
    have hOl : O.length ≤ 8 := by rw [hO]; exact hTi i
    clear hO
    obtain ⟨aO, cO, rfl⟩ := hOat.shape
    by_cases hlt : i < nT
    · have hki : (i : Int) < (nT : Int) := by omega
      obtain ⟨s, hs⟩ : ∃ s, T[i]? = some s := ⟨_, List.getElem?_eq_getElem (by have := HTN (); omega)⟩
      obtain ⟨g0, o0, rfl, _, d0⟩ := (hT.stay hB).text hs
      have HNX : Unit → woutF s O = woutsF (T.take (i + 1)) F := fun _ => by rw [wouts_take hs, HOO ()]
      clear hs
      have KW := Lib.hid (wout_any _ _ O s wr hOat (by omega))
      go_wp2_with fail
      refine KW.out.mono ?_
      rintro e wa ⟨va, rfl, howna, hb⟩
      have hBa := hB.trans (hb.mono hB.size)
      have hOa : FldsAt (fun _ => True) wa va (woutF s O) := (own_flds howna).mono fun _ _ _ => trivial
      clear KW howna hb hB hOat
      go_wp2_with fail
      go_roundw
      case rel => exact ⟨i + 1, _, by go_num, by omega, HNX (), hOa, hBa⟩
      case measure => simp [intOf]; omega
    · obtain rfl : O = woutsF T F := by rw [HOO (), ← hTall, show i = nT by omega]
      clear HOO hTi hTall
      have hki : ¬ (i : Int) < (nT : Int) := by omega
      generalize woutsF T F = R at *
      have hB4 := hB3.trans (hB.mono hB3.size)
      replace hP := hP.stay hB
      replace hF := hF.stay hB
      clear hB hT hB3 hcut
      generalize wr = w4 at *
      go_upto_region 12 with fail
      go_loopw [8] (fun u8 wz => ∃ j : Nat, u8 = .int .i64 (j : Int) ∧ j ≤ nZ ∧ Below w4.heap.size w4 wz) (fun u8 _ => nZ - (intOf u8).toNat)
      case atStart => exact ⟨0, rfl, Nat.zero_le _, Below.refl _ _⟩
      case round =>
        obtain ⟨j, rfl, hjn, hBz⟩ := hrel
        by_cases hjl : j < nZ
        · have hji : (j : Int) < (nZ : Int) := by omega
          obtain ⟨f, hf⟩ : ∃ f, Z[j]? = some f := ⟨_, List.getElem?_eq_getElem (by have := HZN (); omega)⟩
          obtain ⟨g, o, rfl, _, hgl, c0, c1⟩ := (hP.stay hBz).part hf
          obtain ⟨hv1, hv2⟩ := (HX ()).2.2.2.2.1 f (List.mem_of_getElem? hf)
          have KV1 := Lib.hid fun w' (hb : Below wr.heap.size wr w') => value_any _ _ F f.1 w' ((hF.stay hBz).stay hb) (by omega)
          rw [hv1] at KV1
          have KV2 := Lib.hid fun w' (hb : Below wr.heap.size wr w') => value_any _ _ R f.1 w' ((hOat.stay hBz).stay hb) (by omega)
          rw [hv2] at KV2
          clear hf hv1 hv2
          obtain ⟨f1, f2⟩ := f
          simp only at *
          go_upto_region 14 with fail
          go_cut [72] from 42 to 71 (fun u72 wx => u72 = .bool false ∧ Below wr.heap.size wr wx)
          case first =>
            refine wp_region_held (S := G2 wr ⟨g, o + j * 2, none⟩ ⟨g, o + j * 2 + 1, none⟩ (.string ⟨f1.toArray⟩) (.string ⟨f2.toArray⟩)) (by kernel_rfl) ?_
            have hS : G2 wr ⟨g, o + j * 2, none⟩ ⟨g, o + j * 2 + 1, none⟩ (.string ⟨f1.toArray⟩) (.string ⟨f2.toArray⟩) { wr with drawn := wr.drawn + 1 } := ⟨(Below.refl _ _).drew, c0, c1⟩
            generalize { wr with drawn := wr.drawn + 1 } = D1 at *
            refine held_val 0 rfl (by kernel_rfl) (by kernel_rfl) (by kernel_rfl) (fun _ _ _ _ h => h) (by rfl) hS ?_
            apply Exists.intro
            refine ⟨fun w' hw' => ?_, ?_⟩
            · obtain ⟨_, e0, e1⟩ := hw'
              go_simp
              first | done | rfl | exact ⟨rfl, rfl⟩
            simp only [Act.put, List.setIfInBounds_toArray, List.set_cons_zero, List.set_cons_succ]
            refine held_val 1 rfl (by kernel_rfl) (by kernel_rfl) (by kernel_rfl) (fun _ _ _ _ h => h) (by rfl) hS ?_
            apply Exists.intro
            refine ⟨fun w' hw' => ?_, ?_⟩
            · obtain ⟨_, e0, e1⟩ := hw'
              go_simp
              first | done | rfl | exact ⟨rfl, rfl⟩
            simp only [Act.put, List.setIfInBounds_toArray, List.set_cons_zero, List.set_cons_succ]
            refine held_val 2 rfl (by kernel_rfl) (by kernel_rfl) (by kernel_rfl) (fun _ _ _ _ h => h) (by rfl) hS ?_
            apply Exists.intro
            refine ⟨fun w' hw' => ?_, ?_⟩
            · obtain ⟨_, e0, e1⟩ := hw'
              go_simp
              first | done | rfl | exact ⟨rfl, rfl⟩
            simp only [Act.put, List.setIfInBounds_toArray, List.set_cons_zero, List.set_cons_succ]
            refine held_val 3 rfl (by kernel_rfl) (by kernel_rfl) (by kernel_rfl) (fun _ _ _ _ h => h) (by rfl) hS ?_
            apply Exists.intro
            refine ⟨fun w' hw' => ?_, ?_⟩
            · obtain ⟨_, e0, e1⟩ := hw'
              go_simp
              first | done | rfl | exact ⟨rfl, rfl⟩
            simp only [Act.put, List.setIfInBounds_toArray, List.set_cons_zero, List.set_cons_succ]
            refine held_val 4 rfl (by kernel_rfl) (by kernel_rfl) (by kernel_rfl) (fun _ _ _ _ h => h) (by rfl) hS ?_
            apply Exists.intro
            refine ⟨fun w' hw' => ?_, ?_⟩
            · obtain ⟨_, e0, e1⟩ := hw'
              go_simp
              first | done | rfl | exact ⟨rfl, rfl⟩
            simp only [Act.put, List.setIfInBounds_toArray, List.set_cons_zero, List.set_cons_succ]
            refine held_val 5 rfl (by kernel_rfl) (by kernel_rfl) (by kernel_rfl) (fun _ _ _ _ h => h) (by rfl) hS ?_
            apply Exists.intro
            refine ⟨fun w' hw' => ?_, ?_⟩
            · obtain ⟨_, e0, e1⟩ := hw'
              go_simp
              first | done | rfl | exact ⟨rfl, rfl⟩
            simp only [Act.put, List.setIfInBounds_toArray, List.set_cons_zero, List.set_cons_succ]
            refine held_val 7 rfl (by kernel_rfl) (by kernel_rfl) (by kernel_rfl) (fun _ _ _ _ h => h) (by rfl) hS ?_
            apply Exists.intro
            refine ⟨fun w' hw' => ?_, ?_⟩
            · obtain ⟨_, e0, e1⟩ := hw'
              go_simp
              first | done | rfl | exact ⟨rfl, rfl⟩
            simp only [Act.put, List.setIfInBounds_toArray, List.set_cons_zero, List.set_cons_succ]
            refine held_val 8 rfl (by kernel_rfl) (by kernel_rfl) (by kernel_rfl) (fun _ _ _ _ h => h) (by rfl) hS ?_
            apply Exists.intro
            refine ⟨fun w' hw' => ?_, ?_⟩
            · obtain ⟨_, e0, e1⟩ := hw'
              go_simp
              first | done | rfl | exact ⟨rfl, rfl⟩
            simp only [Act.put, List.setIfInBounds_toArray, List.set_cons_zero, List.set_cons_succ]
            refine held_val 9 rfl (by kernel_rfl) (by kernel_rfl) (by kernel_rfl) (fun _ _ _ _ h => h) (by rfl) hS ?_
            apply Exists.intro
            refine ⟨fun w' hw' => ?_, ?_⟩
            · obtain ⟨_, e0, e1⟩ := hw'
              go_simp
              first | done | rfl | exact ⟨rfl, rfl⟩
            simp only [Act.put, List.setIfInBounds_toArray, List.set_cons_zero, List.set_cons_succ]
            refine held_val 10 rfl (by kernel_rfl) (by kernel_rfl) (by kernel_rfl) (fun _ _ _ _ h => h) (by rfl) hS ?_
            apply Exists.intro
            refine ⟨fun w' hw' => ?_, ?_⟩
            · obtain ⟨_, e0, e1⟩ := hw'
              go_simp
              first | done | rfl | exact ⟨rfl, rfl⟩
            simp only [Act.put, List.setIfInBounds_toArray, List.set_cons_zero, List.set_cons_succ]
            refine held_val 11 rfl (by kernel_rfl) (by kernel_rfl) (by kernel_rfl) (fun _ _ _ _ h => h) (by rfl) hS ?_
            apply Exists.intro
            refine ⟨fun w' hw' => ?_, ?_⟩
            · obtain ⟨_, e0, e1⟩ := hw'
              go_simp
              first | done | rfl | exact ⟨rfl, rfl⟩
            simp only [Act.put, List.setIfInBounds_toArray, List.set_cons_zero, List.set_cons_succ]
            refine held_call 6 (by kernel_rfl) rfl (by rfl) ?_
            apply Exists.intro
            apply Exists.intro
            refine ⟨?_, ?_⟩
            · go_simp
              first | done | rfl | exact ⟨rfl, rfl⟩
            refine (KV1.out _ hS.1).mono ?_
            rintro e wA ⟨heA, hbA⟩
            replace hS := hS.go hbA
            refine ⟨_, heA, hS, ?_⟩
            simp only [Act.put, List.setIfInBounds_toArray, List.set_cons_zero, List.set_cons_succ]
            clear heA hbA
            refine held_val 12 rfl (by kernel_rfl) (by kernel_rfl) (by kernel_rfl) (fun _ _ _ _ h => h) (by rfl) hS ?_
            apply Exists.intro
            refine ⟨fun w' hw' => ?_, ?_⟩
            · obtain ⟨_, e0, e1⟩ := hw'
              go_simp
              first | done | rfl | exact ⟨rfl, rfl⟩
            simp only [Act.put, List.setIfInBounds_toArray, List.set_cons_zero, List.set_cons_succ]
            refine held_val 13 rfl (by kernel_rfl) (by kernel_rfl) (by kernel_rfl) (fun _ _ _ _ h => h) (by rfl) hS ?_
            apply Exists.intro
            refine ⟨fun w' hw' => ?_, ?_⟩
            · obtain ⟨_, e0, e1⟩ := hw'
              go_simp
              first | done | rfl | exact ⟨rfl, rfl⟩
            simp only [Act.put, List.setIfInBounds_toArray, List.set_cons_zero, List.set_cons_succ]
            refine held_val 14 rfl (by kernel_rfl) (by kernel_rfl) (by kernel_rfl) (fun _ _ _ _ h => h) (by rfl) hS ?_
            apply Exists.intro
            refine ⟨fun w' hw' => ?_, ?_⟩
            · obtain ⟨_, e0, e1⟩ := hw'
              go_simp
              first | done | rfl | exact ⟨rfl, rfl⟩
            simp only [Act.put, List.setIfInBounds_toArray, List.set_cons_zero, List.set_cons_succ]
            refine held_val 15 rfl (by kernel_rfl) (by kernel_rfl) (by kernel_rfl) (fun _ _ _ _ h => h) (by rfl) hS ?_
            apply Exists.intro
            refine ⟨fun w' hw' => ?_, ?_⟩
            · obtain ⟨_, e0, e1⟩ := hw'
              go_simp
              first | done | rfl | exact ⟨rfl, rfl⟩
            simp only [Act.put, List.setIfInBounds_toArray, List.set_cons_zero, List.set_cons_succ]
            refine held_val 16 rfl (by kernel_rfl) (by kernel_rfl) (by kernel_rfl) (fun _ _ _ _ h => h) (by rfl) hS ?_
            apply Exists.intro
            refine ⟨fun w' hw' => ?_, ?_⟩
            · obtain ⟨_, e0, e1⟩ := hw'
              go_simp
              first | done | rfl | exact ⟨rfl, rfl⟩
            simp only [Act.put, List.setIfInBounds_toArray, List.set_cons_zero, List.set_cons_succ]
            refine held_val 17 rfl (by kernel_rfl) (by kernel_rfl) (by kernel_rfl) (fun _ _ _ _ h => h) (by rfl) hS ?_
            apply Exists.intro
            refine ⟨fun w' hw' => ?_, ?_⟩
            · obtain ⟨_, e0, e1⟩ := hw'
              go_simp
              first | done | rfl | exact ⟨rfl, rfl⟩
            simp only [Act.put, List.setIfInBounds_toArray, List.set_cons_zero, List.set_cons_succ]
            refine held_val 18 rfl (by kernel_rfl) (by kernel_rfl) (by kernel_rfl) (fun _ _ _ _ h => h) (by rfl) hS ?_
            apply Exists.intro
            refine ⟨fun w' hw' => ?_, ?_⟩
            · obtain ⟨_, e0, e1⟩ := hw'
              go_simp
              first | done | rfl | exact ⟨rfl, rfl⟩
            simp only [Act.put, List.setIfInBounds_toArray, List.set_cons_zero, List.set_cons_succ]
            refine held_val 19 rfl (by kernel_rfl) (by kernel_rfl) (by kernel_rfl) (fun _ _ _ _ h => h) (by rfl) hS ?_
            apply Exists.intro
            refine ⟨fun w' hw' => ?_, ?_⟩
            · obtain ⟨_, e0, e1⟩ := hw'
              go_simp
              first | done | rfl | exact ⟨rfl, rfl⟩
            simp only [Act.put, List.setIfInBounds_toArray, List.set_cons_zero, List.set_cons_succ]
            refine held_call 20 (by kernel_rfl) rfl (by rfl) ?_
            apply Exists.intro
            apply Exists.intro
            refine ⟨?_, ?_⟩
            · go_simp
              first | done | rfl | exact ⟨rfl, rfl⟩
            refine (KV2.out _ hS.1).mono ?_
            rintro e wB ⟨heB, hbB⟩
            replace hS := hS.go hbB
            refine ⟨_, heB, hS, ?_⟩
            simp only [Act.put, List.setIfInBounds_toArray, List.set_cons_zero, List.set_cons_succ]
            clear heB hbB
            refine held_val 21 rfl (by kernel_rfl) (by kernel_rfl) (by kernel_rfl) (fun _ _ _ _ h => h) (by rfl) hS ?_
            apply Exists.intro
            refine ⟨fun w' hw' => ?_, ?_⟩
            · skip
              go_simp
              first | done | rfl | exact ⟨rfl, rfl⟩
            simp only [Act.put, List.setIfInBounds_toArray, List.set_cons_zero, List.set_cons_succ]
            refine held_val 22 rfl (by kernel_rfl) (by kernel_rfl) (by kernel_rfl) (fun _ _ _ _ h => h) (by rfl) hS ?_
            apply Exists.intro
            refine ⟨fun w' hw' => ?_, ?_⟩
            · skip
              go_simp
              first | done | rfl | exact ⟨rfl, rfl⟩
            simp only [Act.put, List.setIfInBounds_toArray, List.set_cons_zero, List.set_cons_succ]
            refine held_skip 23 rfl (by kernel_rfl) (by kernel_rfl) (by kernel_rfl) (fun _ _ _ _ h => h) (by rfl) hS ?_
            simp only [Act.put, List.setIfInBounds_toArray, List.set_cons_zero, List.set_cons_succ]
            refine held_skip 24 rfl (by kernel_rfl) (by kernel_rfl) (by kernel_rfl) (fun _ _ _ _ h => h) (by rfl) hS ?_
            simp only [Act.put, List.setIfInBounds_toArray, List.set_cons_zero, List.set_cons_succ]
            refine held_skip 25 rfl (by kernel_rfl) (by kernel_rfl) (by kernel_rfl) (fun _ _ _ _ h => h) (by rfl) hS ?_
            simp only [Act.put, List.setIfInBounds_toArray, List.set_cons_zero, List.set_cons_succ]
            refine held_skip 26 rfl (by kernel_rfl) (by kernel_rfl) (by kernel_rfl) (fun _ _ _ _ h => h) (by rfl) hS ?_
            simp only [Act.put, List.setIfInBounds_toArray, List.set_cons_zero, List.set_cons_succ]
            refine held_skip 27 rfl (by kernel_rfl) (by kernel_rfl) (by kernel_rfl) (fun _ _ _ _ h => h) (by rfl) hS ?_
            simp only [Act.put, List.setIfInBounds_toArray, List.set_cons_zero, List.set_cons_succ]
            refine held_skip 28 rfl (by kernel_rfl) (by kernel_rfl) (by kernel_rfl) (fun _ _ _ _ h => h) (by rfl) hS ?_
            simp only [Act.put, List.setIfInBounds_toArray, List.set_cons_zero, List.set_cons_succ]
            refine held_val 29 rfl (by kernel_rfl) (by kernel_rfl) (by kernel_rfl) (fun _ _ _ _ h => h) (by rfl) hS ?_
            apply Exists.intro
            refine ⟨fun w' hw' => ?_, ?_⟩
            · skip
              go_simp
              first | done | rfl | exact ⟨rfl, rfl⟩
            simp only [Act.put, List.setIfInBounds_toArray, List.set_cons_zero, List.set_cons_succ]
            refine held_val 30 rfl (by kernel_rfl) (by kernel_rfl) (by kernel_rfl) (fun _ _ _ _ h => h) (by rfl) hS ?_
            apply Exists.intro
            refine ⟨fun w' hw' => ?_, ?_⟩
            · skip
              go_simp
              first | done | rfl | exact ⟨rfl, rfl⟩
            simp only [Act.put, List.setIfInBounds_toArray, List.set_cons_zero, List.set_cons_succ]
            refine wpAnyH_done (by kernel_rfl) ?_ _
            have hb5 := hS.1
            go_wp2_with fail
            go_meet
            exact ⟨rfl, hb5⟩
          case rest =>
            obtain ⟨rfl, hB6⟩ := hcut
            have hB7 := hBz.trans (hB6.mono hBz.size)
            clear KV1 KV2 c0 c1 hB6 hBz
            go_wp2_with fail
            go_roundw
            case rel => exact ⟨j + 1, by go_num, by omega, hB7⟩
            case measure => simp [intOf]; omega
        · have hji : ¬ (j : Int) < (nZ : Int) := by omega
          have hB5 := hB4.trans (hBz.mono hB4.size)
          replace hP := hP.stay hBz
          replace hF := hF.stay hBz
          have hR := hOat.stay hBz
          clear hBz hOat hB4
          generalize wr = w5 at *
          go_upto_region 18 with fail
          go_loopw [9, 10] (fun u9 u10 wq => ∃ (k : Nat) (Y : List (Bs × Bs)), u10 = .int .i64 (k : Int) ∧ k ≤ nZ ∧ Y = withsF R (Z.take k) ∧ FldsAt (fun _ => True) wq u9 Y ∧ Below w5.heap.size w5 wq) (fun _ u10 _ => nZ - (intOf u10).toNat)
          case atStart => exact ⟨0, R, rfl, Nat.zero_le _, rfl, hR, Below.refl _ _⟩
          case round =>
            obtain ⟨k, Y, rfl, hkn, hY, hYat, hBq⟩ := hrel
            have HYY : Unit → Y = withsF R (Z.take k) := fun _ => hY
            have hYl : Y.length ≤ 16 := by rw [hY]; refine Nat.le_trans (withs_len _ _) ?_; rw [List.length_take]; have := HZN (); omega
            have hYA : Asc Y := by rw [hY]; exact withs_asc (HX ()).2.2.2.2.2.2.2 _
            clear hY
            obtain ⟨aY, cY, rfl⟩ := hYat.shape
            by_cases hkl : k < nZ
            · have hki2 : (k : Int) < (nZ : Int) := by omega
              obtain ⟨f, hf⟩ : ∃ f, Z[k]? = some f := ⟨_, List.getElem?_eq_getElem (by have := HZN (); omega)⟩
              obtain ⟨g, o, rfl, _, hgl, c0, c1⟩ := (hP.stay hBq).part hf
              have HNX : Unit → withR Y f.1 f.2 = withsF R (Z.take (k + 1)) := fun _ => by rw [withs_take hf, HYY ()]
              have KW := Lib.hid fun w' (hb : Below wr.heap.size wr w') => withm_any _ _ Y f.1 f.2 w' (hYat.stay hb) (by omega)
              rw [with_same hYA] at KW
              clear hf
              obtain ⟨f1, f2⟩ := f
              simp only at *
              go_upto_region 20 with fail
              refine wp_region_held (S := G2 wr ⟨g, o + k * 2, none⟩ ⟨g, o + k * 2 + 1, none⟩ (.string ⟨f1.toArray⟩) (.string ⟨f2.toArray⟩)) (by kernel_rfl) ?_
              have hS : G2 wr ⟨g, o + k * 2, none⟩ ⟨g, o + k * 2 + 1, none⟩ (.string ⟨f1.toArray⟩) (.string ⟨f2.toArray⟩) { wr with drawn := wr.drawn + 1 } := ⟨(Below.refl _ _).drew, c0, c1⟩
              generalize { wr with drawn := wr.drawn + 1 } = D1 at *
              refine held_val 0 rfl (by kernel_rfl) (by kernel_rfl) (by kernel_rfl) (fun _ _ _ _ h => h) (by rfl) hS ?_
              apply Exists.intro
              refine ⟨fun w' hw' => ?_, ?_⟩
              · obtain ⟨_, e0, e1⟩ := hw'
                go_simp
                first | done | rfl | exact ⟨rfl, rfl⟩
              simp only [Act.put, List.setIfInBounds_toArray, List.set_cons_zero, List.set_cons_succ]
              refine held_val 1 rfl (by kernel_rfl) (by kernel_rfl) (by kernel_rfl) (fun _ _ _ _ h => h) (by rfl) hS ?_
              apply Exists.intro
              refine ⟨fun w' hw' => ?_, ?_⟩
              · obtain ⟨_, e0, e1⟩ := hw'
                go_simp
                first | done | rfl | exact ⟨rfl, rfl⟩
              simp only [Act.put, List.setIfInBounds_toArray, List.set_cons_zero, List.set_cons_succ]
              refine held_val 2 rfl (by kernel_rfl) (by kernel_rfl) (by kernel_rfl) (fun _ _ _ _ h => h) (by rfl) hS ?_
              apply Exists.intro
              refine ⟨fun w' hw' => ?_, ?_⟩
              · obtain ⟨_, e0, e1⟩ := hw'
                go_simp
                first | done | rfl | exact ⟨rfl, rfl⟩
              simp only [Act.put, List.setIfInBounds_toArray, List.set_cons_zero, List.set_cons_succ]
              refine held_val 3 rfl (by kernel_rfl) (by kernel_rfl) (by kernel_rfl) (fun _ _ _ _ h => h) (by rfl) hS ?_
              apply Exists.intro
              refine ⟨fun w' hw' => ?_, ?_⟩
              · obtain ⟨_, e0, e1⟩ := hw'
                go_simp
                first | done | rfl | exact ⟨rfl, rfl⟩
              simp only [Act.put, List.setIfInBounds_toArray, List.set_cons_zero, List.set_cons_succ]
              refine held_val 4 rfl (by kernel_rfl) (by kernel_rfl) (by kernel_rfl) (fun _ _ _ _ h => h) (by rfl) hS ?_
              apply Exists.intro
              refine ⟨fun w' hw' => ?_, ?_⟩
              · obtain ⟨_, e0, e1⟩ := hw'
                go_simp
                first | done | rfl | exact ⟨rfl, rfl⟩
              simp only [Act.put, List.setIfInBounds_toArray, List.set_cons_zero, List.set_cons_succ]
              refine held_val 5 rfl (by kernel_rfl) (by kernel_rfl) (by kernel_rfl) (fun _ _ _ _ h => h) (by rfl) hS ?_
              apply Exists.intro
              refine ⟨fun w' hw' => ?_, ?_⟩
              · obtain ⟨_, e0, e1⟩ := hw'
                go_simp
                first | done | rfl | exact ⟨rfl, rfl⟩
              simp only [Act.put, List.setIfInBounds_toArray, List.set_cons_zero, List.set_cons_succ]
              refine held_val 6 rfl (by kernel_rfl) (by kernel_rfl) (by kernel_rfl) (fun _ _ _ _ h => h) (by rfl) hS ?_
              apply Exists.intro
              refine ⟨fun w' hw' => ?_, ?_⟩
              · obtain ⟨_, e0, e1⟩ := hw'
                go_simp
                first | done | rfl | exact ⟨rfl, rfl⟩
              simp only [Act.put, List.setIfInBounds_toArray, List.set_cons_zero, List.set_cons_succ]
              refine held_val 7 rfl (by kernel_rfl) (by kernel_rfl) (by kernel_rfl) (fun _ _ _ _ h => h) (by rfl) hS ?_
              apply Exists.intro
              refine ⟨fun w' hw' => ?_, ?_⟩
              · obtain ⟨_, e0, e1⟩ := hw'
                go_simp
                first | done | rfl | exact ⟨rfl, rfl⟩
              simp only [Act.put, List.setIfInBounds_toArray, List.set_cons_zero, List.set_cons_succ]
              refine held_val 8 rfl (by kernel_rfl) (by kernel_rfl) (by kernel_rfl) (fun _ _ _ _ h => h) (by rfl) hS ?_
              apply Exists.intro
              refine ⟨fun w' hw' => ?_, ?_⟩
              · obtain ⟨_, e0, e1⟩ := hw'
                go_simp
                first | done | rfl | exact ⟨rfl, rfl⟩
              simp only [Act.put, List.setIfInBounds_toArray, List.set_cons_zero, List.set_cons_succ]
              refine held_val 9 rfl (by kernel_rfl) (by kernel_rfl) (by kernel_rfl) (fun _ _ _ _ h => h) (by rfl) hS ?_
              apply Exists.intro
              refine ⟨fun w' hw' => ?_, ?_⟩
              · obtain ⟨_, e0, e1⟩ := hw'
                go_simp
                first | done | rfl | exact ⟨rfl, rfl⟩
              simp only [Act.put, List.setIfInBounds_toArray, List.set_cons_zero, List.set_cons_succ]
              refine held_val 10 rfl (by kernel_rfl) (by kernel_rfl) (by kernel_rfl) (fun _ _ _ _ h => h) (by rfl) hS ?_
              apply Exists.intro
              refine ⟨fun w' hw' => ?_, ?_⟩
              · obtain ⟨_, e0, e1⟩ := hw'
                go_simp
                first | done | rfl | exact ⟨rfl, rfl⟩
              simp only [Act.put, List.setIfInBounds_toArray, List.set_cons_zero, List.set_cons_succ]
              refine held_call 11 (by kernel_rfl) rfl (by rfl) ?_
              apply Exists.intro
              apply Exists.intro
              refine ⟨?_, ?_⟩
              · go_simp
                first | done | rfl | exact ⟨rfl, rfl⟩
              refine (KW.out _ hS.1).mono ?_
              rintro e wA ⟨vA, heA, hownA, hbA⟩
              replace hS := hS.go hbA
              refine ⟨_, heA, hS, ?_⟩
              simp only [Act.put, List.setIfInBounds_toArray, List.set_cons_zero, List.set_cons_succ]
              refine held_val 12 rfl (by kernel_rfl) (by kernel_rfl) (by kernel_rfl) (fun _ _ _ _ h => h) (by rfl) hS ?_
              apply Exists.intro
              refine ⟨fun w' hw' => ?_, ?_⟩
              · skip
                go_simp
                first | done | rfl | exact ⟨rfl, rfl⟩
              simp only [Act.put, List.setIfInBounds_toArray, List.set_cons_zero, List.set_cons_succ]
              refine wpAnyH_done (by kernel_rfl) ?_ _
              have hBa := hBq.trans (hS.1.mono hBq.size)
              have hYa : FldsAt (fun _ => True) wA vA (withR Y f1 f2) := (own_flds hownA).mono fun _ _ _ => trivial
              clear KW hownA hbA heA hS hYat c0 c1 hBq
              go_wp2_with fail
              go_roundw
              case rel => exact ⟨k + 1, _, by go_num, by omega, HNX (), hYa, hBa⟩
              case measure => simp [intOf]; omega
            · have hki2 : ¬ (k : Int) < (nZ : Int) := by omega
              obtain ⟨x1, x2, x3, x4, _, x6, x7, _⟩ := HX ()
              obtain rfl : Y = F := by rw [HYY (), List.take_of_length_le (by have := HZN (); omega), x4]
              clear HYY hYA
              have hsum : (nZ : Int) + (R.length : Int) = (Y.length : Int) := by rw [HZN ()] at x3; omega
              have hB6 := hB5.trans (hBq.mono hB5.size)
              have K1 := Lib.hid fun w' (hb : Below wr.heap.size wr w') => rightm_any _ _ Z w' ((hP.stay hBq).stay hb) (by rw [HZN ()]; omega) x6
              have K2 := Lib.hid fun w' (hb : Below wr.heap.size wr w') => rightm_any _ _ R w' ((hR.stay hBq).stay hb) (by omega) x7
              have K3 := Lib.hid fun w' (hb : Below wr.heap.size wr w') => same_any _ _ _ _ Y Y w' (hYat.stay hb) ((hF.stay hBq).stay hb) (by omega)
              rw [x1] at K1
              rw [x2] at K2
              rw [beq_self_eq_true] at K3
              clear x1 x2 x3 x4 x6 x7 HX HZN HTN
              go_wp2_with fail
              refine (K1.out _ (Below.refl _ _)).mono ?_
              rintro e wa ⟨rfl, hb1⟩
              clear K1
              go_wp2_with fail
              refine (K2.out _ hb1).mono ?_
              rintro e wb ⟨rfl, hb⟩
              have hb2 := hb1.trans (hb.mono hb1.size)
              clear K2 hb hb1
              go_wp2_with fail
              refine (K3.out _ hb2).mono ?_
              rintro e wc ⟨rfl, hb⟩
              have hb3 := hb2.trans (hb.mono hb2.size)
              clear K3 hb hb2
              go_wp2_with fail
              go_ret
              exact ⟨rfl, hB6.trans (hb3.mono hB6.size)⟩
end Go.Proofs.YteooofakpkbgoaaDoor
