/- LabelAll returns true for every input, and leaves its arguments as they were: the statement's tied card. -/
import Derived.Test.YtkmbllnnaljepaaDoorFrame
import Derived.Test.YtkmbllnnaljepaaDoorAllLaw
import Derived.Test.YtkmbllnnaljepaaDoorPost
import Derived.Carry
import Derived.Deep.SlicePairs
namespace Go.Proofs.YtkmbllnnaljepaaDoor.labelAll
open Go.ChangeShapes Go.WideShapes Go.ChangeAt Go.RowKit Go.Joins

theorem labs_exist (w : World) (ad : Addr) (t : Nat) (h : ∀ i, i < t → ∃ l c : Int, w.cell? (ad.add (i * 2)) = some (.int .i64 l) ∧ w.cell? (ad.add (i * 2 + 1)) = some (.int .u32 c) ∧ 0 ≤ c ∧ c < 4294967296) :
    ∃ ys : List (Int × Int), ys.length = t ∧ LabsAt w (some ad) ys ∧ ∀ x ∈ ys, 0 ≤ x.2 ∧ x.2 < 4294967296 := by
  induction t with
  | zero => exact ⟨[], rfl, fun j x hx => by simp at hx, fun x hx => by simp at hx⟩
  | succ t ih =>
    obtain ⟨ys, hl, hc, hr⟩ := ih fun i hi => h i (by omega)
    obtain ⟨l, c, h1, h2, h3, h4⟩ := h t (by omega)
    refine ⟨ys ++ [(l, c)], by simp [hl], fun j x hx => ?_, fun x hx => ?_⟩
    · rcases Nat.lt_or_ge j ys.length with hj | hj
      · rw [List.getElem?_append_left hj] at hx
        exact hc j x hx
      · rw [List.getElem?_append_right hj] at hx
        have hjt : j = t := by
          rcases Nat.lt_or_ge (j - ys.length) 1 with h5 | h5
          · omega
          · rw [List.getElem?_eq_none (by simpa using h5)] at hx; cases hx
        subst hjt
        rw [hl, Nat.sub_self] at hx
        simp at hx
        subst hx
        obtain ⟨b, off, spot⟩ := ad
        have hspot : spot = none := by obtain ⟨_, _, h0, _⟩ := h 0 (by omega); have := World.cell?_spot h0; simpa [Addr.add] using this
        subst hspot
        rw [add_plain] at h1 h2
        exact ⟨b, off, rfl, h1, by simpa [Nat.add_assoc] using h2⟩
    · rcases List.mem_append.1 hx with hx | hx
      · exact hr x hx
      · simp at hx; subst hx; exact ⟨h3, h4⟩

theorem contract (H : Type) (enc : TypeId × Value → H) (W : World) (base : Nat) (args : Array Value) (ds gs : List (DataW H)) (before : List MemPlace)
    (hval : ∀ (j : Nat) t v, Tryd.f7.params[j]? = some t → args[j]? = some v → Value.okWide Tryd.prog W .any base t v)
    (hW : DataW.Whole enc Tryd.prog Tryd.f7.params.toList Rows.labelAllSpec.vars false W args.toList ds gs before) (hL : laidMetH Tryd.prog Rows.labelAllRow.laid W) :
    Calls Tryd.prog 7 args W fun e W' => ∃ v, e = .returned v ∧ Rows.labelAllSpec.post enc Tryd.prog Tryd.f7 false true false false W args v W' := by
  have hW' := hW
  obtain ⟨p, q, hA0, hV, rfl, hfz, hnd⟩ := hW
  have hA : DataW.TrodAll enc Tryd.prog W 0 (fun _ => true) true Tryd.f7.params.toList args.toList ds p := hA0
  rw [Tryd.params7] at hA hval
  obtain ⟨v0, vs0, d0, ds0, p0, q0, hargs, rfl, rfl, h0, r0⟩ := trodAll_cons hA
  obtain ⟨v1, vs1, d1, ds1, p1, q1, rfl, rfl, rfl, h1, r1⟩ := trodAll_cons r0
  obtain ⟨rfl, rfl, rfl⟩ := trodAll_nil r1
  obtain rfl : args = #[v0, v1] := by cases args; simp_all
  obtain ⟨rfl, rfl⟩ := trodVars_none hV
  obtain ⟨l1, c1, rfl, rfl, rfl, wl1, wc1, a1, b1⟩ := open_label (hval 1 _ _ rfl rfl) h1
  clear hA0
  simp only [List.append_nil] at hW'
  have key : Calls Tryd.prog 7 #[v0, .agg #[.int .i64 l1, .int .u32 c1]] W fun e W' => e = .returned (.bool true) ∧ Below W.heap.size W W' := by
    obtain ⟨aa, n, cap, rfl⟩ := okWide_slice Tryd.underlying40 (hval 0 _ _ rfl rfl)
    obtain ⟨fuel, hf⟩ := h0
    rcases Go.Deep.open_slice_pairs Tryd.underlying40 Tryd.underlying24 cellsL rfl rfl (by kernel_rfl) (by kernel_rfl) hf with ⟨e, _⟩ | ⟨ad, len, cap', m, nn, V0, V1, D0, D1, P0, P1, e, hb, hl, hm, hmm, _, hcells⟩
    · simp [Value.cells] at e
      obtain ⟨rfl, rfl, rfl⟩ := e
      exact all_law_nil l1 c1 a1 b1 W (errs_of_laid hL)
    · simp [Value.cells] at e
      obtain ⟨rfl, rfl, rfl⟩ := e
      simp at hmm
      subst hmm
      obtain ⟨ys, hy, hc, hr⟩ := labs_exist W ad (min n 50) (fun i hi => by
        obtain ⟨g0, g1, g2, g3⟩ := hcells i (by omega)
        obtain ⟨l, e0, _, wl⟩ := DataW.trod_int Tryd.underlying3 g2
        obtain ⟨c, e1, _, wc⟩ := DataW.trod_int Tryd.underlying22 g3
        simp at e0 e1
        have hb := bounds_u32 wc
        exact ⟨l, c, by rw [g0, e0], by rw [g1, e1], by omega, by omega⟩)
      exact all_law ad n _ ys l1 c1 a1 b1 hl hy hr W (errs_of_laid hL) hc
  refine key.mono fun e W' ⟨he, hg⟩ => ?_
  subst he
  exact ⟨_, rfl, post_new (pv := []) hW' (fun _ _ _ => trodAll_cons_mk (shut_bool Tryd.underlying4 _) trodAll_mk0)
    (fun sp hsp => trodAll_cons_mk (WideElems.Trod_stays (by kernel_rfl) (by kernel_rfl) (of_decide_eq_true (by kernel_rfl)) h0 (fun x hx => hg.same (hW'.lt x hx)) (fun x hx => hsp x hx)) (trodAll_cons_mk (shut_label wl1 wc1) trodAll_mk0)) (fun _ => rfl) hg⟩

theorem reads (os : Os) {H : Type} (enc : TypeId × Value → H) : ∃ places, DataW.whole enc Tryd.prog ((World.doorLaid Tryd.prog 200 os).forCall (fun _ _ => 0) ⟨#[], #[.slice none 0 0, .agg #[.int .i64 0, .int .u32 0]], []⟩).memory Tryd.f7.params.toList Rows.labelAllSpec.vars false #[Value.slice none 0 0, Value.agg #[.int .i64 0, .int .u32 0]].toList 8 = some ([.nil, .agg [.lit (.int .i64 0), .lit (.int .u32 0)]], [], places) :=
  ⟨[], by kernel_rfl⟩

set_option maxRecDepth 100000 in
theorem lifted (os : Os) (started : os.Started) (H : Type) (enc : TypeId × Value → H) (F : Stop.Interp) :
    ReturnsInHanded {} Tryd.checked os 7 .any ((OpenSpec.ofChange Rows.labelAllSpec).preRow enc Tryd.prog Tryd.f7 Rows.labelAllRow.domain false Rows.labelAllRow.laid) (((OpenSpec.ofChange Rows.labelAllSpec).at F).post enc Tryd.prog Tryd.f7 false true false false) := by
  obtain ⟨places, hx⟩ := reads os enc
  refine returnsInHanded_of_row (C := Tryd.checked) (s := OpenSpec.ofChange Rows.labelAllSpec) own started (by kernel_rfl) Tryd.func7
    (witness_row_atRef (enc := enc) (C := Tryd.checked) false (World.doorLaid Tryd.prog 200 os) #[.slice none 0 0, .agg #[.int .i64 0, .int .u32 0]] rfl (by kernel_rfl) (by kernel_rfl) (by kernel_rfl)
      (OpenSpec.preRow_of_cond 8 hx (by kernel_rfl) (fun k hk => by cases hk) (by kernel_rfl) (door_met os _))) ?_
  intro W base args ds gs before hval hW _ _ _ hL _ _
  exact contract H enc W base args ds gs before hval hW hL

theorem said : Rows.LabelAllSaid :=
  OpenClaim.holds_of_cond 7 Tryd.f7 rfl rfl rfl rfl rfl rfl rfl ⟨rfl, rfl, rfl, rfl, rfl⟩ rfl rfl rfl rfl rfl (by kernel_rfl) Tryd.func7 (by kernel_rfl)
    (of_decide_eq_true (by kernel_rfl)) (by unfold Func.isWrapper; first | (rw [if_pos (by decide +kernel)]; kernel_rfl) | (rw [if_neg (by decide +kernel)]; exact ⟨rfl, rfl⟩))
    (fun os started H enc _ F => by rw [OpenClaim.pre_eq_preRow]; exact lifted os started H enc F)

theorem plain (f : FuncId) (fn : Func) (hf : Tryd.pinned.checked.prog.funcNamed Rows.labelAllRow.func = some f) (hfn : Tryd.pinned.checked.prog.funcs[f]? = some fn) :
    true = Tryd.pinned.checked.prog.looks [] ∧ ∀ (j : Nat) t, fn.params[j]? = some t → Tryd.pinned.checked.prog.wantsStandIn t = false := by
  obtain rfl : f = 7 := Option.some.inj ((show Tryd.prog.funcNamed Rows.labelAllRow.func = some 7 by kernel_rfl).symm.trans hf) |>.symm
  obtain rfl : fn = Tryd.f7 := (Option.some.inj (Tryd.func7.symm.trans hfn)).symm
  refine ⟨by kernel_rfl, fun j t ht => ?_⟩
  rw [Tryd.params7] at ht
  have hm : t = 40 ∨ t = 24 := by simpa using Array.mem_of_getElem? ht
  rcases hm with rfl | rfl
  · exact (show Tryd.prog.wantsStandIn 40 = false by kernel_rfl)
  · exact (show Tryd.prog.wantsStandIn 24 = false by kernel_rfl)

theorem card : Rows.LabelAllCardSaid :=
  Claim7.holds_tied_plain_at .later [] _ _ _ _ said (fun _ h => by cases h) (by kernel_rfl) (fun _ h => by cases h) labelAll_row_tie rfl ⟨rfl, rfl⟩ (by kernel_rfl) rfl plain (by kernel_rfl)
end Go.Proofs.YtkmbllnnaljepaaDoor.labelAll
