/- The search over the steps that are reached without a byte. -/
import Derived.Test.YtakkcofmbafneaaPRd
import Derived.Test.YtakkcofmbafneaaPB
namespace Go.Proofs.Ytakkcofmbafneaa
open Go.ChangeShapes Go.WideShapes Go.RowKit Go.Maps

/-- The steps lead nowhere else, and not to many. -/
structure Tame (S : List Stp) : Prop where
  dest : ∀ s ∈ S, ∀ x ∈ s.free, x ≤ S.length
  few : Fb S
  len : S.length ≤ 1000
/-- The map holds D, which are numbers of steps. -/
structure MapAt (w : World) (mb N : Nat) (D : DataW Unit) : Prop where
  own : ∃ n, w.ownsMap Try.prog 3 unitElem mb n D ∧ n + lackM D N ≤ N + 1
  up : UpM D N
theorem MapAt.keep {w w' : World} {mb N : Nat} {D : DataW Unit} {T : Nat → Prop} (h : MapAt w mb N D) (k : Asd T w w') (hm : ¬ T mb) : MapAt w' mb N D := by
  obtain ⟨⟨n, ⟨es, clock, hb, r⟩, hn⟩, hu⟩ := h
  exact ⟨⟨n, ⟨es, clock, by rw [k.block mb (Array.getElem?_eq_some_iff.1 hb).1 hm]; exact hb, r⟩, hn⟩, hu⟩
theorem MapAt.lt {w : World} {mb N : Nat} {D : DataW Unit} (h : MapAt w mb N D) : mb < w.heap.size := by
  obtain ⟨⟨n, h1, _⟩, _⟩ := h
  exact h1.lt
def ReachQ (S : List Stp) (mb k : Nat) (D : DataW Unit) (w : World) (e : Ending) (w' : World) : Prop :=
  e = .returned (.tuple #[]) ∧ (∃ D', MapAt w' mb S.length D' ∧ Rch S (InM D) k (InM D') ∧ lackM D' S.length ≤ lackM D S.length) ∧ Asd (· = mb) w w'
def ReachC (G base : Nat) (t : Bs) (S : List Stp) (V : Value) (F : List Value) (mb m : Nat) : Prop :=
  ∀ (k : Nat) (D : DataW Unit) (w : World), PatAt w G base t S V F → MapAt w mb S.length D → k ≤ S.length → lackM D S.length < m →
    Calls Try.prog 25 #[.pointer (some ⟨G, 0, none⟩), .map (some mb), .int .i64 (k : Int)] w (ReachQ S mb k D w)
theorem in_put' {D : DataW Unit} (hD : IsMap D) (k : Nat) (u : DataW Unit) : InM (D.put (.int .i64 (k : Int)) u) = fun j => InM D j ∨ j = k := funext fun j => propext (in_put hD k u j)
theorem no_suc {S : List Stp} {m : Nat} : ¬ Suc S S.length m := by
  rintro ⟨st, h, _⟩
  have := (List.getElem?_eq_some_iff.1 h).1
  omega
theorem put_at {w' : World} {mb N n k : Nat} {D : DataW Unit} (hn : n + lackM D N ≤ N + 1) (hu : UpM D N) (hk : k ≤ N) (hD : IsMap D) (h0 : Maps.has D (.int .i64 (k : Int)) = false)
    (h : w'.ownsMap Try.prog 3 unitElem mb (n + 1) (D.put (.int .i64 (k : Int)) (.agg []))) : MapAt w' mb N (D.put (.int .i64 (k : Int)) (.agg [])) := by
  have := lack_put hD hk (.agg []) h0
  exact ⟨⟨n + 1, h, by omega⟩, up_put hk _ hu⟩
set_option maxHeartbeats 6400000 in
set_option maxRecDepth 100000 in
theorem reach_any (G base : Nat) (t : Bs) (S : List Stp) (V : Value) (F : List Value) (mb : Nat) (hT : Tame S) (hG : mb ≠ G) (hF : ¬ Foot V F mb) (m : Nat) : ReachC G base t S V F mb m := by
  induction m with
  | zero =>
    intro k D w hP hM hk hl
    omega
  | succ m ih =>
    intro k D w hP hM hk hl
    have IH : Unit → ReachC G base t S V F mb m := fun _ => ih
    have HT : Unit → Tame S := fun _ => hT
    clear ih hT
    obtain ⟨⟨n, hown, hn⟩, hup⟩ := hM
    have hkey := key_int (x := (k : Int)) (by omega) (by have := (HT ()).len; omega)
    have hki : (k : Int) ≤ (S.length : Int) := by omega
    have hN := (HT ()).len
    obtain ⟨aV, cV, eV, _⟩ := own_slice hP.st.row
    subst eV
    cases hh : Maps.has D (.int .i64 (k : Int)) with
    | true =>
      go_enter Try.func25, Try.ntmps25
      go_wp2_with (at_lookup; refine wpList_lookup_own_unit _ rfl _ _ 61 rfl 3 67 law_int Try.underlying61 (zero_unit _) mb n D rfl hown _ _ rfl hkey ?_)
      go_wp2_with fail
      have hA : Asd (· = mb) w (w.alloc (.cells #[] 67)) := (Asd.refl _ _).alloc _
      refine bodyPost_ret (results_none (by kernel_rfl) _ _ _) rfl ?_
      exact ⟨rfl, ⟨D, ⟨⟨n, World.ownsMap.alloc hown _, hn⟩, hup⟩, rch_hit hh, Nat.le_refl _⟩, hA⟩
    | false =>
      have hlp := lack_put hown.isMap hk (.agg []) hh
      have hkn : n < maxLen := by unfold maxLen; omega
      have hown1 := World.ownsMap.alloc hown (.cells #[] 67)
      have hput : ∀ w', _ → MapAt w' mb S.length _ := fun w' => put_at (w' := w') (mb := mb) hn hup hk hown.isMap hh
      have hin := in_put' hown.isMap k (.agg [])
      have hmlt := hown.lt
      have hA0 : Asd (· = mb) w (w.alloc (.cells #[] 67)) := (Asd.refl _ _).alloc _
      have hP0 := hP.stay ((Below.refl w.heap.size w).alloc (Nat.le_refl _) (.cells #[] 67))
      go_enter Try.func25, Try.ntmps25
      go_wp2_with (first | (at_lookup; refine wpList_lookup_own_unit _ rfl _ _ 61 rfl 3 67 law_int Try.underlying61 (zero_unit _) mb n D rfl hown _ _ rfl hkey ?_) | (at_mapUpdate; refine wpList_mapUpdate_own _ rfl _ _ _ 61 rfl 3 67 law_int Try.underlying61 (unitElem (H := Unit)) mb n D rfl hown1 hkn _ _ _ rfl rfl hkey _ [] unitElem_mk ?_))
      intro w5 hown5 hg5
      have hM5 := hput w5 hown5
      have hA5 : Asd (· = mb) w w5 := hA0.grown hg5 (fun j hj => by cases hj; exact .inl rfl)
      have hP5 := hP0.keep ((Asd.refl (· = mb) _).grown hg5 (fun j hj => by cases hj; exact .inl rfl)) (fun e => hG e.symm) (fun i hi e => hF (e ▸ hi))
      obtain ⟨D1, hD1⟩ : ∃ D1, D.put (.int .i64 (k : Int)) (.agg []) = D1 := ⟨_, rfl⟩
      rw [hD1] at hM5 hlp hin
      have HIN : Unit → InM D1 = fun j => InM D j ∨ j = k := fun _ => hin
      clear hput hown5 hg5 hown1 hown hP0 hA0 hD1 hn hup hP hkey hin hkn
      have c5 : w5.cell? ⟨G, 1, none⟩ = some (.slice aV S.length cV) := Rw.cell hP5.row 1
      by_cases hkN : k = S.length
      · have e : ((k : Int) == (S.length : Int)) = true := by rw [beq_iff_eq]; omega
        clear IH
        go_wp2_with fail
        refine bodyPost_ret (results_none (by kernel_rfl) _ _ _) rfl ?_
        refine ⟨rfl, ⟨D1, hM5, ?_, by omega⟩, hA5⟩
        have := rchL_start S (InM D) k
        rw [← HIN ()] at this
        exact this.stop fun j hj => by rw [hkN] at hj; exact absurd hj no_suc
      · have e : ((k : Int) == (S.length : Int)) = false := by rw [beq_eq_false_iff_ne]; omega
        have hkl : k < S.length := by omega
        have hkli : (k : Int) < (S.length : Int) := by omega
        obtain ⟨s, hs⟩ : ∃ s, S[k]? = some s := ⟨_, List.getElem?_eq_getElem hkl⟩
        obtain ⟨f, hf⟩ : ∃ f, F[k]? = some f := ⟨_, List.getElem?_eq_getElem (by rw [hP5.st.len]; exact hkl)⟩
        obtain ⟨Gs, cap, eV⟩ := own_pos hP5.st.row (by omega)
        injection eV with e1 _ e3
        subst e1 e3
        have hslot := steps_slot hP5.st hs hf
        have hrow := hP5.st.free k s f hs hf
        obtain ⟨af, cf, ef, _⟩ := own_slice hrow
        subst ef
        have hfew := (HT ()).few s (List.mem_of_getElem? hs)
        have hdest := fun x hx => (HT ()).dest s (List.mem_of_getElem? hs) x hx
        have hfi : (s.free.length : Int) ≤ 400 := by omega
        have HD : Unit → ∀ x ∈ s.free, x ≤ S.length := fun _ => hdest
        have HSu : Unit → ∀ x ∈ s.free, Suc S k x := fun _ x hx => ⟨s, hs, hx⟩
        have HSa : Unit → ∀ x, Suc S k x → x ∈ s.free := fun _ x ⟨s', h1, h2⟩ => by rw [hs] at h1; injection h1 with h1; rw [h1]; exact h2
        clear hdest hfew
        go_upto_region 5 with fail
        go_loopw [36] (fun i wr => ∃ (j : Nat) (D2 : DataW Unit), j ≤ s.free.length ∧ i = .int .i64 (j : Int) ∧ MapAt wr mb S.length D2 ∧ lackM D2 S.length ≤ lackM D1 S.length ∧ RchL S (InM D) k (s.free.take j) (InM D2) ∧ Asd (· = mb) w5 wr) (fun i _ => s.free.length - (intOf i).toNat)
        case atStart =>
          refine ⟨0, D1, Nat.zero_le _, rfl, hM5, Nat.le_refl _, ?_, Asd.refl _ _⟩
          have := rchL_start S (InM D) k
          rw [← HIN ()] at this
          exact this
        case round =>
          obtain ⟨j, D2, hj, rfl, hM2, hl2, hr2, hA2⟩ := hrel
          by_cases hlt : j < s.free.length
          · have hji : (j : Int) < (s.free.length : Int) := by omega
            obtain ⟨x, hx⟩ : ∃ x, s.free[j]? = some x := ⟨_, List.getElem?_eq_getElem hlt⟩
            have hP2 := hP5.keep hA2 (fun e => hG e.symm) (fun i hi e => hF (e ▸ hi))
            have hrow2 := hP2.st.free k s _ hs hf
            obtain ⟨gf, capf, ef⟩ := own_pos hrow2 (by omega)
            injection ef with e1 _ e3
            subst e1 e3
            have hc := hrow2.cellAt j (by omega)
            rw [List.getElem?_map, hx] at hc
            change _ = some (Value.int .i64 (x : Int)) at hc
            have hxm := List.mem_of_getElem? hx
            have K := Lib.hid (IH () x D2 wr hP2 hM2 (HD () x hxm) (by omega))
            have hsx := HSu () x hxm
            have htk := take_more hx
            clear hP2 hrow2
            go_wp2_with fail
            refine K.out.mono ?_
            rintro e' w6 ⟨rfl, ⟨D3, hM3, hr3, hl3⟩, hA3⟩
            have hr4 := hr2.step hsx hr3
            rw [← htk] at hr4
            clear K hc hr2 hr3
            go_wp2_with fail
            go_roundw
            case rel => exact ⟨j + 1, D3, by omega, by go_num, hM3, by omega, hr4, hA2.andThen hA3⟩
            case measure => simp [intOf]; omega
          · have hje : j = s.free.length := by omega
            have hnot : ¬ ((j : Int) < (s.free.length : Int)) := by omega
            rw [hje, List.take_length] at hr2
            have hfin := hr2.stop (HSa ())
            clear hje hr2 IH
            go_wp2_with fail
            refine bodyPost_end (results_none (by kernel_rfl) _ _ _) rfl ?_
            exact ⟨rfl, ⟨D2, hM2, hfin, by omega⟩, hA5.andThen hA2⟩
end Go.Proofs.Ytakkcofmbafneaa
