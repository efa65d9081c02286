/- The first texts of a list, shortened: the walk. -/
import Derived.Test.YtcljijcggnfemaaDoorWRefJ
namespace Go.Proofs.YtcljijcggnfemaaDoor
open Go.ChangeShapes Go.WideShapes Go.RowKit

theorem wp_one_str {o : Oper} {a : Act} {w : World} {K : Act → World → Prop} {Q : Exit → Act → World → Prop} (x : Operand) (ho : o.op = .buildSlice 22 1 #[(0, x)]) (T : ByteArray) (hx : a.eval x = .string T)
    (h : K (a.put o.dst (.slice (some ⟨w.heap.size, 0, none⟩) 1 1)) (w.alloc (.cells #[.string T] 9))) : o.wp Tryd.prog a w K Q := by
  obtain ⟨i0, hi, hz0, hz1, _⟩ := info_parts0 info_str
  refine wp_buildSlice 22 9 1 _ ho #[.string T] i0 _ Tryd.underlying22 hi hz0 (by rw [hz1]; decide) (by rw [hz1]; decide) ?_ h
  rw [hz1]
  simp only [List.map_toArray, List.map_cons, List.map_nil, hx]
  rw [show Array.range (1 * 1) = #[0] by kernel_rfl]
  simp [Instr.fill, Value.cells]
theorem wp_own_str {o : Oper} {a : Act} {w : World} {K : Act → World → Prop} {Q : Exit → Act → World → Prop} (s x : Operand) (ho : o.op = .call { callee := .builtin .append, args := #[s, x], argTypes := #[22, 22] })
    (base : Nat) (v : Value) (n : Nat) (xs : List Value) (hs : a.eval s = v) (hown : w.ownsRow base 9 1 v n xs) (g : Nat) (T : ByteArray) (hx : a.eval x = .slice (some ⟨g, 0, none⟩) 1 1) (hr : Rw w g 9 [.string T]) (hn : n ≤ 1000) (hbase : base ≤ w.heap.size)
    (h : ∀ v' w', w'.ownsRow base 9 1 v' (n + 1) (xs ++ [.string T]) → w.grownBy w' v.ownBlock → (v'.ownBlock = v.ownBlock ∨ v'.ownBlock = some w.heap.size) → K (a.put o.dst v') w') : o.wp Tryd.prog a w K Q := by
  obtain ⟨i0, hi, hz0, hz1, hz2⟩ := info_parts0 info_str
  obtain ⟨v', w', hr, h2, h3, _, h5⟩ := run_append_own_at (P := Tryd.prog) w base 22 o.type 9 i0 _ 1 16 Tryd.underlying22 hi hz0 hz1 hz2 rfl (by decide) v n xs hown ⟨g, 0, none⟩ 1 1 [.string T] rfl (fun j u hu => by
      rw [show (⟨g, 0, none⟩ : Addr).add j = ⟨g, j, none⟩ by unfold Addr.add; split <;> simp_all, Rw.cell hr j]
      exact hu) (fun u hu => by simp at hu; subst hu; rfl) (by unfold maxLen; omega) (by omega) hbase
  unfold Oper.wp execOp
  simp only [ho, resolve, invoke, builtin, Sem.run_bind, Sem.run_pure, Result.andThen_ok, List.map_toArray, List.map_cons, List.map_nil, hs, hx, hr]
  exact h v' w' h2 h3 h5
/-- The first 30 texts, the first 60 bytes of each. -/
def fewN (ss : List Bs) : List Bs := (ss.take 30).map (·.take 60)
theorem few_sum (ss : List Bs) : ((fewN ss).map List.length).sum ≤ 1800 ∧ (fewN ss).length ≤ 30 := by
  have h : ∀ l : List Bs, ((l.map (·.take 60)).map List.length).sum ≤ 60 * l.length := fun l => by
    induction l with
    | nil => simp
    | cons x l ih => simp only [List.map_cons, List.sum_cons, List.length_cons, List.length_take]; omega
  have h1 := h (ss.take 30)
  have h2 : (ss.take 30).length ≤ 30 := by rw [List.length_take]; omega
  unfold fewN
  refine ⟨by omega, by rw [List.length_map]; exact h2⟩
theorem take_next {ss : List Bs} {i : Nat} {s : Bs} (h : ss[i]? = some s) : ss.take (i + 1) = ss.take i ++ [s] := by rw [List.take_add_one, h]; rfl
set_option maxHeartbeats 3200000 in
set_option maxRecDepth 100000 in
theorem few_any (P : Nat → Prop) (v : Value) (ss : List Bs) (w : World) (hv : StrsAt P w v ss) (hes : ∀ s ∈ ss, s.length ≤ 9223372036854775807) (hln : ss.length ≤ 9223372036854775807) :
    Calls Tryd.prog 8 #[v] w fun e w' => ∃ v', e = .returned v' ∧ StrsAt (fun _ => True) w' v' (fewN ss) ∧ Below w.heap.size w w' := by
  have HE : Unit → ∀ s ∈ ss, s.length ≤ 9223372036854775807 := fun _ => hes
  clear hes
  have hv1 := hv.mono (P' := fun k => k < w.heap.size) (fun _ _ h => h)
  clear hv
  obtain ⟨aS, cS, rfl⟩ := hv1.shape
  obtain ⟨n, hn⟩ : ∃ n, ss.length = n := ⟨_, rfl⟩
  rw [hn] at hv1 hln ⊢
  have HN : Unit → ss.length = n := fun _ => hn
  clear hn
  have hni : (n : Int) ≤ 9223372036854775807 := by omega
  obtain ⟨F, hF⟩ : ∃ F, fewN ss = F := ⟨_, rfl⟩
  rw [hF]
  have HF : Unit → fewN ss = F := fun _ => hF
  clear hF
  go_enter Tryd.func8, Tryd.ntmps8
  go_upto_region 3 with fail
  go_loopw [3, 4] (fun u3 u4 wr => ∃ (i : Nat) (vO : Value) (O : List Bs), u4 = .int .i64 (i : Int) ∧ u3 = vO ∧ i ≤ n ∧ i ≤ 30 ∧ O = (ss.take i).map (·.take 60) ∧ O.length = i ∧ wr.ownsRow w.heap.size 9 1 vO O.length (O.map sv) ∧ Below w.heap.size w wr) (fun _ u4 _ => 30 - (intOf u4).toNat)
  case atStart => exact ⟨0, _, [], rfl, rfl, Nat.zero_le _, Nat.zero_le _, rfl, rfl, World.ownsRow_nil _ _ _ _, Below.refl _ _⟩
  case round =>
    obtain ⟨i, vO, O, rfl, rfl, hin, hi30, hO, hOl, hown, hB⟩ := hrel
    have HOO : Unit → O = (ss.take i).map (·.take 60) := fun _ => hO
    clear hO
    obtain ⟨aO, cO, rfl, _⟩ := own_slice hown
    have hszr := hB.size
    by_cases hgo : i < n ∧ i < 30
    · obtain ⟨hlt, h30⟩ := hgo
      have hki : (i : Int) < (n : Int) := by omega
      have h30i : (i : Int) < 30 := by omega
      obtain ⟨s, hs⟩ : ∃ s, ss[i]? = some s := ⟨_, List.getElem?_eq_getElem (by have := HN (); omega)⟩
      have hsl := HE () s (List.mem_of_getElem? hs)
      have hv2 := hv1.stay hB
      obtain ⟨g, o, rfl, hg, hc⟩ := hv2.text hs
      have hgw : g < w.heap.size := by
        rcases hv1 with ⟨e, _⟩ | ⟨g', o', c', e, _, hp, _, _⟩
        · subst e; cases hs
        · injection e with e1 _ _
          injection e1 with e1
          injection e1 with e1 _ _
          subst e1; exact hp
      have hcut := take15 s 60 60 rfl
      have hsz : (⟨s.toArray⟩ : ByteArray).size = s.length := by simp [ByteArray.size]
      have hsli : (s.length : Int) ≤ 9223372036854775807 := by omega
      obtain ⟨t60, ht60⟩ : ∃ t : ByteArray, t = ⟨(s.take 60).toArray⟩ := ⟨_, rfl⟩
      rw [← ht60] at hcut
      have HT : Unit → t60 = ⟨(s.take 60).toArray⟩ := fun _ => ht60
      clear ht60
      generalize (⟨s.toArray⟩ : ByteArray) = tS at *
      generalize s.length = lS at *
      rw [hOl] at hown
      rw [hOl]
      go_upto_region 5 with fail
      refine wp_region_held (S := fun w' => Asd (fun k => (Value.slice aO i cO).ownBlock = some k) wr w') (by kernel_rfl) ?_
      have hS0 : Below wr.heap.size wr { wr with drawn := wr.drawn + 1 } := (Below.refl _ _).drew
      have hS : Asd (fun k => (Value.slice aO i cO).ownBlock = some k) wr { wr with drawn := wr.drawn + 1 } := Asd.of_below hS0
      have hown1 := own_stay2 hown hS0
      generalize { wr with drawn := wr.drawn + 1 } = D1 at *
      have hng : ¬ (Value.slice aO i cO).ownBlock = some g := fun e => by have := (hown.lt g e).1; omega
      have hD1 := hS0.size
      refine held_val 0 rfl (by kernel_rfl) (by kernel_rfl) (by kernel_rfl) (fun _ _ _ _ h => h) (by rfl) hS ?_
      apply Exists.intro
      refine ⟨fun w' hw' => ?_, ?_⟩
      · skip
        go_simp
        first | done | rfl | exact ⟨rfl, rfl⟩
      simp only [Act.put, List.setIfInBounds_toArray, List.set_cons_zero, List.set_cons_succ]
      refine held_val 1 rfl (by kernel_rfl) (by kernel_rfl) (by kernel_rfl) (fun _ _ _ _ h => h) (by rfl) hS ?_
      apply Exists.intro
      refine ⟨fun w' hw' => ?_, ?_⟩
      · skip
        go_simp
        first | done | rfl | exact ⟨rfl, rfl⟩
      simp only [Act.put, List.setIfInBounds_toArray, List.set_cons_zero, List.set_cons_succ]
      refine held_val 2 rfl (by kernel_rfl) (by kernel_rfl) (by kernel_rfl) (fun _ _ _ _ h => h) (by rfl) hS ?_
      apply Exists.intro
      refine ⟨fun w' hw' => ?_, ?_⟩
      · skip
        go_simp
        first | done | rfl | exact ⟨rfl, rfl⟩
      simp only [Act.put, List.setIfInBounds_toArray, List.set_cons_zero, List.set_cons_succ]
      refine held_val 3 rfl (by kernel_rfl) (by kernel_rfl) (by kernel_rfl) (fun _ _ _ _ h => h) (by rfl) hS ?_
      apply Exists.intro
      refine ⟨fun w' hw' => ?_, ?_⟩
      · skip
        go_simp
        first | done | rfl | exact ⟨rfl, rfl⟩
      simp only [Act.put, List.setIfInBounds_toArray, List.set_cons_zero, List.set_cons_succ]
      refine held_val 4 rfl (by kernel_rfl) (by kernel_rfl) (by kernel_rfl) (fun _ _ _ _ h => h) (by rfl) hS ?_
      apply Exists.intro
      refine ⟨fun w' hw' => ?_, ?_⟩
      · have e1 : w'.cell? ⟨g, o + i, none⟩ = some (.string tS) := cell_asd hw' hng hc
        go_simp
        first | done | rfl | exact ⟨rfl, rfl⟩
      simp only [Act.put, List.setIfInBounds_toArray, List.set_cons_zero, List.set_cons_succ]
      refine held_val 5 rfl (by kernel_rfl) (by kernel_rfl) (by kernel_rfl) (fun _ _ _ _ h => h) (by rfl) hS ?_
      apply Exists.intro
      refine ⟨fun w' hw' => ?_, ?_⟩
      · skip
        go_simp
        first | done | rfl | exact ⟨rfl, rfl⟩
      simp only [Act.put, List.setIfInBounds_toArray, List.set_cons_zero, List.set_cons_succ]
      refine held_val 6 rfl (by kernel_rfl) (by kernel_rfl) (by kernel_rfl) (fun _ _ _ _ h => h) (by rfl) hS ?_
      apply Exists.intro
      refine ⟨fun w' hw' => ?_, ?_⟩
      · skip
        go_simp
        first | done | rfl | exact ⟨rfl, rfl⟩
      simp only [Act.put, List.setIfInBounds_toArray, List.set_cons_zero, List.set_cons_succ]
      refine held_val 7 rfl (by kernel_rfl) (by kernel_rfl) (by kernel_rfl) (fun _ _ _ _ h => h) (by rfl) hS ?_
      apply Exists.intro
      refine ⟨fun w' hw' => ?_, ?_⟩
      · skip
        go_simp
        first | done | rfl | exact ⟨rfl, rfl⟩
      simp only [Act.put, List.setIfInBounds_toArray, List.set_cons_zero, List.set_cons_succ]
      refine held_val 8 rfl (by kernel_rfl) (by kernel_rfl) (by kernel_rfl) (fun _ _ _ _ h => h) (by rfl) hS ?_
      apply Exists.intro
      refine ⟨fun w' hw' => ?_, ?_⟩
      · have e1 : w'.cell? ⟨g, o + i, none⟩ = some (.string tS) := cell_asd hw' hng hc
        go_simp
        first | done | rfl | exact ⟨rfl, rfl⟩
      simp only [Act.put, List.setIfInBounds_toArray, List.set_cons_zero, List.set_cons_succ]
      refine held_val 9 rfl (by kernel_rfl) (by kernel_rfl) (by kernel_rfl) (fun _ _ _ _ h => h) (by rfl) hS ?_
      apply Exists.intro
      refine ⟨fun w' hw' => ?_, ?_⟩
      · skip
        go_simp
        first | done | rfl | exact ⟨rfl, rfl⟩
      simp only [Act.put, List.setIfInBounds_toArray, List.set_cons_zero, List.set_cons_succ]
      refine held_val 10 rfl (by kernel_rfl) (by kernel_rfl) (by kernel_rfl) (fun _ _ _ _ h => h) (by rfl) hS ?_
      apply Exists.intro
      refine ⟨fun w' hw' => ?_, ?_⟩
      · skip
        go_simp
        first | done | rfl | exact ⟨rfl, rfl⟩
      simp only [Act.put, List.setIfInBounds_toArray, List.set_cons_zero, List.set_cons_succ]
      refine held_val 11 rfl (by kernel_rfl) (by kernel_rfl) (by kernel_rfl) (fun _ _ _ _ h => h) (by rfl) hS ?_
      apply Exists.intro
      refine ⟨fun w' hw' => ?_, ?_⟩
      · skip
        go_simp
        first | done | rfl | exact ⟨rfl, rfl⟩
      simp only [Act.put, List.setIfInBounds_toArray, List.set_cons_zero, List.set_cons_succ]
      refine held_one 12 (by kernel_rfl) rfl (by rfl) ?_
      refine wp_one_str _ rfl t60 rfl ?_
      have hal := (Below.refl D1.heap.size D1).alloc (Nat.le_refl _) (.cells #[.string t60] 9)
      have hown2 := own_stay2 hown1 hal
      have rT := Rw.new D1 9 [.string t60]
      replace hS := hS.alloc (.cells #[.string t60] 9)
      refine ⟨hS, ?_⟩
      have hB2 : Below w.heap.size w (D1.alloc (.cells #[.string t60] 9)) := (hB.trans (hS0.mono hszr)).trans (hal.mono (by omega))
      simp only [Act.put, List.setIfInBounds_toArray, List.set_cons_zero, List.set_cons_succ]
      clear hown1 hal hS0 hcut hc hsl hsli hsz
      generalize D1.alloc (.cells #[.string t60] 9) = D2 at *
      generalize D1.heap.size = Z at *
      have hsz2 := hB2.size
      refine held_one 13 (by kernel_rfl) rfl (by rfl) ?_
      refine wp_own_str _ _ rfl w.heap.size _ i _ rfl hown2 Z t60 rfl rT (by omega) hsz2 ?_
      intro v' w4 hO' hg4 _
      have hS4 := hS.grown hg4 (fun k e => .inl e)
      have hB4 : Below w.heap.size w w4 := hB2.grown hg4 hsz2 (fun k e => (hown2.lt k e).1)
      refine ⟨hS4, ?_⟩
      obtain ⟨g5, c5, rfl⟩ := own_succ hO'
      replace hS := hS4
      simp only [Act.put, List.setIfInBounds_toArray, List.set_cons_zero, List.set_cons_succ]
      refine held_val 14 rfl (by kernel_rfl) (by kernel_rfl) (by kernel_rfl) (fun _ _ _ _ h => h) (by rfl) hS ?_
      apply Exists.intro
      refine ⟨fun w' hw' => ?_, ?_⟩
      · skip
        go_simp
        first | done | rfl | exact ⟨rfl, rfl⟩
      simp only [Act.put, List.setIfInBounds_toArray, List.set_cons_zero, List.set_cons_succ]
      refine wpAnyH_done (by kernel_rfl) ?_ _
      go_wp2_with fail
      go_roundw
      case rel => exact ⟨i + 1, _, O ++ [s.take 60], by simp, rfl, by omega, by omega, by rw [HOO (), take_next hs]; simp, by rw [List.length_append, hOl]; rfl, by rw [List.length_append, List.map_append, hOl]; rw [HT ()] at hO'; exact hO', hB4⟩
      case measure => simp [intOf]; omega
    · have hFO : O = F := by
        rw [HOO (), ← HF ()]
        unfold fewN
        by_cases hlt : i < n
        · rw [show i = 30 by omega]
        · have := HN ()
          rw [List.take_of_length_le (by omega), List.take_of_length_le (by omega)]
      have hs := (own_strs hown).mono (P' := fun _ => True) (fun _ _ _ => trivial)
      rw [hFO] at hs
      have HS : Unit → StrsAt (fun _ => True) wr (.slice aO F.length cO) F := fun _ => hs
      rw [hFO]
      clear hs hFO hown
      by_cases hlt : i < n
      · have hki : (i : Int) < (n : Int) := by omega
        have h30i : ¬ (i : Int) < 30 := by omega
        go_wp2_with fail
        go_ret
        exact ⟨_, rfl, HS (), hB⟩
      · have hki : ¬ (i : Int) < (n : Int) := by omega
        go_wp2_with fail
        go_ret
        exact ⟨_, rfl, HS (), hB⟩
end Go.Proofs.YtcljijcggnfemaaDoor
