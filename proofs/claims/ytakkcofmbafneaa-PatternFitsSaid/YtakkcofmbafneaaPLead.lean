/- The reader: a step leads to another one as well. -/
import Derived.Test.YtakkcofmbafneaaPStep
namespace Go.Proofs.Ytakkcofmbafneaa
open Go.ChangeShapes Go.WideShapes Go.RowKit

theorem info_int : (Try.prog.info? 3).map (fun i => (i.zero, i.size, i.bytes)) = some (some (.int .i64 0), 1, 8) := by kernel_rfl
theorem run_row_int (v : Value) (h1 : v.cells = #[v]) (w : World) : (Instr.buildSlice 63 1 #[(0, v)]).run Try.prog w = .ok (.slice (some ⟨w.heap.size, 0, none⟩) 1 1) (w.alloc (.cells [v].toArray 3)) := by
  obtain ⟨i0, hi, hz0, hz1, _⟩ := info_parts0 info_int
  refine run_buildSlice (P := Try.prog) w 63 3 1 _ [v].toArray i0 _ Try.underlying63 hi hz0 (by rw [hz1]; decide) (by rw [hz1]; decide) ?_
  rw [hz1]
  have := Great.fill_whole (s := 1) (by decide) [v] ((Array.range (1 * 1)).map ((Value.int .i64 0).cells[· % (Value.int .i64 0).cells.size]!)) (fun u hu => by rw [List.mem_singleton.1 hu, h1]; rfl) (by simp)
  refine Eq.trans this ?_
  simp [h1]
/-- An int is laid into a row of its own. -/
theorem wp_row_int {o : Oper} {a : Act} {w : World} {K : Act → World → Prop} {Q : Exit → Act → World → Prop} (v : Value) (h1 : v.cells = #[v]) (x : Operand) (ho : o.op = .buildSlice 63 1 #[(0, x)]) (hx : a.eval x = v)
    (hK : K (a.put o.dst (.slice (some ⟨w.heap.size, 0, none⟩) 1 1)) (w.alloc (.cells [v].toArray 3))) : o.wp Try.prog a w K Q := by
  unfold Oper.wp execOp
  simp only [ho, List.map_toArray, List.map_cons, List.map_nil, hx, Sem.run_bind, run_row_int v h1, Result.andThen_ok, Sem.run_pure]
  exact hK
theorem cell_other {w : World} {g k i : Nat} {v : Value} {j : Nat} (h : g ≠ k) : (w.setCell ⟨k, i, none⟩ v).cell? ⟨g, j, none⟩ = w.cell? ⟨g, j, none⟩ := by
  unfold World.cell?
  rw [Below.heap_setCell _ ⟨k, i, none⟩ _ g h]
theorem steps_slot {w : World} {base G cap k : Nat} {S : List Stp} {F : List Value} {s : Stp} {f : Value} (h : StepsAt w base (.slice (some ⟨G, 0, none⟩) S.length cap) S F) (hs : S[k]? = some s) (hf : F[k]? = some f) : w.cell? ⟨G, k * 257 + 256, none⟩ = some f := by
  have hk := (List.getElem?_eq_some_iff.1 hs).1
  rw [h.row.cellAt _ (by omega)]
  exact stepsC_free hs hf
theorem lead_row {w w5 : World} {R G cap k : Nat} {l : Bs} {S : List Stp} {F : List Value} {f : Value} (h : RdAt w R l S (.slice (some ⟨G, 0, none⟩) S.length cap) F) (hf : F[k]? = some f) (hg : w.grownBy w5 f.ownBlock) :
    w5.ownsRow (R + 1) 66 257 (.slice (some ⟨G, 0, none⟩) S.length cap) S.length (stepsC S F) :=
  own_asdS h.st.row (S := fun i => f.ownBlock = some i) ((Asd.refl _ w).grown hg (fun k e => .inl e)) (fun i e e' => by
    rcases h.st.off k f hf with q | q
    · rw [q] at e'; cases e'
    · exact q (e'.trans e.symm))
theorem lead_cell {w w5 : World} {R G cap k : Nat} {l : Bs} {S : List Stp} {F : List Value} {s : Stp} {f : Value} (h : RdAt w R l S (.slice (some ⟨G, 0, none⟩) S.length cap) F) (hs : S[k]? = some s) (hf : F[k]? = some f) (hg : w.grownBy w5 f.ownBlock) :
    w5.cell? ⟨G, k * 257 + 256, none⟩ = some f := by
  have hk := (List.getElem?_eq_some_iff.1 hs).1
  rw [(lead_row h hf hg).cellAt _ (by omega)]
  exact stepsC_free hs hf
theorem lead_frozen {w w5 : World} {R G cap k : Nat} {l : Bs} {S : List Stp} {F : List Value} {f : Value} (h : RdAt w R l S (.slice (some ⟨G, 0, none⟩) S.length cap) F) (hf : F[k]? = some f) (hg : w.grownBy w5 f.ownBlock) :
    w5.frozen? ⟨G, k * 257 + 256, none⟩ = false := (lead_row h hf hg).frozenAt _
/-- The end: the way is there. -/
theorem lead_fin {w w4 w5 : World} {R G cap k x : Nat} {l : Bs} {S : List Stp} {F : List Value} {s : Stp} {f f' : Value} (h : RdAt w4 R l S (.slice (some ⟨G, 0, none⟩) S.length cap) F) (hb : Below w.heap.size w w4) (hs : S[k]? = some s) (hf : F[k]? = some f)
    (hO : w5.ownsRow (R + 1) 3 1 f' (s.free.length + 1) (s.free.map intV ++ [intV x])) (hg : w4.grownBy w5 f.ownBlock) (hloc : f'.ownBlock = f.ownBlock ∨ f'.ownBlock = some w4.heap.size) :
    RdAt (w5.setCell ⟨G, k * 257 + 256, none⟩ f') R l (leadL S k x) (.slice (some ⟨G, 0, none⟩) S.length cap) (F.set k f') ∧ Grow R (.slice (some ⟨G, 0, none⟩) S.length cap) F (.slice (some ⟨G, 0, none⟩) S.length cap) (F.set k f') w (w5.setCell ⟨G, k * 257 + 256, none⟩ f') := by
  have k5 : Asd (fun i => f.ownBlock = some i) w4 w5 := (Asd.refl _ w4).grown hg (fun k e => .inl e)
  have hsz := hb.size
  have hl : f'.ownBlock = f.ownBlock ∨ ∃ g, f'.ownBlock = some g ∧ w4.heap.size ≤ g := hloc.imp id fun e => ⟨_, e, Nat.le_refl _⟩
  have s6 := h.st.lead hs hf hO k5 hl
  have hG := (h.st.row.lt G rfl).1
  have q5 : Rq w5 R l (.slice (some ⟨G, 0, none⟩) S.length cap) := Rw.grown h.q hg (fun e => by have := ((h.st.free k s f hs hf).lt _ e).1; omega)
  have q6 : Rq (w5.setCell ⟨G, k * 257 + 256, none⟩ f') R l (.slice (some ⟨G, 0, none⟩) S.length cap) := Rw.other q5 (by omega) _ _
  refine ⟨⟨q6, s6⟩, fun j hj => ?_, ?_⟩
  · rcases foot_lead hf hl hj with q | q
    · exact .inl q
    · exact .inr (by omega)
  · exact ((Asd.of_below hb).grown hg (fun j e => .inl (.inr (.inr ⟨f, List.mem_of_getElem? hf, e⟩)))).setCell (p := ⟨G, k * 257 + 256, none⟩) (.inl (.inr (.inl rfl))) _
set_option maxHeartbeats 3200000 in
set_option maxRecDepth 100000 in
theorem lead_any (R k x : Nat) (l : Bs) (S : List Stp) (V : Value) (F : List Value) (w : World) (h : RdAt w R l S V F) (s : Stp) (hs : S[k]? = some s) (hsn : s.free.length ≤ 2000) (hn : S.length ≤ 1000) :
    Calls Try.prog 31 #[.pointer (some ⟨R, 0, none⟩), .int .i64 (k : Int), .int .i64 (x : Int)] w fun e w' => e = .returned (.tuple #[]) ∧ RdQ w R V F l (leadL S k x) w' := by
  obtain ⟨i0, hi, hz0, hz1, hz2⟩ := info_parts0 info_int
  have hk := (List.getElem?_eq_some_iff.1 hs).1
  obtain ⟨f, hf⟩ : ∃ f, F[k]? = some f := ⟨_, List.getElem?_eq_getElem (by rw [h.st.len]; exact hk)⟩
  obtain ⟨G, cap, rfl⟩ : ∃ G cap, V = .slice (some ⟨G, 0, none⟩) S.length cap := by
    obtain ⟨m, hm⟩ : ∃ m, S.length = m + 1 := ⟨S.length - 1, by omega⟩
    have := h.st.row
    rw [hm] at this ⊢
    exact own_succ this
  obtain ⟨af, cf, rfl, _⟩ := own_slice (h.st.free k s f hs hf)
  have hRG : R ≠ G := by have := (h.st.row.lt G rfl).1; omega
  have hki : (k : Int) < (S.length : Int) := by omega
  go_enter Try.func31, Try.ntmps31
  go_upto_region 0 with fail
  refine wp_region_held (S := fun w' => w'.cell? ⟨R, 1, none⟩ = some (.slice (some ⟨G, 0, none⟩) S.length cap)) (by kernel_rfl) ?_
  have hS0 : Below w.heap.size w { w with drawn := w.drawn + 1 } := (Below.refl _ _).drew
  have h2 := h.stay hS0
  have hb2 := hS0
  clear hS0 h
  generalize { w with drawn := w.drawn + 1 } = D1 at *
  have hS : D1.cell? ⟨R, 1, none⟩ = some (.slice (some ⟨G, 0, none⟩) S.length cap) := h2.q.steps
  have hal := (Below.refl D1.heap.size D1).alloc (Nat.le_refl _) (.cells [intV x].toArray 3)
  refine held_val 0 rfl (by kernel_rfl) (by kernel_rfl) (by kernel_rfl) (fun _ _ _ _ h => h) (by rfl) hS ?_
  apply Exists.intro
  refine ⟨fun w' hw' => ?_, ?_⟩
  · skip
    go_simp
    first | done | rfl | exact ⟨rfl, rfl⟩
  simp only [Act.put, List.setIfInBounds_toArray, List.set_cons_zero, List.set_cons_succ]
  refine held_val 1 rfl (by kernel_rfl) (by kernel_rfl) (by kernel_rfl) (fun _ _ _ _ h => h) (by rfl) hS ?_
  apply Exists.intro
  refine ⟨fun w' hw' => ?_, ?_⟩
  · skip
    go_simp
    first | done | rfl | exact ⟨rfl, rfl⟩
  simp only [Act.put, List.setIfInBounds_toArray, List.set_cons_zero, List.set_cons_succ]
  refine held_val 2 rfl (by kernel_rfl) (by kernel_rfl) (by kernel_rfl) (fun _ _ _ _ h => h) (by rfl) hS ?_
  apply Exists.intro
  refine ⟨fun w' hw' => ?_, ?_⟩
  · skip
    go_simp
    first | done | rfl | exact ⟨rfl, rfl⟩
  simp only [Act.put, List.setIfInBounds_toArray, List.set_cons_zero, List.set_cons_succ]
  refine held_val 3 rfl (by kernel_rfl) (by kernel_rfl) (by kernel_rfl) (fun _ _ _ _ h => h) (by rfl) hS ?_
  apply Exists.intro
  refine ⟨fun w' hw' => ?_, ?_⟩
  · skip
    go_simp
    first | done | rfl | exact ⟨rfl, rfl⟩
  simp only [Act.put, List.setIfInBounds_toArray, List.set_cons_zero, List.set_cons_succ]
  refine held_val 4 rfl (by kernel_rfl) (by kernel_rfl) (by kernel_rfl) (fun _ _ _ _ h => h) (by rfl) hS ?_
  apply Exists.intro
  refine ⟨fun w' hw' => ?_, ?_⟩
  · skip
    go_simp
    first | done | rfl | exact ⟨rfl, rfl⟩
  simp only [Act.put, List.setIfInBounds_toArray, List.set_cons_zero, List.set_cons_succ]
  refine held_val 5 rfl (by kernel_rfl) (by kernel_rfl) (by kernel_rfl) (fun _ _ _ _ h => h) (by rfl) hS ?_
  apply Exists.intro
  refine ⟨fun w' hw' => ?_, ?_⟩
  · skip
    go_simp
    first | done | rfl | exact ⟨rfl, rfl⟩
  simp only [Act.put, List.setIfInBounds_toArray, List.set_cons_zero, List.set_cons_succ]
  refine held_val 6 rfl (by kernel_rfl) (by kernel_rfl) (by kernel_rfl) (fun _ _ _ _ h => h) (by rfl) hS ?_
  apply Exists.intro
  refine ⟨fun w' hw' => ?_, ?_⟩
  · skip
    go_simp
    first | done | rfl | exact ⟨rfl, rfl⟩
  simp only [Act.put, List.setIfInBounds_toArray, List.set_cons_zero, List.set_cons_succ]
  refine held_val 7 rfl (by kernel_rfl) (by kernel_rfl) (by kernel_rfl) (fun _ _ _ _ h => h) (by rfl) hS ?_
  apply Exists.intro
  refine ⟨fun w' hw' => ?_, ?_⟩
  · skip
    go_simp
    first | done | rfl | exact ⟨rfl, rfl⟩
  simp only [Act.put, List.setIfInBounds_toArray, List.set_cons_zero, List.set_cons_succ]
  refine held_val 8 rfl (by kernel_rfl) (by kernel_rfl) (by kernel_rfl) (fun _ _ _ _ h => h) (by rfl) hS ?_
  apply Exists.intro
  refine ⟨fun w' hw' => ?_, ?_⟩
  · skip
    go_simp
    first | done | rfl | exact ⟨rfl, rfl⟩
  simp only [Act.put, List.setIfInBounds_toArray, List.set_cons_zero, List.set_cons_succ]
  refine held_val 9 rfl (by kernel_rfl) (by kernel_rfl) (by kernel_rfl) (fun _ _ _ _ h => h) (by rfl) hS ?_
  apply Exists.intro
  refine ⟨fun w' hw' => ?_, ?_⟩
  · skip
    go_simp
    first | done | rfl | exact ⟨rfl, rfl⟩
  simp only [Act.put, List.setIfInBounds_toArray, List.set_cons_zero, List.set_cons_succ]
  refine held_val 10 rfl (by kernel_rfl) (by kernel_rfl) (by kernel_rfl) (fun _ _ _ _ h => h) (by rfl) hS ?_
  apply Exists.intro
  refine ⟨fun w' hw' => ?_, ?_⟩
  · skip
    go_simp
    first | done | rfl | exact ⟨rfl, rfl⟩
  simp only [Act.put, List.setIfInBounds_toArray, List.set_cons_zero, List.set_cons_succ]
  refine held_val 11 rfl (by kernel_rfl) (by kernel_rfl) (by kernel_rfl) (fun _ _ _ _ h => h) (by rfl) hS ?_
  apply Exists.intro
  refine ⟨fun w' hw' => ?_, ?_⟩
  · skip
    go_simp
    first | done | rfl | exact ⟨rfl, rfl⟩
  simp only [Act.put, List.setIfInBounds_toArray, List.set_cons_zero, List.set_cons_succ]
  refine held_val 13 rfl (by kernel_rfl) (by kernel_rfl) (by kernel_rfl) (fun _ _ _ _ h => h) (by rfl) hS ?_
  apply Exists.intro
  refine ⟨fun w' hw' => ?_, ?_⟩
  · skip
    go_simp
    first | done | rfl | exact ⟨rfl, rfl⟩
  simp only [Act.put, List.setIfInBounds_toArray, List.set_cons_zero, List.set_cons_succ]
  refine held_two 12 14 (by kernel_rfl) rfl rfl (by rfl) (by rfl) ?_ ?_
  · have c2 := steps_slot h2.st hs hf
    unfold Oper.wp
    go_simp
    first | refine ⟨hS, ?_⟩ | skip
    clear c2
    refine held_one 14 (by kernel_rfl) rfl (by rfl) ?_
    refine wp_row_int (intV x) rfl _ rfl rfl ?_
    refine ⟨(h2.stay hal).q.steps, ?_⟩
    simp only [Act.put, List.setIfInBounds_toArray, List.set_cons_zero, List.set_cons_succ]
    have h3 := h2.stay hal
    have rY := Rw.new D1 3 [intV x]
    have hb3 := hb2.trans (hal.mono hb2.size)
    generalize D1.alloc (.cells [intV x].toArray 3) = D2 at *
    generalize D1.heap.size = Y at *
    refine held_one 15 (by kernel_rfl) rfl (by rfl) ?_
    refine wp_own_at (.tmp 18) (.tmp 20) 63 rfl (R + 1) 3 i0 (.int .i64 0) 1 8 Try.underlying63 hi hz0 hz1 hz2 rfl (by decide) (.slice af s.free.length cf) s.free.length _ rfl (h3.st.free k s _ hs hf) Y [intV x] rfl rfl rY (fun u hu => by rw [List.mem_singleton.1 hu]; rfl) (by unfold maxLen; omega) (by omega) (by have := Rw.lt h3.q; omega) ?_
    intro f' w5 hO hg hloc
    have FIN := lead_fin h3 hb3 hs hf hO hg hloc
    have hS5 : w5.cell? ⟨R, 1, none⟩ = some (.slice (some ⟨G, 0, none⟩) S.length cap) := Rq.steps (Rw.grown h3.q hg (fun e => by have := ((h3.st.free k s _ hs hf).lt _ e).1; omega))
    refine ⟨hS5, ?_⟩
    have c5 := lead_cell h3 hs hf hg
    obtain ⟨g', cap', rfl⟩ := own_succ hO
    have f5 : w5.frozen? ⟨G, k * 257 + 256, none⟩ = false := lead_frozen h3 hf hg
    have FIN2 := Lib.hid FIN
    clear FIN hO hg hloc h3 rY h2
    replace hS := hS5
    simp only [Act.put, List.setIfInBounds_toArray, List.set_cons_zero, List.set_cons_succ]
    refine held_val 16 rfl (by kernel_rfl) (by kernel_rfl) (by kernel_rfl) (fun _ _ _ _ h => h) (by rfl) hS ?_
    apply Exists.intro
    refine ⟨fun w' hw' => ?_, ?_⟩
    · skip
      go_simp
      first | done | rfl | exact ⟨rfl, rfl⟩
    simp only [Act.put, List.setIfInBounds_toArray, List.set_cons_zero, List.set_cons_succ]
    refine held_val 17 rfl (by kernel_rfl) (by kernel_rfl) (by kernel_rfl) (fun _ _ _ _ h => h) (by rfl) hS ?_
    apply Exists.intro
    refine ⟨fun w' hw' => ?_, ?_⟩
    · skip
      go_simp
      first | done | rfl | exact ⟨rfl, rfl⟩
    simp only [Act.put, List.setIfInBounds_toArray, List.set_cons_zero, List.set_cons_succ]
    refine held_one 18 (by kernel_rfl) rfl (by rfl) ?_
    unfold Oper.wp
    go_simp
    refine wpAnyH_done (by kernel_rfl) ?_ _
    clear c5 f5 hS5 hS
    refine bodyPost_end (results_none (by kernel_rfl) _ _ _) rfl ?_
    exact ⟨rfl, _, _, FIN2.out.1, FIN2.out.2⟩
  · refine wp_row_int (intV x) rfl _ rfl rfl ?_
    refine ⟨(h2.stay hal).q.steps, ?_⟩
    simp only [Act.put, List.setIfInBounds_toArray, List.set_cons_zero, List.set_cons_succ]
    have c2 := steps_slot (h2.stay hal).st hs hf
    have hS2 := (h2.stay hal).q.steps
    refine held_one 12 (by kernel_rfl) rfl (by rfl) ?_
    unfold Oper.wp
    go_simp
    first | refine ⟨hS2, ?_⟩ | skip
    clear c2 hS2
    have h3 := h2.stay hal
    have rY := Rw.new D1 3 [intV x]
    have hb3 := hb2.trans (hal.mono hb2.size)
    generalize D1.alloc (.cells [intV x].toArray 3) = D2 at *
    generalize D1.heap.size = Y at *
    refine held_one 15 (by kernel_rfl) rfl (by rfl) ?_
    refine wp_own_at (.tmp 18) (.tmp 20) 63 rfl (R + 1) 3 i0 (.int .i64 0) 1 8 Try.underlying63 hi hz0 hz1 hz2 rfl (by decide) (.slice af s.free.length cf) s.free.length _ rfl (h3.st.free k s _ hs hf) Y [intV x] rfl rfl rY (fun u hu => by rw [List.mem_singleton.1 hu]; rfl) (by unfold maxLen; omega) (by omega) (by have := Rw.lt h3.q; omega) ?_
    intro f' w5 hO hg hloc
    have FIN := lead_fin h3 hb3 hs hf hO hg hloc
    have hS5 : w5.cell? ⟨R, 1, none⟩ = some (.slice (some ⟨G, 0, none⟩) S.length cap) := Rq.steps (Rw.grown h3.q hg (fun e => by have := ((h3.st.free k s _ hs hf).lt _ e).1; omega))
    refine ⟨hS5, ?_⟩
    have c5 := lead_cell h3 hs hf hg
    obtain ⟨g', cap', rfl⟩ := own_succ hO
    have f5 : w5.frozen? ⟨G, k * 257 + 256, none⟩ = false := lead_frozen h3 hf hg
    have FIN2 := Lib.hid FIN
    clear FIN hO hg hloc h3 rY h2
    replace hS := hS5
    simp only [Act.put, List.setIfInBounds_toArray, List.set_cons_zero, List.set_cons_succ]
    refine held_val 16 rfl (by kernel_rfl) (by kernel_rfl) (by kernel_rfl) (fun _ _ _ _ h => h) (by rfl) hS ?_
    apply Exists.intro
    refine ⟨fun w' hw' => ?_, ?_⟩
    · skip
      go_simp
      first | done | rfl | exact ⟨rfl, rfl⟩
    simp only [Act.put, List.setIfInBounds_toArray, List.set_cons_zero, List.set_cons_succ]
    refine held_val 17 rfl (by kernel_rfl) (by kernel_rfl) (by kernel_rfl) (fun _ _ _ _ h => h) (by rfl) hS ?_
    apply Exists.intro
    refine ⟨fun w' hw' => ?_, ?_⟩
    · skip
      go_simp
      first | done | rfl | exact ⟨rfl, rfl⟩
    simp only [Act.put, List.setIfInBounds_toArray, List.set_cons_zero, List.set_cons_succ]
    refine held_one 18 (by kernel_rfl) rfl (by rfl) ?_
    unfold Oper.wp
    go_simp
    refine wpAnyH_done (by kernel_rfl) ?_ _
    clear c5 f5 hS5 hS
    refine bodyPost_end (results_none (by kernel_rfl) _ _ _) rfl ?_
    exact ⟨rfl, _, _, FIN2.out.1, FIN2.out.2⟩
end Go.Proofs.Ytakkcofmbafneaa
