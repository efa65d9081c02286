/- The reader: a step is made. -/
import Derived.Test.YtakkcofmbafneaaPB
import Derived.Maps.AppendAt
import Derived.OwnWalk
import Derived.Great.BuildSlice
import Derived.Great.FillDense
namespace Go.Proofs.Ytakkcofmbafneaa
open Go.ChangeShapes Go.WideShapes Go.RowKit

abbrev nilS : Value := Value.slice none 0 0
theorem zero_step (w : World) : (zeroValue 66).run Try.prog w = .ok (.agg (setRow noSet ++ [nilS]).toArray) w := by kernel_rfl
theorem info_step : (Try.prog.info? 66).map (fun i => (i.zero, i.size, i.bytes)) = some (some (.agg (setRow noSet ++ [nilS]).toArray), 257, 280) := by kernel_rfl
set_option maxRecDepth 100000 in
/-- A step is made of a set. -/
theorem run_build_step (cs : List Value) (h : cs.length = 256) (w : World) : (Instr.build 66 #[(0, .agg cs.toArray)]).run Try.prog w = .ok (.agg (cs ++ [nilS]).toArray) w := by
  have hz := zero_step w
  have hs := setRow_len noSet
  generalize setRow noSet = Z at *
  have e1 : (Value.agg cs.toArray).cells = cs.toArray := rfl
  have hf : ∀ pl : Nat → Option (Nat × Nat), pl 0 = some (0, 256) → Instr.fill pl (Z ++ [nilS]).toArray [(0, .agg cs.toArray)] = some (cs ++ [nilS]).toArray := fun pl hpl => by
    unfold Instr.fill
    simp only [hpl]
    rw [e1, if_neg (by simp [h, hs])]
    unfold Instr.fill
    congr 1
    apply Array.ext_getElem?
    intro k
    have g := (Great.foldl_set 0 cs 0 (Z ++ [nilS]).toArray).2 k
    have e3 : ((cs.toArray.zipIdx).foldl (fun (cs : Array Value) (x : Value × Nat) => cs.setIfInBounds (0 + x.2) x.1) (Z ++ [nilS]).toArray) = ((cs.zipIdx 0).foldl (fun (cs : Array Value) (x : Value × Nat) => cs.setIfInBounds (0 + x.2) x.1) (Z ++ [nilS]).toArray) := by
      rw [← Array.foldl_toList, Array.toList_zipIdx]
    rw [← e3] at g
    refine Eq.trans g ?_
    simp only [Nat.zero_add, Nat.add_zero, Nat.sub_zero]
    by_cases hk : k < 256
    · rw [if_pos ⟨by omega, by omega, by simp [hs]; omega⟩]
      simp [List.getElem?_append_left (show k < cs.length by omega)]
    · rw [if_neg (by omega)]
      simp [List.getElem?_append_right (show cs.length ≤ k by omega), List.getElem?_append_right (show Z.length ≤ k by omega), h, hs]
  unfold Instr.build
  simp only [Sem.run_bind, hz, Result.andThen_ok, run_underlying Try.underlying66]
  generalize hm : Sem.run Try.prog (Array.mapM _ _) w = m
  obtain rfl : m = .ok (#[(0, 256), (256, 1)] : Array (Nat × Nat)) w := by rw [← hm]; kernel_rfl
  clear hm
  simp only [Result.andThen_ok]
  rw [show (Value.agg (Z ++ [nilS]).toArray).cells = (Z ++ [nilS]).toArray from rfl, hf _ rfl]
  rfl
/-- It is laid into a row of its own. -/
theorem run_row_step (cs : List Value) (h : cs.length = 257) (w : World) : (Instr.buildSlice 53 1 #[(0, .agg cs.toArray)]).run Try.prog w = .ok (.slice (some ⟨w.heap.size, 0, none⟩) 1 1) (w.alloc (.cells cs.toArray 66)) := by
  obtain ⟨i0, hi, hz0, hz1, _⟩ := info_parts0 info_step
  refine run_buildSlice (P := Try.prog) w 53 66 1 _ cs.toArray i0 _ Try.underlying53 hi hz0 (by rw [hz1]; decide) (by rw [hz1]; decide) ?_
  rw [hz1]
  have := Great.fill_whole (s := 257) (by decide) [.agg cs.toArray] ((Array.range (1 * 257)).map ((Value.agg (setRow noSet ++ [nilS]).toArray).cells[· % (Value.agg (setRow noSet ++ [nilS]).toArray).cells.size]!)) (fun v hv => by
    simp at hv
    subst hv
    show cs.toArray.size = 257
    simpa using h) (by simp)
  refine Eq.trans this ?_
  simp [Value.cells]
/-- Elements are appended to a row that one owns. -/
theorem wp_own_at {P : Program} {o : Oper} {a : Act} {w : World} {K : Act → World → Prop} {Q : Exit → Act → World → Prop} (s x : Operand) (t : TypeId) (ho : o.op = .call { callee := .builtin .append, args := #[s, x], argTypes := #[t, t] })
    (base : Nat) (e : TypeId) (i : TypeInfo) (z : Value) (size bytes : Nat) (ht : P.underlying t = some (.slice e)) (hi : P.info? e = some i) (hz : i.zero = some z) (hsize : i.size = size) (hby : i.bytes = bytes) (hzs : z.cells.size = size) (hsz : 0 < size)
    (v : Value) (n : Nat) (xs : List Value) (hs : a.eval s = v) (hown : w.ownsRow base e size v n xs) (g : Nat) (news : List Value) (hx : a.eval x = .slice (some ⟨g, 0, none⟩) 1 1) (hl : news.length = size) (hr : Rw w g e news) (h1 : ∀ u ∈ news, u.oneCell' = true)
    (h63 : n + 1 ≤ maxLen) (hbytes : (n + 1) * bytes ≤ 140737488355328) (hbase : base ≤ w.heap.size)
    (h : ∀ v' w', w'.ownsRow base e size v' (n + 1) (xs ++ news) → w.grownBy w' v.ownBlock → (v'.ownBlock = v.ownBlock ∨ v'.ownBlock = some w.heap.size) → K (a.put o.dst v') w') :
    o.wp P a w K Q := by
  obtain ⟨v', w', hr, h2, h3, _, h5⟩ := run_append_own_at (P := P) w base t o.type e i z size bytes ht hi hz hsize hby hzs hsz v n xs hown ⟨g, 0, none⟩ 1 1 news (by rw [hl, Nat.one_mul]) (fun j u hu => by rw [add_any, Nat.zero_add, Rw.cell hr j]; exact hu) h1 h63 hbytes hbase
  unfold Oper.wp execOp
  simp only [ho, resolve, invoke, builtin, Sem.run_bind, Sem.run_pure, Result.andThen_ok, List.map_toArray, List.map_cons, List.map_nil, hs, hx, hr]
  exact h v' w' h2 h3 h5
theorem Rw.grown {w w' : World} {g : Nat} {t : TypeId} {cs : List Value} {row : Option Nat} (h : Rw w g t cs) (hg : w.grownBy w' row) (hne : row ≠ some g) : Rw w' g t cs := by unfold Rw at *; rw [hg.block g (Array.getElem?_eq_some_iff.1 h).1 (fun e => hne e.symm)]; exact h
theorem setRow_cell (p : UInt8 → Bool) : ∀ u ∈ setRow p, u.oneCell' = true := fun u hu => by
  simp [setRow] at hu
  obtain ⟨i, _, rfl⟩ := hu
  rfl
theorem exec_set (g : Nat) (t : TypeId) (cs : List Value) (hn : cs.length = 256) {o : Oper} {a : Act} (x : Operand) (ho : o.op = .load 64 x) (hx : a.eval x = .pointer (some ⟨g, 0, none⟩)) (w : World) (hc : Rw w g t cs) :
    (execOp a.eval o).run Try.prog w = .ok (.value (.agg cs.toArray)) w := by
  have := run_load_cells (P := Try.prog) w g 0 64 cs (.array 256 4) (fun j v hv => by rw [Nat.zero_add, hc.cell]; exact hv) (by kernel_rfl) rfl (by rw [hn]; kernel_rfl)
  unfold execOp
  simp only [ho, hx, Instr.loadAt, Instr.sureAddr, Sem.run_bind, Sem.run_pure, Result.andThen_ok, this]
theorem exec_step (cs : List Value) (hn : cs.length = 256) {o : Oper} {a : Act} (x : Operand) (ho : o.op = .build 66 #[(0, x)]) (hx : a.eval x = .agg cs.toArray) (w : World) :
    (execOp a.eval o).run Try.prog w = .ok (.value (.agg (cs ++ [nilS]).toArray)) w := by
  unfold execOp
  simp only [ho, List.map_toArray, List.map_cons, List.map_nil, hx, Sem.run_bind, run_build_step cs hn, Result.andThen_ok, Sem.run_pure]
/-- A step is laid. -/
theorem wp_row_step {o : Oper} {a : Act} {w : World} {K : Act → World → Prop} {Q : Exit → Act → World → Prop} (cs : List Value) (h : cs.length = 257) (x : Operand) (ho : o.op = .buildSlice 53 1 #[(0, x)]) (hx : a.eval x = .agg cs.toArray)
    (hK : K (a.put o.dst (.slice (some ⟨w.heap.size, 0, none⟩) 1 1)) (w.alloc (.cells cs.toArray 66))) : o.wp Try.prog a w K Q := by
  unfold Oper.wp execOp
  simp only [ho, List.map_toArray, List.map_cons, List.map_nil, hx, Sem.run_bind, run_row_step cs h, Result.andThen_ok, Sem.run_pure]
  exact hK
/-- The end: the step is there, the reader has its row. -/
theorem add_fin {w w4 w5 : World} {R N : Nat} {l : Bs} {S : List Stp} {V V' : Value} {F : List Value} {X : List Value} {p : UInt8 → Bool} (EX : setRow p = X) (h : RdAt w4 R l S V F) (hb : Below N w w4)
    (hO : w5.ownsRow (R + 1) 66 257 V' (S.length + 1) (stepsC S F ++ (X ++ [nilS]))) (hg : w4.grownBy w5 V.ownBlock) (hloc : V'.ownBlock = V.ownBlock ∨ V'.ownBlock = some w4.heap.size) (hN : w.heap.size = N) :
    RdAt (w5.setCell ⟨R, 1, none⟩ V') R l (S ++ [⟨p, []⟩]) V' (F ++ [nilS]) ∧ Grow R V F V' (F ++ [nilS]) w (w5.setCell ⟨R, 1, none⟩ V') := by
  subst EX
  have k5 : Asd (fun i => V.ownBlock = some i) w4 w5 := (Asd.refl _ w4).grown hg (fun k e => .inl e)
  have hsz := hb.size
  have hl : V'.ownBlock = V.ownBlock ∨ ∃ g, V'.ownBlock = some g ∧ w4.heap.size ≤ g := hloc.imp id fun e => ⟨_, e, Nat.le_refl _⟩
  have s5 := h.st.snoc (p := p) hO k5 hl
  have hlow : ∀ i, Foot V' (F ++ [nilS]) i → ¬ i = R := fun i hi e => by subst e; have := (s5.lt hi).1; omega
  have s6 := s5.keep (Asd.one w5 R 1 V') hlow
  have q5 : Rq w5 R l V := Rw.grown h.q hg (fun e => by have := (h.st.row.lt _ e).1; omega)
  refine ⟨⟨q5.put V', s6⟩, fun k hk => ?_, ?_⟩
  · rcases foot_snoc hl hk with q | q
    · exact .inl q
    · exact .inr (by omega)
  · subst hN
    exact ((Asd.of_below hb).grown hg (fun k e => .inl (.inr (.inl e)))).setCell (p := ⟨R, 1, none⟩) (.inl (.inl rfl)) _
set_option maxHeartbeats 3200000 in
set_option maxRecDepth 100000 in
theorem addStep_any (R : Nat) (p : UInt8 → Bool) (l : Bs) (S : List Stp) (V : Value) (F : List Value) (w : World) (h : RdAt w R l S V F) (hn : S.length ≤ 1000) :
    Calls Try.prog 30 #[.pointer (some ⟨R, 0, none⟩), .agg (setRow p).toArray] w fun e w' => e = .returned (.int .i64 (S.length : Int)) ∧ RdQ w R V F l (S ++ [⟨p, []⟩]) w' := by
  have hX := setRow_len p
  have hone := setRow_cell p
  obtain ⟨X, eX⟩ : ∃ X, setRow p = X := ⟨_, rfl⟩
  rw [eX] at hX hone ⊢
  have EX : Unit → setRow p = X := fun _ => eX
  clear eX
  obtain ⟨i0, hi, hz0, hz1, hz2⟩ := info_parts0 info_step
  have hzs : (Value.agg (setRow noSet ++ [nilS]).toArray).cells.size = 257 := by simp [Value.cells, setRow_len]
  generalize (Value.agg (setRow noSet ++ [nilS]).toArray) = Z0 at *
  go_enter Try.func30, Try.ntmps30
  go_upto_region 1 with fail
  have rT := Rw.new w 64 X
  have hb1 := (Below.refl w.heap.size w).alloc (Nat.le_refl _) (.cells X.toArray 64)
  have hVT0 : ∀ k, V.ownBlock = some k → k < w.heap.size := fun k e => (h.st.row.lt k e).2
  have hRT0 := Rw.lt h.q
  have h1 := h.stay hb1
  generalize w.alloc (.cells X.toArray 64) = W1 at *
  obtain ⟨aV, cV, eV, _⟩ := own_slice h1.st.row
  subst eV
  have hVT : (Value.slice aV S.length cV).ownBlock ≠ some w.heap.size := fun e => by have := hVT0 _ e; omega
  have hTR : w.heap.size ≠ R := by omega
  have hone2 : ∀ u ∈ X ++ [nilS], u.oneCell' = true := fun u hu => by
    rcases List.mem_append.1 hu with hu | hu
    · exact hone u hu
    · rw [List.mem_singleton.1 hu]; rfl
  clear hVT0 hRT0 h hone
  refine wp_region_held (S := fun w' => Rw w' w.heap.size 64 X) (by kernel_rfl) ?_
  have hS0 : Below W1.heap.size W1 { W1 with drawn := W1.drawn + 1 } := (Below.refl _ _).drew
  have rT1 := rT.stay hS0
  have h2 := h1.stay hS0
  have hb2 := hb1.trans (hS0.mono hb1.size)
  clear hS0 hb1 h1 rT
  generalize { W1 with drawn := W1.drawn + 1 } = D1 at *
  have hS : Rw D1 w.heap.size 64 X := rT1
  have hV1 := h2.q.steps
  have hal := (Below.refl D1.heap.size D1).alloc (Nat.le_refl _) (.cells (X ++ [nilS]).toArray 66)
  refine held_val 0 rfl (by kernel_rfl) (by kernel_rfl) (by kernel_rfl) (fun _ _ _ _ h => h) (by rfl) hS ?_
  apply Exists.intro
  refine ⟨fun w' hw' => ?_, ?_⟩
  · skip
    go_simp
    first | done | rfl | exact ⟨rfl, rfl⟩
  simp only [Act.put, List.setIfInBounds_toArray, List.set_cons_zero, List.set_cons_succ]
  refine held_val 1 rfl (by kernel_rfl) (by kernel_rfl) (by kernel_rfl) (fun _ _ _ _ h => h) (by rfl) hS ?_
  apply Exists.intro
  refine ⟨fun w' hw' => ?_, ?_⟩
  · skip
    go_simp
    first | done | rfl | exact ⟨rfl, rfl⟩
  simp only [Act.put, List.setIfInBounds_toArray, List.set_cons_zero, List.set_cons_succ]
  refine held_val 2 rfl (by kernel_rfl) (by kernel_rfl) (by kernel_rfl) (fun _ _ _ _ h => h) (by rfl) hS ?_
  apply Exists.intro
  refine ⟨fun w' hw' => ?_, ?_⟩
  · skip
    go_simp
    first | done | rfl | exact ⟨rfl, rfl⟩
  simp only [Act.put, List.setIfInBounds_toArray, List.set_cons_zero, List.set_cons_succ]
  refine held_val 3 rfl (by kernel_rfl) (by kernel_rfl) (by kernel_rfl) (fun _ _ _ _ h => h) (by rfl) hS ?_
  apply Exists.intro
  refine ⟨fun w' hw' => ?_, ?_⟩
  · skip
    go_simp
    first | done | rfl | exact ⟨rfl, rfl⟩
  simp only [Act.put, List.setIfInBounds_toArray, List.set_cons_zero, List.set_cons_succ]
  refine held_val 5 rfl (by kernel_rfl) (by kernel_rfl) (by kernel_rfl) (fun _ _ _ _ h => h) (by rfl) hS ⟨_, fun w' hw' => exec_set w.heap.size 64 X hX _ rfl rfl w' hw', ?_⟩
  simp only [Act.put, List.setIfInBounds_toArray, List.set_cons_zero, List.set_cons_succ]
  refine held_val 6 rfl (by kernel_rfl) (by kernel_rfl) (by kernel_rfl) (fun _ _ _ _ h => h) (by rfl) hS ⟨_, fun w' hw' => exec_step X hX _ rfl rfl w', ?_⟩
  simp only [Act.put, List.setIfInBounds_toArray, List.set_cons_zero, List.set_cons_succ]
  refine held_two 4 7 (by kernel_rfl) rfl rfl (by rfl) (by rfl) ?_ ?_
  · unfold Oper.wp
    go_simp
    first | refine ⟨hS, ?_⟩ | skip
    refine held_one 7 (by kernel_rfl) rfl (by rfl) ?_
    refine wp_row_step (X ++ [nilS]) (by simp [hX]) _ rfl rfl ?_
    refine ⟨rT1.stay hal, ?_⟩
    simp only [Act.put, List.setIfInBounds_toArray, List.set_cons_zero, List.set_cons_succ]
    have h3 := h2.stay hal
    have rY := Rw.new D1 66 (X ++ [nilS])
    have rT2 := rT1.stay hal
    have hb3 := hb2.trans (hal.mono hb2.size)
    have hG := hb2.size
    replace hS : Rw _ w.heap.size 64 X := rT2
    generalize D1.alloc (.cells (X ++ [nilS]).toArray 66) = D2 at *
    generalize D1.heap.size = G at *
    refine held_one 8 (by kernel_rfl) rfl (by rfl) ?_
    refine wp_own_at (.tmp 9) (.tmp 12) 53 rfl (R + 1) 66 i0 Z0 257 280 Try.underlying53 hi hz0 hz1 hz2 hzs (by decide) _ S.length _ rfl h3.st.row G (X ++ [nilS]) rfl (by simp [hX]) rY hone2 (by unfold maxLen; omega) (by omega) (by have := Rw.lt h3.q; omega) ?_
    intro V' w5 hO hg hloc
    have rT5 := rT2.grown hg hVT
    refine ⟨rT5, ?_⟩
    have FIN := add_fin (EX ()) h3 hb3 hO hg hloc rfl
    have q5 : Rq w5 R l (.slice aV S.length cV) := Rw.grown h3.q hg (fun e => by have := (h3.st.row.lt _ e).1; omega)
    have c5 := Rq.steps q5
    have f5 := Rw.frozen q5 1
    obtain ⟨g', cap', rfl⟩ := own_succ hO
    have FIN2 := Lib.hid FIN
    clear FIN q5 hO hg hloc h3 rY rT2 rT1 h2
    replace hS : Rw w5 w.heap.size 64 X := rT5
    simp only [Act.put, List.setIfInBounds_toArray, List.set_cons_zero, List.set_cons_succ]
    refine held_val 9 rfl (by kernel_rfl) (by kernel_rfl) (by kernel_rfl) (fun _ _ _ _ h => h) (by rfl) hS ?_
    apply Exists.intro
    refine ⟨fun w' hw' => ?_, ?_⟩
    · skip
      go_simp
      first | done | rfl | exact ⟨rfl, rfl⟩
    simp only [Act.put, List.setIfInBounds_toArray, List.set_cons_zero, List.set_cons_succ]
    refine held_val 10 rfl (by kernel_rfl) (by kernel_rfl) (by kernel_rfl) (fun _ _ _ _ h => h) (by rfl) hS ?_
    apply Exists.intro
    refine ⟨fun w' hw' => ?_, ?_⟩
    · skip
      go_simp
      first | done | rfl | exact ⟨rfl, rfl⟩
    simp only [Act.put, List.setIfInBounds_toArray, List.set_cons_zero, List.set_cons_succ]
    refine held_one 11 (by kernel_rfl) rfl (by rfl) ?_
    unfold Oper.wp
    go_simp
    refine ⟨rT5.other hTR _ _, ?_⟩
    refine wpAnyH_done (by kernel_rfl) ?_ _
    have q6 := FIN2.out.1
    have c6 := Rq.steps q6.q
    replace FIN2 := Lib.hid FIN2.out
    clear q6 c5 f5 hS rT5
    generalize w5.setCell ⟨R, 1, none⟩ (.slice (some ⟨g', 0, none⟩) (S.length + 1) cap') = w6 at *
    go_wp2_with fail
    go_ret
    exact ⟨by simp, _, _, FIN2.out.1, FIN2.out.2⟩
  · refine wp_row_step (X ++ [nilS]) (by simp [hX]) _ rfl rfl ?_
    refine ⟨rT1.stay hal, ?_⟩
    simp only [Act.put, List.setIfInBounds_toArray, List.set_cons_zero, List.set_cons_succ]
    have hV2 := (h2.stay hal).q.steps
    refine held_one 4 (by kernel_rfl) rfl (by rfl) ?_
    unfold Oper.wp
    go_simp
    first | refine ⟨rT1.stay hal, ?_⟩ | skip
    have h3 := h2.stay hal
    have rY := Rw.new D1 66 (X ++ [nilS])
    have rT2 := rT1.stay hal
    have hb3 := hb2.trans (hal.mono hb2.size)
    have hG := hb2.size
    replace hS : Rw _ w.heap.size 64 X := rT2
    generalize D1.alloc (.cells (X ++ [nilS]).toArray 66) = D2 at *
    generalize D1.heap.size = G at *
    refine held_one 8 (by kernel_rfl) rfl (by rfl) ?_
    refine wp_own_at (.tmp 9) (.tmp 12) 53 rfl (R + 1) 66 i0 Z0 257 280 Try.underlying53 hi hz0 hz1 hz2 hzs (by decide) _ S.length _ rfl h3.st.row G (X ++ [nilS]) rfl (by simp [hX]) rY hone2 (by unfold maxLen; omega) (by omega) (by have := Rw.lt h3.q; omega) ?_
    intro V' w5 hO hg hloc
    have rT5 := rT2.grown hg hVT
    refine ⟨rT5, ?_⟩
    have FIN := add_fin (EX ()) h3 hb3 hO hg hloc rfl
    have q5 : Rq w5 R l (.slice aV S.length cV) := Rw.grown h3.q hg (fun e => by have := (h3.st.row.lt _ e).1; omega)
    have c5 := Rq.steps q5
    have f5 := Rw.frozen q5 1
    obtain ⟨g', cap', rfl⟩ := own_succ hO
    have FIN2 := Lib.hid FIN
    clear FIN q5 hO hg hloc h3 rY rT2 rT1 h2
    replace hS : Rw w5 w.heap.size 64 X := rT5
    simp only [Act.put, List.setIfInBounds_toArray, List.set_cons_zero, List.set_cons_succ]
    refine held_val 9 rfl (by kernel_rfl) (by kernel_rfl) (by kernel_rfl) (fun _ _ _ _ h => h) (by rfl) hS ?_
    apply Exists.intro
    refine ⟨fun w' hw' => ?_, ?_⟩
    · skip
      go_simp
      first | done | rfl | exact ⟨rfl, rfl⟩
    simp only [Act.put, List.setIfInBounds_toArray, List.set_cons_zero, List.set_cons_succ]
    refine held_val 10 rfl (by kernel_rfl) (by kernel_rfl) (by kernel_rfl) (fun _ _ _ _ h => h) (by rfl) hS ?_
    apply Exists.intro
    refine ⟨fun w' hw' => ?_, ?_⟩
    · skip
      go_simp
      first | done | rfl | exact ⟨rfl, rfl⟩
    simp only [Act.put, List.setIfInBounds_toArray, List.set_cons_zero, List.set_cons_succ]
    refine held_one 11 (by kernel_rfl) rfl (by rfl) ?_
    unfold Oper.wp
    go_simp
    refine ⟨rT5.other hTR _ _, ?_⟩
    refine wpAnyH_done (by kernel_rfl) ?_ _
    have q6 := FIN2.out.1
    have c6 := Rq.steps q6.q
    replace FIN2 := Lib.hid FIN2.out
    clear q6 c5 f5 hS rT5
    generalize w5.setCell ⟨R, 1, none⟩ (.slice (some ⟨g', 0, none⟩) (S.length + 1) cap') = w6 at *
    go_wp2_with fail
    go_ret
    exact ⟨by simp, _, _, FIN2.out.1, FIN2.out.2⟩
end Go.Proofs.Ytakkcofmbafneaa
