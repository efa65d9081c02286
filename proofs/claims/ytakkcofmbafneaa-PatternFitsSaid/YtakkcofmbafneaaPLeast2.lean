/- The least text of a pattern. -/
import Derived.Test.YtakkcofmbafneaaPLeast1
import Derived.Laws.MakeOwn
namespace Go.Proofs.Ytakkcofmbafneaa
open Go.ChangeShapes Go.WideShapes Go.RowKit

def put2 (xs : List Value) (q : Nat) (cs : List Value) : List Value := xs.take (q * 2) ++ cs ++ xs.drop (q * 2 + 2)
theorem put2_len {xs cs : List Value} {q : Nat} (hc : cs.length = 2) (hq : q * 2 + 2 ≤ xs.length) : (put2 xs q cs).length = xs.length := by
  unfold put2
  simp only [List.length_append, List.length_take, List.length_drop, hc]
  omega
theorem put2_same {xs cs : List Value} {q j : Nat} (hc : cs.length = 2) (hq : q * 2 + 2 ≤ xs.length) (hj : j < 2) : (put2 xs q cs)[q * 2 + j]? = cs[j]? := by
  unfold put2
  rw [List.append_assoc, List.getElem?_append_right (by simp only [List.length_take]; omega), List.length_take, show q * 2 + j - min (q * 2) xs.length = j by omega, List.getElem?_append_left (by omega)]
theorem put2_other {xs cs : List Value} {q m j : Nat} (hc : cs.length = 2) (hq : q * 2 + 2 ≤ xs.length) (hj : j < 2) (hm : m ≠ q) : (put2 xs q cs)[m * 2 + j]? = xs[m * 2 + j]? := by
  unfold put2
  rcases Nat.lt_or_gt_of_ne hm with h | h
  · rw [List.append_assoc, List.getElem?_append_left (by simp only [List.length_take]; omega), List.getElem?_take, if_pos (by omega)]
  · rw [List.getElem?_append_right (by simp only [List.length_append, List.length_take, hc]; omega), List.getElem?_drop]
    simp only [List.length_append, List.length_take, hc]
    rw [show q * 2 + 2 + (m * 2 + j - (min (q * 2) xs.length + 2)) = m * 2 + j by omega]
theorem run_store_way {w : World} {g q : Nat} {xs : List Value} (hr : Rw w g 71 xs) (hq : q * 2 + 2 ≤ xs.length) (b : Option Bx) : (storeVar 71 ⟨g, q * 2, none⟩ (wayV b)).run Try.prog w = .ok () (w.setRow g (put2 xs q (WayC b)).toArray) := by
  have hst := run_storeCells_at (P := Try.prog) g (q * 2) 71 (WayC b) 0 xs.toArray w hr (by rw [WayC_len]; simpa using hq) (WayC_one b)
  simp only [Nat.add_zero] at hst
  rw [wayV_cells]
  have hi : (Try.prog.info? 71).map (·.size) = some 2 := by kernel_rfl
  cases hx : Try.prog.info? 71 with
  | none => rw [hx] at hi; cases hi
  | some i =>
    rw [hx] at hi
    simp only [Option.map_some, Option.some.injEq] at hi
    have hl := WayC_len b
    rw [hl] at hst
    simpa [storeVar, sizeOf, typeInfo, hx, hi, Value.cells, hl, put2] using hst
theorem wp_store_at {o : Oper} {a : Act} {w : World} {K : Act → World → Prop} {Q : Exit → Act → World → Prop} {g q : Nat} {xs : List Value} (hr : Rw w g 71 xs) (hq : q * 2 + 2 ≤ xs.length) (b : Option Bx) (x y : Operand) (ho : o.op = .store 71 x y) (hx : a.eval x = .pointer (some ⟨g, q * 2, none⟩)) (hy : a.eval y = wayV b)
    (h : K (a.put o.dst undef) (w.setRow g (put2 xs q (WayC b)).toArray)) : o.wp Try.prog a w K Q := by
  unfold Oper.wp execOp
  simp only [ho, hx, hy, Instr.storeAt, Instr.sureAddr, Sem.run_bind, Sem.run_pure, Result.andThen_ok, run_store_way hr hq b]
  exact h
/-- The ways from step k on are there. -/
structure Done (S : List Stp) (xs : List Value) (k : Nat) (f : Nat → Option Bx) : Prop where
  len : xs.length = (S.length + 1) * 2
  lst : ∀ m, k ≤ m → m ≤ S.length → IsLst (Fw S m) (f m) ∧ Bd (S.length - m) (f m)
  row : ∀ m, k ≤ m → m ≤ S.length → ∀ j, j < 2 → xs[m * 2 + j]? = (WayC (f m))[j]?
theorem Done.start (S : List Stp) {xs : List Value} (hl : xs.length = (S.length + 1) * 2) : Done S (put2 xs S.length (WayC (some []))) S.length (fun _ => some []) := by
  have hq : S.length * 2 + 2 ≤ xs.length := by omega
  refine ⟨by rw [put2_len (WayC_len _) hq, hl], fun m h1 h2 => ?_, fun m h1 h2 j hj => ?_⟩
  · obtain rfl : m = S.length := by omega
    exact ⟨⟨(fw_end S []).2 rfl, fun s hs => by rw [(fw_end S s).1 hs]; exact le_refl _⟩, fun t e => by injection e with e; rw [← e]; simp⟩
  · obtain rfl : m = S.length := by omega
    exact put2_same (WayC_len _) hq hj
theorem Done.step {S : List Stp} {xs : List Value} {k : Nat} {f : Nat → Option Bx} {o : Option Bx} (h : Done S xs (k + 1) f) (hk : k < S.length) (ho : IsLst (Fw S k) o) (hb : Bd (S.length - k) o) : Done S (put2 xs k (WayC o)) k (fun m => if m = k then o else f m) := by
  have hq : k * 2 + 2 ≤ xs.length := by rw [h.len]; omega
  refine ⟨by rw [put2_len (WayC_len _) hq, h.len], fun m h1 h2 => ?_, fun m h1 h2 j hj => ?_⟩
  · by_cases e : m = k
    · subst e; simp only [if_true]; exact ⟨ho, hb⟩
    · simp only [if_neg e]; exact h.lst m (by omega) h2
  · by_cases e : m = k
    · subst e; simp only [if_true]; exact put2_same (WayC_len _) hq hj
    · simp only [if_neg e]; rw [put2_other (WayC_len _) hq hj e]; exact h.row m (by omega) h2 j hj
theorem Done.behind {S : List Stp} {xs : List Value} {k : Nat} {f : Nat → Option Bx} (h : Done S xs (k + 1) f) {w : World} {L : Nat} (hr : Rw w L 71 xs) : Behind w L k S.length f := fun m h1 h2 j v hv => by
  have hj : j < 2 := by have := (List.getElem?_eq_some_iff.1 hv).1; rwa [WayC_len] at this
  rw [hr.cell, h.row m (by omega) h2 j hj]
  exact hv
def wayT : Option Bx → Value
  | none => .tuple #[.string ⟨([] : Bs).toArray⟩, .bool false]
  | some t => .tuple #[.string ⟨t.toArray⟩, .bool true]
def LeastP (S : List Stp) (w : World) (e : Ending) (w' : World) : Prop := (∃ o, e = .returned (wayT o) ∧ IsLst (Fw S 0) o ∧ Bd S.length o) ∧ Below w.heap.size w w'
theorem make_ways (n : Nat) (w : World) (hn : n ≤ 1000) : ∃ X : List Value, X.length = (n + 1) * 2 ∧ (Instr.makeSlice 69 (.int .i64 ((n : Int) + 1)) (.int .i64 ((n : Int) + 1))).run Try.prog w = .ok (.slice (some ⟨w.heap.size, 0, none⟩) (n + 1) (n + 1)) (w.alloc (.cells X.toArray 71)) := by
  have hi : (Try.prog.info? 71).map (fun i => (i.zero, i.size, i.bytes)) = some (some (wayV none), 2, 24) := by kernel_rfl
  obtain ⟨i, h1, h2, h3, h4⟩ := info_parts0 hi
  have h := run_makeSlice (P := Try.prog) w 69 71 i _ Try.underlying69 h1 h2 .i64 .i64 ((n : Int) + 1) ((n : Int) + 1) (by omega) (Int.le_refl _) (by rw [h3]; omega) (by rw [h4]; omega) (by omega)
  rw [show ((n : Int) + 1).toNat = n + 1 by omega, h3] at h
  refine ⟨(madeCells (wayV none).cells ((n + 1) * 2)).toList, ?_, h⟩
  rw [Array.length_toList, size_madeCells]
set_option maxHeartbeats 12800000 in
set_option maxRecDepth 100000 in
theorem leastm_any (G base : Nat) (t : Bs) (S : List Stp) (V : Value) (F : List Value) (hT : Tame S) (hS : 0 < S.length) (w : World) (hP : PatAt w G base t S V F) :
    Calls Try.prog 18 #[.pointer (some ⟨G, 0, none⟩)] w (LeastP S w) := by
  have hN := hT.len
  have HT : Unit → Tame S := fun _ => hT
  obtain ⟨Gs, cap, eV⟩ := own_pos hP.st.row hS
  subst eV
  have c0 : w.cell? ⟨G, 1, none⟩ = some (.slice (some ⟨Gs, 0, none⟩) S.length cap) := Rw.cell hP.row 1
  clear hT
  obtain ⟨X, hX, hmk⟩ := make_ways S.length w hN
  obtain ⟨L, hLe⟩ : ∃ L, w.heap.size = L := ⟨_, rfl⟩
  have hb1 := (Below.refl w.heap.size w).alloc (Nat.le_refl _) (.cells X.toArray 71)
  have r1 := Rw.new w 71 X
  have hP1 := hP.stay hb1
  rw [hLe] at hmk r1
  obtain ⟨w1, hw1⟩ : ∃ w1, w.alloc (.cells X.toArray 71) = w1 := ⟨_, rfl⟩
  rw [hw1] at hmk r1 hP1 hb1
  clear hw1
  have c1 : w1.cell? ⟨G, 1, none⟩ = some (.slice (some ⟨Gs, 0, none⟩) S.length cap) := Rw.cell hP1.row 1
  have hq1 : S.length * 2 + 2 ≤ X.length := by omega
  have hdn := Done.start S hX
  have hLw : w.heap.size ≤ L := by omega
  have hGL : G ≠ L := by have := Rw.lt hP.row; omega
  have hFL : ∀ i, Foot (.slice (some ⟨Gs, 0, none⟩) S.length cap) F i → ¬ i = L := fun i hi e => by have := (hP.st.lt hi).2; omega
  have hsi : (S.length : Int) < (S.length : Int) + 1 := by omega
  have hbw : (Value.agg #[.string ⟨#[]⟩, .bool true]) = wayV (some []) := rfl
  go_enter Try.func18, Try.ntmps18
  go_upto_region 5 with (refine wpList_plain rfl (fun K hK => wp_store_at r1 hq1 (some []) _ _ rfl rfl rfl (hK _ _ ?_)))
  have r2 : Rw (w1.setRow L (put2 X S.length (WayC (some []))).toArray) L 71 (put2 X S.length (WayC (some []))) := r1.setRow
  have hA2 : Asd (· = L) w1 (w1.setRow L (put2 X S.length (WayC (some []))).toArray) := (Asd.refl _ _).setRow (.inl rfl)
  have hB2 := below_asd hb1 hA2 hb1.size (fun i (hi : i = L) => by omega)
  have c2 : (w1.setRow L (put2 X S.length (WayC (some []))).toArray).cell? ⟨G, 1, none⟩ = some (.slice (some ⟨Gs, 0, none⟩) S.length cap) := Rw.cell (hP1.keep hA2 hGL hFL).row 1
  generalize w1.setRow L (put2 X S.length (WayC (some []))).toArray = w2 at *
  generalize put2 X S.length (WayC (some [])) = X2 at *
  clear hmk r1 hb1 c1 hP1 hA2 hq1 hX hbw c0
  go_upto_region 6 with fail
  go_loopw [5] (fun kv wr => ∃ (k' : Nat) (z : Int) (xs : List Value) (f : Nat → Option Bx), k' ≤ S.length ∧ z = (k' : Int) - 1 ∧ kv = .int .i64 z ∧ Rw wr L 71 xs ∧ Done S xs k' f ∧ Below w.heap.size w wr) (fun kv _ => (intOf kv + 1).toNat)
  case atStart => exact ⟨S.length, _, X2, _, Nat.le_refl _, rfl, rfl, r2, hdn, hB2⟩
  case round =>
    obtain ⟨k', z, xs, f, hk', hz, rfl, rL, hd, hBr⟩ := hrel
    clear r2 hdn hB2 c2
    have hPr := hP.stay hBr
    have cr : wr.cell? ⟨G, 1, none⟩ = some (.slice (some ⟨Gs, 0, none⟩) S.length cap) := Rw.cell hPr.row 1
    by_cases h0 : k' = 0
    · have hz1 : z = -1 := by omega
      subst hz1
      rw [h0] at hd
      have h00 := hd.row 0 (Nat.le_refl _) (Nat.zero_le _) 0 (by omega)
      have h01 := hd.row 0 (Nat.le_refl _) (Nat.zero_le _) 1 (by omega)
      clear hz h0 hPr
      cases hf0 : f 0 with
      | none =>
        have e0 : wr.cell? ⟨L, 0, none⟩ = some (.string ⟨([] : Bs).toArray⟩) := by rw [rL.cell, h00, hf0]; rfl
        have e1 : wr.cell? ⟨L, 1, none⟩ = some (.bool false) := by rw [rL.cell, h01, hf0]; rfl
        have HLF : Unit → IsLst (Fw S 0) (none) ∧ Bd S.length (none) := fun _ => by have := hd.lst 0 (Nat.le_refl _) (Nat.zero_le _); rw [hf0] at this; exact this
        clear h00 h01 hd hf0 rL
        go_upto_region 9 with fail
        try simp only [List.append_eq, List.cons_append, List.nil_append]
        refine region_class (fun w' => w' = wr.drew ∧ w'.cell? ⟨L, 0, none⟩ = some (.string ⟨([] : Bs).toArray⟩) ∧ w'.cell? ⟨L, 1, none⟩ = some (.bool false)) (by kernel_rfl) (by kernel_rfl) (⟨rfl, e0, e1⟩) ?_
        repeat
          first
          | go_big_quiet_skip
          | (go_big_quiet_want
             refine quiet_val ?_
             apply Exists.intro
             refine ⟨fun w' hw' => ?_, ?_⟩
             · obtain ⟨_, e2, e3⟩ := hw'
               go_simp
               first | done | rfl | exact ⟨rfl, rfl⟩
             simp only [Act.put, List.setIfInBounds_toArray, List.set_cons_zero, List.set_cons_succ]
             go_big_quiet_on)
          | (go_big_quiet_want
             refine quiet_call ?_
             apply Exists.intro
             apply Exists.intro
             refine ⟨fun w' => ?_, ?_⟩
             · go_simp
               first | done | rfl | exact ⟨rfl, rfl⟩
             apply Exists.intro
             refine ⟨fun w' hw' => ?_, ?_⟩
             · first
               | fail
             simp only [Act.put, List.setIfInBounds_toArray, List.set_cons_zero, List.set_cons_succ]
             go_big_quiet_on)
        refine wpQuiet_nil ?_
        intro w5 hw5
        have hB9 : Below w.heap.size w w5 := by rw [hw5.1]; exact hBr.trans ((Below.refl _ _).drew)
        clear hw5 hBr e0 e1
        go_wp2_with fail
        go_ret2
        exact ⟨⟨none, rfl, (HLF ()).1, (HLF ()).2⟩, hB9⟩
      | some u =>
        have e0 : wr.cell? ⟨L, 0, none⟩ = some (.string ⟨u.toArray⟩) := by rw [rL.cell, h00, hf0]; rfl
        have e1 : wr.cell? ⟨L, 1, none⟩ = some (.bool true) := by rw [rL.cell, h01, hf0]; rfl
        have HLF : Unit → IsLst (Fw S 0) (some u) ∧ Bd S.length (some u) := fun _ => by have := hd.lst 0 (Nat.le_refl _) (Nat.zero_le _); rw [hf0] at this; exact this
        clear h00 h01 hd hf0 rL
        go_upto_region 9 with fail
        try simp only [List.append_eq, List.cons_append, List.nil_append]
        refine region_class (fun w' => w' = wr.drew ∧ w'.cell? ⟨L, 0, none⟩ = some (.string ⟨u.toArray⟩) ∧ w'.cell? ⟨L, 1, none⟩ = some (.bool true)) (by kernel_rfl) (by kernel_rfl) (⟨rfl, e0, e1⟩) ?_
        repeat
          first
          | go_big_quiet_skip
          | (go_big_quiet_want
             refine quiet_val ?_
             apply Exists.intro
             refine ⟨fun w' hw' => ?_, ?_⟩
             · obtain ⟨_, e2, e3⟩ := hw'
               go_simp
               first | done | rfl | exact ⟨rfl, rfl⟩
             simp only [Act.put, List.setIfInBounds_toArray, List.set_cons_zero, List.set_cons_succ]
             go_big_quiet_on)
          | (go_big_quiet_want
             refine quiet_call ?_
             apply Exists.intro
             apply Exists.intro
             refine ⟨fun w' => ?_, ?_⟩
             · go_simp
               first | done | rfl | exact ⟨rfl, rfl⟩
             apply Exists.intro
             refine ⟨fun w' hw' => ?_, ?_⟩
             · first
               | fail
             simp only [Act.put, List.setIfInBounds_toArray, List.set_cons_zero, List.set_cons_succ]
             go_big_quiet_on)
        refine wpQuiet_nil ?_
        intro w5 hw5
        have hB9 : Below w.heap.size w w5 := by rw [hw5.1]; exact hBr.trans ((Below.refl _ _).drew)
        clear hw5 hBr e0 e1
        go_wp2_with fail
        go_ret2
        exact ⟨⟨some u, rfl, (HLF ()).1, (HLF ()).2⟩, hB9⟩
    · obtain ⟨k, rfl⟩ : ∃ k, k' = k + 1 := ⟨k' - 1, by omega⟩
      have hzk : z = (k : Int) := by omega
      subst hzk
      have hks : k < S.length := by omega
      have hki : (k : Int) < (S.length : Int) := by omega
      have hki1 : (k : Int) < (S.length : Int) + 1 := by omega
      obtain ⟨s, hs⟩ : ∃ s, S[k]? = some s := ⟨_, List.getElem?_eq_getElem hks⟩
      have K := Lib.hid (least1_any base Gs cap L (S.length + 1) k S F s f wr hPr.st hs (HT ()) (fun m h1 h2 => (hd.lst m (by omega) h2).1) (hd.behind rL) (fun m h1 h2 => (hd.lst m (by omega) h2).2))
      have hstep := fun o a b => hd.step (o := o) hks a b
      have hqx : k * 2 + 2 ≤ xs.length := by rw [hd.len]; omega
      clear hs hPr hd h0 hz
      go_wp2_with fail
      refine K.out.mono ?_
      rintro e w5 ⟨⟨o, rfl, ho, hbo⟩, hb5⟩
      have hd6 := hstep o ho hbo
      have r5 := rL.stay hb5
      have hB5 : Below w.heap.size w w5 := hBr.trans (hb5.mono hBr.size)
      have HD6 : Unit → _ := fun _ => hd6
      clear hd6 hstep K rL hBr hb5 cr ho hbo
      have r6 : Rw (w5.setRow L (put2 xs k (WayC o)).toArray) L 71 (put2 xs k (WayC o)) := r5.setRow
      have hB6 : Below w.heap.size w (w5.setRow L (put2 xs k (WayC o)).toArray) := below_asd hB5 ((Asd.refl (· = L) w5).setRow (.inl rfl)) hB5.size (fun i (hi : i = L) => by omega)
      go_upto_region 7 with (refine wpList_plain rfl (fun K hK => wp_store_at r5 hqx o _ _ rfl rfl rfl (hK _ _ ?_)))
      generalize w5.setRow L (put2 xs k (WayC o)).toArray = w6 at *
      clear r5 hB5
      go_wp2_with fail
      go_roundw
      case rel => exact ⟨k, (k : Int) - 1, _, _, by omega, rfl, by go_num, r6, HD6 (), hB6⟩
      case measure => simp [intOf]
end Go.Proofs.Ytakkcofmbafneaa
