/- The least way from a step. -/
import Derived.Test.YtakkcofmbafneaaPWay
namespace Go.Proofs.Ytakkcofmbafneaa
open Go.ChangeShapes Go.WideShapes Go.RowKit

/-- The least ways from the steps behind step k. -/
def Behind (w : World) (L k N : Nat) (f : Nat → Option Bx) : Prop := ∀ m, k < m → m ≤ N → Cls w L (m * 2) (WayC (f m))
theorem Behind.stay {w w' : World} {L k N : Nat} {f : Nat → Option Bx} (h : Behind w L k N f) (hb : Below w.heap.size w w') : Behind w' L k N f := fun m h1 h2 => (h m h1 h2).stay hb
/-- A way's text has at most n bytes. -/
def Bd (n : Nat) (o : Option Bx) : Prop := ∀ t, o = some t → t.length ≤ n
theorem Bd.lesr {n : Nat} {a b : Option Bx} (ha : Bd n a) (hb : Bd n b) : Bd n (lesr a b) := by
  cases a with
  | none => exact hb
  | some x => cases b with
    | none => exact ha
    | some y =>
      show Bd n (if cf y x then some y else some x)
      split
      · exact hb
      · exact ha
theorem Bd.mono {n m : Nat} {o : Option Bx} (h : Bd n o) (hm : n ≤ m) : Bd m o := fun t e => Nat.le_trans (h t e) hm
theorem Bd.best {N k : Nat} {f : Nat → Option Bx} (hf : ∀ m, k < m → m ≤ N → Bd (N - m) (f m)) (l : List Nat) (hl : ∀ m ∈ l, m ≤ N) {b : Option Bx} (hb : Bd (N - k) b) : Bd (N - k) (bestF f k l b) := by
  induction l generalizing b with
  | nil => exact hb
  | cons m l ih =>
    rw [bestF]
    refine ih (fun m' h => hl m' (by simp [h])) ?_
    split
    · rename_i h
      exact hb.lesr ((hf m h (hl m (by simp))).mono (by omega))
    · exact hb
theorem cat_byte (c : UInt8) (u : Bs) (h : u.length ≤ 1000000) (w : World) : (binOp .add 9 (.string ⟨[c].toArray⟩) (.string ⟨u.toArray⟩)).run Try.prog w = .ok (.string ⟨(c :: u).toArray⟩) w := by
  have hcat : (⟨[c].toArray⟩ : ByteArray) ++ ⟨u.toArray⟩ = ⟨(c :: u).toArray⟩ := by apply ByteArray.ext; apply Array.ext'; simp
  have h1 : (⟨[c].toArray⟩ : ByteArray).size = 1 := rfl
  have h2 : (⟨u.toArray⟩ : ByteArray).size = u.length := by simp [ByteArray.size]
  have hm : ¬ (((1 + u.length : Nat) : Int) > IntKind.i64.max) := by rw [show IntKind.i64.max = 9223372036854775807 by decide]; omega
  unfold binOp
  simp only [Op.stringOp, h1, h2, if_neg hm, hcat]
  rfl
theorem exec_cat {o : Oper} {a : Act} {c : UInt8} {u : Bs} (x y : Operand) (ho : o.op = .binOp .add 9 x y 9) (hx : a.eval x = .string ⟨[c].toArray⟩) (hy : a.eval y = .string ⟨u.toArray⟩) (h : u.length ≤ 1000000) (w : World) : (execOp a.eval o).run Try.prog w = .ok (.value (.string ⟨(c :: u).toArray⟩)) w := by
  unfold execOp
  simp only [ho, hx, hy, Sem.run_bind, cat_byte c u h, Sem.run_pure]
  rfl
def LeastQ (S : List Stp) (k : Nat) (w : World) (e : Ending) (w' : World) : Prop := (∃ o, e = .returned (wayV o) ∧ IsLst (Fw S k) o ∧ Bd (S.length - k) o) ∧ Below w.heap.size w w'
theorem best_step (f : Nat → Option Bx) (k : Nat) {l : List Nat} {j x : Nat} (h : l[j]? = some x) (b : Option Bx) : bestF f k (l.drop j) b = bestF f k (l.drop (j + 1)) (if k < x then lesr b (f x) else b) := by
  obtain ⟨hlt, rfl⟩ := List.getElem?_eq_some_iff.1 h
  rw [List.drop_eq_getElem_cons hlt, bestF]
theorem best_all {S : List Stp} {f : Nat → Option Bx} {k : Nat} {s : Stp} (hs : S[k]? = some s) (hf : ∀ m, k < m → m ≤ S.length → IsLst (Fw S m) (f m)) (hd : ∀ x ∈ s.free, x ≤ S.length) {o : Option Bx} (ho : IsLst (fun u => ∃ d t, u = d :: t ∧ s.set d = true ∧ Fw S (k + 1) t) o) :
    IsLst (Fw S k) (lesr (bestF f k s.free none) o) := by
  have h1 := bestF_lst hf s.free hd (L := fun _ => False) (b := none) (fun _ h => h)
  refine (lesr_lst h1 ho).iff fun u => ?_
  rw [fw_at hs]
  exact ⟨fun h => h.elim (fun h => h.elim False.elim .inl) .inr, fun h => h.elim (fun h => .inl (.inr h)) .inr⟩
theorem lesr_none (a : Option Bx) : lesr a none = a := by cases a <;> rfl
theorem results_way {w : World} {A : Nat} {o : Option Bx} {a : Array Value} (h : Rw w A 71 (WayC o)) (ha : a.getD 6 undef = .pointer (some ⟨A, 0, none⟩)) : (results Try.f26 a).run Try.prog w = .ok (wayV o) w := by
  have := results_cell_row (P := Try.prog) (fn := Try.f26) rfl a w A 71 (WayC o).toArray (0, 0) _ ha h Try.underlying71 rfl (by rw [show (WayC o).toArray.size = 2 by simp [WayC_len]]; kernel_rfl)
  rw [this, wayV_cells]
set_option maxHeartbeats 12800000 in
set_option maxRecDepth 100000 in
theorem least1_any (base G cap L cL k : Nat) (S : List Stp) (F : List Value) (s : Stp) (f : Nat → Option Bx) (w : World) (hP : StepsAt w base (.slice (some ⟨G, 0, none⟩) S.length cap) S F) (hs : S[k]? = some s) (hT : Tame S)
    (hf : ∀ m, k < m → m ≤ S.length → IsLst (Fw S m) (f m)) (hB : Behind w L k S.length f) (hbd : ∀ m, k < m → m ≤ S.length → Bd (S.length - m) (f m)) :
    Calls Try.prog 26 #[.pointer (some ⟨G, k * 257, none⟩), .int .i64 (k : Int), .slice (some ⟨L, 0, none⟩) (S.length + 1) cL] w (LeastQ S k w) := by
  have hk := (List.getElem?_eq_some_iff.1 hs).1
  have hN := hT.len
  have HD : Unit → ∀ x ∈ s.free, x ≤ S.length := fun _ => hT.dest s (List.mem_of_getElem? hs)
  have hfew := hT.few s (List.mem_of_getElem? hs)
  obtain ⟨fv, hfv⟩ : ∃ fv, F[k]? = some fv := ⟨_, List.getElem?_eq_getElem (by rw [hP.len]; exact hk)⟩
  have HA : Unit → ∀ o, IsLst (fun u => ∃ d t, u = d :: t ∧ s.set d = true ∧ Fw S (k + 1) t) o → Bd (S.length - k) o → IsLst (Fw S k) (lesr (bestF f k s.free none) o) ∧ Bd (S.length - k) (lesr (bestF f k s.free none) o) := fun _ o ho hb => ⟨best_all hs hf (HD ()) ho, (Bd.best hbd s.free (HD ()) (fun t e => by cases e)).lesr hb⟩
  have HF : Unit → IsLst (Fw S (k + 1)) (f (k + 1)) ∧ Bd (S.length - (k + 1)) (f (k + 1)) := fun _ => ⟨hf (k + 1) (by omega) (by omega), hbd (k + 1) (by omega) (by omega)⟩
  have hslot := steps_slot hP hs hfv
  have hset := set_steps hP hs hfv
  have hrow := hP.free k s fv hs hfv
  obtain ⟨af, cf, ef, _⟩ := own_slice hrow
  subst ef
  have hzw : ∀ w, (zeroValue 71).run Try.prog w = .ok (.agg (WayC none).toArray) w := fun w => by kernel_rfl
  have hb1 := (Below.refl w.heap.size w).alloc (Nat.le_refl _) (.cells (WayC none).toArray 71)
  have r1 := Rw.new w 71 (WayC none)
  have HBE : Unit → ∀ w', Below w.heap.size w w' → Behind w' L k S.length f := fun _ w' h => hB.stay h
  have HSE : Unit → ∀ w', Below w.heap.size w w' → SetAt w' G (k * 257) s.set := fun _ w' h => hset.stay h
  clear hf hT hbd
  go_enter Try.func26, Try.ntmps26
  go_upto_region 2 with fail
  have hb2 := hb1.trans ((Below.refl _ _).alloc (by have := hb1.size; omega) (.cells (WayC none).toArray 71) : Below w.heap.size _ _)
  have r2 := r1.stay ((Below.refl _ _).alloc (Nat.le_refl _) (.cells (WayC none).toArray 71))
  have r3 := Rw.new (w.alloc (.cells (WayC none).toArray 71)) 71 (WayC none)
  rw [show (w.alloc (.cells (WayC none).toArray 71)).heap.size = w.heap.size + 1 by simp] at r3
  have hB2 := hB.stay hb2
  have hP2 := hP.stay hb2
  have hset2 := hset.stay hb2
  have hslot2 : ((w.alloc (.cells (WayC none).toArray 71)).alloc (.cells (WayC none).toArray 71)).cell? ⟨G, k * 257 + 256, none⟩ = some (.slice af s.free.length cf) := (hb2.cell (World.block_lt_of_cell? w _ hslot)).trans hslot
  generalize (w.alloc (.cells (WayC none).toArray 71)).alloc (.cells (WayC none).toArray 71) = w2 at *
  clear hb1 r1 hzw hslot hB hset hrow
  go_upto_region 3 with fail
  go_loopw [16] (fun iv wr => ∃ (j : Nat) (b : Option Bx), j ≤ s.free.length ∧ iv = .int .i64 (j : Int) ∧ bestF f k (s.free.drop j) b = bestF f k s.free none ∧ Rw wr w.heap.size 71 (WayC none) ∧ Rw wr (w.heap.size + 1) 71 (WayC b) ∧ Below w.heap.size w wr) (fun iv _ => s.free.length - (intOf iv).toNat)
  case atStart => exact ⟨0, none, Nat.zero_le _, rfl, rfl, r2, r3, hb2⟩
  case round =>
    obtain ⟨j, b, hj, rfl, hbest, rA, rB, hBr⟩ := hrel
    have HB : Unit → bestF f k (s.free.drop j) b = bestF f k s.free none := fun _ => hbest
    clear hbest r2 r3 hb2 hslot2 hset2 hP2 hB2
    have hBe := HBE () wr hBr
    have hPr := hP.stay hBr
    by_cases hlt : j < s.free.length
    · have hji : (j : Int) < (s.free.length : Int) := by omega
      obtain ⟨x, hx⟩ : ∃ x, s.free[j]? = some x := ⟨_, List.getElem?_eq_getElem hlt⟩
      have hrow2 := hPr.free k s _ hs hfv
      obtain ⟨gf, capf, ef⟩ := own_pos hrow2 (by omega)
      injection ef with e1 _ e3
      subst e1 e3
      have hc := hrow2.cellAt j (by omega)
      rw [List.getElem?_map, hx] at hc
      change _ = some (Value.int .i64 (x : Int)) at hc
      have hxN := HD () x (List.mem_of_getElem? hx)
      have hst := best_step f k hx b
      have HST : Unit → _ := fun _ => hst
      clear hst hrow2 hPr
      by_cases hkx : k < x
      · have hkxi : (k : Int) < (x : Int) := by omega
        have hxi : (x : Int) < (S.length : Int) + 1 := by omega
        have cx := hBe x hkx hxN
        have cb := rB.cls
        go_upto_region 6 with fail
        refine region_loose (fun _ w' => Below wr.heap.size wr w') 6 6 1 #[true, true, true, true, true, true, false] rfl (by kernel_rfl) (by kernel_rfl) (by kernel_rfl) ((Below.refl _ _).drew) ?_
        simp only [List.take_succ_cons, List.take_zero]
        repeat
          first
          | (refine loose_val (by decide) rfl ⟨_, fun L' w' hw' => exec_way b (w.heap.size + 1) 0 _ rfl rfl (cb.stay hw'), ?_⟩
             simp only [Act.put, List.setIfInBounds_toArray, List.set_cons_zero, List.set_cons_succ])
          | (refine loose_val (by decide) rfl ⟨_, fun L' w' hw' => exec_way (f x) L (x * 2) _ rfl rfl (cx.stay hw'), ?_⟩
             simp only [Act.put, List.setIfInBounds_toArray, List.set_cons_zero, List.set_cons_succ])
          | (refine loose_val (by decide) rfl ?_
             apply Exists.intro
             refine ⟨fun L' w' hw' => ?_, ?_⟩
             · obtain _ := hw'
               go_simp
               first | done | rfl | exact ⟨rfl, rfl⟩
             simp only [Act.put, List.setIfInBounds_toArray, List.set_cons_zero, List.set_cons_succ])
          | (refine loose_call (by decide) rfl ?_
             apply Exists.intro
             apply Exists.intro
             refine ⟨fun w' => ?_, ?_⟩
             · go_simp
               first | done | rfl | exact ⟨rfl, rfl⟩
             apply Exists.intro
             refine ⟨fun L' w' hw' => ?_, ?_⟩
             · first
               | exact (lesser_any b (f x) w').mono (fun e w'' ⟨he, hb⟩ => ⟨he, hw'.trans (hb.mono hw'.size)⟩)
             simp only [Act.put, List.setIfInBounds_toArray, List.set_cons_zero, List.set_cons_succ])
          | (refine loose_new (by decide) rfl (fun L' w' hw' => ?_) (fun v => ?_)
             · fail
             simp only [Act.put, List.setIfInBounds_toArray, List.set_cons_zero, List.set_cons_succ])
        intro w5 hw5
        have rA5 := rA.stay hw5
        have rB5 := rB.stay hw5
        have hB5 : Below w.heap.size w w5 := hBr.trans (hw5.mono hBr.size)
        refine wpAny_of_held (S := fun _ => True) _ _ _ _ ?_
        refine held_one 6 (by kernel_rfl) rfl (by rfl) ?_
        refine store_way (w.heap.size + 1) b (lesr b (f x)) rB5 _ _ rfl rfl rfl ?_
        refine ⟨trivial, ?_⟩
        refine wpAnyH_done (by kernel_rfl) ?_ _
        have rA6 : Rw (w5.setRow (w.heap.size + 1) (WayC (lesr b (f x))).toArray) w.heap.size 71 (WayC none) := rA5.setRow_ne (by omega)
        have rB6 : Rw (w5.setRow (w.heap.size + 1) (WayC (lesr b (f x))).toArray) (w.heap.size + 1) 71 (WayC (lesr b (f x))) := rB5.setRow
        have hB6 : Below w.heap.size w (w5.setRow (w.heap.size + 1) (WayC (lesr b (f x))).toArray) := hB5.trans (((Asd.refl (· = w.heap.size + 1) w5).setRow (.inl rfl)).toBelow hB5.size (fun i hi => by omega))
        clear rA5 rB5 hB5 hw5 cx cb rA rB hBr hBe hc
        generalize w5.setRow (w.heap.size + 1) (WayC (lesr b (f x))).toArray = w6 at *
        go_wp2_with fail
        go_roundw
        case rel => exact ⟨j + 1, lesr b (f x), by omega, by go_num, by rw [← HB (), HST (), if_pos hkx], rA6, rB6, hB6⟩
        case measure => simp [intOf]; omega
      · have hkxi : ¬ ((k : Int) < (x : Int)) := by omega
        go_wp2_with fail
        go_roundw
        case rel => exact ⟨j + 1, b, by omega, by go_num, by rw [← HB (), HST (), if_neg hkx], rA, rB, hBr⟩
        case measure => simp [intOf]; omega
    · have hje : j = s.free.length := by omega
      have hnot : ¬ ((j : Int) < (s.free.length : Int)) := by omega
      have hbb : b = bestF f k s.free none := by rw [← HB (), hje, List.drop_length]; rfl
      have HBB : Unit → b = bestF f k s.free none := fun _ => hbb
      have hsr := HSE () wr hBr
      clear hje hbb HB hPr
      have KE := Lib.hid (empty_any G (k * 257) s.set wr hsr)
      have ck := hBe (k + 1) (by omega) (by omega)
      have hki : (k : Int) + 1 < (S.length : Int) + 1 := by omega
      cases hno : isNo s.set with
      | true =>
        have hfin : IsLst (Fw S k) b ∧ Bd (S.length - k) b := by
          have := HA () none (none_lst (.inl fun d => by rw [(isNo_iff _).1 hno]; rfl)) (fun t e => by cases e)
          rwa [lesr_none, ← HBB ()] at this
        have HFIN : Unit → IsLst (Fw S k) b ∧ Bd (S.length - k) b := fun _ => hfin
        rw [hno] at KE
        clear hfin HBB HA HF hBe ck
        go_wp2_with fail
        refine KE.out.mono ?_
        rintro e w6 ⟨rfl, hw6⟩
        obtain rfl : wr = w6 := hw6.symm
        clear KE hsr
        have rBx := rB.cls
        have hRA := rA
        go_wp2_with (first | refine wpList_exec (exec_way b (w.heap.size + 1) 0 _ rfl rfl rBx) rfl ?_ | refine wpList_plain rfl (fun K hK => store_way w.heap.size none b hRA _ _ rfl rfl rfl (hK _ _ ?_)))
        have rA9 : Rw (wr.setRow w.heap.size (WayC b).toArray) w.heap.size 71 (WayC b) := hRA.setRow
        have hB9 : Below w.heap.size w (wr.setRow w.heap.size (WayC b).toArray) := hBr.trans (((Asd.refl (· = w.heap.size) wr).setRow (.inl rfl)).toBelow hBr.size (fun i hi => by omega))
        refine bodyPost_ret (v := wayV b) ?_ rfl ?_
        · refine (results_way rA9 rfl)
        · exact ⟨⟨_, rfl, (HFIN ()).1, (HFIN ()).2⟩, hB9⟩
      | false =>
        rw [hno] at KE
        have hsetne : s.set ≠ noSet := fun e => by have := (isNo_iff s.set).2 e; rw [hno] at this; cases this
        cases hfk : f (k + 1) with
        | none =>
          have hfin : IsLst (Fw S k) b ∧ Bd (S.length - k) b := by
            have h0 := HF ()
            rw [hfk] at h0
            have := HA () none (none_lst (.inr h0.1)) (fun t e => by cases e)
            rwa [lesr_none, ← HBB ()] at this
          have HFIN : Unit → IsLst (Fw S k) b ∧ Bd (S.length - k) b := fun _ => hfin
          rw [hfk] at ck
          have e1 : wr.cell? ⟨L, (k + 1) * 2 + 1, none⟩ = some (.bool false) := ck 1 _ rfl
          clear hfin HBB HA HF hBe ck hfk hsetne
          go_wp2_with fail
          refine KE.out.mono ?_
          rintro e w6 ⟨rfl, hw6⟩
          obtain rfl : wr = w6 := hw6.symm
          clear KE hsr
          have rBx := rB.cls
          have hRA := rA
          go_wp2_with (first | refine wpList_exec (exec_way b (w.heap.size + 1) 0 _ rfl rfl rBx) rfl ?_ | refine wpList_plain rfl (fun K hK => store_way w.heap.size none b hRA _ _ rfl rfl rfl (hK _ _ ?_)))
          have rA9 : Rw (wr.setRow w.heap.size (WayC b).toArray) w.heap.size 71 (WayC b) := hRA.setRow
          have hB9 : Below w.heap.size w (wr.setRow w.heap.size (WayC b).toArray) := hBr.trans (((Asd.refl (· = w.heap.size) wr).setRow (.inl rfl)).toBelow hBr.size (fun i hi => by omega))
          refine bodyPost_ret (v := wayV b) ?_ rfl ?_
          · refine (results_way rA9 rfl)
          · exact ⟨⟨_, rfl, (HFIN ()).1, (HFIN ()).2⟩, hB9⟩
        | some u =>
          obtain ⟨c, hc⟩ := fst_ex hsetne
          have hfin : IsLst (Fw S k) (lesr b (some (c :: u))) ∧ Bd (S.length - k) (lesr b (some (c :: u))) := by
            have h0 := HF ()
            rw [hfk] at h0
            have := HA () _ (byte_lst hc h0.1) (fun t e => by injection e with e; have := h0.2 u rfl; rw [← e, List.length_cons]; omega)
            rwa [← HBB ()] at this
          have HFIN : Unit → IsLst (Fw S k) (lesr b (some (c :: u))) ∧ Bd (S.length - k) (lesr b (some (c :: u))) := fun _ => hfin
          rw [hfk] at ck
          have e1 : wr.cell? ⟨L, (k + 1) * 2 + 1, none⟩ = some (.bool true) := ck 1 _ rfl
          have e0 : wr.cell? ⟨L, (k + 1) * 2, none⟩ = some (.string ⟨u.toArray⟩) := ck 0 _ rfl
          have hLl := World.block_lt_of_cell? wr _ e0
          have hul : u.length ≤ 1000000 := by have := (HF ()).2 u hfk; omega
          have KC := Lib.hid fun w' h => first_is G (k * 257) s.set c hc w' h
          clear hfin HBB HA HF hBe ck hfk hsetne hc
          go_wp2_with fail
          refine KE.out.mono ?_
          rintro e w6 ⟨rfl, hw6⟩
          obtain rfl : wr = w6 := hw6.symm
          clear KE
          go_upto_region 9 with fail
          obtain ⟨K1, hK1⟩ : ∃ K1, k + 1 = K1 := ⟨_, rfl⟩
          have hwr : IntKind.i64.wrap ((k : Int) + 1) = (K1 : Int) := by rw [show (k : Int) + 1 = (K1 : Int) by omega]; simp [IntKind.wrap, IntKind.bits, IntKind.signed]; omega
          have hK1i : (K1 : Int) < (S.length : Int) + 1 := by omega
          rw [hK1] at e0
          clear e1 hki
          refine wp_region_held (S := fun w' => Below wr.heap.size wr w') (by kernel_rfl) ?_
          have hS : Below wr.heap.size wr { wr with drawn := wr.drawn + 1 } := (Below.refl _ _).drew
          have hset5 := hsr.stay hS
          generalize { wr with drawn := wr.drawn + 1 } = D1 at *
          refine held_val 0 rfl (by kernel_rfl) (by kernel_rfl) (by kernel_rfl) (fun _ _ _ _ h => h) (by rfl) hS ?_
          apply Exists.intro
          refine ⟨fun w' hw' => ?_, ?_⟩
          · skip
            go_simp
            first | done | rfl | exact ⟨rfl, rfl⟩
          simp only [Act.put, List.setIfInBounds_toArray, List.set_cons_zero, List.set_cons_succ]
          refine held_val 1 rfl (by kernel_rfl) (by kernel_rfl) (by kernel_rfl) (fun _ _ _ _ h => h) (by rfl) hS ?_
          apply Exists.intro
          refine ⟨fun w' hw' => ?_, ?_⟩
          · skip
            go_simp
            first | done | rfl | exact ⟨rfl, rfl⟩
          simp only [Act.put, List.setIfInBounds_toArray, List.set_cons_zero, List.set_cons_succ]
          refine held_val 2 rfl (by kernel_rfl) (by kernel_rfl) (by kernel_rfl) (fun _ _ _ _ h => h) (by rfl) hS ?_
          apply Exists.intro
          refine ⟨fun w' hw' => ?_, ?_⟩
          · skip
            go_simp
            first | done | rfl | exact ⟨rfl, rfl⟩
          simp only [Act.put, List.setIfInBounds_toArray, List.set_cons_zero, List.set_cons_succ]
          refine held_val 6 rfl (by kernel_rfl) (by kernel_rfl) (by kernel_rfl) (fun _ _ _ _ h => h) (by rfl) hS ?_
          apply Exists.intro
          refine ⟨fun w' hw' => ?_, ?_⟩
          · skip
            go_simp
            first | done | rfl | exact ⟨rfl, rfl⟩
          simp only [Act.put, List.setIfInBounds_toArray, List.set_cons_zero, List.set_cons_succ]
          refine held_val 7 rfl (by kernel_rfl) (by kernel_rfl) (by kernel_rfl) (fun _ _ _ _ h => h) (by rfl) hS ?_
          apply Exists.intro
          refine ⟨fun w' hw' => ?_, ?_⟩
          · skip
            go_simp
            first | done | rfl | exact ⟨rfl, rfl⟩
          simp only [Act.put, List.setIfInBounds_toArray, List.set_cons_zero, List.set_cons_succ]
          refine held_val 8 rfl (by kernel_rfl) (by kernel_rfl) (by kernel_rfl) (fun _ _ _ _ h => h) (by rfl) hS ?_
          apply Exists.intro
          refine ⟨fun w' hw' => ?_, ?_⟩
          · skip
            go_simp
            first | done | rfl | exact ⟨rfl, rfl⟩
          simp only [Act.put, List.setIfInBounds_toArray, List.set_cons_zero, List.set_cons_succ]
          refine held_val 9 rfl (by kernel_rfl) (by kernel_rfl) (by kernel_rfl) (fun _ _ _ _ h => h) (by rfl) hS ?_
          apply Exists.intro
          refine ⟨fun w' hw' => ?_, ?_⟩
          · skip
            go_simp
            first | done | rfl | exact ⟨rfl, rfl⟩
          simp only [Act.put, List.setIfInBounds_toArray, List.set_cons_zero, List.set_cons_succ]
          refine held_val 10 rfl (by kernel_rfl) (by kernel_rfl) (by kernel_rfl) (fun _ _ _ _ h => h) (by rfl) hS ?_
          apply Exists.intro
          refine ⟨fun w' hw' => ?_, ?_⟩
          · skip
            go_simp
            first | done | rfl | exact ⟨rfl, rfl⟩
          simp only [Act.put, List.setIfInBounds_toArray, List.set_cons_zero, List.set_cons_succ]
          refine held_val 11 rfl (by kernel_rfl) (by kernel_rfl) (by kernel_rfl) (fun _ _ _ _ h => h) (by rfl) hS ?_
          apply Exists.intro
          refine ⟨fun w' hw' => ?_, ?_⟩
          · have e0' : w'.cell? ⟨L, K1 * 2, none⟩ = some (.string ⟨u.toArray⟩) := (hw'.cell hLl).trans e0
            go_simp
            first | done | rfl | exact ⟨rfl, rfl⟩
          simp only [Act.put, List.setIfInBounds_toArray, List.set_cons_zero, List.set_cons_succ]
          refine held_call 3 (by kernel_rfl) rfl (by rfl) ?_
          apply Exists.intro
          apply Exists.intro
          refine ⟨?_, ?_⟩
          · go_simp
            first | done | rfl | exact ⟨rfl, rfl⟩
          refine (KC.out _ hset5).mono ?_
          rintro e w7 ⟨rfl, hw7⟩
          obtain rfl : D1 = w7 := hw7.symm
          refine ⟨_, rfl, hS, ?_⟩
          simp only [Act.put, List.setIfInBounds_toArray, List.set_cons_zero, List.set_cons_succ]
          have hbs := byte_string D1 c
          have hal := hS.alloc hS.size (.cells #[.int .u8 (c.toNat : Int)] 5)
          refine held_one 4 (by kernel_rfl) rfl (by rfl) ?_
          unfold Oper.wp
          go_simp
          first | refine ⟨hal, ?_⟩ | skip
          replace hS := hal
          generalize D1.alloc (.cells #[.int .u8 (c.toNat : Int)] 5) = D2 at *
          refine held_now 5 (by kernel_rfl) rfl (by rfl) hS ?_
          apply Exists.intro
          refine ⟨?_, ?_⟩
          · skip
            go_simp
            first | done | rfl | exact ⟨rfl, rfl⟩
          simp only [Act.put, List.setIfInBounds_toArray, List.set_cons_zero, List.set_cons_succ]
          refine held_val 12 rfl (by kernel_rfl) (by kernel_rfl) (by kernel_rfl) (fun _ _ _ _ h => h) (by rfl) hS ⟨_, fun w' hw' => exec_cat _ _ rfl rfl rfl hul w', ?_⟩
          simp only [Act.put, List.setIfInBounds_toArray, List.set_cons_zero, List.set_cons_succ]
          refine held_val 13 rfl (by kernel_rfl) (by kernel_rfl) (by kernel_rfl) (fun _ _ _ _ h => h) (by rfl) hS ?_
          apply Exists.intro
          refine ⟨fun w' hw' => ?_, ?_⟩
          · skip
            go_simp
            first | done | rfl | exact ⟨rfl, rfl⟩
          simp only [Act.put, List.setIfInBounds_toArray, List.set_cons_zero, List.set_cons_succ]
          refine wpAnyH_done (by kernel_rfl) ?_ _
          have rA5 := rA.stay hS
          have rB5 := rB.stay hS
          have hB5 : Below w.heap.size w D2 := hBr.trans (hS.mono hBr.size)
          have cb := rB5.cls
          have KL := Lib.hid (lesser_any b (some (c :: u)) D2)
          have hZ : wayV (some (c :: u)) = .agg #[.string ⟨(c :: u).toArray⟩, .bool true] := rfl
          rw [hZ] at KL
          clear hS hal hset5 hbs KC hsr rA rB hBr e0
          go_wp2_with (refine wpList_exec (exec_way b (w.heap.size + 1) 0 _ rfl rfl cb) rfl ?_)
          refine KL.out.mono ?_
          rintro e w8 ⟨rfl, hb8⟩
          have rA8 := rA5.stay hb8
          have rB8 := rB5.stay hb8
          have hB8 : Below w.heap.size w w8 := hB5.trans (hb8.mono hB5.size)
          clear KL rA5 rB5 hB5 hb8 cb
          obtain ⟨OB, hOB⟩ : ∃ OB, lesr b (some (c :: u)) = OB := ⟨_, rfl⟩
          rw [hOB] at HFIN ⊢
          have rA9' : Rw (w8.setRow (w.heap.size + 1) (WayC OB).toArray) w.heap.size 71 (WayC none) := rA8.setRow_ne (by omega)
          have rB9' : Rw (w8.setRow (w.heap.size + 1) (WayC OB).toArray) (w.heap.size + 1) 71 (WayC OB) := rB8.setRow
          have hB9' : Below w.heap.size w (w8.setRow (w.heap.size + 1) (WayC OB).toArray) := hB8.trans (((Asd.refl (· = w.heap.size + 1) w8).setRow (.inl rfl)).toBelow hB8.size (fun i hi => by omega))
          go_upto_region 11 with (refine wpList_plain rfl (fun K hK => store_way (w.heap.size + 1) b OB rB8 _ _ rfl rfl rfl (hK _ _ ?_)))
          generalize w8.setRow (w.heap.size + 1) (WayC OB).toArray = w9 at *
          have rBx := rB9'.cls
          have hRA := rA9'
          go_wp2_with (first | refine wpList_exec (exec_way OB (w.heap.size + 1) 0 _ rfl rfl rBx) rfl ?_ | refine wpList_plain rfl (fun K hK => store_way w.heap.size none OB hRA _ _ rfl rfl rfl (hK _ _ ?_)))
          have rA9 : Rw (w9.setRow w.heap.size (WayC OB).toArray) w.heap.size 71 (WayC OB) := hRA.setRow
          have hB9 : Below w.heap.size w (w9.setRow w.heap.size (WayC OB).toArray) := hB9'.trans (((Asd.refl (· = w.heap.size) w9).setRow (.inl rfl)).toBelow hB9'.size (fun i hi => by omega))
          refine bodyPost_ret (v := wayV OB) ?_ rfl ?_
          · refine (results_way rA9 rfl)
          · exact ⟨⟨_, rfl, (HFIN ()).1, (HFIN ()).2⟩, hB9⟩
end Go.Proofs.Ytakkcofmbafneaa
