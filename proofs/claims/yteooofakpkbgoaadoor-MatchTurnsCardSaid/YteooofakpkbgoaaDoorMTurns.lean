/- MatchTurns returns true: the law. -/
import Derived.Test.YteooofakpkbgoaaDoorMTurnP
import Derived.Deep.RegionWith
namespace Go.Proofs.YteooofakpkbgoaaDoor
open Go.ChangeShapes Go.WideShapes Go.RowKit

theorem M3.of {W w : World} {b : Nat} {x y z : Value} (h : Rw W b 31 [x, y, z]) (hb : Below W.heap.size W w) : M3 W b x y z w := by
  have r := h.stay hb
  exact ⟨hb, Rw.cell r 0, Rw.cell r 1, Rw.cell r 2⟩
noncomputable def fitO (F : List (Bs × Bs)) (m : Mt) (x : Int) : Bool := fitsB F ⟨m.n, x, m.v⟩
theorem fits_op (P : Nat → Prop) (v : Value) (fs : List (Bs × Bs)) (m : Mt) (x : Int) (w : World) (h : FldsAt P w v fs) (hl : fs.length ≤ 9223372036854775807) (hfl : (valueF fs m.n).length ≤ 100000) (hn : m.n.length ≤ 9223372036854775807) (hv : m.v.length ≤ 9223372036854775807) :
    Calls Tryd.prog 25 #[v, .agg #[.string ⟨m.n.toArray⟩, .int .i64 x, .string ⟨m.v.toArray⟩]] w fun e w' => e = .returned (.bool (fitO fs m x)) ∧ Below w.heap.size w w' := fits_at P v fs ⟨m.n, x, m.v⟩ w h hl hfl hn hv
section
variable {w W : World} {g k B : Nat} {t : TypeId} {x y z : Value} {cs : List Value}
theorem put3 (h : Rw w g t [x, y, z]) (x' y' z' : Value) : Rw (((w.setCell ⟨g, 0, none⟩ x').setCell ⟨g, 1, none⟩ y').setCell ⟨g, 2, none⟩ z') g t [x', y', z'] := ((h.setCell 0 x').setCell 1 y').setCell 2 z'
theorem far3 (h : Rw w k t cs) (hk : k ≠ g) (x' y' z' : Value) : Rw (((w.setCell ⟨g, 0, none⟩ x').setCell ⟨g, 1, none⟩ y').setCell ⟨g, 2, none⟩ z') k t cs := ((h.other hk 0 x').other hk 1 y').other hk 2 z'
theorem below3 (h : Below B W w) (hg : B ≤ g) (x' y' z' : Value) : Below B W (((w.setCell ⟨g, 0, none⟩ x').setCell ⟨g, 1, none⟩ y').setCell ⟨g, 2, none⟩ z') := ((h.setCell (p := ⟨g, 0, none⟩) hg x').setCell (p := ⟨g, 1, none⟩) hg y').setCell (p := ⟨g, 2, none⟩) hg z'
end
def zM : List Value := [.string ⟨#[]⟩, .int .i64 0, .string ⟨#[]⟩]
/-- A matcher that lies in memory, and what was made since. -/
def CM (W : World) (b : Nat) (x y z : Value) (L : Marks) (w : World) : Prop :=
  M3 W b x y z w ∧ (∀ i v, L i = some v → ∃ g, v = .pointer (some ⟨g, 0, none⟩) ∧ W.heap.size ≤ g ∧ Rw w g 31 zM) ∧ (∀ i j v, L i = some v → L j = some v → i = j)
theorem CM.start {W w : World} {b : Nat} {x y z : Value} (h : M3 W b x y z w) : CM W b x y z (fun _ => none) w := ⟨h, fun _ _ e => (by cases e), fun _ _ _ e => (by cases e)⟩
theorem CM.new {W w : World} {b : Nat} {x y z : Value} {L : Marks} (i : Nat) (h : CM W b x y z L w) : CM W b x y z (upd L i (.pointer (some ⟨w.heap.size, 0, none⟩))) (w.alloc (.cells zM.toArray 31)) := by
  obtain ⟨h1, h2, h3⟩ := h
  have hal := (Below.refl w.heap.size w).alloc (Nat.le_refl _) (.cells zM.toArray 31)
  have hno : ∀ k, L k ≠ some (.pointer (some ⟨w.heap.size, 0, none⟩)) := fun k e => by
    obtain ⟨g, e2, _, hr⟩ := h2 k _ e
    injection e2 with e2
    injection e2 with e2
    injection e2 with e2
    have := hr.lt
    omega
  refine ⟨h1.go hal, fun k v e => ?_, fun k j v e e' => ?_⟩
  · unfold upd at e
    split at e
    · injection e with e
      subst e
      exact ⟨_, rfl, h1.1.size, Rw.new w 31 zM⟩
    · obtain ⟨g, e2, hg, hr⟩ := h2 k v e
      exact ⟨g, e2, hg, hr.stay hal⟩
  · unfold upd at e e'
    split at e <;> split at e'
    · omega
    · injection e with e
      subst e
      exact absurd e' (hno j)
    · injection e' with e'
      subst e'
      exact absurd e (hno k)
    · exact h3 k j v e e'
theorem CM.two {W w : World} {b : Nat} {x y z u v : Value} (h : CM W b x y z (upd (upd (fun _ => none) 2 u) 3 v) w) : ∃ g k : Nat, u = .pointer (some ⟨g, 0, none⟩) ∧ v = .pointer (some ⟨k, 0, none⟩) ∧ g ≠ k ∧ W.heap.size ≤ g ∧ W.heap.size ≤ k ∧ Rw w g 31 zM ∧ Rw w k 31 zM ∧ Below W.heap.size W w := by
  obtain ⟨h1, h2, h3⟩ := h
  obtain ⟨g, rfl, hg, rg⟩ := h2 2 u (by simp [upd])
  obtain ⟨k, rfl, hk, rk⟩ := h2 3 v (by simp [upd])
  refine ⟨g, k, rfl, rfl, fun e => ?_, hg, hk, rg, rk, h1.1⟩
  subst e
  have := h3 2 3 (.pointer (some ⟨g, 0, none⟩)) (by simp [upd]) (by simp [upd])
  omega
set_option maxHeartbeats 12800000 in
set_option maxRecDepth 100000 in
theorem turns_law (P : Nat → Prop) (v : Value) (fs : List (Bs × Bs)) (m0 : Mt) (w : World) (h : FldsAt P w v fs) (hl : fs.length ≤ 9223372036854775807) (hfl : ∀ f ∈ fs, f.1.length ≤ 9223372036854775807 ∧ f.2.length ≤ 9223372036854775807)
    (hn : m0.n.length ≤ 9223372036854775807) (hv : m0.v.length ≤ 9223372036854775807) (ho1 : -9223372036854775808 ≤ m0.op) (ho2 : m0.op ≤ 9223372036854775807) (hg : SgAt w) :
    Calls Tryd.prog 7 #[v, .agg (encM m0).toArray] w fun e w' => e = .returned (.bool true) ∧ Below w.heap.size w w' := by
  have KL := Lib.hid fun w' (hb : Below w.heap.size w w') => lives_any w' (hg.keep hb hg.lt)
  have KG := Lib.hid fun w' (hb : Below w.heap.size w w') => good_any P v fs w' (h.stay hb) hl hfl
  have KW := Lib.hid fun (P' : Nat → Prop) (v' : Value) w' (h' : MtsAt P' w' v' [m0]) => few_any P' v' [m0] w' h' (by simp) (fun m hm => by rw [List.mem_singleton.1 hm]; exact hv)
  have hgd := good_gd fs
  obtain ⟨aS, cS, rfl⟩ := h.shape
  generalize goodN fs = F at *
  clear h hl hfl
  generalize fs.length = nS at *
  have hFz : ∀ f ∈ F, f.2.length ≤ 100000 := fun f hf => by have := hgd.2 f hf; omega
  have hFl := hgd.len
  clear hgd hg
  obtain ⟨m, hm⟩ : ∃ m : Mt, (⟨m0.n, m0.op, m0.v.take 210⟩ : Mt) = m := ⟨_, rfl⟩
  have hfew : fewM [m0] = [m] := by rw [← hm]; rfl
  have hmn : m.n.length ≤ 9223372036854775807 := by rw [← hm]; exact hn
  have hmv : m.v.length ≤ 210 := by rw [← hm]; simp only [List.length_take]; omega
  have hm1 : -9223372036854775808 ≤ m.op := by rw [← hm]; exact ho1
  have hm2 : m.op ≤ 9223372036854775807 := by rw [← hm]; exact ho2
  simp only [hfew] at KW
  clear hm hfew hn hv ho1 ho2
  show Calls Tryd.prog 7 #[.slice aS nS cS, .agg #[.string ⟨m0.n.toArray⟩, .int .i64 m0.op, .string ⟨m0.v.toArray⟩]] w _
  have HM0 : Unit → encM m0 = [.string ⟨m0.n.toArray⟩, .int .i64 m0.op, .string ⟨m0.v.toArray⟩] := fun _ => rfl
  obtain ⟨n0, op0, x0⟩ := m0
  simp only at *
  generalize (⟨n0.toArray⟩ : ByteArray) = TN0 at *
  generalize (⟨x0.toArray⟩ : ByteArray) = TX0 at *
  have hal := (Below.refl w.heap.size w).alloc (Nat.le_refl _) (.cells #[.string TN0, .int .i64 op0, .string TX0] 31)
  have rM : Rw (w.alloc (.cells #[.string TN0, .int .i64 op0, .string TX0] 31)) w.heap.size 31 [.string TN0, .int .i64 op0, .string TX0] := Rw.new w 31 [.string TN0, .int .i64 op0, .string TX0]
  go_enter Tryd.func7, Tryd.ntmps7
  go_upto_region 1 with fail
  generalize w.alloc (.cells #[.string TN0, .int .i64 op0, .string TX0] 31) = w1 at *
  go_wp2_with fail
  refine (KL.out _ hal).mono ?_
  rintro e w2 ⟨rfl, hb⟩
  clear KL
  have hB2 := hal.trans (hb.mono hal.size)
  replace rM := rM.stay hb
  clear hb hal
  have hbF : w.heap.size < w2.heap.size := rM.lt
  go_wp2_with fail
  refine (KG.out _ hB2).mono ?_
  rintro e w3 ⟨vF, rfl, hF, hb⟩
  clear KG
  have hB3 := hB2.trans (hb.mono hB2.size)
  replace rM := rM.stay hb
  obtain ⟨aF, cF, rfl⟩ := hF.shape
  clear hb hB2
  go_upto_region 4 with fail
  have d0 := Rw.cell rM 0
  have d1 := Rw.cell rM 1
  have d2 := Rw.cell rM 2
  simp only [List.getElem?_cons_zero, List.getElem?_cons_succ] at d0 d1 d2
  go_wp2_with fail
  have hal := (Below.refl w3.heap.size w3).alloc (Nat.le_refl _) (.cells #[.string TN0, .int .i64 op0, .string TX0] 31)
  have rS : Rw (w3.alloc (.cells #[.string TN0, .int .i64 op0, .string TX0] 31)) w3.heap.size 31 [.string TN0, .int .i64 op0, .string TX0] := Rw.new w3 31 [.string TN0, .int .i64 op0, .string TX0]
  have hS := own_mts (ms := [⟨n0, op0, x0⟩]) (e := 31) (base := 0) (show World.ownsRow _ 0 31 3 (.slice (some ⟨w3.heap.size, 0, none⟩) 1 1) 1 _ from by
    rw [show ([(⟨n0, op0, x0⟩ : Mt)].map encM).flatten = [.string TN0, .int .i64 op0, .string TX0] from by simp [HM0 ()]]
    exact own_new rS (Nat.zero_le _) rfl (by decide))
  generalize w3.alloc (.cells #[.string TN0, .int .i64 op0, .string TX0] 31) = w4 at *
  refine (KW.out _ _ _ hS).mono ?_
  rintro e w5 ⟨v5, rfl, hown, hb⟩
  clear KW hS rS d0 d1 d2
  have hb5 := hal.trans (hb.mono hal.size)
  have hM := own_mts hown
  have hB5 := hB3.trans (hb5.mono hB3.size)
  replace rM := rM.stay hb5
  replace hF := hF.stay hb5
  clear hb hal hb5 hown hB3 HM0
  obtain ⟨a5, c5, rfl⟩ := hM.shape
  obtain ⟨g, o, rfl, _, hgl, c0, c1, c2⟩ := hM.part (j := 0) (m := m) rfl
  simp only [List.length_singleton, Nat.zero_mul, Nat.add_zero] at *
  have d0 := Rw.cell rM 0
  have d1 := Rw.cell rM 1
  have d2 := Rw.cell rM 2
  have f0 := Rw.frozen rM 0
  have f1 := Rw.frozen rM 1
  have f2 := Rw.frozen rM 2
  simp only [List.getElem?_cons_zero, List.getElem?_cons_succ] at d0 d1 d2
  go_upto_region 5 with fail
  have q1 := rM.setCell 0 (.string ⟨m.n.toArray⟩)
  have q2 := q1.setCell 1 (.int .i64 m.op)
  have q3 := q2.setCell 2 (.string ⟨m.v.toArray⟩)
  simp only [List.set_cons_zero, List.set_cons_succ] at q3
  have hB6 := ((hB5.setCell (p := ⟨w.heap.size, 0, none⟩) (Nat.le_refl _) (.string ⟨m.n.toArray⟩)).setCell (p := ⟨w.heap.size, 1, none⟩) (Nat.le_refl _) (.int .i64 m.op)).setCell (p := ⟨w.heap.size, 2, none⟩) (Nat.le_refl _) (.string ⟨m.v.toArray⟩)
  have hA6 := ((Asd.one w5 w.heap.size 0 (.string ⟨m.n.toArray⟩)).set1 1 (.int .i64 m.op)).set1 2 (.string ⟨m.v.toArray⟩)
  replace hF := hF.keepN hA6 (fun i hi _ e => by rw [e] at hi; omega)
  clear rM q1 q2 hB5 hA6 d0 d1 d2 f0 f1 f2 c0 c1 c2 hM hgl
  generalize ((w5.setCell ⟨w.heap.size, 0, none⟩ (.string ⟨m.n.toArray⟩)).setCell ⟨w.heap.size, 1, none⟩ (.int .i64 m.op)).setCell ⟨w.heap.size, 2, none⟩ (.string ⟨m.v.toArray⟩) = w6 at *
  have d0 := Rw.cell q3 0
  have d1 := Rw.cell q3 1
  have d2 := Rw.cell q3 2
  simp only [List.getElem?_cons_zero, List.getElem?_cons_succ] at d0 d1 d2
  go_upto_region 6 with fail
  have hal := (Below.refl w6.heap.size w6).alloc (Nat.le_refl _) (.cells #[.string ⟨m.n.toArray⟩, .int .i64 m.op, .string ⟨m.v.toArray⟩] 31)
  have rO : Rw (w6.alloc (.cells #[.string ⟨m.n.toArray⟩, .int .i64 m.op, .string ⟨m.v.toArray⟩] 31)) w6.heap.size 31 [.string ⟨m.n.toArray⟩, .int .i64 m.op, .string ⟨m.v.toArray⟩] := Rw.new w6 31 [.string ⟨m.n.toArray⟩, .int .i64 m.op, .string ⟨m.v.toArray⟩]
  have hbO : w.heap.size ≠ w6.heap.size := by have := q3.lt; omega
  have hszB : w.heap.size ≤ w6.heap.size := hB6.size
  have hB7 := hB6.trans (hal.mono hB6.size)
  replace q3 := q3.stay hal
  replace hF := (FldsAt.mono (P' := fun k => k < w6.heap.size) hF (fun i _ hi => hi)).stay hal
  clear hB6 hal d0 d1 d2
  generalize w6.alloc (.cells #[.string ⟨m.n.toArray⟩, .int .i64 m.op, .string ⟨m.v.toArray⟩] 31) = w7 at *
  have d0 := Rw.cell q3 0
  have d1 := Rw.cell q3 1
  have d2 := Rw.cell q3 2
  have o1 := Rw.cell rO 1
  have f1 := Rw.frozen rO 1
  simp only [List.getElem?_cons_zero, List.getElem?_cons_succ] at d0 d1 d2 o1
  go_upto_region 7 with fail
  rw [show bits BinOp.xor IntKind.i64 m.op 1 = xop m.op from rfl]
  have r1 := rO.setCell 1 (.int .i64 (xop m.op))
  have q4 := q3.other hbO 1 (.int .i64 (xop m.op))
  simp only [List.set_cons_zero, List.set_cons_succ] at r1
  have hB8 := hB7.setCell (p := ⟨w6.heap.size, 1, none⟩) (show w.heap.size ≤ w6.heap.size from hszB) (.int .i64 (xop m.op))
  have hA8 := Asd.one w7 w6.heap.size 1 (.int .i64 (xop m.op))
  replace hF := hF.keepN hA8 (fun i hi _ e => by rw [e] at hi; omega)
  have hxf : fineB ⟨m.n, xop m.op, m.v⟩ = fineB m := turn_fine hm1 hm2
  have hxt : fitsB F ⟨m.n, xop m.op, m.v⟩ = (fineB m && !fitsB F m) := turn_fits hm1 hm2
  clear q3 rO hB7 hA8 d0 d1 d2 o1 f1 hbO hm1 hm2
  generalize w7.setCell ⟨w6.heap.size, 1, none⟩ (.int .i64 (xop m.op)) = w8 at *
  generalize xop m.op = op' at *
  have KF := Lib.hid fun w => fine_any m w hmn (by omega)
  have KT := Lib.hid fun x w' (hb : Below w8.heap.size w8 w') => fits_op _ _ F m x w' (hF.stay hb) (by omega) (valueF_len hFz m.n) hmn (by omega)
  have hR : fitO F m op' = (fineB m && !fitO F m m.op) := hxt
  clear hxf hxt
  go_cut [42] from 22 to 41 (fun u42 wx => u42 = .bool false ∧ Below w8.heap.size w8 wx)
  case first =>
    cases hf : fineB m with
    | false =>
      have hR1 : fitO F m m.op = false := by unfold fitO fitsB; rw [show (⟨m.n, m.op, m.v⟩ : Mt) = m from rfl, hf]; rfl
      rw [hf] at KF hR
      rw [hR1] at hR
      simp only [Bool.false_and] at hR
      clear hf
      go_upto_region 7 with fail
      try simp only [List.append_eq, List.cons_append, List.nil_append]
      refine region_class (fun w' => M3 w8 w.heap.size (.string ⟨m.n.toArray⟩) (.int .i64 m.op) (.string ⟨m.v.toArray⟩) w' ∧ M3 w8 w6.heap.size (.string ⟨m.n.toArray⟩) (.int .i64 op') (.string ⟨m.v.toArray⟩) w') (by kernel_rfl) (by kernel_rfl) (⟨M3.of q4 (Below.refl _ _).drew, M3.of r1 (Below.refl _ _).drew⟩) ?_
      repeat
        first
        | go_big_quiet_skip
        | (go_big_quiet_want
           refine quiet_val ?_
           apply Exists.intro
           refine ⟨fun w' hw' => ?_, ?_⟩
           · obtain ⟨⟨_, e0, e1, e2⟩, _, e3, e4, e5⟩ := hw'
             go_simp
             first | done | rfl | exact ⟨rfl, rfl⟩
           simp only [Act.put, List.setIfInBounds_toArray, List.set_cons_zero, List.set_cons_succ]
           go_big_quiet_on)
        | (go_big_quiet_want
           refine quiet_call ?_
           apply Exists.intro
           apply Exists.intro
           refine ⟨fun w' => ?_, ?_⟩
           · go_simp
             first | done | rfl | exact ⟨rfl, rfl⟩
           apply Exists.intro
           refine ⟨fun w' hw' => ?_, ?_⟩
           · first
             | first | (go_at_call 15; exact (KF.out _).mono fun e w'' ⟨he, hB⟩ => ⟨he, hw'.1.go hB, hw'.2.go hB⟩) | (go_at_call 25; exact (KT.out _ _ hw'.1.1).mono fun e w'' ⟨he, hB⟩ => ⟨he, hw'.1.go hB, hw'.2.go hB⟩)
           simp only [Act.put, List.setIfInBounds_toArray, List.set_cons_zero, List.set_cons_succ, hR1]
           go_big_quiet_on)
      refine wpQuiet_nil ?_
      intro w5 hw5
      have hb5 := hw5.1.1
      go_wp2_with fail
      go_meet
      exact ⟨rfl, hb5⟩
    | true =>
      rw [hf] at KF hR
      cases hR1 : fitO F m m.op with
      | true =>
        rw [hR1] at hR
        simp only [Bool.not_true, Bool.and_false] at hR
        clear hf
        go_upto_region 7 with fail
        try simp only [List.append_eq, List.cons_append, List.nil_append]
        refine region_class (fun w' => M3 w8 w.heap.size (.string ⟨m.n.toArray⟩) (.int .i64 m.op) (.string ⟨m.v.toArray⟩) w' ∧ M3 w8 w6.heap.size (.string ⟨m.n.toArray⟩) (.int .i64 op') (.string ⟨m.v.toArray⟩) w') (by kernel_rfl) (by kernel_rfl) (⟨M3.of q4 (Below.refl _ _).drew, M3.of r1 (Below.refl _ _).drew⟩) ?_
        repeat
          first
          | go_big_quiet_skip
          | (go_big_quiet_want
             refine quiet_val ?_
             apply Exists.intro
             refine ⟨fun w' hw' => ?_, ?_⟩
             · obtain ⟨⟨_, e0, e1, e2⟩, _, e3, e4, e5⟩ := hw'
               go_simp
               first | done | rfl | exact ⟨rfl, rfl⟩
             simp only [Act.put, List.setIfInBounds_toArray, List.set_cons_zero, List.set_cons_succ]
             go_big_quiet_on)
          | (go_big_quiet_want
             refine quiet_call ?_
             apply Exists.intro
             apply Exists.intro
             refine ⟨fun w' => ?_, ?_⟩
             · go_simp
               first | done | rfl | exact ⟨rfl, rfl⟩
             apply Exists.intro
             refine ⟨fun w' hw' => ?_, ?_⟩
             · first
               | first | (go_at_call 15; exact (KF.out _).mono fun e w'' ⟨he, hB⟩ => ⟨he, hw'.1.go hB, hw'.2.go hB⟩) | (go_at_call 25; exact (KT.out _ _ hw'.1.1).mono fun e w'' ⟨he, hB⟩ => ⟨he, hw'.1.go hB, hw'.2.go hB⟩)
             simp only [Act.put, List.setIfInBounds_toArray, List.set_cons_zero, List.set_cons_succ, hR, hR1]
             go_big_quiet_on)
        refine wpQuiet_nil ?_
        intro w5 hw5
        have hb5 := hw5.1.1
        go_wp2_with fail
        go_meet
        exact ⟨rfl, hb5⟩
      | false =>
        rw [hR1] at hR
        simp only [Bool.not_false, Bool.and_true] at hR
        clear hf
        go_upto_region 7 with fail
        try simp only [List.append_eq, List.cons_append, List.nil_append]
        refine region_class (fun w' => M3 w8 w.heap.size (.string ⟨m.n.toArray⟩) (.int .i64 m.op) (.string ⟨m.v.toArray⟩) w' ∧ M3 w8 w6.heap.size (.string ⟨m.n.toArray⟩) (.int .i64 op') (.string ⟨m.v.toArray⟩) w') (by kernel_rfl) (by kernel_rfl) (⟨M3.of q4 (Below.refl _ _).drew, M3.of r1 (Below.refl _ _).drew⟩) ?_
        repeat
          first
          | go_big_quiet_skip
          | (go_big_quiet_want
             refine quiet_val ?_
             apply Exists.intro
             refine ⟨fun w' hw' => ?_, ?_⟩
             · obtain ⟨⟨_, e0, e1, e2⟩, _, e3, e4, e5⟩ := hw'
               go_simp
               first | done | rfl | exact ⟨rfl, rfl⟩
             simp only [Act.put, List.setIfInBounds_toArray, List.set_cons_zero, List.set_cons_succ]
             go_big_quiet_on)
          | (go_big_quiet_want
             refine quiet_call ?_
             apply Exists.intro
             apply Exists.intro
             refine ⟨fun w' => ?_, ?_⟩
             · go_simp
               first | done | rfl | exact ⟨rfl, rfl⟩
             apply Exists.intro
             refine ⟨fun w' hw' => ?_, ?_⟩
             · first
               | first | (go_at_call 15; exact (KF.out _).mono fun e w'' ⟨he, hB⟩ => ⟨he, hw'.1.go hB, hw'.2.go hB⟩) | (go_at_call 25; exact (KT.out _ _ hw'.1.1).mono fun e w'' ⟨he, hB⟩ => ⟨he, hw'.1.go hB, hw'.2.go hB⟩)
             simp only [Act.put, List.setIfInBounds_toArray, List.set_cons_zero, List.set_cons_succ, hR, hR1]
             go_big_quiet_on)
        refine wpQuiet_nil ?_
        intro w5 hw5
        have hb5 := hw5.1.1
        go_wp2_with fail
        go_meet
        exact ⟨rfl, hb5⟩
  case rest =>
    obtain ⟨rfl, hB9⟩ := hcut
    generalize wc = w9 at *
    have rb := q4.stay hB9
    replace hF := hF.stay hB9
    have hB10 := hB8.trans (hB9.mono hB8.size)
    clear KF KT hR q4 r1 hB8 hB9 hszB hbF
    have hQl := quoteN_len m.v
    obtain ⟨T, hT⟩ : ∃ T, (⟨m.n.toArray⟩ : ByteArray) = T := ⟨_, rfl⟩
    have KQ := Lib.hid fun w => rquote_any m.v w (by omega)
    obtain ⟨TV, hTV⟩ : ∃ T, (⟨m.v.toArray⟩ : ByteArray) = T := ⟨_, rfl⟩
    obtain ⟨TQ, hTQ⟩ : ∃ T, (⟨(quoteN m.v).toArray⟩ : ByteArray) = T := ⟨_, rfl⟩
    have KF0 := Lib.hid fun w => fine_any ⟨m.n, 0, m.v⟩ w hmn (by simp only; omega)
    have KF2 := Lib.hid fun w => fine_any ⟨m.n, 2, quoteN m.v⟩ w hmn (by simp only; omega)
    have KT0 := Lib.hid fun w' (hb : Below w9.heap.size w9 w') => fits_at _ _ F ⟨m.n, 0, m.v⟩ w' (hF.stay hb) (by omega) (valueF_len hFz m.n) hmn (by simp only; omega)
    have KT2 := Lib.hid fun w' (hb : Below w9.heap.size w9 w') => fits_at _ _ F ⟨m.n, 2, quoteN m.v⟩ w' (hF.stay hb) (by omega) (valueF_len hFz m.n) hmn (by simp only; omega)
    have HTL : Unit → fineB ⟨m.n, 0, m.v⟩ = true → fineB ⟨m.n, 2, quoteN m.v⟩ = true → fitsB F ⟨m.n, 2, quoteN m.v⟩ = fitsB F ⟨m.n, 0, m.v⟩ := fun _ h0 h2 => turn_like (fs := F) (n := m.n) (v := m.v) h0 h2
    simp only [hT, hTV, hTQ] at *
    clear hT hTV hTQ hQl hFz hFl hF hmn hmv
    generalize fineB ⟨m.n, 0, m.v⟩ = b0 at *
    generalize fineB ⟨m.n, 2, quoteN m.v⟩ = b2 at *
    generalize fitsB F ⟨m.n, 0, m.v⟩ = t0 at *
    generalize fitsB F ⟨m.n, 2, quoteN m.v⟩ = t2 at *
    go_upto_region 9 with fail
    go_cut [6, 7] from 43 to 44 (fun u6 u7 wx => ∃ g k : Nat, u6 = .pointer (some ⟨g, 0, none⟩) ∧ u7 = .pointer (some ⟨k, 0, none⟩) ∧ g ≠ k ∧ w9.heap.size ≤ g ∧ w9.heap.size ≤ k ∧ Rw wx g 31 [.string T, .int .i64 m.op, .string TV] ∧ Rw wx k 31 [.string T, .int .i64 m.op, .string TV] ∧ Below w9.heap.size w9 wx)
    case first =>
      refine wp_region_held (S := M3 w9 w.heap.size (.string T) (.int .i64 m.op) (.string TV)) (by kernel_rfl) ?_
      have hS : M3 w9 w.heap.size (.string T) (.int .i64 m.op) (.string TV) { w9 with drawn := w9.drawn + 1 } := M3.of rb (Below.refl _ _).drew
      clear KF0 KF2 KT0 KT2 KQ HTL hB10
      generalize { w9 with drawn := w9.drawn + 1 } = D1 at *
      refine held_val 0 rfl (by kernel_rfl) (by kernel_rfl) (by kernel_rfl) (fun _ _ _ _ h => h) (by rfl) hS ?_
      apply Exists.intro
      refine ⟨fun w' hw' => ?_, ?_⟩
      · obtain ⟨_, e0, e1, e2⟩ := hw'
        go_simp
        first | done | rfl | exact ⟨rfl, rfl⟩
      simp only [Act.put, List.setIfInBounds_toArray, List.set_cons_zero, List.set_cons_succ]
      refine held_val 1 rfl (by kernel_rfl) (by kernel_rfl) (by kernel_rfl) (fun _ _ _ _ h => h) (by rfl) hS ?_
      apply Exists.intro
      refine ⟨fun w' hw' => ?_, ?_⟩
      · obtain ⟨_, e0, e1, e2⟩ := hw'
        go_simp
        first | done | rfl | exact ⟨rfl, rfl⟩
      simp only [Act.put, List.setIfInBounds_toArray, List.set_cons_zero, List.set_cons_succ]
      refine held_two 2 3 (by kernel_rfl) rfl rfl (by rfl) (by rfl) ?_ ?_
      · unfold Oper.wp
        go_simp
        have hal := (Below.refl D1.heap.size D1).alloc (Nat.le_refl _) (.cells #[.string ⟨#[]⟩, .int .i64 0, .string ⟨#[]⟩] 31)
        have rA := Rw.new D1 31 [.string ⟨#[]⟩, .int .i64 0, .string ⟨#[]⟩]
        have hS2 := hS.go hal
        have hG : w9.heap.size ≤ D1.heap.size := hS.1.size
        refine ⟨hS2, ?_⟩
        clear hal hS
        replace rA : Rw (D1.alloc (.cells #[.string ⟨#[]⟩, .int .i64 0, .string ⟨#[]⟩] 31)) D1.heap.size 31 [.string ⟨#[]⟩, .int .i64 0, .string ⟨#[]⟩] := rA
        generalize D1.alloc (.cells #[.string ⟨#[]⟩, .int .i64 0, .string ⟨#[]⟩] 31) = D2 at *
        refine held_one 3 (by kernel_rfl) rfl (by rfl) ?_
        unfold Oper.wp
        go_simp
        have hal := (Below.refl D2.heap.size D2).alloc (Nat.le_refl _) (.cells #[.string ⟨#[]⟩, .int .i64 0, .string ⟨#[]⟩] 31)
        have rB : Rw (D2.alloc (.cells #[.string ⟨#[]⟩, .int .i64 0, .string ⟨#[]⟩] 31)) D2.heap.size 31 [.string ⟨#[]⟩, .int .i64 0, .string ⟨#[]⟩] := Rw.new D2 31 [.string ⟨#[]⟩, .int .i64 0, .string ⟨#[]⟩]
        have hGH : D1.heap.size ≠ D2.heap.size := by have := rA.lt; omega
        have hH : w9.heap.size ≤ D2.heap.size := hS2.1.size
        have hS3 := hS2.go hal
        replace rA := rA.stay hal
        refine ⟨hS3, ?_⟩
        clear hal hS2
        generalize D2.alloc (.cells #[.string ⟨#[]⟩, .int .i64 0, .string ⟨#[]⟩] 31) = D3 at *
        generalize D1.heap.size = G at *
        generalize D2.heap.size = H at *
        have c0 := Rw.cell rA 0
        have c1 := Rw.cell rA 1
        have c2 := Rw.cell rA 2
        simp only [List.getElem?_cons_zero, List.getElem?_cons_succ] at c0 c1 c2
        have f0 := Rw.frozen rA 0
        have f1 := Rw.frozen rA 1
        have f2 := Rw.frozen rA 2
        refine held_one 4 (by kernel_rfl) rfl (by rfl) ?_
        unfold Oper.wp
        go_simp
        have hb4 := below3 hS3.1 hG (.string T) (.int .i64 m.op) (.string TV)
        have p4 := put3 rA (.string T) (.int .i64 m.op) (.string TV)
        have y4 := far3 rB hGH.symm (.string T) (.int .i64 m.op) (.string TV)
        refine ⟨M3.of rb hb4, ?_⟩
        clear c0 c1 c2 f0 f1 f2 rA rB hS3
        generalize ((D3.setCell ⟨G, 0, none⟩ (.string T)).setCell ⟨G, 1, none⟩ (.int .i64 m.op)).setCell ⟨G, 2, none⟩ (.string TV) = D4 at *
        have c0 := Rw.cell y4 0
        have c1 := Rw.cell y4 1
        have c2 := Rw.cell y4 2
        simp only [List.getElem?_cons_zero, List.getElem?_cons_succ] at c0 c1 c2
        have f0 := Rw.frozen y4 0
        have f1 := Rw.frozen y4 1
        have f2 := Rw.frozen y4 2
        refine held_one 5 (by kernel_rfl) rfl (by rfl) ?_
        unfold Oper.wp
        go_simp
        have hb5 := below3 hb4 hH (.string T) (.int .i64 m.op) (.string TV)
        have y5 := put3 y4 (.string T) (.int .i64 m.op) (.string TV)
        have p5 := far3 p4 hGH (.string T) (.int .i64 m.op) (.string TV)
        refine ⟨M3.of rb hb5, ?_⟩
        clear c0 c1 c2 f0 f1 f2 y4 p4 hb4
        generalize ((D4.setCell ⟨H, 0, none⟩ (.string T)).setCell ⟨H, 1, none⟩ (.int .i64 m.op)).setCell ⟨H, 2, none⟩ (.string TV) = D5 at *
        refine wpAnyH_done (by kernel_rfl) ?_ _
        go_wp2_with fail
        go_meet
        exact ⟨G, H, rfl, rfl, hGH, hG, hH, p5, y5, hb5⟩
      · unfold Oper.wp
        go_simp
        have hal := (Below.refl D1.heap.size D1).alloc (Nat.le_refl _) (.cells #[.string ⟨#[]⟩, .int .i64 0, .string ⟨#[]⟩] 31)
        have rA := Rw.new D1 31 [.string ⟨#[]⟩, .int .i64 0, .string ⟨#[]⟩]
        have hS2 := hS.go hal
        have hG : w9.heap.size ≤ D1.heap.size := hS.1.size
        refine ⟨hS2, ?_⟩
        clear hal hS
        replace rA : Rw (D1.alloc (.cells #[.string ⟨#[]⟩, .int .i64 0, .string ⟨#[]⟩] 31)) D1.heap.size 31 [.string ⟨#[]⟩, .int .i64 0, .string ⟨#[]⟩] := rA
        generalize D1.alloc (.cells #[.string ⟨#[]⟩, .int .i64 0, .string ⟨#[]⟩] 31) = D2 at *
        refine held_one 2 (by kernel_rfl) rfl (by rfl) ?_
        unfold Oper.wp
        go_simp
        have hal := (Below.refl D2.heap.size D2).alloc (Nat.le_refl _) (.cells #[.string ⟨#[]⟩, .int .i64 0, .string ⟨#[]⟩] 31)
        have rB : Rw (D2.alloc (.cells #[.string ⟨#[]⟩, .int .i64 0, .string ⟨#[]⟩] 31)) D2.heap.size 31 [.string ⟨#[]⟩, .int .i64 0, .string ⟨#[]⟩] := Rw.new D2 31 [.string ⟨#[]⟩, .int .i64 0, .string ⟨#[]⟩]
        have hGH : D1.heap.size ≠ D2.heap.size := by have := rA.lt; omega
        have hH : w9.heap.size ≤ D2.heap.size := hS2.1.size
        have hS3 := hS2.go hal
        replace rA := rA.stay hal
        refine ⟨hS3, ?_⟩
        clear hal hS2
        generalize D2.alloc (.cells #[.string ⟨#[]⟩, .int .i64 0, .string ⟨#[]⟩] 31) = D3 at *
        generalize D1.heap.size = G at *
        generalize D2.heap.size = H at *
        have c0 := Rw.cell rB 0
        have c1 := Rw.cell rB 1
        have c2 := Rw.cell rB 2
        simp only [List.getElem?_cons_zero, List.getElem?_cons_succ] at c0 c1 c2
        have f0 := Rw.frozen rB 0
        have f1 := Rw.frozen rB 1
        have f2 := Rw.frozen rB 2
        refine held_one 4 (by kernel_rfl) rfl (by rfl) ?_
        unfold Oper.wp
        go_simp
        have hb4 := below3 hS3.1 hH (.string T) (.int .i64 m.op) (.string TV)
        have p4 := put3 rB (.string T) (.int .i64 m.op) (.string TV)
        have y4 := far3 rA hGH (.string T) (.int .i64 m.op) (.string TV)
        refine ⟨M3.of rb hb4, ?_⟩
        clear c0 c1 c2 f0 f1 f2 rA rB hS3
        generalize ((D3.setCell ⟨H, 0, none⟩ (.string T)).setCell ⟨H, 1, none⟩ (.int .i64 m.op)).setCell ⟨H, 2, none⟩ (.string TV) = D4 at *
        have c0 := Rw.cell y4 0
        have c1 := Rw.cell y4 1
        have c2 := Rw.cell y4 2
        simp only [List.getElem?_cons_zero, List.getElem?_cons_succ] at c0 c1 c2
        have f0 := Rw.frozen y4 0
        have f1 := Rw.frozen y4 1
        have f2 := Rw.frozen y4 2
        refine held_one 5 (by kernel_rfl) rfl (by rfl) ?_
        unfold Oper.wp
        go_simp
        have hb5 := below3 hb4 hG (.string T) (.int .i64 m.op) (.string TV)
        have y5 := put3 y4 (.string T) (.int .i64 m.op) (.string TV)
        have p5 := far3 p4 hGH.symm (.string T) (.int .i64 m.op) (.string TV)
        refine ⟨M3.of rb hb5, ?_⟩
        clear c0 c1 c2 f0 f1 f2 y4 p4 hb4
        generalize ((D4.setCell ⟨G, 0, none⟩ (.string T)).setCell ⟨G, 1, none⟩ (.int .i64 m.op)).setCell ⟨G, 2, none⟩ (.string TV) = D5 at *
        refine wpAnyH_done (by kernel_rfl) ?_ _
        go_wp2_with fail
        go_meet
        exact ⟨H, G, rfl, rfl, hGH.symm, hH, hG, p5, y5, hb5⟩
    case rest =>
      obtain ⟨g, k, rfl, rfl, hgk, hg, hk, rg, rk, hb9⟩ := hcut
      have f1 := Rw.frozen rg 1
      have c1 := Rw.cell rg 1
      simp only [List.getElem?_cons_zero, List.getElem?_cons_succ] at c1
      go_upto_region 11 with fail
      have p1 := rg.setCell 1 (.int .i64 0)
      have y1 := rk.other hgk.symm 1 (.int .i64 0)
      simp only [List.set_cons_zero, List.set_cons_succ] at p1
      have hb10 := hb9.setCell (p := ⟨g, 1, none⟩) hg (.int .i64 0)
      clear f1 c1 rg rk hb9
      generalize wc.setCell ⟨g, 1, none⟩ (.int .i64 0) = w10 at *
      have f1 := Rw.frozen y1 1
      have c1 := Rw.cell y1 1
      simp only [List.getElem?_cons_zero, List.getElem?_cons_succ] at c1
      go_upto_region 12 with fail
      have y2 := y1.setCell 1 (.int .i64 2)
      have p2 := p1.other hgk 1 (.int .i64 2)
      simp only [List.set_cons_zero, List.set_cons_succ] at y2
      have hb11 := hb10.setCell (p := ⟨k, 1, none⟩) hk (.int .i64 2)
      clear f1 c1 p1 y1 hb10
      generalize w10.setCell ⟨k, 1, none⟩ (.int .i64 2) = w11 at *
      have d2 := Rw.cell (rb.stay hb11) 2
      simp only [List.getElem?_cons_zero, List.getElem?_cons_succ] at d2
      go_wp2_with fail
      refine (KQ.out _).mono ?_
      rintro e wq ⟨rfl, hb⟩
      clear KQ d2
      replace y2 := y2.stay hb
      replace p2 := p2.stay hb
      replace hb11 := hb11.trans (hb.mono hb11.size)
      clear hb
      have f1 := Rw.frozen y2 2
      have c1 := Rw.cell y2 2
      simp only [List.getElem?_cons_zero, List.getElem?_cons_succ] at c1
      go_upto_region 13 with fail
      have y3 := y2.setCell 2 (.string TQ)
      have p3 := p2.other hgk 2 (.string TQ)
      simp only [List.set_cons_zero, List.set_cons_succ] at y3
      have hb12 := hb11.setCell (p := ⟨k, 2, none⟩) hk (.string TQ)
      clear f1 c1 p2 y2 hb11 rb
      generalize wq.setCell ⟨k, 2, none⟩ (.string TQ) = w12 at *
      cases b0 with
      | false =>
        clear KF2 KT0 KT2 HTL
        try simp only [List.append_eq, List.cons_append, List.nil_append]
        refine region_class (fun w' => M3 w12 g (.string T) (.int .i64 0) (.string TV) w' ∧ M3 w12 k (.string T) (.int .i64 2) (.string TQ) w') (by kernel_rfl) (by kernel_rfl) (⟨M3.of p3 (Below.refl _ _).drew, M3.of y3 (Below.refl _ _).drew⟩) ?_
        repeat
          first
          | go_big_quiet_skip
          | (go_big_quiet_want
             refine quiet_val ?_
             apply Exists.intro
             refine ⟨fun w' hw' => ?_, ?_⟩
             · obtain ⟨⟨_, e0, e1, e2⟩, _, e3, e4, e5⟩ := hw'
               go_simp
               first | done | rfl | exact ⟨rfl, rfl⟩
             simp only [Act.put, List.setIfInBounds_toArray, List.set_cons_zero, List.set_cons_succ]
             go_big_quiet_on)
          | (go_big_quiet_want
             refine quiet_call ?_
             apply Exists.intro
             apply Exists.intro
             refine ⟨fun w' => ?_, ?_⟩
             · go_simp
               first | done | rfl | exact ⟨rfl, rfl⟩
             apply Exists.intro
             refine ⟨fun w' hw' => ?_, ?_⟩
             · first
               | first | (go_at_call_of 15 (Value.string TV); exact (KF0.out _).mono fun e w'' ⟨he, hB⟩ => ⟨he, hw'.1.go hB, hw'.2.go hB⟩)
             simp only [Act.put, List.setIfInBounds_toArray, List.set_cons_zero, List.set_cons_succ]
             go_big_quiet_on)
        refine wpQuiet_nil ?_
        intro w5 hw5
        have hb13 := hw5.1.1
        go_wp2_with fail
        go_ret
        exact ⟨rfl, hB10.trans ((hb12.trans (hb13.mono hb12.size)).mono hB10.size)⟩
      | true =>
        cases b2 with
        | false =>
          clear KT0 KT2 HTL
          try simp only [List.append_eq, List.cons_append, List.nil_append]
          refine region_class (fun w' => M3 w12 g (.string T) (.int .i64 0) (.string TV) w' ∧ M3 w12 k (.string T) (.int .i64 2) (.string TQ) w') (by kernel_rfl) (by kernel_rfl) (⟨M3.of p3 (Below.refl _ _).drew, M3.of y3 (Below.refl _ _).drew⟩) ?_
          repeat
            first
            | go_big_quiet_skip
            | (go_big_quiet_want
               refine quiet_val ?_
               apply Exists.intro
               refine ⟨fun w' hw' => ?_, ?_⟩
               · obtain ⟨⟨_, e0, e1, e2⟩, _, e3, e4, e5⟩ := hw'
                 go_simp
                 first | done | rfl | exact ⟨rfl, rfl⟩
               simp only [Act.put, List.setIfInBounds_toArray, List.set_cons_zero, List.set_cons_succ]
               go_big_quiet_on)
            | (go_big_quiet_want
               refine quiet_call ?_
               apply Exists.intro
               apply Exists.intro
               refine ⟨fun w' => ?_, ?_⟩
               · go_simp
                 first | done | rfl | exact ⟨rfl, rfl⟩
               apply Exists.intro
               refine ⟨fun w' hw' => ?_, ?_⟩
               · first
                 | first | (go_at_call_of 15 (Value.string TV); exact (KF0.out _).mono fun e w'' ⟨he, hB⟩ => ⟨he, hw'.1.go hB, hw'.2.go hB⟩) | (go_at_call_of 15 (Value.string TQ); exact (KF2.out _).mono fun e w'' ⟨he, hB⟩ => ⟨he, hw'.1.go hB, hw'.2.go hB⟩)
               simp only [Act.put, List.setIfInBounds_toArray, List.set_cons_zero, List.set_cons_succ]
               go_big_quiet_on)
          refine wpQuiet_nil ?_
          intro w5 hw5
          have hb13 := hw5.1.1
          go_wp2_with fail
          go_ret
          exact ⟨rfl, hB10.trans ((hb12.trans (hb13.mono hb12.size)).mono hB10.size)⟩
        | true =>
          obtain rfl : t2 = t0 := HTL () rfl rfl
          clear HTL
          cases t2 with
          | false =>
            try simp only [List.append_eq, List.cons_append, List.nil_append]
            refine region_class (fun w' => M3 w12 g (.string T) (.int .i64 0) (.string TV) w' ∧ M3 w12 k (.string T) (.int .i64 2) (.string TQ) w') (by kernel_rfl) (by kernel_rfl) (⟨M3.of p3 (Below.refl _ _).drew, M3.of y3 (Below.refl _ _).drew⟩) ?_
            repeat
              first
              | go_big_quiet_skip
              | (go_big_quiet_want
                 refine quiet_val ?_
                 apply Exists.intro
                 refine ⟨fun w' hw' => ?_, ?_⟩
                 · obtain ⟨⟨_, e0, e1, e2⟩, _, e3, e4, e5⟩ := hw'
                   go_simp
                   first | done | rfl | exact ⟨rfl, rfl⟩
                 simp only [Act.put, List.setIfInBounds_toArray, List.set_cons_zero, List.set_cons_succ]
                 go_big_quiet_on)
              | (go_big_quiet_want
                 refine quiet_call ?_
                 apply Exists.intro
                 apply Exists.intro
                 refine ⟨fun w' => ?_, ?_⟩
                 · go_simp
                   first | done | rfl | exact ⟨rfl, rfl⟩
                 apply Exists.intro
                 refine ⟨fun w' hw' => ?_, ?_⟩
                 · first
                   | first | (go_at_call_of 15 (Value.string TV); exact (KF0.out _).mono fun e w'' ⟨he, hB⟩ => ⟨he, hw'.1.go hB, hw'.2.go hB⟩) | (go_at_call_of 15 (Value.string TQ); exact (KF2.out _).mono fun e w'' ⟨he, hB⟩ => ⟨he, hw'.1.go hB, hw'.2.go hB⟩) | (go_at_call_of 25 (Value.string TV); exact (KT0.out _ (hb12.trans (hw'.1.1.mono hb12.size))).mono fun e w'' ⟨he, hB⟩ => ⟨he, hw'.1.go hB, hw'.2.go hB⟩) | (go_at_call_of 25 (Value.string TQ); exact (KT2.out _ (hb12.trans (hw'.1.1.mono hb12.size))).mono fun e w'' ⟨he, hB⟩ => ⟨he, hw'.1.go hB, hw'.2.go hB⟩)
                 simp only [Act.put, List.setIfInBounds_toArray, List.set_cons_zero, List.set_cons_succ]
                 go_big_quiet_on)
            refine wpQuiet_nil ?_
            intro w5 hw5
            have hb13 := hw5.1.1
            go_wp2_with fail
            go_ret
            exact ⟨rfl, hB10.trans ((hb12.trans (hb13.mono hb12.size)).mono hB10.size)⟩
          | true =>
            try simp only [List.append_eq, List.cons_append, List.nil_append]
            refine region_class (fun w' => M3 w12 g (.string T) (.int .i64 0) (.string TV) w' ∧ M3 w12 k (.string T) (.int .i64 2) (.string TQ) w') (by kernel_rfl) (by kernel_rfl) (⟨M3.of p3 (Below.refl _ _).drew, M3.of y3 (Below.refl _ _).drew⟩) ?_
            repeat
              first
              | go_big_quiet_skip
              | (go_big_quiet_want
                 refine quiet_val ?_
                 apply Exists.intro
                 refine ⟨fun w' hw' => ?_, ?_⟩
                 · obtain ⟨⟨_, e0, e1, e2⟩, _, e3, e4, e5⟩ := hw'
                   go_simp
                   first | done | rfl | exact ⟨rfl, rfl⟩
                 simp only [Act.put, List.setIfInBounds_toArray, List.set_cons_zero, List.set_cons_succ]
                 go_big_quiet_on)
              | (go_big_quiet_want
                 refine quiet_call ?_
                 apply Exists.intro
                 apply Exists.intro
                 refine ⟨fun w' => ?_, ?_⟩
                 · go_simp
                   first | done | rfl | exact ⟨rfl, rfl⟩
                 apply Exists.intro
                 refine ⟨fun w' hw' => ?_, ?_⟩
                 · first
                   | first | (go_at_call_of 15 (Value.string TV); exact (KF0.out _).mono fun e w'' ⟨he, hB⟩ => ⟨he, hw'.1.go hB, hw'.2.go hB⟩) | (go_at_call_of 15 (Value.string TQ); exact (KF2.out _).mono fun e w'' ⟨he, hB⟩ => ⟨he, hw'.1.go hB, hw'.2.go hB⟩) | (go_at_call_of 25 (Value.string TV); exact (KT0.out _ (hb12.trans (hw'.1.1.mono hb12.size))).mono fun e w'' ⟨he, hB⟩ => ⟨he, hw'.1.go hB, hw'.2.go hB⟩) | (go_at_call_of 25 (Value.string TQ); exact (KT2.out _ (hb12.trans (hw'.1.1.mono hb12.size))).mono fun e w'' ⟨he, hB⟩ => ⟨he, hw'.1.go hB, hw'.2.go hB⟩)
                 simp only [Act.put, List.setIfInBounds_toArray, List.set_cons_zero, List.set_cons_succ]
                 go_big_quiet_on)
            refine wpQuiet_nil ?_
            intro w5 hw5
            have hb13 := hw5.1.1
            go_wp2_with fail
            go_ret
            exact ⟨rfl, hB10.trans ((hb12.trans (hb13.mono hb12.size)).mono hB10.size)⟩
end Go.Proofs.YteooofakpkbgoaaDoor
