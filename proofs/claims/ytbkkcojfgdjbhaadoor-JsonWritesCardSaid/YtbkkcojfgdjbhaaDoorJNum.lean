/- Numbers and words. -/
import Derived.Test.YtbkkcojfgdjbhaaDoorJKey
import Derived.Test.YtbkkcojfgdjbhaaDoorClass
import Derived.Lib.AppendIntMem
import Derived.Laws.ResultCell
import Derived.Laws.Rows
import Derived.Laws.Tables
namespace Go.Proofs.YtbkkcojfgdjbhaaDoor
open Go.ChangeShapes Go.WideShapes Go.RowKit

theorem Rw.row {w : World} {g : Nat} {t : TypeId} {cs : List Value} (h : Rw w g t cs) (cs' : List Value) : Rw (w.setRow g cs'.toArray) g t cs' := setRow_heap w g _ _ t _ h
theorem Rw.rowOther {w : World} {g k : Nat} {t : TypeId} {cs : List Value} (h : Rw w g t cs) (hk : g ≠ k) (a : Array Value) : Rw (w.setRow k a) g t cs := by unfold Rw at *; rw [setRow_other w k g a hk]; exact h
theorem Asd.setRow {S : Nat → Prop} {a w : World} (h : Asd S a w) {g : Nat} (hp : S g ∨ a.heap.size ≤ g) (cs : Array Value) : Asd S a (w.setRow g cs) :=
  ⟨h.os, h.tape, h.output, by rw [setRow_size]; exact h.size, fun k hk hn => by
    rw [setRow_other w g k cs (fun e => by subst e; rcases hp with hp | hp; exact hn hp; omega)]; exact h.block k hk hn⟩
section
variable {P : Program} {ops : Array Oper} {rest : List Oper} {o : Oper} {a : Act} {w : World} {Q : Exit → Act → World → Prop}
/-- A whole struct is written. -/
theorem store_arr (g : Nat) (t : TypeId) (old : List Value) (hr : Rw w g t old) (n : Nat) (ho' : old.length = n) (ty : TypeId) (hi : (P.info? ty).map (·.size) = some n) (cs : List Value) (hn : cs.length = n) (h1 : ∀ v ∈ cs, v.oneCell' = true) (x y : Operand) (hgd : o.guard = none) (ho : o.op = .store ty x y)
    (hx : a.eval x = .pointer (some ⟨g, 0, none⟩)) (hy : a.eval y = .agg cs.toArray)
    (h : wpList P ops Q rest (a.put o.dst undef) (w.setRow g cs.toArray)) : wpList P ops Q (o :: rest) a w :=
  wpList_store_row hgd ty x y ho g cs.toArray hx hy t old.toArray hr (by rw [hi]; simp [hn]) (by simp [hn, ho']) (by rw [Array.all_eq_true_iff_forall_mem]; intro v hv; exact h1 v (by simpa using hv)) h
end
/-- A value's five cells. -/
def cells5 (k n : Int) (s : Bs) (kv dv : Value) : List Value := [.int .i64 k, .int .i64 n, .string ⟨s.toArray⟩, kv, dv]
def zero5 : List Value := cells5 0 0 [] (.slice none 0 0) (.slice none 0 0)
theorem one5 (k n : Int) (s : Bs) {kv dv : Value} (h1 : kv.oneCell' = true) (h2 : dv.oneCell' = true) : ∀ v ∈ cells5 k n s kv dv, v.oneCell' = true := by
  intro v hv
  simp [cells5] at hv
  rcases hv with rfl | rfl | rfl | rfl | rfl
  · rfl
  · rfl
  · rfl
  · exact h1
  · exact h2
/-- Results: a value, and an error's number. -/
theorem ret_val {fn : Func} {p u : Tmp} {a : Act} {w : World} {R : Ending → World → Prop} (g : Nat) (t : TypeId) (cs : List Value) (hr : Rw w g t cs) (hn : cs.length = 5) (e : Value)
    (hf : fn.results = #[.cell p 29, .tmp u]) (hd : a.defers = []) (hp : a.tmps.getD p undef = .pointer (some ⟨g, 0, none⟩)) (hu : a.tmps.getD u undef = e) (h : R (.returned (.tuple #[.agg cs.toArray, e])) w) : bodyPost Tryd.prog fn R .ret a w := by
  refine bodyPost_ret (v := .tuple #[.agg cs.toArray, e]) ?_ hd h
  rw [results_cell_tmp hf, hp]
  have := run_loadVar_row (P := Tryd.prog) w g t 29 cs.toArray (0, 0) _ hr Tryd.underlying29 rfl (by rw [show cs.toArray.size = 5 by simp [hn]]; kernel_rfl)
  simp [asAddr, this, ← hu]
theorem parse_any (s : Bs) (w : World) (hE : Env w) (hl : s.length ≤ 1000000) :
    Calls Tryd.prog 71 #[.string ⟨s.toArray⟩, .int .i64 10, .int .i64 64] w fun e w' => (match Lib.parseIntB 64 s with
      | .ok v => e = .returned (.tuple #[.int .i64 v, .nilIface])
      | _ => ∃ v t p, e = .returned (.tuple #[.int .i64 v, .iface t p])) ∧ Below w.heap.size w w' := by
  have hsz : (⟨s.toArray⟩ : ByteArray).size = s.length := by simp [ByteArray.size]
  obtain ⟨t1, p1, e1⟩ := hE.syn
  obtain ⟨t2, p2, e2⟩ := hE.rng
  cases hx : Lib.parseIntB 64 s
  · rename_i v
    refine (Any.strconv_ParseInt_10_at64_ok Tryd.laysC174 ⟨s.toArray⟩ (by omega) v hx w).mono fun e w' h => ⟨h.1, ?_⟩
    rcases h.2 with rfl | ⟨t, rfl⟩
    · exact Below.refl _ _
    · exact Lib.bytesWorld_below w _ _
  · refine (Any.strconv_ParseInt_10_at64_syntax Tryd.laysC174 ⟨s.toArray⟩ (by omega) hx _ w e1 (.inr ⟨t1, p1, rfl⟩)).mono fun e w' h => ?_
    obtain ⟨N, h1, _, _, h2⟩ := h
    exact ⟨⟨_, _, _, h1⟩, h2⟩
  · refine (Any.strconv_ParseInt_10_at64_range Tryd.laysC174 ⟨s.toArray⟩ (by omega) hx _ w e2 (.inr ⟨t2, p2, rfl⟩)).mono fun e w' h => ?_
    obtain ⟨N, h1, _, _, h2⟩ := h
    exact ⟨⟨_, _, _, h1⟩, h2⟩
theorem format_any (v : Int) (h0 : -9223372036854775808 ≤ v) (h1 : v ≤ 9223372036854775807) (w : World) (hE : Env w) :
    Calls Tryd.prog 72 #[.int .i64 v, .int .i64 10] w fun e w' => e = .returned (.string ⟨(Lib.itoa v).toArray⟩) ∧ Below w.heap.size w w' :=
  (Any.strconv_FormatInt_10 Tryd.laysM173 v h0 h1 w (hE.pow w (Below.refl _ _))).mono fun e w' h => by
    obtain ⟨h1, k, os, rfl⟩ := h
    exact ⟨h1, Lib.below_grow _ w (Nat.le_refl _) k os⟩
theorem digit_any (c : UInt8) (w : World) : Calls Tryd.prog 48 #[.int .u8 (c.toNat : Int)] w fun e w' => e = .returned (.bool (isDig c)) ∧ w' = w := by
  have Hd : Unit → isDig c = (decide (48 ≤ (c.toNat : Int)) && decide ((c.toNat : Int) ≤ 57)) := fun _ => by
    unfold isDig
    congr 1 <;> (rw [decide_eq_decide]; omega)
  go_enter Tryd.func48, Tryd.ntmps48
  go_wp2
  all_goals
    go_ret
    refine ⟨?_, rfl⟩
    rw [Hd ()]
    simp_all
    try omega
theorem info_val : (Tryd.prog.info? 29).map (fun i => (i.zero, i.size)) = some (some (.agg zero5.toArray), 5) := by kernel_rfl
theorem zero_val (w : World) : (zeroValue 29).run Tryd.prog w = .ok (.agg zero5.toArray) w := (zero_of_info info_val).1 w
/-- How many digits there are. -/
theorem take_digits (l : Bs) : ∀ k, (∀ j c, j < k → l[j]? = some c → isDig c = true) → k ≤ l.length → (∀ c, l[k]? = some c → isDig c = false) → l.takeWhile isDig = l.take k ∧ l.dropWhile isDig = l.drop k := by
  induction l with
  | nil => intro k _ hk _; simp at hk; subst hk; simp
  | cons a l ih =>
    intro k hd hk he
    cases k with
    | zero =>
      have := he a rfl
      simp [this]
    | succ k =>
      have h1 := hd 0 a (by omega) rfl
      obtain ⟨h2, h3⟩ := ih k (fun j c hj hc => hd (j + 1) c (by omega) hc) (by simpa using hk) (fun c hc => he c hc)
      simp [h1, h2, h3]
/-- What a call that reads a value hands back. -/
def ValP (R n : Nat) (M : Value) (w : World) (o : Rs (List Value)) (e : Ending) (w' : World) : Prop :=
  (match o with
    | .ok cs r => e = .returned (.tuple #[.agg cs.toArray, .int .i64 0]) ∧ Rq w' R r n M
    | .err er => ∃ r, e = .returned (.tuple #[.agg zero5.toArray, .int .i64 er]) ∧ Rq w' R r n M) ∧ Asd (· = R) w w'
def numC (l : Bs) : Rs (List Value) := match numN l with
  | .ok (.mk k v _ _ _) r => .ok (cells5 k v [] (.slice none 0 0) (.slice none 0 0)) r
  | .err e => .err e

theorem numC_ok {c0 : UInt8} {l0 : Bs} {k : Nat} {v : Int} (h2 : l0.takeWhile isDig = l0.take k) (h3 : l0.dropWhile isDig = l0.drop k) (hx : Lib.parseIntB 64 (c0 :: l0.take k) = .ok v) (he : Lib.itoa v = c0 :: l0.take k) :
    numC (c0 :: l0) = .ok (cells5 3 v [] (.slice none 0 0) (.slice none 0 0)) (l0.drop k) := by
  unfold numC numN
  simp only [List.take_succ_cons, List.take_zero, List.drop_succ_cons, List.drop_zero, List.cons_append, List.nil_append, h2, h3, hx, he, if_true]
theorem numC_bad {c0 : UInt8} {l0 : Bs} {k : Nat} (h2 : l0.takeWhile isDig = l0.take k) (hx : ∀ v, Lib.parseIntB 64 (c0 :: l0.take k) = .ok v → Lib.itoa v ≠ c0 :: l0.take k) : numC (c0 :: l0) = .err 2 := by
  unfold numC numN
  simp only [List.take_succ_cons, List.take_zero, List.drop_succ_cons, List.drop_zero, List.cons_append, List.nil_append, h2]
  cases hp : Lib.parseIntB 64 (c0 :: l0.take k) with
  | ok v => simp only; rw [if_neg (hx v hp)]
  | _ => rfl
theorem parse_bounds {s : Bs} {v : Int} (h : Lib.parseIntB 64 s = .ok v) : -9223372036854775808 ≤ v ∧ v ≤ 9223372036854775807 := by
  unfold Lib.parseIntB at h
  cases s with
  | nil => cases h
  | cons c r =>
    simp only at h
    split at h
    · cases h
    · cases h
    · split at h
      · cases h
      · split at h
        · cases h
        · injection h with h
          subst h
          split <;> omega
theorem parse_nil {s : Bs} {v : Int} (h : Lib.parseIntB 64 s = .ok v) : s ≠ [] := by rintro rfl; cases h
/-- A world but for what was drawn. -/
def Drew (w w' : World) : Prop := ∃ d, w' = { w with drawn := d }
theorem Drew.below {w w' : World} (h : Drew w w') : Below w.heap.size w w' := by obtain ⟨d, rfl⟩ := h; exact ⟨rfl, rfl, rfl, Nat.le_refl _, fun _ _ => rfl⟩
/-- What a number's check looks at. -/
def Cn (W : World) (R : Nat) (X : ByteArray) (w' : World) : Prop := Below W.heap.size W w' ∧ w'.cell? ⟨R, 0, none⟩ = some (.string X) ∧ Env w'
theorem Cn.env {W w' : World} {R : Nat} {X : ByteArray} (h : Cn W R X w') : Env w' := h.2.2
theorem Cn.step {W w' w2 : World} {R : Nat} {X : ByteArray} (h : Cn W R X w') (hb : Below w'.heap.size w' w2) : Cn W R X w2 := by
  refine ⟨h.1.trans (hb.mono h.1.size), ?_, h.2.2.keep (hb.mono h.2.2.big)⟩
  rw [hb.cell (World.block_lt_of_cell? _ _ h.2.1)]; exact h.2.1

set_option maxHeartbeats 1600000 in
set_option maxRecDepth 100000 in
theorem num_any (R : Nat) (c0 : UInt8) (l0 : Bs) (n : Nat) (M : Value) (w : World) (h : Rq w R (c0 :: l0) n M) (hE : Env w) (hl : (c0 :: l0).length ≤ 1000000) :
    Calls Tryd.prog 49 #[.pointer (some ⟨R, 0, none⟩)] w (ValP R n M w (numC (c0 :: l0))) := by
  have hz := zero_val
  have hRw : R < w.heap.size := Rw.lt h
  have hs : (⟨(c0 :: l0).toArray⟩ : ByteArray).size = l0.length + 1 := by simp [ByteArray.size]
  have hl0 : l0.length + 1 ≤ 1000000 := by simpa using hl
  have HI : ∀ (k : Nat) (c : UInt8), (c0 :: l0)[k]? = some c → ∀ w, (Instr.index 9 (.string ⟨(c0 :: l0).toArray⟩) (.int .i64 (k : Int))).run Tryd.prog w = .ok (.int .u8 (c.toNat : Int)) w := fun k c hk => at_text _ k c hk (k : Int) rfl
  have HU : ∀ k : Nat, k ≤ (c0 :: l0).length → ∀ w, (Instr.slice 9 (.string ⟨(c0 :: l0).toArray⟩) none (some (.int .i64 (k : Int))) none).run Tryd.prog w = .ok (.string ⟨((c0 :: l0).take k).toArray⟩) w := fun k hk => cut_upto _ k hk (k : Int) rfl
  have HC : ∀ k : Nat, k ≤ (c0 :: l0).length → ∀ w, (Instr.slice 9 (.string ⟨(c0 :: l0).toArray⟩) (some (.int .i64 (k : Int))) none none).run Tryd.prog w = .ok (.string ⟨((c0 :: l0).drop k).toArray⟩) w := fun k hk => cut_text _ k hk (k : Int) rfl
  have cr := h.rest
  generalize hX : (⟨(c0 :: l0).toArray⟩ : ByteArray) = X at *
  have HX : Unit → (⟨(c0 :: l0).toArray⟩ : ByteArray) = X := fun _ => hX
  clear hX
  have HI2 : Unit → _ := fun _ => HI
  have HU2 : Unit → _ := fun _ => HU
  have HC2 : Unit → _ := fun _ => HC
  clear HI HU HC
  go_enter Tryd.func49, Tryd.ntmps49
  go_upto_region 2 with fail
  have rV := Rw.new w 29 zero5
  have hb1 : Below w.heap.size w (w.alloc (.cells zero5.toArray 29)) := (Below.refl _ _).alloc (Nat.le_refl _) _
  replace h := h.stay hb1
  replace hE := hE.keep (hb1.mono hE.big)
  have a1 : Asd (· = R) w (w.alloc (.cells zero5.toArray 29)) := Asd.of_below hb1
  replace cr := h.rest
  rw [HX ()] at cr
  clear hb1
  generalize w.alloc (.cells zero5.toArray 29) = W1 at *
  generalize hV : w.heap.size = V at *
  have HV : Unit → w.heap.size = V := fun _ => hV
  clear hV
  go_loopw [4] (fun i wr => ∃ k : Nat, k ≤ l0.length ∧ i = .int .i64 ((k : Int) + 1) ∧ Hid (∀ j c, j < k → l0[j]? = some c → isDig c = true) ∧ wr = W1) (fun i _ => l0.length + 1 - (intOf i).toNat)
  case atStart => exact ⟨0, by omega, rfl, fun j c hj => by omega, rfl⟩
  case round =>
    obtain ⟨k, hk, rfl, hdig, rfl⟩ := hrel
    have hend : (∃ c, l0[k]? = some c ∧ isDig c = true) ∨ (∀ c, l0[k]? = some c → isDig c = false) := by
      cases hc : l0[k]? with
      | none => exact .inr (fun c e => by cases e)
      | some c =>
        cases hd : isDig c with
        | true => exact .inl ⟨c, rfl, hd⟩
        | false => exact .inr (fun c' e => by injection e with e; rw [← e]; exact hd)
    rcases hend with ⟨c, hc, hd⟩ | hend
    · have hklt : k < l0.length := (List.getElem?_eq_some_iff.1 hc).1
      have hi := HI2 () (k + 1) c hc
      rw [show ((k + 1 : Nat) : Int) = (k : Int) + 1 by omega] at hi
      have Hnx : Unit → Hid (∀ j c, j < k + 1 → l0[j]? = some c → isDig c = true) := fun _ j c' hj hc' => by
        by_cases e : j = k
        · subst e
          rw [hc] at hc'; injection hc' with e; rw [← e]; exact hd
        · exact hdig.out j c' (by omega) hc'
      have KD := Lib.hid (digit_any c wr)
      rw [hd] at KD
      have hlt : (k : Int) + 1 < (l0.length : Int) + 1 := by omega
      clear hdig hc hd
      go_wp2_with (go_at_call 48; refine KD.out.mono ?_; rintro e w' ⟨rfl, rfl⟩)
      go_roundw
      case rel => exact ⟨k + 1, by omega, by go_num, Hnx (), trivial⟩
      case measure => simp [intOf]; omega
    · have hlast : (k = l0.length ∧ True) ∨ ∃ c, l0[k]? = some c ∧ isDig c = false ∧ k < l0.length := by
        by_cases e : k < l0.length
        · exact .inr ⟨_, List.getElem?_eq_getElem e, hend _ (List.getElem?_eq_getElem e), e⟩
        · exact .inl ⟨by omega, trivial⟩
      obtain ⟨h2, h3⟩ := take_digits l0 k hdig.out hk hend
      have hu := HU2 () (k + 1) (by simpa using hk)
      have hct := HC2 () (k + 1) (by simpa using hk)
      rw [show ((k + 1 : Nat) : Int) = (k : Int) + 1 by omega] at hu hct
      rw [List.take_succ_cons] at hu
      rw [List.drop_succ_cons] at hct
      have KP := Lib.hid (parse_any (c0 :: l0.take k) wr hE (by simp; omega))
      have Hok : Unit → ∀ v, Lib.parseIntB 64 (c0 :: l0.take k) = .ok v → Lib.itoa v = c0 :: l0.take k → numC (c0 :: l0) = .ok (cells5 3 v [] (.slice none 0 0) (.slice none 0 0)) (l0.drop k) := fun _ v => numC_ok h2 h3
      have Hbad : Unit → (∀ v, Lib.parseIntB 64 (c0 :: l0.take k) = .ok v → Lib.itoa v ≠ c0 :: l0.take k) → numC (c0 :: l0) = .err 2 := fun _ => numC_bad h2
      clear hend hdig h2 h3
      cases hx : Lib.parseIntB 64 (c0 :: l0.take k) with
      | ok v =>
        obtain ⟨hv0, hv1⟩ := parse_bounds hx
        have KF := Lib.hid (fun w' (e' : Env w') => format_any v hv0 hv1 w' e')
        rw [hx] at KP
        have hcmp := same_text (Lib.itoa v) (c0 :: l0.take k)
        by_cases heq : Lib.itoa v = c0 :: l0.take k
        · have HO : Unit → numC (c0 :: l0) = .ok (cells5 3 v [] (.slice none 0 0) (.slice none 0 0)) (l0.drop k) := fun _ => Hok () v hx heq
          rw [heq] at KF
          clear Hok Hbad hx hcmp heq hv0 hv1
          generalize (⟨(c0 :: l0.take k).toArray⟩ : ByteArray) = Y at *
          generalize l0.drop k = rest at *
          rcases hlast with ⟨hkk, _⟩ | ⟨c, hc, hd, hklt⟩
          · have hlt : ¬ (k : Int) + 1 < (l0.length : Int) + 1 := by omega
            clear hkk
            go_wp2_with fail
            with_reducible refine KP.out.mono ?_
            rintro e w2 ⟨rfl, hb2⟩
            clear KP
            replace h := h.stay hb2
            replace rV := rV.stay hb2
            replace a1 := a1.below hb2
            replace hE := hE.keep (hb2.mono hE.big)
            have cr2 := h.rest
            rw [HX ()] at cr2
            have hcn : Cn w2 R X w2.drew := ⟨(Below.refl _ _).drew, cr2, hE.keep (Below.refl _ _).drew⟩
            clear cr hb2
            go_upto_region 5 with fail
            try simp only [List.append_eq, List.cons_append, List.nil_append]
            refine region_class (fun w' => Cn w2 R X w') (by kernel_rfl) (by kernel_rfl) (hcn) ?_
            repeat
              first
              | go_big_quiet_skip
              | (go_big_quiet_want
                 refine quiet_val ?_
                 apply Exists.intro
                 refine ⟨fun w' hw' => ?_, ?_⟩
                 · obtain ⟨_, e1, _⟩ := hw'
                   go_simp
                   first | done | rfl | exact ⟨rfl, rfl⟩
                 simp only [Act.put, List.setIfInBounds_toArray, List.set_cons_zero, List.set_cons_succ]
                 go_big_quiet_on)
              | (go_big_quiet_want
                 refine quiet_call ?_
                 apply Exists.intro
                 apply Exists.intro
                 refine ⟨fun w' => ?_, ?_⟩
                 · go_simp
                   first | done | rfl | exact ⟨rfl, rfl⟩
                 apply Exists.intro
                 refine ⟨fun w' hw' => ?_, ?_⟩
                 · first
                   | (with_reducible refine (KF.out _ (Cn.env hw')).mono ?_); (rintro e w3 ⟨rfl, hdd⟩; exact ⟨rfl, hw'.step hdd⟩)
                 simp only [Act.put, List.setIfInBounds_toArray, List.set_cons_zero, List.set_cons_succ]
                 go_big_quiet_on)
            refine wpQuiet_nil ?_
            intro w5 hw5
            replace h := h.stay hw5.1
            replace rV := rV.stay hw5.1
            replace a1 := a1.below hw5.1
            clear hw5 hcn cr2 KF
            have cr3 := h.rest
            rw [HX ()] at cr3
            have f3 := Rw.frozen h 0
            have hq3 := h
            go_wp2_with (refine store_arr V 29 zero5 (rV.other (by omega) _ _) 5 rfl 29 (by kernel_rfl) (cells5 3 v [] (.slice none 0 0) (.slice none 0 0)) rfl (one5 _ _ _ rfl rfl) _ _ rfl rfl rfl rfl ?_)
            refine ret_val V 29 _ ((rV.other (by omega) _ _).row _) rfl _ rfl rfl rfl rfl ?_
            refine ⟨?_, by first | (refine Asd.setRow ?_ (.inr ?_) _; exact a1.set1 _ _; rw [HV ()]; exact Nat.le_refl _)⟩
            rw [HO ()]
            exact ⟨rfl, Rw.rowOther (hq3.set _) (by omega) _⟩
          · have hi := HI2 () (k + 1) c hc
            rw [show ((k + 1 : Nat) : Int) = (k : Int) + 1 by omega] at hi
            have KD := Lib.hid (digit_any c wr)
            rw [hd] at KD
            have hlt : (k : Int) + 1 < (l0.length : Int) + 1 := by omega
            clear hc hd
            go_wp2_with (go_at_call 48; refine KD.out.mono ?_; rintro e w' ⟨rfl, rfl⟩)
            with_reducible refine KP.out.mono ?_
            rintro e w2 ⟨rfl, hb2⟩
            clear KP
            replace h := h.stay hb2
            replace rV := rV.stay hb2
            replace a1 := a1.below hb2
            replace hE := hE.keep (hb2.mono hE.big)
            have cr2 := h.rest
            rw [HX ()] at cr2
            have hcn : Cn w2 R X w2.drew := ⟨(Below.refl _ _).drew, cr2, hE.keep (Below.refl _ _).drew⟩
            clear cr hb2
            go_upto_region 5 with fail
            try simp only [List.append_eq, List.cons_append, List.nil_append]
            refine region_class (fun w' => Cn w2 R X w') (by kernel_rfl) (by kernel_rfl) (hcn) ?_
            repeat
              first
              | go_big_quiet_skip
              | (go_big_quiet_want
                 refine quiet_val ?_
                 apply Exists.intro
                 refine ⟨fun w' hw' => ?_, ?_⟩
                 · obtain ⟨_, e1, _⟩ := hw'
                   go_simp
                   first | done | rfl | exact ⟨rfl, rfl⟩
                 simp only [Act.put, List.setIfInBounds_toArray, List.set_cons_zero, List.set_cons_succ]
                 go_big_quiet_on)
              | (go_big_quiet_want
                 refine quiet_call ?_
                 apply Exists.intro
                 apply Exists.intro
                 refine ⟨fun w' => ?_, ?_⟩
                 · go_simp
                   first | done | rfl | exact ⟨rfl, rfl⟩
                 apply Exists.intro
                 refine ⟨fun w' hw' => ?_, ?_⟩
                 · first
                   | (with_reducible refine (KF.out _ (Cn.env hw')).mono ?_); (rintro e w3 ⟨rfl, hdd⟩; exact ⟨rfl, hw'.step hdd⟩)
                 simp only [Act.put, List.setIfInBounds_toArray, List.set_cons_zero, List.set_cons_succ]
                 go_big_quiet_on)
            refine wpQuiet_nil ?_
            intro w5 hw5
            replace h := h.stay hw5.1
            replace rV := rV.stay hw5.1
            replace a1 := a1.below hw5.1
            clear hw5 hcn cr2 KF
            have cr3 := h.rest
            rw [HX ()] at cr3
            have f3 := Rw.frozen h 0
            have hq3 := h
            go_wp2_with (refine store_arr V 29 zero5 (rV.other (by omega) _ _) 5 rfl 29 (by kernel_rfl) (cells5 3 v [] (.slice none 0 0) (.slice none 0 0)) rfl (one5 _ _ _ rfl rfl) _ _ rfl rfl rfl rfl ?_)
            refine ret_val V 29 _ ((rV.other (by omega) _ _).row _) rfl _ rfl rfl rfl rfl ?_
            refine ⟨?_, by first | (refine Asd.setRow ?_ (.inr ?_) _; exact a1.set1 _ _; rw [HV ()]; exact Nat.le_refl _)⟩
            rw [HO ()]
            exact ⟨rfl, Rw.rowOther (hq3.set _) (by omega) _⟩
        · have HE : Unit → numC (c0 :: l0) = .err 2 := fun _ => Hbad () (fun v' e => by rw [hx] at e; injection e with e; rw [← e]; exact heq)
          rw [show (Lib.itoa v == c0 :: l0.take k) = false from by rw [beq_eq_false_iff_ne]; exact heq] at hcmp
          clear Hok Hbad hx heq hv0 hv1
          generalize (⟨(c0 :: l0.take k).toArray⟩ : ByteArray) = Y at *
          generalize (⟨(Lib.itoa v).toArray⟩ : ByteArray) = Z at *
          rcases hlast with ⟨hkk, _⟩ | ⟨c, hc, hd, hklt⟩
          · have hlt : ¬ (k : Int) + 1 < (l0.length : Int) + 1 := by omega
            clear hkk
            go_wp2_with fail
            with_reducible refine KP.out.mono ?_
            rintro e w2 ⟨rfl, hb2⟩
            clear KP
            replace h := h.stay hb2
            replace rV := rV.stay hb2
            replace a1 := a1.below hb2
            replace hE := hE.keep (hb2.mono hE.big)
            have cr2 := h.rest
            rw [HX ()] at cr2
            have hcn : Cn w2 R X w2.drew := ⟨(Below.refl _ _).drew, cr2, hE.keep (Below.refl _ _).drew⟩
            clear cr hb2
            go_upto_region 5 with fail
            try simp only [List.append_eq, List.cons_append, List.nil_append]
            refine region_class (fun w' => Cn w2 R X w') (by kernel_rfl) (by kernel_rfl) (hcn) ?_
            repeat
              first
              | go_big_quiet_skip
              | (go_big_quiet_want
                 refine quiet_val ?_
                 apply Exists.intro
                 refine ⟨fun w' hw' => ?_, ?_⟩
                 · obtain ⟨_, e1, _⟩ := hw'
                   go_simp
                   first | done | rfl | exact ⟨rfl, rfl⟩
                 simp only [Act.put, List.setIfInBounds_toArray, List.set_cons_zero, List.set_cons_succ]
                 go_big_quiet_on)
              | (go_big_quiet_want
                 refine quiet_call ?_
                 apply Exists.intro
                 apply Exists.intro
                 refine ⟨fun w' => ?_, ?_⟩
                 · go_simp
                   first | done | rfl | exact ⟨rfl, rfl⟩
                 apply Exists.intro
                 refine ⟨fun w' hw' => ?_, ?_⟩
                 · first
                   | (with_reducible refine (KF.out _ (Cn.env hw')).mono ?_); (rintro e w3 ⟨rfl, hdd⟩; exact ⟨rfl, hw'.step hdd⟩)
                 simp only [Act.put, List.setIfInBounds_toArray, List.set_cons_zero, List.set_cons_succ]
                 go_big_quiet_on)
            refine wpQuiet_nil ?_
            intro w5 hw5
            replace h := h.stay hw5.1
            replace rV := rV.stay hw5.1
            replace a1 := a1.below hw5.1
            clear hw5 hcn cr2 KF
            have cr3 := h.rest
            rw [HX ()] at cr3
            have f3 := Rw.frozen h 0
            have hq3 := h
            go_wp2_with (refine store_arr V 29 zero5 rV 5 rfl 29 (by kernel_rfl) zero5 rfl (one5 _ _ _ rfl rfl) _ _ rfl rfl rfl rfl ?_)
            refine ret_val V 29 zero5 (rV.row _) rfl _ rfl rfl rfl rfl ?_
            refine ⟨?_, by first | (refine Asd.setRow ?_ (.inr ?_) _; exact a1; rw [HV ()]; exact Nat.le_refl _)⟩
            rw [HE ()]
            exact ⟨_, rfl, Rw.rowOther h (by omega) _⟩
          · have hi := HI2 () (k + 1) c hc
            rw [show ((k + 1 : Nat) : Int) = (k : Int) + 1 by omega] at hi
            have KD := Lib.hid (digit_any c wr)
            rw [hd] at KD
            have hlt : (k : Int) + 1 < (l0.length : Int) + 1 := by omega
            clear hc hd
            go_wp2_with (go_at_call 48; refine KD.out.mono ?_; rintro e w' ⟨rfl, rfl⟩)
            with_reducible refine KP.out.mono ?_
            rintro e w2 ⟨rfl, hb2⟩
            clear KP
            replace h := h.stay hb2
            replace rV := rV.stay hb2
            replace a1 := a1.below hb2
            replace hE := hE.keep (hb2.mono hE.big)
            have cr2 := h.rest
            rw [HX ()] at cr2
            have hcn : Cn w2 R X w2.drew := ⟨(Below.refl _ _).drew, cr2, hE.keep (Below.refl _ _).drew⟩
            clear cr hb2
            go_upto_region 5 with fail
            try simp only [List.append_eq, List.cons_append, List.nil_append]
            refine region_class (fun w' => Cn w2 R X w') (by kernel_rfl) (by kernel_rfl) (hcn) ?_
            repeat
              first
              | go_big_quiet_skip
              | (go_big_quiet_want
                 refine quiet_val ?_
                 apply Exists.intro
                 refine ⟨fun w' hw' => ?_, ?_⟩
                 · obtain ⟨_, e1, _⟩ := hw'
                   go_simp
                   first | done | rfl | exact ⟨rfl, rfl⟩
                 simp only [Act.put, List.setIfInBounds_toArray, List.set_cons_zero, List.set_cons_succ]
                 go_big_quiet_on)
              | (go_big_quiet_want
                 refine quiet_call ?_
                 apply Exists.intro
                 apply Exists.intro
                 refine ⟨fun w' => ?_, ?_⟩
                 · go_simp
                   first | done | rfl | exact ⟨rfl, rfl⟩
                 apply Exists.intro
                 refine ⟨fun w' hw' => ?_, ?_⟩
                 · first
                   | (with_reducible refine (KF.out _ (Cn.env hw')).mono ?_); (rintro e w3 ⟨rfl, hdd⟩; exact ⟨rfl, hw'.step hdd⟩)
                 simp only [Act.put, List.setIfInBounds_toArray, List.set_cons_zero, List.set_cons_succ]
                 go_big_quiet_on)
            refine wpQuiet_nil ?_
            intro w5 hw5
            replace h := h.stay hw5.1
            replace rV := rV.stay hw5.1
            replace a1 := a1.below hw5.1
            clear hw5 hcn cr2 KF
            have cr3 := h.rest
            rw [HX ()] at cr3
            have f3 := Rw.frozen h 0
            have hq3 := h
            go_wp2_with (refine store_arr V 29 zero5 rV 5 rfl 29 (by kernel_rfl) zero5 rfl (one5 _ _ _ rfl rfl) _ _ rfl rfl rfl rfl ?_)
            refine ret_val V 29 zero5 (rV.row _) rfl _ rfl rfl rfl rfl ?_
            refine ⟨?_, by first | (refine Asd.setRow ?_ (.inr ?_) _; exact a1; rw [HV ()]; exact Nat.le_refl _)⟩
            rw [HE ()]
            exact ⟨_, rfl, Rw.rowOther h (by omega) _⟩
      | _ =>
        have HE : Unit → numC (c0 :: l0) = .err 2 := fun _ => Hbad () (fun v' e => by rw [hx] at e; cases e)
        rw [hx] at KP
        clear Hok Hbad hx
        generalize (⟨(c0 :: l0.take k).toArray⟩ : ByteArray) = Y at *
        rcases hlast with ⟨hkk, _⟩ | ⟨c, hc, hd, hklt⟩
        · have hlt : ¬ (k : Int) + 1 < (l0.length : Int) + 1 := by omega
          clear hkk
          go_wp2_with fail
          with_reducible refine KP.out.mono ?_
          rintro e w2 ⟨⟨pv, pt, pp, rfl⟩, hb2⟩
          clear KP
          replace h := h.stay hb2
          replace rV := rV.stay hb2
          replace a1 := a1.below hb2
          have cr2 := h.rest
          rw [HX ()] at cr2
          clear cr hb2
          go_upto_region 5 with fail
          try simp only [List.append_eq, List.cons_append, List.nil_append]
          refine region_class (fun w' => Drew w2 w') (by kernel_rfl) (by kernel_rfl) (⟨_, rfl⟩) ?_
          repeat
            first
            | go_big_quiet_skip
            | (go_big_quiet_want
               refine quiet_val ?_
               apply Exists.intro
               refine ⟨fun w' hw' => ?_, ?_⟩
               · obtain hhh := hw'
                 go_simp
                 first | done | rfl | exact ⟨rfl, rfl⟩
               simp only [Act.put, List.setIfInBounds_toArray, List.set_cons_zero, List.set_cons_succ]
               go_big_quiet_on)
            | (go_big_quiet_want
               refine quiet_call ?_
               apply Exists.intro
               apply Exists.intro
               refine ⟨fun w' => ?_, ?_⟩
               · go_simp
                 first | done | rfl | exact ⟨rfl, rfl⟩
               apply Exists.intro
               refine ⟨fun w' hw' => ?_, ?_⟩
               · first
                 | fail
               simp only [Act.put, List.setIfInBounds_toArray, List.set_cons_zero, List.set_cons_succ]
               go_big_quiet_on)
          refine wpQuiet_nil ?_
          intro w5 hw5
          replace h := h.stay (Drew.below hw5)
          replace rV := rV.stay (Drew.below hw5)
          replace a1 := a1.below (Drew.below hw5)
          clear hw5 cr2
          go_wp2_with (refine store_arr V 29 zero5 rV 5 rfl 29 (by kernel_rfl) zero5 rfl (one5 _ _ _ rfl rfl) _ _ rfl rfl rfl rfl ?_)
          refine ret_val V 29 zero5 (rV.row _) rfl _ rfl rfl rfl rfl ?_
          refine ⟨?_, by first | (refine Asd.setRow ?_ (.inr ?_) _; exact a1; rw [HV ()]; exact Nat.le_refl _)⟩
          rw [HE ()]
          exact ⟨_, rfl, Rw.rowOther h (by omega) _⟩
        · have hi := HI2 () (k + 1) c hc
          rw [show ((k + 1 : Nat) : Int) = (k : Int) + 1 by omega] at hi
          have KD := Lib.hid (digit_any c wr)
          rw [hd] at KD
          have hlt : (k : Int) + 1 < (l0.length : Int) + 1 := by omega
          clear hc hd
          go_wp2_with (go_at_call 48; refine KD.out.mono ?_; rintro e w' ⟨rfl, rfl⟩)
          with_reducible refine KP.out.mono ?_
          rintro e w2 ⟨⟨pv, pt, pp, rfl⟩, hb2⟩
          clear KP
          replace h := h.stay hb2
          replace rV := rV.stay hb2
          replace a1 := a1.below hb2
          have cr2 := h.rest
          rw [HX ()] at cr2
          clear cr hb2
          go_upto_region 5 with fail
          try simp only [List.append_eq, List.cons_append, List.nil_append]
          refine region_class (fun w' => Drew w2 w') (by kernel_rfl) (by kernel_rfl) (⟨_, rfl⟩) ?_
          repeat
            first
            | go_big_quiet_skip
            | (go_big_quiet_want
               refine quiet_val ?_
               apply Exists.intro
               refine ⟨fun w' hw' => ?_, ?_⟩
               · obtain hhh := hw'
                 go_simp
                 first | done | rfl | exact ⟨rfl, rfl⟩
               simp only [Act.put, List.setIfInBounds_toArray, List.set_cons_zero, List.set_cons_succ]
               go_big_quiet_on)
            | (go_big_quiet_want
               refine quiet_call ?_
               apply Exists.intro
               apply Exists.intro
               refine ⟨fun w' => ?_, ?_⟩
               · go_simp
                 first | done | rfl | exact ⟨rfl, rfl⟩
               apply Exists.intro
               refine ⟨fun w' hw' => ?_, ?_⟩
               · first
                 | fail
               simp only [Act.put, List.setIfInBounds_toArray, List.set_cons_zero, List.set_cons_succ]
               go_big_quiet_on)
          refine wpQuiet_nil ?_
          intro w5 hw5
          replace h := h.stay (Drew.below hw5)
          replace rV := rV.stay (Drew.below hw5)
          replace a1 := a1.below (Drew.below hw5)
          clear hw5 cr2
          go_wp2_with (refine store_arr V 29 zero5 rV 5 rfl 29 (by kernel_rfl) zero5 rfl (one5 _ _ _ rfl rfl) _ _ rfl rfl rfl rfl ?_)
          refine ret_val V 29 zero5 (rV.row _) rfl _ rfl rfl rfl rfl ?_
          refine ⟨?_, by first | (refine Asd.setRow ?_ (.inr ?_) _; exact a1; rw [HV ()]; exact Nat.le_refl _)⟩
          rw [HE ()]
          exact ⟨_, rfl, Rw.rowOther h (by omega) _⟩
end Go.Proofs.YtbkkcojfgdjbhaaDoor
