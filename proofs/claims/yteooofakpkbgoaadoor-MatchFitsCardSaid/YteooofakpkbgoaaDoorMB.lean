/- MB: several texts in one. -/
import Derived.Test.YteooofakpkbgoaaDoorMA
import Derived.Test.YteooofakpkbgoaaDoorPC
import Derived.Test.YteooofakpkbgoaaDoorPB
import Derived.Test.YteooofakpkbgoaaDoorShelf
import Derived.Lib.IndexAny
import Derived.Laws.Rows
import Derived.Laws.RangeAny
import Derived.Laws.RangeString
import Derived.Laws.Runes
import Derived.Scope
import Derived.Deep.LoopGhost
import Derived.RangeFuncRecord
/- Which matchers may be: the walk; the value of a name; the comparisons. -/
namespace Go.Proofs.YteooofakpkbgoaaDoor
open Go.ChangeShapes Go.WideShapes Go.RowKit

theorem fine_cases (m : Mt) : (nameB m.n = false ∧ fineB m = false) ∨ (nameB m.n = true ∧ 200 < m.v.length ∧ fineB m = false) ∨ (nameB m.n = true ∧ m.v.length ≤ 200 ∧ ((m.op = 0 ∧ fineB m = true) ∨ (m.op = 1 ∧ fineB m = true) ∨ (m.op = 2 ∧ fineB m = decide (errM m.v = 0)) ∨ (m.op = 3 ∧ fineB m = decide (errM m.v = 0)) ∨ (m.op ≠ 0 ∧ m.op ≠ 1 ∧ m.op ≠ 2 ∧ m.op ≠ 3 ∧ fineB m = false))) := by
  unfold fineB
  cases hn : nameB m.n with
  | false => exact .inl ⟨rfl, rfl⟩
  | true =>
    by_cases hv : m.v.length ≤ 200
    · refine .inr (.inr ⟨rfl, hv, ?_⟩)
      rw [decide_eq_true hv]
      by_cases h0 : m.op = 0
      · exact .inl ⟨h0, by rw [h0]; rfl⟩
      · by_cases h1 : m.op = 1
        · exact .inr (.inl ⟨h1, by rw [h1]; rfl⟩)
        · by_cases h2 : m.op = 2
          · exact .inr (.inr (.inl ⟨h2, by rw [h2]; simp⟩))
          · by_cases h3 : m.op = 3
            · exact .inr (.inr (.inr (.inl ⟨h3, by rw [h3]; simp⟩)))
            · exact .inr (.inr (.inr (.inr ⟨h0, h1, h2, h3, by simp [h0, h1, h2, h3]⟩)))
    · refine .inr (.inl ⟨rfl, by omega, ?_⟩)
      rw [decide_eq_false hv]; rfl
theorem eqI_false {x y : Int} (h : x ≠ y) : (x == y) = false := by rw [beq_eq_false_iff_ne]; exact h
set_option maxHeartbeats 3200000 in
set_option maxRecDepth 100000 in
theorem fine_any (m : Mt) (w : World) (hn : m.n.length ≤ 9223372036854775807) (hv : m.v.length ≤ 9223372036854775807) : Calls Tryd.prog 15 #[.agg #[.string ⟨m.n.toArray⟩, .int .i64 m.op, .string ⟨m.v.toArray⟩]] w fun e w' => e = .returned (.bool (fineB m)) ∧ Below w.heap.size w w' := by
  have hsz : ((⟨m.v.toArray⟩ : ByteArray).size : Int) = (m.v.length : Int) := by simp [ByteArray.size]
  have KN := Lib.hid fun w => name_any m.n w hn
  have KP := Lib.hid fun w (h : m.v.length ≤ 200) => right_any m.v w (by omega)
  have HC := fine_cases m
  generalize fineB m = d at *
  generalize errM m.v = er at *
  generalize nameB m.n = nb at *
  obtain ⟨n, op, v⟩ := m
  simp only at *
  generalize (⟨n.toArray⟩ : ByteArray) = TN at *
  rcases HC with ⟨rfl, rfl⟩ | ⟨rfl, hl, rfl⟩ | ⟨rfl, hl, HC⟩
  · clear KP
    go_enter Tryd.func15, Tryd.ntmps15
    go_wp2_with fail
    refine (KN.out _).mono ?_
    rintro e w1 ⟨rfl, hw1⟩
    rw [hw1]
    clear KN hw1
    go_wp2_with fail
    go_ret
    exact ⟨rfl, (Below.refl _ _).alloc (Nat.le_refl _) _⟩
  · have hli : (200 : Int) < (v.length : Int) := by omega
    clear KP
    go_enter Tryd.func15, Tryd.ntmps15
    go_wp2_with fail
    refine (KN.out _).mono ?_
    rintro e w1 ⟨rfl, hw1⟩
    rw [hw1]
    clear KN hw1
    go_wp2_with fail
    go_ret
    exact ⟨rfl, (Below.refl _ _).alloc (Nat.le_refl _) _⟩
  · have hli : ¬ (200 : Int) < (v.length : Int) := by omega
    have KP2 := Lib.hid fun w => KP.out w hl
    clear KP
    rcases HC with ⟨rfl, rfl⟩ | ⟨rfl, rfl⟩ | ⟨rfl, rfl⟩ | ⟨rfl, rfl⟩ | ⟨h0, h1, h2, h3, rfl⟩
    · clear KP2
      go_enter Tryd.func15, Tryd.ntmps15
      go_wp2_with fail
      refine (KN.out _).mono ?_
      rintro e w1 ⟨rfl, hw1⟩
      rw [hw1]
      clear KN hw1
      go_wp2_with fail
      go_ret
      exact ⟨rfl, (Below.refl _ _).alloc (Nat.le_refl _) _⟩
    · clear KP2
      go_enter Tryd.func15, Tryd.ntmps15
      go_wp2_with fail
      refine (KN.out _).mono ?_
      rintro e w1 ⟨rfl, hw1⟩
      rw [hw1]
      clear KN hw1
      go_wp2_with fail
      go_ret
      exact ⟨rfl, (Below.refl _ _).alloc (Nat.le_refl _) _⟩
    · have hal := (Below.refl w.heap.size w).alloc (Nat.le_refl _) (.cells #[.string TN, .int .i64 2, .string ⟨v.toArray⟩] 31)
      go_enter Tryd.func15, Tryd.ntmps15
      go_wp2_with fail
      refine (KN.out _).mono ?_
      rintro e w1 ⟨rfl, hw1⟩
      rw [hw1]
      clear KN hw1
      go_wp2_with fail
      refine (KP2.out _).mono ?_
      rintro e w2 ⟨rfl, hB⟩
      have hB2 := hal.trans (hB.mono hal.size)
      clear KP2 hB hal
      go_wp2_with fail
      go_ret
      exact ⟨by simp [Bool.beq_eq_decide_eq], hB2⟩
    · have hal := (Below.refl w.heap.size w).alloc (Nat.le_refl _) (.cells #[.string TN, .int .i64 3, .string ⟨v.toArray⟩] 31)
      go_enter Tryd.func15, Tryd.ntmps15
      go_wp2_with fail
      refine (KN.out _).mono ?_
      rintro e w1 ⟨rfl, hw1⟩
      rw [hw1]
      clear KN hw1
      go_wp2_with fail
      refine (KP2.out _).mono ?_
      rintro e w2 ⟨rfl, hB⟩
      have hB2 := hal.trans (hB.mono hal.size)
      clear KP2 hB hal
      go_wp2_with fail
      go_ret
      exact ⟨by simp [Bool.beq_eq_decide_eq], hB2⟩
    · have e0 := eqI_false h0
      have e1 := eqI_false h1
      have e2 := eqI_false h2
      have e3 := eqI_false h3
      clear KP2 h0 h1 h2 h3
      go_enter Tryd.func15, Tryd.ntmps15
      go_wp2_with fail
      refine (KN.out _).mono ?_
      rintro e w1 ⟨rfl, hw1⟩
      rw [hw1]
      clear KN hw1
      go_wp2_with fail
      go_ret
      exact ⟨rfl, (Below.refl _ _).alloc (Nat.le_refl _) _⟩
end Go.Proofs.YteooofakpkbgoaaDoor
/- The value of the field of some name; how values are compared. -/
namespace Go.Proofs.YteooofakpkbgoaaDoor
open Go.ChangeShapes Go.WideShapes Go.RowKit

def valueF : List (Bs × Bs) → Bs → Bs
  | [], _ => []
  | f :: l, n => if f.1 = n then f.2 else valueF l n
theorem valueF_at {fs : List (Bs × Bs)} {k : Nat} {f : Bs × Bs} (h : fs[k]? = some f) (n : Bs) : valueF (fs.drop k) n = if f.1 = n then f.2 else valueF (fs.drop (k + 1)) n := by
  obtain ⟨h1, h2⟩ := List.getElem?_eq_some_iff.1 h
  rw [List.drop_eq_getElem_cons h1, h2, valueF]
set_option maxHeartbeats 3200000 in
set_option maxRecDepth 100000 in
theorem value_any (P : Nat → Prop) (v : Value) (fs : List (Bs × Bs)) (nm : Bs) (w : World) (h : FldsAt P w v fs) (hl : fs.length ≤ 9223372036854775807) :
    Calls Tryd.prog 27 #[v, .string ⟨nm.toArray⟩] w fun e w' => e = .returned (.string ⟨(valueF fs nm).toArray⟩) ∧ Below w.heap.size w w' := by
  obtain ⟨a, c, rfl⟩ := h.shape
  obtain ⟨n, hn⟩ : ∃ n, fs.length = n := ⟨_, rfl⟩
  rw [hn] at hl h ⊢
  have HN : Unit → fs.length = n := fun _ => hn
  clear hn
  obtain ⟨O, hO⟩ : ∃ O, valueF fs nm = O := ⟨_, rfl⟩
  have HO : Unit → valueF fs nm = O := fun _ => hO
  rw [hO]
  clear hO
  have hni : (n : Int) ≤ 9223372036854775807 := by omega
  go_enter Tryd.func27, Tryd.ntmps27
  go_upto_region 2 with fail
  go_loopw [9] (fun iv wr => ∃ k : Nat, k ≤ n ∧ iv = .int .i64 (k : Int) ∧ valueF fs nm = valueF (fs.drop k) nm ∧ Below w.heap.size w wr) (fun iv _ => n - (intOf iv).toNat)
  case atStart => exact ⟨0, Nat.zero_le _, rfl, by rw [List.drop_zero], Below.refl _ _⟩
  case round =>
    obtain ⟨k, hk, rfl, hV, hB⟩ := hrel
    have HV : Unit → valueF fs nm = valueF (fs.drop k) nm := fun _ => hV
    clear hV
    by_cases hlt : k < n
    · have hki : (k : Int) < (n : Int) := by omega
      obtain ⟨f, hf⟩ : ∃ f, fs[k]? = some f := ⟨_, List.getElem?_eq_getElem (by have := HN (); omega)⟩
      obtain ⟨g, o, rfl, _, hg, c0, c1⟩ := (h.stay hB).part hf
      have hst := valueF_at hf nm
      have hsame := same_text f.1 nm
      have hB2 := hB.alloc hB.size (.cells #[.string ⟨f.1.toArray⟩, .string ⟨f.2.toArray⟩] 28)
      obtain ⟨f1, f2⟩ := f
      simp only at c0 c1 hst hsame
      by_cases he : f1 = nm
      · rw [if_pos he] at hst
        have e : f2 = O := (hst.symm.trans (HV ()).symm).trans (HO ())
        subst e
        have hb : (f1 == nm) = true := by simpa using he
        rw [hb] at hsame
        clear hst he
        go_wp2_with fail
        go_ret
        exact ⟨rfl, hB2⟩
      · rw [if_neg he] at hst
        have HV2 : Unit → valueF fs nm = valueF (fs.drop (k + 1)) nm := fun _ => (HV ()).trans hst
        have hb : (f1 == nm) = false := by simpa using he
        rw [hb] at hsame
        clear hst he
        go_wp2_with fail
        go_roundw
        case rel => exact ⟨k + 1, by omega, by go_num, HV2 (), hB2⟩
        case measure => simp [intOf]; omega
    · have hki : ¬ (k : Int) < (n : Int) := by omega
      have e : ([] : Bs) = O := by rw [← HO (), HV (), List.drop_eq_nil_of_le (by have := HN (); omega)]; rfl
      subst e
      go_wp2_with fail
      go_ret
      exact ⟨rfl, hB⟩
theorem st_one {w : World} {g : Nat} {t : TypeId} {cs : List Value} (h : Rw w g t cs) (i : Nat) (hi : i < cs.length) (v : Value) (hv : v.oneCell' = true) : (store ⟨g, i, none⟩ v).run Tryd.prog w = .ok () (w.setCell ⟨g, i, none⟩ v) := by
  rw [run_store _ _ _ _ _ hv, Rw.cell h, List.getElem?_eq_getElem hi]
  simp [Rw.frozen h]
theorem inverse_any (f : FuncId) (w : World) : Calls Tryd.prog 65 #[.func (.func f) #[] #[]] w fun e w' => e = .returned (.func (.func 80) #[] #[.pointer (some ⟨w.heap.size, 0, none⟩)]) ∧ w' = w.alloc (.cells #[.func (.func f) #[] #[]] 71) := by
  go_enter Tryd.func65, Tryd.ntmps65
  go_wp2_with fail
  go_ret
  exact ⟨rfl, rfl⟩
set_option maxRecDepth 100000 in
/-- How two values are compared: the two plain ways, and those that turn them round. -/
theorem comps_any (w : World) : Calls Tryd.prog 47 #[] w fun e w' => ∃ b1 b2, e = .returned (.agg #[(.func (.func 62) #[] #[]), (.func (.func 80) #[] #[.pointer (some ⟨b1, 0, none⟩)]), (.func (.func 63) #[] #[]), (.func (.func 80) #[] #[.pointer (some ⟨b2, 0, none⟩)])]) ∧ Below w.heap.size w w' ∧ w'.cell? ⟨b1, 0, none⟩ = some (.func (.func 62) #[] #[]) ∧ w'.cell? ⟨b2, 0, none⟩ = some (.func (.func 63) #[] #[]) := by
  go_enter Tryd.func47, Tryd.ntmps47
  go_upto_region 1 with fail
  have r0 : Rw (w.alloc (.cells #[.nilFunc, .nilFunc, .nilFunc, .nilFunc] 72)) w.heap.size 72 [.nilFunc, .nilFunc, .nilFunc, .nilFunc] := Rw.new w 72 [.nilFunc, .nilFunc, .nilFunc, .nilFunc]
  have h0 := (Below.refl w.heap.size w).alloc (Nat.le_refl _) (.cells #[.nilFunc, .nilFunc, .nilFunc, .nilFunc] 72)
  generalize w.alloc (.cells #[.nilFunc, .nilFunc, .nilFunc, .nilFunc] 72) = w0 at *
  have hlt := r0.lt
  generalize hb : w.heap.size = b at *
  go_wp2_with fail
  refine (inverse_any _ _).mono ?_
  rintro e w1 ⟨rfl, hw1⟩
  have k1 : Rw w1 w0.heap.size 71 [(.func (.func 62) #[] #[])] := by rw [hw1]; exact Rw.new w0 71 [(.func (.func 62) #[] #[])]
  have h1 : Below w0.heap.size w0 w1 := by rw [hw1]; exact (Below.refl _ _).alloc (Nat.le_refl _) _
  have r1 := r0.stay h1
  have hz0 := h0.size
  have h2 := h0.trans (h1.mono (by omega))
  have hn1 : w0.heap.size ≠ b := by omega
  clear hw1 r0 h0 h1
  generalize w0.heap.size = b1 at *
  go_wp2_with fail
  refine (inverse_any _ _).mono ?_
  rintro e w2 ⟨rfl, hw2⟩
  have k3 : Rw w2 w1.heap.size 71 [(.func (.func 63) #[] #[])] := by rw [hw2]; exact Rw.new w1 71 [(.func (.func 63) #[] #[])]
  have h3 : Below w1.heap.size w1 w2 := by rw [hw2]; exact (Below.refl _ _).alloc (Nat.le_refl _) _
  have r2 := r1.stay h3
  have k2 := k1.stay h3
  have hz2 := h2.size
  have h4 := h2.trans (h3.mono (by omega))
  have hn2 : w1.heap.size ≠ b := by have := h2.size; have := r1.lt; omega
  clear hw2 r1 h2 h3 k1
  generalize w1.heap.size = b2 at *
  have ra := r2.setCell 0 (.func (.func 62) #[] #[])
  have rb := ra.setCell 1 (.func (.func 80) #[] #[.pointer (some ⟨b1, 0, none⟩)])
  have rc := rb.setCell 2 (.func (.func 63) #[] #[])
  have s0 := st_one r2 0 (by simp) (.func (.func 62) #[] #[]) rfl
  have s1 := st_one ra 1 (by simp) (.func (.func 80) #[] #[.pointer (some ⟨b1, 0, none⟩)]) rfl
  have s2 := st_one rb 2 (by simp) (.func (.func 63) #[] #[]) rfl
  have s3 := st_one rc 3 (by simp) (.func (.func 80) #[] #[.pointer (some ⟨b2, 0, none⟩)]) rfl
  have r3 := (((r2.setCell 0 (.func (.func 62) #[] #[])).setCell 1 (.func (.func 80) #[] #[.pointer (some ⟨b1, 0, none⟩)])).setCell 2 (.func (.func 63) #[] #[])).setCell 3 (.func (.func 80) #[] #[.pointer (some ⟨b2, 0, none⟩)])
  have k4 := (((k2.other hn1 0 (.func (.func 62) #[] #[])).other hn1 1 (.func (.func 80) #[] #[.pointer (some ⟨b1, 0, none⟩)])).other hn1 2 (.func (.func 63) #[] #[])).other hn1 3 (.func (.func 80) #[] #[.pointer (some ⟨b2, 0, none⟩)])
  have k5 := (((k3.other hn2 0 (.func (.func 62) #[] #[])).other hn2 1 (.func (.func 80) #[] #[.pointer (some ⟨b1, 0, none⟩)])).other hn2 2 (.func (.func 63) #[] #[])).other hn2 3 (.func (.func 80) #[] #[.pointer (some ⟨b2, 0, none⟩)])
  have hB := (((h4.setCell (p := ⟨b, 0, none⟩) (by simp) (.func (.func 62) #[] #[])).setCell (p := ⟨b, 1, none⟩) (by simp) (.func (.func 80) #[] #[.pointer (some ⟨b1, 0, none⟩)])).setCell (p := ⟨b, 2, none⟩) (by simp) (.func (.func 63) #[] #[])).setCell (p := ⟨b, 3, none⟩) (by simp) (.func (.func 80) #[] #[.pointer (some ⟨b2, 0, none⟩)])
  clear k2 k3 h4 r2
  go_wp2_with fail
  refine bodyPost_ret (v := .agg #[(.func (.func 62) #[] #[]), (.func (.func 80) #[] #[.pointer (some ⟨b1, 0, none⟩)]), (.func (.func 63) #[] #[]), (.func (.func 80) #[] #[.pointer (some ⟨b2, 0, none⟩)])]) ?_ rfl ⟨b1, b2, rfl, by rw [hb]; exact hB, Rw.cell k4 0, Rw.cell k5 0⟩
  exact results_cell_row (P := Tryd.prog) rfl _ _ b 72 _ (0, 0) _ rfl r3 Tryd.underlying72 rfl (by kernel_rfl)
theorem eq_call (a b : Bs) (w : World) : Calls Tryd.prog 62 #[.string ⟨a.toArray⟩, .string ⟨b.toArray⟩] w fun e w' => e = .returned (.bool (a == b)) ∧ w' = w := by
  go_enter Tryd.func62, Tryd.ntmps62
  go_wp2_with fail
  go_ret
  exact ⟨by simp, rfl⟩
theorem like_call (a b : Bs) (ha : a.length ≤ 100000) (hb : b.length ≤ 100000) (w : World) : Calls Tryd.prog 63 #[.string ⟨a.toArray⟩, .string ⟨b.toArray⟩] w fun e w' => e = .returned (.bool (fb b a)) ∧ Below w.heap.size w w' := by
  have K := Lib.hid fun w => fits_fb b a hb ha w
  generalize fb b a = d at *
  go_enter Tryd.func63, Tryd.ntmps63
  go_wp2_with fail
  refine (K.out _).mono ?_
  rintro e w1 ⟨rfl, hB⟩
  go_wp2_with fail
  go_ret
  exact ⟨rfl, hB⟩
set_option maxRecDepth 100000 in
/-- The comparison that turns another round. -/
theorem not_eq (A B : Value) (d : Bool) (p : Nat) (w : World) (hp : w.cell? ⟨p, 0, none⟩ = some (.func (.func 62) #[] #[])) (K : ∀ w, Calls Tryd.prog 62 #[A, B] w fun e w' => e = .returned (.bool d) ∧ Below w.heap.size w w') :
    Calls Tryd.prog 80 #[A, B, .pointer (some ⟨p, 0, none⟩)] w fun e w' => e = .returned (.bool (!d)) ∧ Below w.heap.size w w' := by
  replace K := Lib.hid K
  go_enter Tryd.func80, Tryd.ntmps80
  go_wp2_with fail
  refine (K.out _).mono ?_
  rintro e w1 ⟨rfl, hB⟩
  go_wp2_with fail
  go_ret
  exact ⟨rfl, hB⟩
set_option maxRecDepth 100000 in
/-- The comparison that turns another round. -/
theorem not_like (A B : Value) (d : Bool) (p : Nat) (w : World) (hp : w.cell? ⟨p, 0, none⟩ = some (.func (.func 63) #[] #[])) (K : ∀ w, Calls Tryd.prog 63 #[A, B] w fun e w' => e = .returned (.bool d) ∧ Below w.heap.size w w') :
    Calls Tryd.prog 80 #[A, B, .pointer (some ⟨p, 0, none⟩)] w fun e w' => e = .returned (.bool (!d)) ∧ Below w.heap.size w w' := by
  replace K := Lib.hid K
  go_enter Tryd.func80, Tryd.ntmps80
  go_wp2_with fail
  refine (K.out _).mono ?_
  rintro e w1 ⟨rfl, hB⟩
  go_wp2_with fail
  go_ret
  exact ⟨rfl, hB⟩
end Go.Proofs.YteooofakpkbgoaaDoor
/- Which matchers fit some fields: the walks. -/
namespace Go.Proofs.YteooofakpkbgoaaDoor
open Go.ChangeShapes Go.WideShapes Go.RowKit

noncomputable def cmpB (op : Int) (v x : Bs) : Bool := if op = 0 then v == x else if op = 1 then !(v == x) else if op = 2 then fb x v else !(fb x v)
noncomputable def fitsB (fs : List (Bs × Bs)) (m : Mt) : Bool := fineB m && cmpB m.op (valueF fs m.n) m.v
noncomputable def allM (fs : List (Bs × Bs)) (ms : List Mt) : Bool := ms.all (fitsB fs)
/-- A matcher that lies in memory, whatever is laid besides. -/
def M3 (W : World) (b : Nat) (x y z : Value) (w : World) : Prop := Below W.heap.size W w ∧ w.cell? ⟨b, 0, none⟩ = some x ∧ w.cell? ⟨b, 1, none⟩ = some y ∧ w.cell? ⟨b, 2, none⟩ = some z
theorem M3.go {W w w' : World} {b : Nat} {x y z : Value} (h : M3 W b x y z w) (k : Below w.heap.size w w') : M3 W b x y z w' := by
  obtain ⟨h1, h2, h3, h4⟩ := h
  have hb := World.block_lt_of_cell? w _ h2
  exact ⟨h1.trans (k.mono h1.size), (k.cell (p := ⟨b, 0, none⟩) hb).trans h2, (k.cell (p := ⟨b, 1, none⟩) hb).trans h3, (k.cell (p := ⟨b, 2, none⟩) hb).trans h4⟩
set_option maxRecDepth 100000 in
theorem comp_index (b1 b2 : Nat) (w : World) : (Instr.index 72 (.agg #[(.func (.func 62) #[] #[]), (.func (.func 80) #[] #[.pointer (some ⟨b1, 0, none⟩)]), (.func (.func 63) #[] #[]), (.func (.func 80) #[] #[.pointer (some ⟨b2, 0, none⟩)])]) (.int .i64 0)).run Tryd.prog w = .ok (.func (.func 62) #[] #[]) w ∧ (Instr.index 72 (.agg #[(.func (.func 62) #[] #[]), (.func (.func 80) #[] #[.pointer (some ⟨b1, 0, none⟩)]), (.func (.func 63) #[] #[]), (.func (.func 80) #[] #[.pointer (some ⟨b2, 0, none⟩)])]) (.int .i64 1)).run Tryd.prog w = .ok (.func (.func 80) #[] #[.pointer (some ⟨b1, 0, none⟩)]) w ∧ (Instr.index 72 (.agg #[(.func (.func 62) #[] #[]), (.func (.func 80) #[] #[.pointer (some ⟨b1, 0, none⟩)]), (.func (.func 63) #[] #[]), (.func (.func 80) #[] #[.pointer (some ⟨b2, 0, none⟩)])]) (.int .i64 2)).run Tryd.prog w = .ok (.func (.func 63) #[] #[]) w ∧ (Instr.index 72 (.agg #[(.func (.func 62) #[] #[]), (.func (.func 80) #[] #[.pointer (some ⟨b1, 0, none⟩)]), (.func (.func 63) #[] #[]), (.func (.func 80) #[] #[.pointer (some ⟨b2, 0, none⟩)])]) (.int .i64 3)).run Tryd.prog w = .ok (.func (.func 80) #[] #[.pointer (some ⟨b2, 0, none⟩)]) w :=
  ⟨by kernel_rfl, by kernel_rfl, by kernel_rfl, by kernel_rfl⟩
theorem eq_call2 (v x : Bs) (w : World) : Calls Tryd.prog 62 #[.string ⟨v.toArray⟩, .string ⟨x.toArray⟩] w fun e w' => e = .returned (.bool (v == x)) ∧ Below w.heap.size w w' := (eq_call v x w).mono fun _ _ ⟨h1, h2⟩ => ⟨h1, h2 ▸ Below.refl _ _⟩
set_option maxHeartbeats 6400000 in
set_option maxRecDepth 100000 in
theorem fits_at (P : Nat → Prop) (v : Value) (fs : List (Bs × Bs)) (m : Mt) (w : World) (h : FldsAt P w v fs) (hl : fs.length ≤ 9223372036854775807) (hfl : (valueF fs m.n).length ≤ 100000) (hn : m.n.length ≤ 9223372036854775807) (hv : m.v.length ≤ 9223372036854775807) :
    Calls Tryd.prog 25 #[v, .agg #[.string ⟨m.n.toArray⟩, .int .i64 m.op, .string ⟨m.v.toArray⟩]] w fun e w' => e = .returned (.bool (fitsB fs m)) ∧ Below w.heap.size w w' := by
  have KF := Lib.hid fun w => fine_any m w hn hv
  have hal := (Below.refl w.heap.size w).alloc (Nat.le_refl _) (.cells #[.string ⟨m.n.toArray⟩, .int .i64 m.op, .string ⟨m.v.toArray⟩] 31)
  have rM : Rw (w.alloc (.cells #[.string ⟨m.n.toArray⟩, .int .i64 m.op, .string ⟨m.v.toArray⟩] 31)) w.heap.size 31 [.string ⟨m.n.toArray⟩, .int .i64 m.op, .string ⟨m.v.toArray⟩] := Rw.new w 31 [.string ⟨m.n.toArray⟩, .int .i64 m.op, .string ⟨m.v.toArray⟩]
  have KV := Lib.hid fun w' (hb : Below w.heap.size w w') => value_any P v fs m.n w' (h.stay hb) hl
  obtain ⟨a, c, rfl⟩ := h.shape
  cases hf : fineB m with
  | false =>
    have e : fitsB fs m = false := by unfold fitsB; rw [hf]; rfl
    rw [e]
    rw [hf] at KF
    clear e KV
    obtain ⟨n, op, x⟩ := m
    simp only at *
    generalize (⟨n.toArray⟩ : ByteArray) = TN at *
    generalize (⟨x.toArray⟩ : ByteArray) = TX at *
    go_enter Tryd.func25, Tryd.ntmps25
    go_upto_region 1 with fail
    generalize w.alloc (.cells #[.string TN, .int .i64 op, .string TX] 31) = w1 at *
    generalize hbe : w.heap.size = b at *
    try simp only [List.append_eq, List.cons_append, List.nil_append]
    refine region_class (M3 w1 b (.string TN) (.int .i64 op) (.string TX)) (by kernel_rfl) (by kernel_rfl) (⟨(Below.refl _ _).drew, Rw.cell rM 0, Rw.cell rM 1, Rw.cell rM 2⟩) ?_
    repeat
      first
      | go_big_quiet_skip
      | (go_big_quiet_want
         refine quiet_val ?_
         apply Exists.intro
         refine ⟨fun w' hw' => ?_, ?_⟩
         · obtain ⟨_, e0, e1, e2⟩ := hw'
           go_simp
           first | done | rfl | exact ⟨rfl, rfl⟩
         simp only [Act.put, List.setIfInBounds_toArray, List.set_cons_zero, List.set_cons_succ]
         go_big_quiet_on)
      | (go_big_quiet_want
         refine quiet_call ?_
         apply Exists.intro
         apply Exists.intro
         refine ⟨fun w' => ?_, ?_⟩
         · go_simp
           first | done | rfl | exact ⟨rfl, rfl⟩
         apply Exists.intro
         refine ⟨fun w' hw' => ?_, ?_⟩
         · first
           | exact (KF.out _).mono fun e w'' ⟨he, hB⟩ => ⟨he, hw'.go hB⟩
         simp only [Act.put, List.setIfInBounds_toArray, List.set_cons_zero, List.set_cons_succ]
         go_big_quiet_on)
    refine wpQuiet_nil ?_
    intro w5 hw5
    have hb5 := hw5.1
    have hsz := hal.size
    go_wp2_with fail
    go_ret
    exact ⟨rfl, by rw [hbe]; exact hal.trans (hb5.mono (by omega))⟩
  | true =>
    have ho := fine_op hf
    have hvl := fine_len hf
    have e : fitsB fs m = cmpB m.op (valueF fs m.n) m.v := by unfold fitsB; rw [hf]; rfl
    rw [e]
    rw [hf] at KF
    clear e hf
    obtain ⟨n, op, x⟩ := m
    simp only at *
    have hc : op = 0 ∨ op = 1 ∨ op = 2 ∨ op = 3 := by omega
    obtain ⟨V, hV⟩ : ∃ V, valueF fs n = V := ⟨_, rfl⟩
    rw [hV] at hfl ⊢
    simp only [hV] at KV
    clear hV
    generalize (⟨n.toArray⟩ : ByteArray) = TN at *
    rcases hc with rfl | rfl | rfl | rfl
    · go_enter Tryd.func25, Tryd.ntmps25
      go_upto_region 1 with fail
      generalize w.alloc (.cells #[.string TN, .int .i64 0, .string ⟨x.toArray⟩] 31) = w1 at *
      generalize hbe : w.heap.size = b at *
      refine wp_region_held (S := M3 w1 b (.string TN) (.int .i64 0) (.string ⟨x.toArray⟩)) (by kernel_rfl) ?_
      have hS : M3 w1 b (.string TN) (.int .i64 0) (.string ⟨x.toArray⟩) { w1 with drawn := w1.drawn + 1 } := ⟨(Below.refl _ _).drew, Rw.cell rM 0, Rw.cell rM 1, Rw.cell rM 2⟩
      have hsz := hal.size
      generalize { w1 with drawn := w1.drawn + 1 } = D1 at *
      refine held_val 0 rfl (by kernel_rfl) (by kernel_rfl) (by kernel_rfl) (fun _ _ _ _ h => h) (by rfl) hS ?_
      apply Exists.intro
      refine ⟨fun w' hw' => ?_, ?_⟩
      · obtain ⟨_, e0, e1, e2⟩ := hw'
        go_simp
        first | done | rfl | exact ⟨rfl, rfl⟩
      simp only [Act.put, List.setIfInBounds_toArray, List.set_cons_zero, List.set_cons_succ]
      refine held_call 1 (by kernel_rfl) rfl (by rfl) ?_
      apply Exists.intro
      apply Exists.intro
      refine ⟨?_, ?_⟩
      · go_simp
        first | done | rfl | exact ⟨rfl, rfl⟩
      refine (KF.out _).mono ?_
      intro e w2 he
      obtain ⟨he, hB2⟩ := he
      replace hS := hS.go hB2
      refine ⟨_, he, hS, ?_⟩
      simp only [Act.put, List.setIfInBounds_toArray, List.set_cons_zero, List.set_cons_succ]
      refine held_val 2 rfl (by kernel_rfl) (by kernel_rfl) (by kernel_rfl) (fun _ _ _ _ h => h) (by rfl) hS ?_
      apply Exists.intro
      refine ⟨fun w' hw' => ?_, ?_⟩
      · skip
        go_simp
        first | done | rfl | exact ⟨rfl, rfl⟩
      simp only [Act.put, List.setIfInBounds_toArray, List.set_cons_zero, List.set_cons_succ]
      refine held_val 4 rfl (by kernel_rfl) (by kernel_rfl) (by kernel_rfl) (fun _ _ _ _ h => h) (by rfl) hS ?_
      apply Exists.intro
      refine ⟨fun w' hw' => ?_, ?_⟩
      · skip
        go_simp
        first | done | rfl | exact ⟨rfl, rfl⟩
      simp only [Act.put, List.setIfInBounds_toArray, List.set_cons_zero, List.set_cons_succ]
      refine held_val 5 rfl (by kernel_rfl) (by kernel_rfl) (by kernel_rfl) (fun _ _ _ _ h => h) (by rfl) hS ?_
      apply Exists.intro
      refine ⟨fun w' hw' => ?_, ?_⟩
      · obtain ⟨_, e0, e1, e2⟩ := hw'
        go_simp
        first | done | rfl | exact ⟨rfl, rfl⟩
      simp only [Act.put, List.setIfInBounds_toArray, List.set_cons_zero, List.set_cons_succ]
      refine held_val 7 rfl (by kernel_rfl) (by kernel_rfl) (by kernel_rfl) (fun _ _ _ _ h => h) (by rfl) hS ?_
      apply Exists.intro
      refine ⟨fun w' hw' => ?_, ?_⟩
      · skip
        go_simp
        first | done | rfl | exact ⟨rfl, rfl⟩
      simp only [Act.put, List.setIfInBounds_toArray, List.set_cons_zero, List.set_cons_succ]
      refine held_val 8 rfl (by kernel_rfl) (by kernel_rfl) (by kernel_rfl) (fun _ _ _ _ h => h) (by rfl) hS ?_
      apply Exists.intro
      refine ⟨fun w' hw' => ?_, ?_⟩
      · skip
        go_simp
        first | done | rfl | exact ⟨rfl, rfl⟩
      simp only [Act.put, List.setIfInBounds_toArray, List.set_cons_zero, List.set_cons_succ]
      refine held_val 9 rfl (by kernel_rfl) (by kernel_rfl) (by kernel_rfl) (fun _ _ _ _ h => h) (by rfl) hS ?_
      apply Exists.intro
      refine ⟨fun w' hw' => ?_, ?_⟩
      · obtain ⟨_, e0, e1, e2⟩ := hw'
        go_simp
        first | done | rfl | exact ⟨rfl, rfl⟩
      simp only [Act.put, List.setIfInBounds_toArray, List.set_cons_zero, List.set_cons_succ]
      refine held_val 11 rfl (by kernel_rfl) (by kernel_rfl) (by kernel_rfl) (fun _ _ _ _ h => h) (by rfl) hS ?_
      apply Exists.intro
      refine ⟨fun w' hw' => ?_, ?_⟩
      · skip
        go_simp
        first | done | rfl | exact ⟨rfl, rfl⟩
      simp only [Act.put, List.setIfInBounds_toArray, List.set_cons_zero, List.set_cons_succ]
      refine held_val 12 rfl (by kernel_rfl) (by kernel_rfl) (by kernel_rfl) (fun _ _ _ _ h => h) (by rfl) hS ?_
      apply Exists.intro
      refine ⟨fun w' hw' => ?_, ?_⟩
      · obtain ⟨_, e0, e1, e2⟩ := hw'
        go_simp
        first | done | rfl | exact ⟨rfl, rfl⟩
      simp only [Act.put, List.setIfInBounds_toArray, List.set_cons_zero, List.set_cons_succ]
      refine held_call 3 (by kernel_rfl) rfl (by rfl) ?_
      apply Exists.intro
      apply Exists.intro
      refine ⟨?_, ?_⟩
      · go_simp
        first | done | rfl | exact ⟨rfl, rfl⟩
      refine (comps_any _).mono ?_
      intro e w3 he3
      obtain ⟨b1, b2, he3, hB3, k1, k2⟩ := he3
      replace hS := hS.go hB3
      refine ⟨_, he3, hS, ?_⟩
      simp only [Act.put, List.setIfInBounds_toArray, List.set_cons_zero, List.set_cons_succ]
      refine held_val 6 rfl (by kernel_rfl) (by kernel_rfl) (by kernel_rfl) (fun _ _ _ _ h => h) (by rfl) hS ?_
      apply Exists.intro
      refine ⟨fun w' hw' => ?_, ?_⟩
      · have e0 := (comp_index b1 b2 w').1
        go_simp
        first | done | rfl | exact ⟨rfl, rfl⟩
      simp only [Act.put, List.setIfInBounds_toArray, List.set_cons_zero, List.set_cons_succ]
      refine held_call 10 (by kernel_rfl) rfl (by rfl) ?_
      apply Exists.intro
      apply Exists.intro
      refine ⟨?_, ?_⟩
      · go_simp
        first | done | rfl | exact ⟨rfl, rfl⟩
      refine (KV.out _ (hal.trans (hS.1.mono (by omega)))).mono ?_
      intro e w4 he4
      obtain ⟨he4, hB4⟩ := he4
      replace hS := hS.go hB4
      replace k1 := (hB4.cell (p := ⟨b1, 0, none⟩) (World.block_lt_of_cell? _ _ k1)).trans k1
      replace k2 := (hB4.cell (p := ⟨b2, 0, none⟩) (World.block_lt_of_cell? _ _ k2)).trans k2
      refine ⟨_, he4, hS, ?_⟩
      simp only [Act.put, List.setIfInBounds_toArray, List.set_cons_zero, List.set_cons_succ]
      refine held_call 13 (by kernel_rfl) rfl (by rfl) ?_
      apply Exists.intro
      apply Exists.intro
      refine ⟨?_, ?_⟩
      · go_simp
        first | done | rfl | exact ⟨rfl, rfl⟩
      refine (eq_call2 V x _).mono ?_
      intro e w5 he5
      obtain ⟨he5, hB5⟩ := he5
      replace hS := hS.go hB5
      refine ⟨_, he5, hS, ?_⟩
      simp only [Act.put, List.setIfInBounds_toArray, List.set_cons_zero, List.set_cons_succ]
      refine held_val 14 rfl (by kernel_rfl) (by kernel_rfl) (by kernel_rfl) (fun _ _ _ _ h => h) (by rfl) hS ?_
      apply Exists.intro
      refine ⟨fun w' hw' => ?_, ?_⟩
      · skip
        go_simp
        first | done | rfl | exact ⟨rfl, rfl⟩
      simp only [Act.put, List.setIfInBounds_toArray, List.set_cons_zero, List.set_cons_succ]
      refine held_val 15 rfl (by kernel_rfl) (by kernel_rfl) (by kernel_rfl) (fun _ _ _ _ h => h) (by rfl) hS ?_
      apply Exists.intro
      refine ⟨fun w' hw' => ?_, ?_⟩
      · skip
        go_simp
        first | done | rfl | exact ⟨rfl, rfl⟩
      simp only [Act.put, List.setIfInBounds_toArray, List.set_cons_zero, List.set_cons_succ]
      refine wpAnyH_done (by kernel_rfl) ?_ _
      have hb5 := hS.1
      go_wp2_with fail
      go_ret
      exact ⟨rfl, by rw [hbe]; exact hal.trans (hb5.mono (by omega))⟩
    · go_enter Tryd.func25, Tryd.ntmps25
      go_upto_region 1 with fail
      generalize w.alloc (.cells #[.string TN, .int .i64 1, .string ⟨x.toArray⟩] 31) = w1 at *
      generalize hbe : w.heap.size = b at *
      refine wp_region_held (S := M3 w1 b (.string TN) (.int .i64 1) (.string ⟨x.toArray⟩)) (by kernel_rfl) ?_
      have hS : M3 w1 b (.string TN) (.int .i64 1) (.string ⟨x.toArray⟩) { w1 with drawn := w1.drawn + 1 } := ⟨(Below.refl _ _).drew, Rw.cell rM 0, Rw.cell rM 1, Rw.cell rM 2⟩
      have hsz := hal.size
      generalize { w1 with drawn := w1.drawn + 1 } = D1 at *
      refine held_val 0 rfl (by kernel_rfl) (by kernel_rfl) (by kernel_rfl) (fun _ _ _ _ h => h) (by rfl) hS ?_
      apply Exists.intro
      refine ⟨fun w' hw' => ?_, ?_⟩
      · obtain ⟨_, e0, e1, e2⟩ := hw'
        go_simp
        first | done | rfl | exact ⟨rfl, rfl⟩
      simp only [Act.put, List.setIfInBounds_toArray, List.set_cons_zero, List.set_cons_succ]
      refine held_call 1 (by kernel_rfl) rfl (by rfl) ?_
      apply Exists.intro
      apply Exists.intro
      refine ⟨?_, ?_⟩
      · go_simp
        first | done | rfl | exact ⟨rfl, rfl⟩
      refine (KF.out _).mono ?_
      intro e w2 he
      obtain ⟨he, hB2⟩ := he
      replace hS := hS.go hB2
      refine ⟨_, he, hS, ?_⟩
      simp only [Act.put, List.setIfInBounds_toArray, List.set_cons_zero, List.set_cons_succ]
      refine held_val 2 rfl (by kernel_rfl) (by kernel_rfl) (by kernel_rfl) (fun _ _ _ _ h => h) (by rfl) hS ?_
      apply Exists.intro
      refine ⟨fun w' hw' => ?_, ?_⟩
      · skip
        go_simp
        first | done | rfl | exact ⟨rfl, rfl⟩
      simp only [Act.put, List.setIfInBounds_toArray, List.set_cons_zero, List.set_cons_succ]
      refine held_val 4 rfl (by kernel_rfl) (by kernel_rfl) (by kernel_rfl) (fun _ _ _ _ h => h) (by rfl) hS ?_
      apply Exists.intro
      refine ⟨fun w' hw' => ?_, ?_⟩
      · skip
        go_simp
        first | done | rfl | exact ⟨rfl, rfl⟩
      simp only [Act.put, List.setIfInBounds_toArray, List.set_cons_zero, List.set_cons_succ]
      refine held_val 5 rfl (by kernel_rfl) (by kernel_rfl) (by kernel_rfl) (fun _ _ _ _ h => h) (by rfl) hS ?_
      apply Exists.intro
      refine ⟨fun w' hw' => ?_, ?_⟩
      · obtain ⟨_, e0, e1, e2⟩ := hw'
        go_simp
        first | done | rfl | exact ⟨rfl, rfl⟩
      simp only [Act.put, List.setIfInBounds_toArray, List.set_cons_zero, List.set_cons_succ]
      refine held_val 7 rfl (by kernel_rfl) (by kernel_rfl) (by kernel_rfl) (fun _ _ _ _ h => h) (by rfl) hS ?_
      apply Exists.intro
      refine ⟨fun w' hw' => ?_, ?_⟩
      · skip
        go_simp
        first | done | rfl | exact ⟨rfl, rfl⟩
      simp only [Act.put, List.setIfInBounds_toArray, List.set_cons_zero, List.set_cons_succ]
      refine held_val 8 rfl (by kernel_rfl) (by kernel_rfl) (by kernel_rfl) (fun _ _ _ _ h => h) (by rfl) hS ?_
      apply Exists.intro
      refine ⟨fun w' hw' => ?_, ?_⟩
      · skip
        go_simp
        first | done | rfl | exact ⟨rfl, rfl⟩
      simp only [Act.put, List.setIfInBounds_toArray, List.set_cons_zero, List.set_cons_succ]
      refine held_val 9 rfl (by kernel_rfl) (by kernel_rfl) (by kernel_rfl) (fun _ _ _ _ h => h) (by rfl) hS ?_
      apply Exists.intro
      refine ⟨fun w' hw' => ?_, ?_⟩
      · obtain ⟨_, e0, e1, e2⟩ := hw'
        go_simp
        first | done | rfl | exact ⟨rfl, rfl⟩
      simp only [Act.put, List.setIfInBounds_toArray, List.set_cons_zero, List.set_cons_succ]
      refine held_val 11 rfl (by kernel_rfl) (by kernel_rfl) (by kernel_rfl) (fun _ _ _ _ h => h) (by rfl) hS ?_
      apply Exists.intro
      refine ⟨fun w' hw' => ?_, ?_⟩
      · skip
        go_simp
        first | done | rfl | exact ⟨rfl, rfl⟩
      simp only [Act.put, List.setIfInBounds_toArray, List.set_cons_zero, List.set_cons_succ]
      refine held_val 12 rfl (by kernel_rfl) (by kernel_rfl) (by kernel_rfl) (fun _ _ _ _ h => h) (by rfl) hS ?_
      apply Exists.intro
      refine ⟨fun w' hw' => ?_, ?_⟩
      · obtain ⟨_, e0, e1, e2⟩ := hw'
        go_simp
        first | done | rfl | exact ⟨rfl, rfl⟩
      simp only [Act.put, List.setIfInBounds_toArray, List.set_cons_zero, List.set_cons_succ]
      refine held_call 3 (by kernel_rfl) rfl (by rfl) ?_
      apply Exists.intro
      apply Exists.intro
      refine ⟨?_, ?_⟩
      · go_simp
        first | done | rfl | exact ⟨rfl, rfl⟩
      refine (comps_any _).mono ?_
      intro e w3 he3
      obtain ⟨b1, b2, he3, hB3, k1, k2⟩ := he3
      replace hS := hS.go hB3
      refine ⟨_, he3, hS, ?_⟩
      simp only [Act.put, List.setIfInBounds_toArray, List.set_cons_zero, List.set_cons_succ]
      refine held_val 6 rfl (by kernel_rfl) (by kernel_rfl) (by kernel_rfl) (fun _ _ _ _ h => h) (by rfl) hS ?_
      apply Exists.intro
      refine ⟨fun w' hw' => ?_, ?_⟩
      · have e0 := (comp_index b1 b2 w').2.1
        go_simp
        first | done | rfl | exact ⟨rfl, rfl⟩
      simp only [Act.put, List.setIfInBounds_toArray, List.set_cons_zero, List.set_cons_succ]
      refine held_call 10 (by kernel_rfl) rfl (by rfl) ?_
      apply Exists.intro
      apply Exists.intro
      refine ⟨?_, ?_⟩
      · go_simp
        first | done | rfl | exact ⟨rfl, rfl⟩
      refine (KV.out _ (hal.trans (hS.1.mono (by omega)))).mono ?_
      intro e w4 he4
      obtain ⟨he4, hB4⟩ := he4
      replace hS := hS.go hB4
      replace k1 := (hB4.cell (p := ⟨b1, 0, none⟩) (World.block_lt_of_cell? _ _ k1)).trans k1
      replace k2 := (hB4.cell (p := ⟨b2, 0, none⟩) (World.block_lt_of_cell? _ _ k2)).trans k2
      refine ⟨_, he4, hS, ?_⟩
      simp only [Act.put, List.setIfInBounds_toArray, List.set_cons_zero, List.set_cons_succ]
      refine held_call 13 (by kernel_rfl) rfl (by rfl) ?_
      apply Exists.intro
      apply Exists.intro
      refine ⟨?_, ?_⟩
      · go_simp
        first | done | rfl | exact ⟨rfl, rfl⟩
      refine (not_eq _ _ _ b1 _ k1 (eq_call2 V x)).mono ?_
      intro e w5 he5
      obtain ⟨he5, hB5⟩ := he5
      replace hS := hS.go hB5
      refine ⟨_, he5, hS, ?_⟩
      simp only [Act.put, List.setIfInBounds_toArray, List.set_cons_zero, List.set_cons_succ]
      refine held_val 14 rfl (by kernel_rfl) (by kernel_rfl) (by kernel_rfl) (fun _ _ _ _ h => h) (by rfl) hS ?_
      apply Exists.intro
      refine ⟨fun w' hw' => ?_, ?_⟩
      · skip
        go_simp
        first | done | rfl | exact ⟨rfl, rfl⟩
      simp only [Act.put, List.setIfInBounds_toArray, List.set_cons_zero, List.set_cons_succ]
      refine held_val 15 rfl (by kernel_rfl) (by kernel_rfl) (by kernel_rfl) (fun _ _ _ _ h => h) (by rfl) hS ?_
      apply Exists.intro
      refine ⟨fun w' hw' => ?_, ?_⟩
      · skip
        go_simp
        first | done | rfl | exact ⟨rfl, rfl⟩
      simp only [Act.put, List.setIfInBounds_toArray, List.set_cons_zero, List.set_cons_succ]
      refine wpAnyH_done (by kernel_rfl) ?_ _
      have hb5 := hS.1
      go_wp2_with fail
      go_ret
      exact ⟨rfl, by rw [hbe]; exact hal.trans (hb5.mono (by omega))⟩
    · go_enter Tryd.func25, Tryd.ntmps25
      go_upto_region 1 with fail
      generalize w.alloc (.cells #[.string TN, .int .i64 2, .string ⟨x.toArray⟩] 31) = w1 at *
      generalize hbe : w.heap.size = b at *
      refine wp_region_held (S := M3 w1 b (.string TN) (.int .i64 2) (.string ⟨x.toArray⟩)) (by kernel_rfl) ?_
      have hS : M3 w1 b (.string TN) (.int .i64 2) (.string ⟨x.toArray⟩) { w1 with drawn := w1.drawn + 1 } := ⟨(Below.refl _ _).drew, Rw.cell rM 0, Rw.cell rM 1, Rw.cell rM 2⟩
      have hsz := hal.size
      generalize { w1 with drawn := w1.drawn + 1 } = D1 at *
      refine held_val 0 rfl (by kernel_rfl) (by kernel_rfl) (by kernel_rfl) (fun _ _ _ _ h => h) (by rfl) hS ?_
      apply Exists.intro
      refine ⟨fun w' hw' => ?_, ?_⟩
      · obtain ⟨_, e0, e1, e2⟩ := hw'
        go_simp
        first | done | rfl | exact ⟨rfl, rfl⟩
      simp only [Act.put, List.setIfInBounds_toArray, List.set_cons_zero, List.set_cons_succ]
      refine held_call 1 (by kernel_rfl) rfl (by rfl) ?_
      apply Exists.intro
      apply Exists.intro
      refine ⟨?_, ?_⟩
      · go_simp
        first | done | rfl | exact ⟨rfl, rfl⟩
      refine (KF.out _).mono ?_
      intro e w2 he
      obtain ⟨he, hB2⟩ := he
      replace hS := hS.go hB2
      refine ⟨_, he, hS, ?_⟩
      simp only [Act.put, List.setIfInBounds_toArray, List.set_cons_zero, List.set_cons_succ]
      refine held_val 2 rfl (by kernel_rfl) (by kernel_rfl) (by kernel_rfl) (fun _ _ _ _ h => h) (by rfl) hS ?_
      apply Exists.intro
      refine ⟨fun w' hw' => ?_, ?_⟩
      · skip
        go_simp
        first | done | rfl | exact ⟨rfl, rfl⟩
      simp only [Act.put, List.setIfInBounds_toArray, List.set_cons_zero, List.set_cons_succ]
      refine held_val 4 rfl (by kernel_rfl) (by kernel_rfl) (by kernel_rfl) (fun _ _ _ _ h => h) (by rfl) hS ?_
      apply Exists.intro
      refine ⟨fun w' hw' => ?_, ?_⟩
      · skip
        go_simp
        first | done | rfl | exact ⟨rfl, rfl⟩
      simp only [Act.put, List.setIfInBounds_toArray, List.set_cons_zero, List.set_cons_succ]
      refine held_val 5 rfl (by kernel_rfl) (by kernel_rfl) (by kernel_rfl) (fun _ _ _ _ h => h) (by rfl) hS ?_
      apply Exists.intro
      refine ⟨fun w' hw' => ?_, ?_⟩
      · obtain ⟨_, e0, e1, e2⟩ := hw'
        go_simp
        first | done | rfl | exact ⟨rfl, rfl⟩
      simp only [Act.put, List.setIfInBounds_toArray, List.set_cons_zero, List.set_cons_succ]
      refine held_val 7 rfl (by kernel_rfl) (by kernel_rfl) (by kernel_rfl) (fun _ _ _ _ h => h) (by rfl) hS ?_
      apply Exists.intro
      refine ⟨fun w' hw' => ?_, ?_⟩
      · skip
        go_simp
        first | done | rfl | exact ⟨rfl, rfl⟩
      simp only [Act.put, List.setIfInBounds_toArray, List.set_cons_zero, List.set_cons_succ]
      refine held_val 8 rfl (by kernel_rfl) (by kernel_rfl) (by kernel_rfl) (fun _ _ _ _ h => h) (by rfl) hS ?_
      apply Exists.intro
      refine ⟨fun w' hw' => ?_, ?_⟩
      · skip
        go_simp
        first | done | rfl | exact ⟨rfl, rfl⟩
      simp only [Act.put, List.setIfInBounds_toArray, List.set_cons_zero, List.set_cons_succ]
      refine held_val 9 rfl (by kernel_rfl) (by kernel_rfl) (by kernel_rfl) (fun _ _ _ _ h => h) (by rfl) hS ?_
      apply Exists.intro
      refine ⟨fun w' hw' => ?_, ?_⟩
      · obtain ⟨_, e0, e1, e2⟩ := hw'
        go_simp
        first | done | rfl | exact ⟨rfl, rfl⟩
      simp only [Act.put, List.setIfInBounds_toArray, List.set_cons_zero, List.set_cons_succ]
      refine held_val 11 rfl (by kernel_rfl) (by kernel_rfl) (by kernel_rfl) (fun _ _ _ _ h => h) (by rfl) hS ?_
      apply Exists.intro
      refine ⟨fun w' hw' => ?_, ?_⟩
      · skip
        go_simp
        first | done | rfl | exact ⟨rfl, rfl⟩
      simp only [Act.put, List.setIfInBounds_toArray, List.set_cons_zero, List.set_cons_succ]
      refine held_val 12 rfl (by kernel_rfl) (by kernel_rfl) (by kernel_rfl) (fun _ _ _ _ h => h) (by rfl) hS ?_
      apply Exists.intro
      refine ⟨fun w' hw' => ?_, ?_⟩
      · obtain ⟨_, e0, e1, e2⟩ := hw'
        go_simp
        first | done | rfl | exact ⟨rfl, rfl⟩
      simp only [Act.put, List.setIfInBounds_toArray, List.set_cons_zero, List.set_cons_succ]
      refine held_call 3 (by kernel_rfl) rfl (by rfl) ?_
      apply Exists.intro
      apply Exists.intro
      refine ⟨?_, ?_⟩
      · go_simp
        first | done | rfl | exact ⟨rfl, rfl⟩
      refine (comps_any _).mono ?_
      intro e w3 he3
      obtain ⟨b1, b2, he3, hB3, k1, k2⟩ := he3
      replace hS := hS.go hB3
      refine ⟨_, he3, hS, ?_⟩
      simp only [Act.put, List.setIfInBounds_toArray, List.set_cons_zero, List.set_cons_succ]
      refine held_val 6 rfl (by kernel_rfl) (by kernel_rfl) (by kernel_rfl) (fun _ _ _ _ h => h) (by rfl) hS ?_
      apply Exists.intro
      refine ⟨fun w' hw' => ?_, ?_⟩
      · have e0 := (comp_index b1 b2 w').2.2.1
        go_simp
        first | done | rfl | exact ⟨rfl, rfl⟩
      simp only [Act.put, List.setIfInBounds_toArray, List.set_cons_zero, List.set_cons_succ]
      refine held_call 10 (by kernel_rfl) rfl (by rfl) ?_
      apply Exists.intro
      apply Exists.intro
      refine ⟨?_, ?_⟩
      · go_simp
        first | done | rfl | exact ⟨rfl, rfl⟩
      refine (KV.out _ (hal.trans (hS.1.mono (by omega)))).mono ?_
      intro e w4 he4
      obtain ⟨he4, hB4⟩ := he4
      replace hS := hS.go hB4
      replace k1 := (hB4.cell (p := ⟨b1, 0, none⟩) (World.block_lt_of_cell? _ _ k1)).trans k1
      replace k2 := (hB4.cell (p := ⟨b2, 0, none⟩) (World.block_lt_of_cell? _ _ k2)).trans k2
      refine ⟨_, he4, hS, ?_⟩
      simp only [Act.put, List.setIfInBounds_toArray, List.set_cons_zero, List.set_cons_succ]
      refine held_call 13 (by kernel_rfl) rfl (by rfl) ?_
      apply Exists.intro
      apply Exists.intro
      refine ⟨?_, ?_⟩
      · go_simp
        first | done | rfl | exact ⟨rfl, rfl⟩
      refine (like_call V x (by omega) (by omega) _).mono ?_
      intro e w5 he5
      obtain ⟨he5, hB5⟩ := he5
      replace hS := hS.go hB5
      refine ⟨_, he5, hS, ?_⟩
      simp only [Act.put, List.setIfInBounds_toArray, List.set_cons_zero, List.set_cons_succ]
      refine held_val 14 rfl (by kernel_rfl) (by kernel_rfl) (by kernel_rfl) (fun _ _ _ _ h => h) (by rfl) hS ?_
      apply Exists.intro
      refine ⟨fun w' hw' => ?_, ?_⟩
      · skip
        go_simp
        first | done | rfl | exact ⟨rfl, rfl⟩
      simp only [Act.put, List.setIfInBounds_toArray, List.set_cons_zero, List.set_cons_succ]
      refine held_val 15 rfl (by kernel_rfl) (by kernel_rfl) (by kernel_rfl) (fun _ _ _ _ h => h) (by rfl) hS ?_
      apply Exists.intro
      refine ⟨fun w' hw' => ?_, ?_⟩
      · skip
        go_simp
        first | done | rfl | exact ⟨rfl, rfl⟩
      simp only [Act.put, List.setIfInBounds_toArray, List.set_cons_zero, List.set_cons_succ]
      refine wpAnyH_done (by kernel_rfl) ?_ _
      have hb5 := hS.1
      go_wp2_with fail
      go_ret
      exact ⟨rfl, by rw [hbe]; exact hal.trans (hb5.mono (by omega))⟩
    · go_enter Tryd.func25, Tryd.ntmps25
      go_upto_region 1 with fail
      generalize w.alloc (.cells #[.string TN, .int .i64 3, .string ⟨x.toArray⟩] 31) = w1 at *
      generalize hbe : w.heap.size = b at *
      refine wp_region_held (S := M3 w1 b (.string TN) (.int .i64 3) (.string ⟨x.toArray⟩)) (by kernel_rfl) ?_
      have hS : M3 w1 b (.string TN) (.int .i64 3) (.string ⟨x.toArray⟩) { w1 with drawn := w1.drawn + 1 } := ⟨(Below.refl _ _).drew, Rw.cell rM 0, Rw.cell rM 1, Rw.cell rM 2⟩
      have hsz := hal.size
      generalize { w1 with drawn := w1.drawn + 1 } = D1 at *
      refine held_val 0 rfl (by kernel_rfl) (by kernel_rfl) (by kernel_rfl) (fun _ _ _ _ h => h) (by rfl) hS ?_
      apply Exists.intro
      refine ⟨fun w' hw' => ?_, ?_⟩
      · obtain ⟨_, e0, e1, e2⟩ := hw'
        go_simp
        first | done | rfl | exact ⟨rfl, rfl⟩
      simp only [Act.put, List.setIfInBounds_toArray, List.set_cons_zero, List.set_cons_succ]
      refine held_call 1 (by kernel_rfl) rfl (by rfl) ?_
      apply Exists.intro
      apply Exists.intro
      refine ⟨?_, ?_⟩
      · go_simp
        first | done | rfl | exact ⟨rfl, rfl⟩
      refine (KF.out _).mono ?_
      intro e w2 he
      obtain ⟨he, hB2⟩ := he
      replace hS := hS.go hB2
      refine ⟨_, he, hS, ?_⟩
      simp only [Act.put, List.setIfInBounds_toArray, List.set_cons_zero, List.set_cons_succ]
      refine held_val 2 rfl (by kernel_rfl) (by kernel_rfl) (by kernel_rfl) (fun _ _ _ _ h => h) (by rfl) hS ?_
      apply Exists.intro
      refine ⟨fun w' hw' => ?_, ?_⟩
      · skip
        go_simp
        first | done | rfl | exact ⟨rfl, rfl⟩
      simp only [Act.put, List.setIfInBounds_toArray, List.set_cons_zero, List.set_cons_succ]
      refine held_val 4 rfl (by kernel_rfl) (by kernel_rfl) (by kernel_rfl) (fun _ _ _ _ h => h) (by rfl) hS ?_
      apply Exists.intro
      refine ⟨fun w' hw' => ?_, ?_⟩
      · skip
        go_simp
        first | done | rfl | exact ⟨rfl, rfl⟩
      simp only [Act.put, List.setIfInBounds_toArray, List.set_cons_zero, List.set_cons_succ]
      refine held_val 5 rfl (by kernel_rfl) (by kernel_rfl) (by kernel_rfl) (fun _ _ _ _ h => h) (by rfl) hS ?_
      apply Exists.intro
      refine ⟨fun w' hw' => ?_, ?_⟩
      · obtain ⟨_, e0, e1, e2⟩ := hw'
        go_simp
        first | done | rfl | exact ⟨rfl, rfl⟩
      simp only [Act.put, List.setIfInBounds_toArray, List.set_cons_zero, List.set_cons_succ]
      refine held_val 7 rfl (by kernel_rfl) (by kernel_rfl) (by kernel_rfl) (fun _ _ _ _ h => h) (by rfl) hS ?_
      apply Exists.intro
      refine ⟨fun w' hw' => ?_, ?_⟩
      · skip
        go_simp
        first | done | rfl | exact ⟨rfl, rfl⟩
      simp only [Act.put, List.setIfInBounds_toArray, List.set_cons_zero, List.set_cons_succ]
      refine held_val 8 rfl (by kernel_rfl) (by kernel_rfl) (by kernel_rfl) (fun _ _ _ _ h => h) (by rfl) hS ?_
      apply Exists.intro
      refine ⟨fun w' hw' => ?_, ?_⟩
      · skip
        go_simp
        first | done | rfl | exact ⟨rfl, rfl⟩
      simp only [Act.put, List.setIfInBounds_toArray, List.set_cons_zero, List.set_cons_succ]
      refine held_val 9 rfl (by kernel_rfl) (by kernel_rfl) (by kernel_rfl) (fun _ _ _ _ h => h) (by rfl) hS ?_
      apply Exists.intro
      refine ⟨fun w' hw' => ?_, ?_⟩
      · obtain ⟨_, e0, e1, e2⟩ := hw'
        go_simp
        first | done | rfl | exact ⟨rfl, rfl⟩
      simp only [Act.put, List.setIfInBounds_toArray, List.set_cons_zero, List.set_cons_succ]
      refine held_val 11 rfl (by kernel_rfl) (by kernel_rfl) (by kernel_rfl) (fun _ _ _ _ h => h) (by rfl) hS ?_
      apply Exists.intro
      refine ⟨fun w' hw' => ?_, ?_⟩
      · skip
        go_simp
        first | done | rfl | exact ⟨rfl, rfl⟩
      simp only [Act.put, List.setIfInBounds_toArray, List.set_cons_zero, List.set_cons_succ]
      refine held_val 12 rfl (by kernel_rfl) (by kernel_rfl) (by kernel_rfl) (fun _ _ _ _ h => h) (by rfl) hS ?_
      apply Exists.intro
      refine ⟨fun w' hw' => ?_, ?_⟩
      · obtain ⟨_, e0, e1, e2⟩ := hw'
        go_simp
        first | done | rfl | exact ⟨rfl, rfl⟩
      simp only [Act.put, List.setIfInBounds_toArray, List.set_cons_zero, List.set_cons_succ]
      refine held_call 3 (by kernel_rfl) rfl (by rfl) ?_
      apply Exists.intro
      apply Exists.intro
      refine ⟨?_, ?_⟩
      · go_simp
        first | done | rfl | exact ⟨rfl, rfl⟩
      refine (comps_any _).mono ?_
      intro e w3 he3
      obtain ⟨b1, b2, he3, hB3, k1, k2⟩ := he3
      replace hS := hS.go hB3
      refine ⟨_, he3, hS, ?_⟩
      simp only [Act.put, List.setIfInBounds_toArray, List.set_cons_zero, List.set_cons_succ]
      refine held_val 6 rfl (by kernel_rfl) (by kernel_rfl) (by kernel_rfl) (fun _ _ _ _ h => h) (by rfl) hS ?_
      apply Exists.intro
      refine ⟨fun w' hw' => ?_, ?_⟩
      · have e0 := (comp_index b1 b2 w').2.2.2
        go_simp
        first | done | rfl | exact ⟨rfl, rfl⟩
      simp only [Act.put, List.setIfInBounds_toArray, List.set_cons_zero, List.set_cons_succ]
      refine held_call 10 (by kernel_rfl) rfl (by rfl) ?_
      apply Exists.intro
      apply Exists.intro
      refine ⟨?_, ?_⟩
      · go_simp
        first | done | rfl | exact ⟨rfl, rfl⟩
      refine (KV.out _ (hal.trans (hS.1.mono (by omega)))).mono ?_
      intro e w4 he4
      obtain ⟨he4, hB4⟩ := he4
      replace hS := hS.go hB4
      replace k1 := (hB4.cell (p := ⟨b1, 0, none⟩) (World.block_lt_of_cell? _ _ k1)).trans k1
      replace k2 := (hB4.cell (p := ⟨b2, 0, none⟩) (World.block_lt_of_cell? _ _ k2)).trans k2
      refine ⟨_, he4, hS, ?_⟩
      simp only [Act.put, List.setIfInBounds_toArray, List.set_cons_zero, List.set_cons_succ]
      refine held_call 13 (by kernel_rfl) rfl (by rfl) ?_
      apply Exists.intro
      apply Exists.intro
      refine ⟨?_, ?_⟩
      · go_simp
        first | done | rfl | exact ⟨rfl, rfl⟩
      refine (not_like _ _ _ b2 _ k2 (like_call V x (by omega) (by omega))).mono ?_
      intro e w5 he5
      obtain ⟨he5, hB5⟩ := he5
      replace hS := hS.go hB5
      refine ⟨_, he5, hS, ?_⟩
      simp only [Act.put, List.setIfInBounds_toArray, List.set_cons_zero, List.set_cons_succ]
      refine held_val 14 rfl (by kernel_rfl) (by kernel_rfl) (by kernel_rfl) (fun _ _ _ _ h => h) (by rfl) hS ?_
      apply Exists.intro
      refine ⟨fun w' hw' => ?_, ?_⟩
      · skip
        go_simp
        first | done | rfl | exact ⟨rfl, rfl⟩
      simp only [Act.put, List.setIfInBounds_toArray, List.set_cons_zero, List.set_cons_succ]
      refine held_val 15 rfl (by kernel_rfl) (by kernel_rfl) (by kernel_rfl) (fun _ _ _ _ h => h) (by rfl) hS ?_
      apply Exists.intro
      refine ⟨fun w' hw' => ?_, ?_⟩
      · skip
        go_simp
        first | done | rfl | exact ⟨rfl, rfl⟩
      simp only [Act.put, List.setIfInBounds_toArray, List.set_cons_zero, List.set_cons_succ]
      refine wpAnyH_done (by kernel_rfl) ?_ _
      have hb5 := hS.1
      go_wp2_with fail
      go_ret
      exact ⟨rfl, by rw [hbe]; exact hal.trans (hb5.mono (by omega))⟩
end Go.Proofs.YteooofakpkbgoaaDoor
/- Whether all matchers fit: the walk. -/
namespace Go.Proofs.YteooofakpkbgoaaDoor
open Go.ChangeShapes Go.WideShapes Go.RowKit

theorem valueF_len {fs : List (Bs × Bs)} {B : Nat} (h : ∀ f ∈ fs, f.2.length ≤ B) (n : Bs) : (valueF fs n).length ≤ B := by
  induction fs with
  | nil => simp [valueF]
  | cons f fs ih =>
    rw [valueF]
    split
    · exact h f (by simp)
    · exact ih fun g hg => h g (by simp [hg])
theorem take_mt {ms : List Mt} {k : Nat} {m : Mt} (h : ms[k]? = some m) : ms.take (k + 1) = ms.take k ++ [m] := by rw [List.take_add_one, h]; rfl
theorem allM_bad {fs : List (Bs × Bs)} {ms : List Mt} {k : Nat} {m : Mt} (h : ms[k]? = some m) (hb : fitsB fs m = false) : allM fs ms = false := by
  unfold allM
  rw [List.all_eq_false]
  exact ⟨m, List.mem_of_getElem? h, by rw [hb]; simp⟩
set_option maxHeartbeats 3200000 in
set_option maxRecDepth 100000 in
theorem all_at (P P' : Nat → Prop) (v v' : Value) (fs : List (Bs × Bs)) (ms : List Mt) (w : World) (h : FldsAt P w v fs) (h' : MtsAt P' w v' ms) (hl : fs.length ≤ 9223372036854775807) (hfl : ∀ f ∈ fs, f.2.length ≤ 100000) (hl' : ms.length ≤ 9223372036854775807) (hml : ∀ m ∈ ms, m.n.length ≤ 9223372036854775807 ∧ m.v.length ≤ 9223372036854775807) :
    Calls Tryd.prog 29 #[v, v'] w fun e w' => e = .returned (.bool (allM fs ms)) ∧ Below w.heap.size w w' := by
  have KV := Lib.hid fun m (hm : m ∈ ms) w' (hb : Below w.heap.size w w') => fits_at P v fs m w' (h.stay hb) hl (valueF_len hfl m.n) (hml m hm).1 (hml m hm).2
  obtain ⟨a, c, rfl⟩ := h.shape
  obtain ⟨a', c', rfl⟩ := h'.shape
  obtain ⟨n, hn⟩ : ∃ n, ms.length = n := ⟨_, rfl⟩
  rw [hn] at hl' h' ⊢
  have HN : Unit → ms.length = n := fun _ => hn
  clear hn hml hfl
  obtain ⟨O, hO⟩ : ∃ O, allM fs ms = O := ⟨_, rfl⟩
  have HO : Unit → allM fs ms = O := fun _ => hO
  rw [hO]
  clear hO
  have hni : (n : Int) ≤ 9223372036854775807 := by omega
  go_enter Tryd.func29, Tryd.ntmps29
  go_upto_region 2 with fail
  go_loopw [9] (fun iv wr => ∃ k : Nat, k ≤ n ∧ iv = .int .i64 (k : Int) ∧ allM fs (ms.take k) = true ∧ Below w.heap.size w wr) (fun iv _ => n - (intOf iv).toNat)
  case atStart => exact ⟨0, Nat.zero_le _, rfl, rfl, Below.refl _ _⟩
  case round =>
    obtain ⟨k, hk, rfl, hV, hB⟩ := hrel
    have HV : Unit → allM fs (ms.take k) = true := fun _ => hV
    clear hV
    by_cases hlt : k < n
    · have hki : (k : Int) < (n : Int) := by omega
      obtain ⟨m, hm⟩ : ∃ m, ms[k]? = some m := ⟨_, List.getElem?_eq_getElem (by have := HN (); omega)⟩
      obtain ⟨g, o, rfl, _, hg, c0, c1, c2⟩ := (h'.stay hB).part hm
      have hal := hB.alloc hB.size (.cells #[.string ⟨m.n.toArray⟩, .int .i64 m.op, .string ⟨m.v.toArray⟩] 31)
      have KM := Lib.hid (KV.out m (List.mem_of_getElem? hm) _ hal)
      have HBad : Unit → fitsB fs m = false → O = false := fun _ e => (HO ()).symm.trans (allM_bad hm e)
      have HGood : Unit → fitsB fs m = true → allM fs (ms.take (k + 1)) = true := fun _ e => by
        have h0 := HV ()
        unfold allM at *
        rw [take_mt hm, List.all_append, h0]
        simp [e]
      generalize fitsB fs m = d at *
      obtain ⟨mn, mo, mv⟩ := m
      simp only at *
      generalize (⟨mn.toArray⟩ : ByteArray) = TN at *
      generalize (⟨mv.toArray⟩ : ByteArray) = TX at *
      cases d with
      | false =>
        obtain rfl := HBad () rfl
        go_wp2_with fail
        refine KM.out.mono ?_
        rintro e w2 ⟨rfl, hB2⟩
        have hB3 := hal.trans (hB2.mono hal.size)
        go_wp2_with fail
        go_ret
        exact ⟨rfl, hB3⟩
      | true =>
        go_wp2_with fail
        refine KM.out.mono ?_
        rintro e w2 ⟨rfl, hB2⟩
        have hB3 := hal.trans (hB2.mono hal.size)
        go_wp2_with fail
        go_roundw
        case rel => exact ⟨k + 1, by omega, by go_num, HGood () trivial, hB3⟩
        case measure => simp [intOf]; omega
    · have hki : ¬ (k : Int) < (n : Int) := by omega
      have e : true = O := by rw [← HO (), ← HV (), List.take_of_length_le (by have := HN (); omega)]
      subst e
      go_wp2_with fail
      go_ret
      exact ⟨rfl, hB⟩
end Go.Proofs.YteooofakpkbgoaaDoor
/- Texts that are added to a row of one's own, in a region that draws its order; texts that are joined. -/
namespace Go.Proofs.YteooofakpkbgoaaDoor
open Go.ChangeShapes Go.WideShapes Go.RowKit

theorem own_stay2 {w w' : World} {base : Nat} {e : TypeId} {s n : Nat} {v : Value} {xs : List Value} (h : w.ownsRow base e s v n xs) (k : Below w.heap.size w w') : w'.ownsRow base e s v n xs := own_asdS h (Asd.of_below k (S := fun _ => False)) (fun _ _ e => e)
theorem grown_asd {w w' : World} {row : Option Nat} (hg : w.grownBy w' row) : Asd (fun k => row = some k) w w' := ⟨hg.os, hg.tape, hg.output, hg.size, fun k hk hn => hg.block k hk (fun e => hn e.symm)⟩
theorem wp_one_str {o : Oper} {a : Act} {w : World} {K : Act → World → Prop} {Q : Exit → Act → World → Prop} (x : Operand) (ho : o.op = .buildSlice 44 1 #[(0, x)]) (T : ByteArray) (hx : a.eval x = .string T)
    (h : K (a.put o.dst (.slice (some ⟨w.heap.size, 0, none⟩) 1 1)) (w.alloc (.cells #[.string T] 9))) : o.wp Tryd.prog a w K Q := by
  obtain ⟨i0, hi, hz0, hz1, _⟩ := info_parts0 info_str
  refine wp_buildSlice 44 9 1 _ ho #[.string T] i0 _ Tryd.underlying44 hi hz0 (by rw [hz1]; decide) (by rw [hz1]; decide) ?_ h
  rw [hz1]
  simp only [List.map_toArray, List.map_cons, List.map_nil, hx]
  rw [show Array.range (1 * 1) = #[0] by kernel_rfl]
  simp [Instr.fill, Value.cells]
theorem wp_own_str {o : Oper} {a : Act} {w : World} {K : Act → World → Prop} {Q : Exit → Act → World → Prop} (s x : Operand) (ho : o.op = .call { callee := .builtin .append, args := #[s, x], argTypes := #[44, 44] })
    (base : Nat) (v : Value) (n : Nat) (xs : List Value) (hs : a.eval s = v) (hown : w.ownsRow base 9 1 v n xs) (g : Nat) (T : ByteArray) (hx : a.eval x = .slice (some ⟨g, 0, none⟩) 1 1) (hr : Rw w g 9 [.string T]) (hn : n ≤ 1000) (hbase : base ≤ w.heap.size)
    (h : ∀ v' w', w'.ownsRow base 9 1 v' (n + 1) (xs ++ [.string T]) → w.grownBy w' v.ownBlock → (v'.ownBlock = v.ownBlock ∨ v'.ownBlock = some w.heap.size) → K (a.put o.dst v') w') : o.wp Tryd.prog a w K Q := by
  obtain ⟨i0, hi, hz0, hz1, hz2⟩ := info_parts0 info_str
  obtain ⟨v', w', hr, h2, h3, _, h5⟩ := run_append_own_at (P := Tryd.prog) w base 44 o.type 9 i0 _ 1 16 Tryd.underlying44 hi hz0 hz1 hz2 rfl (by decide) v n xs hown ⟨g, 0, none⟩ 1 1 [.string T] rfl (fun j u hu => by
      rw [show (⟨g, 0, none⟩ : Addr).add j = ⟨g, j, none⟩ by unfold Addr.add; split <;> simp_all, Rw.cell hr j]
      exact hu) (fun u hu => by simp at hu; subst hu; rfl) (by unfold maxLen; omega) (by omega) hbase
  unfold Oper.wp execOp
  simp only [ho, resolve, invoke, builtin, Sem.run_bind, Sem.run_pure, Result.andThen_ok, List.map_toArray, List.map_cons, List.map_nil, hs, hx, hr]
  exact h v' w' h2 h3 h5
def ba (s : Bs) : ByteArray := ⟨s.toArray⟩
theorem ba_data (ss : List Bs) : (ss.map ba).map (·.data.toList) = ss := by
  rw [List.map_map]
  exact (List.map_congr_left (g := id) (fun s _ => rfl)).trans (List.map_id _)
def joinL (sep : Bs) (ss : List Bs) : Bs := Lib.join ss sep
theorem join_call (P : Nat → Prop) (v : Value) (sep : Bs) (ss : List Bs) (w : World) (h : StrsAt P w v ss) (hn : ss.length ≤ 1000000) (hl : (joinL sep ss).length ≤ 1000000) :
    Calls Tryd.prog 43 #[v, .string ⟨sep.toArray⟩] w fun e w' => e = .returned (.string ⟨(joinL sep ss).toArray⟩) ∧ Below w.heap.size w w' := by
  rcases h with ⟨rfl, a, c, rfl⟩ | ⟨g, o, c, rfl, hle, _, hg, hc⟩
  · exact (Tryd.strings_Join_none a c _ w).mono fun e w' ⟨h1, h2⟩ => ⟨h1, h2 ▸ Below.refl _ _⟩
  · have := Tryd.strings_Join g o c (ss.map ba) ⟨sep.toArray⟩ w (fun j x hx => by
      simp at hx
      obtain ⟨s, hs, rfl⟩ := hx
      exact hc j s hs) hg (by simp; omega) (by simpa using hle) (by rw [ba_data]; exact Nat.le_trans hl (by decide))
    rw [ba_data, List.length_map] at this
    exact this
end Go.Proofs.YteooofakpkbgoaaDoor
/- The text of matchers: the walk. -/
namespace Go.Proofs.YteooofakpkbgoaaDoor
open Go.ChangeShapes Go.WideShapes Go.RowKit

theorem cat_text (a b : Bs) (h : a.length + b.length ≤ 1000000) (w : World) : (binOp .add 9 (.string ⟨a.toArray⟩) (.string ⟨b.toArray⟩)).run Tryd.prog w = .ok (.string ⟨(a ++ b).toArray⟩) w := cat_any a b h w
theorem comma_join (l : List Bs) : joinL [44] l = commaL l := by
  unfold joinL
  cases l with
  | nil => rfl
  | cons x l =>
    rw [Lib.join_cons]
    induction l generalizing x with
    | nil => simp [Lib.joinTail, commaL]
    | cons y l ih => rw [commaL, ← ih y]; simp [Lib.joinTail]
theorem comma_len (l : List Bs) (B : Nat) (h : ∀ x ∈ l, x.length ≤ B) : (commaL l).length ≤ (B + 1) * l.length := by
  induction l with
  | nil => simp [commaL]
  | cons x l ih =>
    have hx := h x (by simp)
    have := ih (fun y hy => h y (by simp [hy]))
    cases l with
    | nil => simp only [commaL, List.length_cons, List.length_nil]; omega
    | cons y l =>
      simp only [commaL, List.length_append, List.length_cons] at this ⊢
      generalize (commaL (y :: l)).length = q at *
      generalize l.length = p at *
      have e : (B + 1) * (p + 1 + 1) = (B + 1) * (p + 1) + (B + 1) := by rw [Nat.mul_succ]
      omega
def textT : Option Bs → Value
  | some s => .tuple #[.string ⟨s.toArray⟩, .int .i64 0]
  | none => .tuple #[.string ⟨#[]⟩, .int .i64 1]
theorem sgn_len (op : Int) : (sgnM op).length ≤ 2 := by
  unfold sgnM sgnL
  have h : ∀ k : Nat, (([[61], [33, 61], [61, 126], [33, 126]] : List Bs)[k]?.getD []).length ≤ 2 := fun k => by
    match k with
    | 0 => simp
    | 1 => simp
    | 2 => simp
    | 3 => simp
    | k + 4 => simp
  exact h _
theorem sgn_cell {w : World} (h : SgAt w) {op : Int} (h0 : 0 ≤ op) (h3 : op ≤ 3) : ∃ k : Nat, op = (k : Int) ∧ k < 4 ∧ w.cell? ⟨0, k, none⟩ = some (.string ⟨(sgnM op).toArray⟩) := by
  have hc : op = 0 ∨ op = 1 ∨ op = 2 ∨ op = 3 := by omega
  rcases hc with rfl | rfl | rfl | rfl
  · exact ⟨0, rfl, by omega, h.1⟩
  · exact ⟨1, rfl, by omega, h.2.1⟩
  · exact ⟨2, rfl, by omega, h.2.2.1⟩
  · exact ⟨3, rfl, by omega, h.2.2.2⟩
theorem one_len {m : Mt} (h : fineB m = true) : (oneM m).length ≤ 420 := by
  have h1 := name_len12 (fine_name h)
  have h2 := fine_len h
  have h3 := sgn_len m.op
  have h4 := esc_len m.v
  unfold oneM quotM
  simp only [List.length_append, List.length_cons, List.length_nil]
  omega
set_option maxHeartbeats 6400000 in
set_option maxRecDepth 100000 in
theorem text_any (P : Nat → Prop) (v : Value) (ms : List Mt) (w : World) (h : MtsAt P w v ms) (hl : ms.length ≤ 9223372036854775807) (hml : ∀ m ∈ ms, m.n.length ≤ 9223372036854775807 ∧ m.v.length ≤ 9223372036854775807) (hg : SgAt w) :
    Calls Tryd.prog 17 #[v] w fun e w' => e = .returned (textT (textM ms)) ∧ Below w.heap.size w w' := by
  have HO : Unit → textM ms = if 12 < ms.length then none else if ms.all fineB then some (commaL (ms.map oneM)) else none := fun _ => rfl
  obtain ⟨a, c, rfl⟩ := h.shape
  obtain ⟨n, hn⟩ : ∃ n, ms.length = n := ⟨_, rfl⟩
  rw [hn] at hl h ⊢
  rw [hn] at HO
  have HN : Unit → ms.length = n := fun _ => hn
  have KF := Lib.hid fun m (hm : m ∈ ms) w => fine_any m w (hml m hm).1 (hml m hm).2
  clear hn hml
  generalize textM ms = O at *
  have hni : (n : Int) ≤ 9223372036854775807 := by omega
  by_cases h12 : 12 < n
  · have h12i : (12 : Int) < (n : Int) := by omega
    have e := HO ()
    rw [if_pos h12] at e
    subst e
    clear HO KF h hg
    go_enter Tryd.func17, Tryd.ntmps17
    go_wp2_with fail
    go_ret2
    exact ⟨rfl, Below.refl _ _⟩
  · have h12i : ¬ (12 : Int) < (n : Int) := by omega
    rw [if_neg h12] at HO
    go_enter Tryd.func17, Tryd.ntmps17
    go_wp2_with fail
    go_upto_region 5 with fail
    go_loopw [4, 12] (fun bv iv wr => ∃ (k : Nat) (T : List Bs), k ≤ n ∧ iv = .int .i64 (k : Int) ∧ T = (ms.take k).map oneM ∧ T.length = k ∧ (ms.take k).all fineB = true ∧ wr.ownsRow w.heap.size 9 1 bv T.length (T.map sv) ∧ Below w.heap.size w wr) (fun _ iv _ => n - (intOf iv).toNat)
    case atStart => exact ⟨0, [], Nat.zero_le _, rfl, rfl, rfl, rfl, World.ownsRow_nil _ _ _ _, Below.refl _ _⟩
    case round =>
      obtain ⟨k, T, hk, rfl, hT, hTl, hall, hown, hB⟩ := hrel
      have HT : Unit → T = (ms.take k).map oneM := fun _ => hT
      have HA : Unit → (ms.take k).all fineB = true := fun _ => hall
      clear hT hall
      obtain ⟨aO, cO, rfl, _⟩ := own_slice hown
      have hszr := hB.size
      by_cases hlt : k < n
      · have hki : (k : Int) < (n : Int) := by omega
        obtain ⟨m, hm⟩ : ∃ m, ms[k]? = some m := ⟨_, List.getElem?_eq_getElem (by have := HN (); omega)⟩
        obtain ⟨g, o, rfl, _, hgl, c0, c1, c2⟩ := (h.stay hB).part hm
        have hal := (Below.refl wr.heap.size wr).alloc (Nat.le_refl _) (.cells #[.string ⟨m.n.toArray⟩, .int .i64 m.op, .string ⟨m.v.toArray⟩] 31)
        have rM : Rw (wr.alloc (.cells #[.string ⟨m.n.toArray⟩, .int .i64 m.op, .string ⟨m.v.toArray⟩] 31)) wr.heap.size 31 [.string ⟨m.n.toArray⟩, .int .i64 m.op, .string ⟨m.v.toArray⟩] := Rw.new wr 31 [.string ⟨m.n.toArray⟩, .int .i64 m.op, .string ⟨m.v.toArray⟩]
        have KM := Lib.hid (KF.out m (List.mem_of_getElem? hm))
        have hSg := hg.keep (hB.trans (hal.mono hszr)) hg.lt
        cases hf : fineB m with
        | false =>
          have e : O = none := by
            have e := HO ()
            rw [if_neg (by
              intro h
              rw [List.all_eq_true] at h
              rw [h m (List.mem_of_getElem? hm)] at hf
              cases hf)] at e
            exact e
          subst e
          rw [hf] at KM
          clear hf HO rM hSg
          obtain ⟨mn, mo, mv⟩ := m
          simp only at *
          generalize (⟨mn.toArray⟩ : ByteArray) = TN at *
          generalize (⟨mv.toArray⟩ : ByteArray) = TX at *
          have hB1 := hB.trans (hal.mono hszr)
          go_wp2_with fail
          refine (KM.out _).mono ?_
          rintro e w2 ⟨rfl, hB2⟩
          have hB3 := hB1.trans (hB2.mono hB1.size)
          go_wp2_with fail
          go_ret2
          exact ⟨rfl, hB3⟩
        | true =>
          have hol := one_len hf
          have ho := fine_op hf
          have hnl := name_len12 (fine_name hf)
          have hvl := fine_len hf
          have hel := esc_len m.v
          have hsl := sgn_len m.op
          have KQ := Lib.hid fun w => quoted_any m.v w (by omega)
          have hql : (quotM m.v).length ≤ 402 := by unfold quotM; simp only [List.length_append, List.length_cons, List.length_nil]; omega
          have HE : Unit → m.n ++ sgnM m.op ++ quotM m.v = oneM m := fun _ => rfl
          have HNX : Unit → (ms.take (k + 1)).all fineB = true ∧ (ms.take (k + 1)).map oneM = (ms.take k).map oneM ++ [oneM m] := fun _ => by
            rw [List.take_add_one, hm]
            simp [HA (), hf]
          rw [hf] at KM
          clear hf
          obtain ⟨S, hS0⟩ : ∃ S, sgnM m.op = S := ⟨_, rfl⟩
          obtain ⟨ki, hki2, hk4, hsc⟩ := sgn_cell hSg ho.1 ho.2
          rw [hS0] at hsc HE hsl
          clear hS0
          obtain ⟨mn, mo, mv⟩ := m
          simp only at *
          subst hki2
          obtain ⟨Q, hQ⟩ : ∃ Q, quotM mv = Q := ⟨_, rfl⟩
          rw [hQ] at hql HE
          simp only [hQ] at KQ
          clear hQ
          have hB1 := hB.trans (hal.mono hszr)
          have hown1 := own_stay2 hown hal
          go_wp2_with fail
          refine (KM.out _).mono ?_
          rintro e w2 ⟨rfl, hB2⟩
          have rM2 := rM.stay hB2
          have hSg2 := hSg.stay hB2
          have hown2 := own_stay2 hown1 hB2
          have hB3 := hB1.trans (hB2.mono hB1.size)
          have hlt3 : wr.heap.size < w2.heap.size := rM2.lt
          have hnb : ¬ (Value.slice aO T.length cO).ownBlock = some wr.heap.size := fun e => by have := (hown.lt _ e).2; omega
          have hng : ¬ (Value.slice aO T.length cO).ownBlock = some 0 := fun e => by have := (hown.lt _ e).1; have := hg.lt; omega
          have hsc2 : w2.cell? ⟨0, ki, none⟩ = some (.string ⟨S.toArray⟩) := (hB2.cell (p := ⟨0, ki, none⟩) hSg.lt).trans hsc
          have d0 := Rw.cell rM2 0
          have d1 := Rw.cell rM2 1
          have d2 := Rw.cell rM2 2
          simp only [List.getElem?_cons_zero, List.getElem?_cons_succ] at d0 d1 d2
          clear rM rM2 hSg hSg2 hown1 hB1 hB2 hsc KM hal c0 c1 c2
          generalize wr.heap.size = b at *
          rw [hTl] at hown2 hnb hng
          rw [hTl]
          have hki4 : (ki : Int) < 4 := by omega
          go_upto_region 9 with fail
          refine wp_region_held (S := fun w' => Asd (fun k' => (Value.slice aO k cO).ownBlock = some k') w2 w') (by kernel_rfl) ?_
          have hS0 : Below w2.heap.size w2 { w2 with drawn := w2.drawn + 1 } := (Below.refl _ _).drew
          have hS : Asd (fun k' => (Value.slice aO k cO).ownBlock = some k') w2 { w2 with drawn := w2.drawn + 1 } := Asd.of_below hS0
          have hown3 := own_stay2 hown2 hS0
          generalize { w2 with drawn := w2.drawn + 1 } = D1 at *
          have hD1 := hS0.size
          refine held_val 0 rfl (by kernel_rfl) (by kernel_rfl) (by kernel_rfl) (fun _ _ _ _ h => h) (by rfl) hS ?_
          apply Exists.intro
          refine ⟨fun w' hw' => ?_, ?_⟩
          · skip
            go_simp
            first | done | rfl | exact ⟨rfl, rfl⟩
          simp only [Act.put, List.setIfInBounds_toArray, List.set_cons_zero, List.set_cons_succ]
          refine held_val 1 rfl (by kernel_rfl) (by kernel_rfl) (by kernel_rfl) (fun _ _ _ _ h => h) (by rfl) hS ?_
          apply Exists.intro
          refine ⟨fun w' hw' => ?_, ?_⟩
          · skip
            go_simp
            first | done | rfl | exact ⟨rfl, rfl⟩
          simp only [Act.put, List.setIfInBounds_toArray, List.set_cons_zero, List.set_cons_succ]
          refine held_val 2 rfl (by kernel_rfl) (by kernel_rfl) (by kernel_rfl) (fun _ _ _ _ h => h) (by rfl) hS ?_
          apply Exists.intro
          refine ⟨fun w' hw' => ?_, ?_⟩
          · have e1 := cell_asd hw' hnb d0
            go_simp
            first | done | rfl | exact ⟨rfl, rfl⟩
          simp only [Act.put, List.setIfInBounds_toArray, List.set_cons_zero, List.set_cons_succ]
          refine held_val 3 rfl (by kernel_rfl) (by kernel_rfl) (by kernel_rfl) (fun _ _ _ _ h => h) (by rfl) hS ?_
          apply Exists.intro
          refine ⟨fun w' hw' => ?_, ?_⟩
          · skip
            go_simp
            first | done | rfl | exact ⟨rfl, rfl⟩
          simp only [Act.put, List.setIfInBounds_toArray, List.set_cons_zero, List.set_cons_succ]
          refine held_val 4 rfl (by kernel_rfl) (by kernel_rfl) (by kernel_rfl) (fun _ _ _ _ h => h) (by rfl) hS ?_
          apply Exists.intro
          refine ⟨fun w' hw' => ?_, ?_⟩
          · have e1 := cell_asd hw' hnb d1
            go_simp
            first | done | rfl | exact ⟨rfl, rfl⟩
          simp only [Act.put, List.setIfInBounds_toArray, List.set_cons_zero, List.set_cons_succ]
          refine held_val 5 rfl (by kernel_rfl) (by kernel_rfl) (by kernel_rfl) (fun _ _ _ _ h => h) (by rfl) hS ?_
          apply Exists.intro
          refine ⟨fun w' hw' => ?_, ?_⟩
          · skip
            go_simp
            first | done | rfl | exact ⟨rfl, rfl⟩
          simp only [Act.put, List.setIfInBounds_toArray, List.set_cons_zero, List.set_cons_succ]
          refine held_val 6 rfl (by kernel_rfl) (by kernel_rfl) (by kernel_rfl) (fun _ _ _ _ h => h) (by rfl) hS ?_
          apply Exists.intro
          refine ⟨fun w' hw' => ?_, ?_⟩
          · have e1 := cell_asd hw' hng hsc2
            go_simp
            first | done | rfl | exact ⟨rfl, rfl⟩
          simp only [Act.put, List.setIfInBounds_toArray, List.set_cons_zero, List.set_cons_succ]
          refine held_val 7 rfl (by kernel_rfl) (by kernel_rfl) (by kernel_rfl) (fun _ _ _ _ h => h) (by rfl) hS ⟨_, fun w' hw' => exec_catg _ _ mn S (mn ++ S) rfl rfl rfl rfl (by omega) w', ?_⟩
          simp only [Act.put, List.setIfInBounds_toArray, List.set_cons_zero, List.set_cons_succ]
          refine held_val 8 rfl (by kernel_rfl) (by kernel_rfl) (by kernel_rfl) (fun _ _ _ _ h => h) (by rfl) hS ?_
          apply Exists.intro
          refine ⟨fun w' hw' => ?_, ?_⟩
          · skip
            go_simp
            first | done | rfl | exact ⟨rfl, rfl⟩
          simp only [Act.put, List.setIfInBounds_toArray, List.set_cons_zero, List.set_cons_succ]
          refine held_val 9 rfl (by kernel_rfl) (by kernel_rfl) (by kernel_rfl) (fun _ _ _ _ h => h) (by rfl) hS ?_
          apply Exists.intro
          refine ⟨fun w' hw' => ?_, ?_⟩
          · have e1 := cell_asd hw' hnb d2
            go_simp
            first | done | rfl | exact ⟨rfl, rfl⟩
          simp only [Act.put, List.setIfInBounds_toArray, List.set_cons_zero, List.set_cons_succ]
          refine held_call 10 (by kernel_rfl) rfl (by rfl) ?_
          apply Exists.intro
          apply Exists.intro
          refine ⟨?_, ?_⟩
          · go_simp
            first | done | rfl | exact ⟨rfl, rfl⟩
          refine (KQ.out _).mono ?_
          intro e w3 he3
          obtain ⟨he3, hB4⟩ := he3
          replace hS := hS.below hB4
          refine ⟨_, he3, hS, ?_⟩
          simp only [Act.put, List.setIfInBounds_toArray, List.set_cons_zero, List.set_cons_succ]
          have hown4 := own_stay2 hown3 hB4
          have hB5 := (hB3.trans (hS0.mono hB3.size)).trans (hB4.mono (by have := hB3.size; omega))
          refine held_val 11 rfl (by kernel_rfl) (by kernel_rfl) (by kernel_rfl) (fun _ _ _ _ h => h) (by rfl) hS ⟨_, fun w' hw' => exec_catg _ _ (mn ++ S) Q (mn ++ S ++ Q) rfl rfl rfl rfl (by rw [List.length_append]; omega) w', ?_⟩
          simp only [Act.put, List.setIfInBounds_toArray, List.set_cons_zero, List.set_cons_succ]
          rw [HE ()]
          obtain ⟨t60, ht60⟩ : ∃ t : ByteArray, t = ⟨(oneM ⟨mn, (ki : Int), mv⟩).toArray⟩ := ⟨_, rfl⟩
          rw [← ht60]
          have HX : Unit → t60 = ⟨(oneM ⟨mn, (ki : Int), mv⟩).toArray⟩ := fun _ => ht60
          clear ht60 HE d0 d1 d2 hsc2 hown3 hB4 KQ
          refine held_one 12 (by kernel_rfl) rfl (by rfl) ?_
          refine wp_one_str _ rfl t60 rfl ?_
          have hal := (Below.refl w3.heap.size w3).alloc (Nat.le_refl _) (.cells #[.string t60] 9)
          have hown5 := own_stay2 hown4 hal
          have rT := Rw.new w3 9 [.string t60]
          replace hS := hS.alloc (.cells #[.string t60] 9)
          refine ⟨hS, ?_⟩
          have hB6 : Below w.heap.size w (w3.alloc (.cells #[.string t60] 9)) := hB5.trans (hal.mono hB5.size)
          simp only [Act.put, List.setIfInBounds_toArray, List.set_cons_zero, List.set_cons_succ]
          clear hown4 hal hB5
          generalize w3.alloc (.cells #[.string t60] 9) = D2 at *
          generalize w3.heap.size = Z at *
          have hsz2 := hB6.size
          refine held_one 13 (by kernel_rfl) rfl (by rfl) ?_
          refine wp_own_str _ _ rfl w.heap.size _ k _ rfl hown5 Z t60 rfl rT (by omega) hsz2 ?_
          intro v' w4 hO' hg4 _
          have hS4 := hS.grown hg4 (fun k e => .inl e)
          have hB4 : Below w.heap.size w w4 := hB6.grown hg4 hsz2 (fun k e => (hown5.lt k e).1)
          refine ⟨hS4, ?_⟩
          obtain ⟨g5, c5, rfl⟩ := own_succ hO'
          replace hS := hS4
          simp only [Act.put, List.setIfInBounds_toArray, List.set_cons_zero, List.set_cons_succ]
          refine held_val 14 rfl (by kernel_rfl) (by kernel_rfl) (by kernel_rfl) (fun _ _ _ _ h => h) (by rfl) hS ?_
          apply Exists.intro
          refine ⟨fun w' hw' => ?_, ?_⟩
          · skip
            go_simp
            first | done | rfl | exact ⟨rfl, rfl⟩
          simp only [Act.put, List.setIfInBounds_toArray, List.set_cons_zero, List.set_cons_succ]
          refine wpAnyH_done (by kernel_rfl) ?_ _
          go_wp2_with fail
          go_roundw
          case rel => exact ⟨k + 1, T ++ [oneM ⟨mn, (ki : Int), mv⟩], by omega, by simp, by rw [(HNX ()).2, HT ()], by rw [List.length_append, hTl]; rfl, (HNX ()).1, by rw [List.length_append, List.map_append, hTl]; rw [HX ()] at hO'; exact hO', hB4⟩
          case measure => simp [intOf]; omega
      · have hki : ¬ (k : Int) < (n : Int) := by omega
        have hke : k = n := by omega
        have e1 : ms.take k = ms := List.take_of_length_le (by have := HN (); omega)
        have e2 : O = some (commaL T) := by
          rw [HO (), if_pos (by have := HA (); rw [e1] at this; exact this), HT (), e1]
        have hall := HA ()
        rw [e1] at hall
        have hlen := comma_len T 420 (fun x hx => by
          rw [HT (), e1] at hx
          obtain ⟨m, hm, rfl⟩ := List.mem_map.1 hx
          exact one_len (List.all_eq_true.1 hall m hm))
        have hJ := join_call _ _ [44] T wr (own_strs hown) (by omega) (by rw [comma_join]; rw [hTl] at hlen; have : (420 + 1) * k ≤ 421 * 12 := Nat.mul_le_mul (by omega) (by omega); omega)
        rw [comma_join, hTl] at hJ
        replace hJ := Lib.hid hJ
        have HTT : Unit → textT O = .tuple #[.string ⟨(commaL T).toArray⟩, .int .i64 0] := fun _ => by rw [e2]; rfl
        rw [hTl]
        clear e1 e2 hlen hown hall hke
        generalize (⟨(commaL T).toArray⟩ : ByteArray) = J at *
        go_wp2_with fail
        refine hJ.out.mono ?_
        rintro e w2 ⟨rfl, hB2⟩
        go_wp2_with fail
        go_ret2
        exact ⟨by rw [HTT ()]; rfl, hB.trans (hB2.mono hszr)⟩
end Go.Proofs.YteooofakpkbgoaaDoor
/- Where the first sign of a matcher stands: strings.IndexAny. -/
namespace Go.Proofs.YteooofakpkbgoaaDoor
open Go.ChangeShapes Go.WideShapes Go.RowKit

/-- strings.IndexAny finds the first = or ! of a text. -/
def IxQ (s : Bs) : Prop := ∀ w : World, Calls Tryd.prog 58 #[.string ⟨s.toArray⟩, .string ⟨#[61, 33]⟩] w fun e w' => e = .returned (.int .i64 (Lib.indexAny s [61, 33])) ∧ Below w.heap.size w w'
theorem zero_set (w : World) : (zeroValue 116).run Tryd.prog w = .ok (.agg (Array.replicate 256 (.bool false))) w := by kernel_rfl
theorem index_long (s : Bs) (h8 : 8 < s.length) (hs : s.length ≤ 1000000) : IxQ s := fun w => by
  have hz : (⟨s.toArray⟩ : ByteArray).size = s.length := by simp [ByteArray.size]
  refine (Tryd.strings_IndexAny_long zero_set ⟨s.toArray⟩ ⟨#[61, 33]⟩ w (by decide) (by rw [hz]; exact h8) (by rw [hz]; omega) (by decide) (fun j b hb => ?_)).mono fun e w' ⟨h1, h2⟩ => ⟨h1, ?_⟩
  · have hb2 : ([61, 33] : Bs)[j]? = some b := hb
    match j with
    | 0 => simp at hb2; subst hb2; decide
    | 1 => simp at hb2; subst hb2; decide
    | j + 2 => simp at hb2
  · rw [h2]
    exact ((Below.refl _ _).alloc (Nat.le_refl _) _).alloc (by simp) _
/-- Where it stands. -/
theorem index_plain (s : Bs) : ((s.all fun c => !isSig c) = true ∧ Lib.indexAny s [61, 33] = -1) ∨ ((s.all fun c => !isSig c) = false ∧ ∃ k : Nat, k < s.length ∧ Lib.indexAny s [61, 33] = (k : Int) ∧ s.take k = s.takeWhile (fun c => !isSig c) ∧ s.drop k = s.dropWhile (fun c => !isSig c)) := by
  have hc : ∀ c : UInt8, ([61, 33] : Bs).contains c = isSig c := fun c => by
    unfold isSig
    simp only [List.contains_cons, List.contains_nil, Bool.or_false]
  induction s with
  | nil => exact .inl ⟨rfl, rfl⟩
  | cons c s ih =>
    rw [Lib.indexAny, hc]
    cases h : isSig c with
    | true => exact .inr ⟨by simp [h], 0, by simp, rfl, by simp [h], by simp [h]⟩
    | false =>
      rcases ih with ⟨h1, h2⟩ | ⟨h1, k, h2, h3, h4, h5⟩
      · exact .inl ⟨by rw [List.all_cons, h1, h]; rfl, by rw [h2]; rfl⟩
      · refine .inr ⟨by rw [List.all_cons, h1]; simp, k + 1, by simp; omega, ?_, by simp [h, h4], by simp [h, h5]⟩
        rw [h3]
        have : (((k : Int)) == -1) = false := by rw [beq_eq_false_iff_ne]; omega
        rw [this]
        simp
end Go.Proofs.YteooofakpkbgoaaDoor
/- A matcher is read: the walk. -/
namespace Go.Proofs.YteooofakpkbgoaaDoor
open Go.ChangeShapes Go.WideShapes Go.RowKit

def matT : Option (Mt × Bs) → Value
  | some (m, r) => .tuple #[.agg #[.string ⟨m.n.toArray⟩, .int .i64 m.op, .string ⟨m.v.toArray⟩], .string ⟨r.toArray⟩, .bool true]
  | none => .tuple #[.agg #[.string ⟨#[]⟩, .int .i64 0, .string ⟨#[]⟩], .string ⟨#[]⟩, .bool false]
theorem results_cell3 {fn : Func} {p u t : Tmp} {ty : TypeId} (h : fn.results = #[.cell p ty, .tmp u, .tmp t]) (tmps : Array Value) (P : Program) (w : World) :
    (results fn tmps).run P w = ((asAddr (tmps.getD p undef)).run P w).andThen fun a w₁ => ((loadVar ty a).run P w₁).andThen fun v w₂ => .ok (.tuple #[v, tmps.getD u undef, tmps.getD t undef]) w₂ := by
  simp only [results, h]
  simp [Sem.run_bind, Result.andThen]
theorem ret_mat {a : Act} {w : World} {R : Ending → World → Prop} (b : Nat) (x y z : Value) (hr : Rw w b 31 [x, y, z]) (hp : a.tmps.getD 2 undef = .pointer (some ⟨b, 0, none⟩)) (hd : a.defers = []) (h : R (.returned (.tuple #[.agg #[x, y, z], a.tmps.getD 3 undef, a.tmps.getD 4 undef])) w) : bodyPost Tryd.prog Tryd.f44 R .ret a w := by
  refine bodyPost_ret (v := .tuple #[.agg #[x, y, z], a.tmps.getD 3 undef, a.tmps.getD 4 undef]) ?_ hd h
  rw [results_cell3 rfl, hp]
  have := run_loadVar_row (P := Tryd.prog) w b 31 31 #[x, y, z] (0, 0) _ hr Tryd.underlying31 rfl (by kernel_rfl)
  simp [asAddr, this]
set_option maxHeartbeats 3200000 in
set_option maxRecDepth 100000 in
theorem mat_read (s : Bs) (w : World) (hs : s.length ≤ 50000) (hix : IxQ s) (hg : SgAt w) : Calls Tryd.prog 44 #[.string ⟨s.toArray⟩] w fun e w' => e = .returned (matT (matM s)) ∧ Below w.heap.size w w' := by
  have HM : Unit → matM s = if s.all fun c => !isSig c then none else match sigM sgnL 0 (s.dropWhile fun c => !isSig c) with
    | none => none
    | some (op, r) => match valM r with
      | none => none
      | some (v, r') => if fineB ⟨s.takeWhile fun c => !isSig c, op, v⟩ then some (⟨s.takeWhile fun c => !isSig c, op, v⟩, r') else none := fun _ => rfl
  generalize matM s = O at *
  have KI := Lib.hid hix
  have hpl := index_plain s
  have hcut := fun (k : Nat) (h : k ≤ s.length) w => cut_text s k h (k : Int) rfl w
  have hcut2 := fun (k : Nat) (h : k ≤ s.length) w => cut_upto s k h (k : Int) rfl w
  generalize hix0 : Lib.indexAny s [61, 33] = ix at *
  have hixq : ∀ w : World, Calls Tryd.prog 58 #[.string ⟨s.toArray⟩, .string ⟨#[61, 33]⟩] w fun e w' => e = .returned (.int .i64 ix) ∧ Below w.heap.size w w' := fun w => by rw [← hix0]; exact hix w
  replace hixq := Lib.hid hixq
  clear hix0 hix KI
  generalize (⟨s.toArray⟩ : ByteArray) = T at *
  go_enter Tryd.func44, Tryd.ntmps44
  go_upto_region 1 with fail
  have rR : Rw (w.alloc (.cells #[.string ⟨#[]⟩, .int .i64 0, .string ⟨#[]⟩] 31)) w.heap.size 31 [.string ⟨#[]⟩, .int .i64 0, .string ⟨#[]⟩] := Rw.new w 31 [.string ⟨#[]⟩, .int .i64 0, .string ⟨#[]⟩]
  have hB0 := (Below.refl w.heap.size w).alloc (Nat.le_refl _) (.cells #[.string ⟨#[]⟩, .int .i64 0, .string ⟨#[]⟩] 31)
  generalize w.alloc (.cells #[.string ⟨#[]⟩, .int .i64 0, .string ⟨#[]⟩] 31) = w0 at *
  have hg0 := hg.keep hB0 hg.lt
  have hgl := hg.lt
  clear hg
  generalize hb : w.heap.size = b at *
  go_wp2_with fail
  refine (hixq.out _).mono ?_
  rintro e w1 ⟨rfl, hB1⟩
  clear hixq
  have rR1 := rR.stay hB1
  have hg1 := hg0.stay hB1
  have hz0 := hB0.size
  have hB2 := hB0.trans (hB1.mono (by omega))
  clear rR hg0 hB0 hB1 hz0
  rcases hpl with ⟨h1, rfl⟩ | ⟨h1, k, hk, rfl, h4, h5⟩
  · have e : O = none := by rw [HM (), if_pos h1]
    subst e
    have c0 := Rw.cell rR1 0
    have c1 := Rw.cell rR1 1
    have c2 := Rw.cell rR1 2
    simp only [List.getElem?_cons_zero, List.getElem?_cons_succ] at c0 c1 c2
    have f0 := Rw.frozen rR1 0
    have f1 := Rw.frozen rR1 1
    have f2 := Rw.frozen rR1 2
    have r3 := ((rR1.setCell 0 (.string ⟨#[]⟩)).setCell 1 (.int .i64 0)).setCell 2 (.string ⟨#[]⟩)
    have hB3 := ((hB2.setCell (p := ⟨b, 0, none⟩) (by simp) (.string ⟨#[]⟩)).setCell (p := ⟨b, 1, none⟩) (by simp) (.int .i64 0)).setCell (p := ⟨b, 2, none⟩) (by simp) (.string ⟨#[]⟩)
    clear HM h1 hcut hcut2 rR1
    go_wp2_with fail
    exact ret_mat b _ _ _ r3 rfl rfl ⟨rfl, by rw [hb]; exact hB3⟩
  · rw [h1, if_neg (by simp), ← h4, ← h5] at HM
    have hcu := hcut k (by omega)
    have hcu2 := hcut2 k (by omega)
    have hk0 : ¬ ((k : Int) < 0) := by omega
    have hsp : s.take k ++ s.drop k = s := List.take_append_drop k s
    clear hcut hcut2 h1 h4 h5
    have hDl : (s.drop k).length ≤ 50000 := by rw [List.length_drop]; omega
    have hNl : (s.take k).length ≤ 50000 := by rw [List.length_take]; omega
    generalize s.drop k = D at *
    generalize s.take k = N at *
    have KS := Lib.hid fun w hg => sign_read D w hg
    go_wp2_with fail
    refine (KS.out _ hg1).mono ?_
    rintro e w2 ⟨rfl, hw2⟩
    obtain rfl : w1 = w2 := hw2.symm
    clear KS
    cases hsg : sigM sgnL 0 D with
    | none =>
      have e : O = none := by rw [HM (), hsg]
      subst e
      simp only [sigT]
      have c0 := Rw.cell rR1 0
      have c1 := Rw.cell rR1 1
      have c2 := Rw.cell rR1 2
      simp only [List.getElem?_cons_zero, List.getElem?_cons_succ] at c0 c1 c2
      have f0 := Rw.frozen rR1 0
      have f1 := Rw.frozen rR1 1
      have f2 := Rw.frozen rR1 2
      have r3 := ((rR1.setCell 0 (.string ⟨#[]⟩)).setCell 1 (.int .i64 0)).setCell 2 (.string ⟨#[]⟩)
      have hBe := ((hB2.setCell (p := ⟨b, 0, none⟩) (by simp) (.string ⟨#[]⟩)).setCell (p := ⟨b, 1, none⟩) (by simp) (.int .i64 0)).setCell (p := ⟨b, 2, none⟩) (by simp) (.string ⟨#[]⟩)
      clear HM hsg rR1 hB2
      go_wp2_with fail
      exact ret_mat b _ _ _ r3 rfl rfl ⟨rfl, by first | exact hBe | (rw [hb]; exact hBe)⟩
    | some x =>
      obtain ⟨op, r⟩ := x
      have h03 := sig_some hsg
      simp only [sigT]
      have hrl : r.length ≤ 50000 := by have := congrArg List.length h03.2.2; simp at this; omega
      have KV := Lib.hid fun w => value_read r w hrl
      rw [hsg] at HM
      simp only at HM
      clear hsg
      go_wp2_with fail
      refine (KV.out _).mono ?_
      rintro e w2 ⟨rfl, hB3⟩
      clear KV
      have rR2 := rR1.stay hB3
      have hB4 := hB2.trans (hB3.mono (by have := hB2.size; have := rR1.lt; omega))
      clear rR1 hB2 hB3 hg1
      have hlt := rR2.lt
      cases hv : valM r with
      | none =>
        have e : O = none := by rw [HM (), hv]
        subst e
        simp only [valT]
        go_upto_region 9 with fail
        have hal := (Below.refl w2.heap.size w2).alloc (Nat.le_refl _) (.cells #[.string ⟨N.toArray⟩, .int .i64 op, .string ⟨#[]⟩] 31)
        have rR3 := rR2.stay hal
        have hB5 := hB4.trans (hal.mono (by omega))
        generalize w2.alloc (.cells #[.string ⟨N.toArray⟩, .int .i64 op, .string ⟨#[]⟩] 31) = w3 at *
        have c0 := Rw.cell rR3 0
        have c1 := Rw.cell rR3 1
        have c2 := Rw.cell rR3 2
        simp only [List.getElem?_cons_zero, List.getElem?_cons_succ] at c0 c1 c2
        have f0 := Rw.frozen rR3 0
        have f1 := Rw.frozen rR3 1
        have f2 := Rw.frozen rR3 2
        have r3 := ((rR3.setCell 0 (.string ⟨#[]⟩)).setCell 1 (.int .i64 0)).setCell 2 (.string ⟨#[]⟩)
        have hBe := ((hB5.setCell (p := ⟨b, 0, none⟩) (by simp) (.string ⟨#[]⟩)).setCell (p := ⟨b, 1, none⟩) (by simp) (.int .i64 0)).setCell (p := ⟨b, 2, none⟩) (by simp) (.string ⟨#[]⟩)
        clear HM hv rR2 hB4 hal rR3 hB5
        go_wp2_with fail
        exact ret_mat b _ _ _ r3 rfl rfl ⟨rfl, by first | exact hBe | (rw [hb]; exact hBe)⟩
      | some y =>
        obtain ⟨v, r'⟩ := y
        have hvl := val_some hv
        have hvl2 : v.length ≤ 50000 := by
          have h1 := congrArg List.length hvl
          have h2 : v.length ≤ (escL v).length := by
            clear hvl hv h1 HM
            induction v with
            | nil => simp
            | cons c v ih => rw [esc_cons, List.length_append, List.length_cons]; split <;> simp <;> omega
          simp at h1
          omega
        rw [hv] at HM
        simp only at HM
        clear hv hvl
        simp only [valT]
        have KF := Lib.hid fun w => fine_any ⟨N, op, v⟩ w (by simp only; omega) (by simp only; omega)
        simp only at KF
        go_upto_region 9 with fail
        have hal := (Below.refl w2.heap.size w2).alloc (Nat.le_refl _) (.cells #[.string ⟨N.toArray⟩, .int .i64 op, .string ⟨v.toArray⟩] 31)
        have rM : Rw (w2.alloc (.cells #[.string ⟨N.toArray⟩, .int .i64 op, .string ⟨v.toArray⟩] 31)) w2.heap.size 31 [.string ⟨N.toArray⟩, .int .i64 op, .string ⟨v.toArray⟩] := Rw.new w2 31 [.string ⟨N.toArray⟩, .int .i64 op, .string ⟨v.toArray⟩]
        have rR3 := rR2.stay hal
        have hB5 := hB4.trans (hal.mono (by omega))
        have hne : w2.heap.size ≠ b := by omega
        generalize w2.alloc (.cells #[.string ⟨N.toArray⟩, .int .i64 op, .string ⟨v.toArray⟩] 31) = w3 at *
        clear rR2 hB4 hal
        generalize w2.heap.size = q at *
        have d0 := Rw.cell rM 0
        have d1 := Rw.cell rM 1
        have d2 := Rw.cell rM 2
        simp only [List.getElem?_cons_zero, List.getElem?_cons_succ] at d0 d1 d2
        cases hf : fineB ⟨N, op, v⟩ with
        | false =>
          have e : O = none := by rw [HM (), hf]; rfl
          subst e
          rw [hf] at KF
          clear HM hf
          go_wp2_with fail
          refine (KF.out _).mono ?_
          rintro e w4 ⟨rfl, hB6⟩
          have rR4 := rR3.stay hB6
          have hB7 := hB5.trans (hB6.mono (by have := hB5.size; have := rR3.lt; omega))
          have c0 := Rw.cell rR4 0
          have c1 := Rw.cell rR4 1
          have c2 := Rw.cell rR4 2
          simp only [List.getElem?_cons_zero, List.getElem?_cons_succ] at c0 c1 c2
          have f0 := Rw.frozen rR4 0
          have f1 := Rw.frozen rR4 1
          have f2 := Rw.frozen rR4 2
          have r3 := ((rR4.setCell 0 (.string ⟨#[]⟩)).setCell 1 (.int .i64 0)).setCell 2 (.string ⟨#[]⟩)
          have hBe := ((hB7.setCell (p := ⟨b, 0, none⟩) (by simp) (.string ⟨#[]⟩)).setCell (p := ⟨b, 1, none⟩) (by simp) (.int .i64 0)).setCell (p := ⟨b, 2, none⟩) (by simp) (.string ⟨#[]⟩)
          clear KF hB5 hB6 rR3 d0 d1 d2 rM rR4 hB7
          go_wp2_with fail
          exact ret_mat b _ _ _ r3 rfl rfl ⟨rfl, by first | exact hBe | (rw [hb]; exact hBe)⟩
        | true =>
          have e : O = some (⟨N, op, v⟩, r') := by rw [HM (), hf]; rfl
          subst e
          rw [hf] at KF
          clear HM hf
          go_wp2_with fail
          refine (KF.out _).mono ?_
          rintro e w4 ⟨rfl, hB6⟩
          have rR4 := rR3.stay hB6
          have rM4 := rM.stay hB6
          have hB7 := hB5.trans (hB6.mono (by have := hB5.size; have := rR3.lt; omega))
          clear d0 d1 d2
          have d0 := Rw.cell rM4 0
          have d1 := Rw.cell rM4 1
          have d2 := Rw.cell rM4 2
          simp only [List.getElem?_cons_zero, List.getElem?_cons_succ] at d0 d1 d2
          have c0 := Rw.cell rR4 0
          have c1 := Rw.cell rR4 1
          have c2 := Rw.cell rR4 2
          simp only [List.getElem?_cons_zero, List.getElem?_cons_succ] at c0 c1 c2
          have f0 := Rw.frozen rR4 0
          have f1 := Rw.frozen rR4 1
          have f2 := Rw.frozen rR4 2
          have r3 := ((rR4.setCell 0 (.string ⟨N.toArray⟩)).setCell 1 (.int .i64 op)).setCell 2 (.string ⟨v.toArray⟩)
          have hBe := ((hB7.setCell (p := ⟨b, 0, none⟩) (by simp) (.string ⟨N.toArray⟩)).setCell (p := ⟨b, 1, none⟩) (by simp) (.int .i64 op)).setCell (p := ⟨b, 2, none⟩) (by simp) (.string ⟨v.toArray⟩)
          clear KF hB5 hB6 rR3 rM rM4 rR4 hB7
          go_wp2_with fail
          exact ret_mat b _ _ _ r3 rfl rfl ⟨rfl, by first | exact hBe | (rw [hb]; exact hBe)⟩
end Go.Proofs.YteooofakpkbgoaaDoor
/- Matchers are read: the walk. -/
namespace Go.Proofs.YteooofakpkbgoaaDoor
open Go.ChangeShapes Go.WideShapes Go.RowKit

theorem info_mt : (Tryd.prog.info? 31).map (fun i => (i.zero, i.size, i.bytes)) = some (some (.agg #[.string ⟨#[]⟩, .int .i64 0, .string ⟨#[]⟩]), 3, 40) := by kernel_rfl
theorem info_fld : (Tryd.prog.info? 28).map (fun i => (i.zero, i.size, i.bytes)) = some (some (.agg #[.string ⟨#[]⟩, .string ⟨#[]⟩]), 2, 32) := by kernel_rfl
theorem encM_one (m : Mt) : ∀ u ∈ encM m, u.oneCell' = true := by
  intro u hu
  simp [encM] at hu
  rcases hu with rfl | rfl | rfl <;> rfl
theorem encF_one (f : Bs × Bs) : ∀ u ∈ encF f, u.oneCell' = true := by
  intro u hu
  simp [encF] at hu
  rcases hu with rfl | rfl <;> rfl
section
variable {ops : Array Oper} {rest : List Oper} {o : Oper} {a : Act} {w : World} {Q : Exit → Act → World → Prop}
/-- A matcher is added to a row that one owns. -/
theorem wpList_own_mt (s x : Operand) (hg : o.guard = none) (ho : o.op = .call { callee := .builtin .append, args := #[s, x], argTypes := #[23, 23] })
    (base : Nat) (v : Value) (ms : List Mt) (m : Mt) (hs : a.eval s = v) (hown : w.ownsRow base 31 3 v ms.length (ms.map encM).flatten) (Y : Nat) (hx : a.eval x = .slice (some ⟨Y, 0, none⟩) 1 1) (hr : Rw w Y 31 (encM m)) (hn : ms.length ≤ 100000) (hbase : base ≤ w.heap.size)
    (h : ∀ v' w', w'.ownsRow base 31 3 v' (ms.length + 1) ((ms ++ [m]).map encM).flatten → w.grownBy w' v.ownBlock → (v'.ownBlock = v.ownBlock ∨ v'.ownBlock = some w.heap.size) → wpList Tryd.prog ops Q rest (a.put o.dst v') w') : wpList Tryd.prog ops Q (o :: rest) a w := by
  obtain ⟨i0, hi, hz0, hz1, hz2⟩ := info_parts0 info_mt
  refine wpList_plain hg fun _ hK => wp_own_at s x 23 ho base 31 i0 _ 3 40 Tryd.underlying23 hi hz0 hz1 hz2 rfl (by decide) v ms.length _ hs hown Y (encM m) hx rfl hr (encM_one m) (by unfold maxLen; omega) (by omega) hbase (fun v' w' a b c => hK _ _ (h v' w' ?_ b c))
  rw [List.map_append, List.flatten_append]
  simpa using a
/-- A field is added to a row that one owns. -/
theorem wpList_own_fld (s x : Operand) (hg : o.guard = none) (ho : o.op = .call { callee := .builtin .append, args := #[s, x], argTypes := #[22, 22] })
    (base : Nat) (v : Value) (fs : List (Bs × Bs)) (f : Bs × Bs) (hs : a.eval s = v) (hown : w.ownsRow base 28 2 v fs.length (fs.map encF).flatten) (Y : Nat) (hx : a.eval x = .slice (some ⟨Y, 0, none⟩) 1 1) (hr : Rw w Y 28 (encF f)) (hn : fs.length ≤ 100000) (hbase : base ≤ w.heap.size)
    (h : ∀ v' w', w'.ownsRow base 28 2 v' (fs.length + 1) ((fs ++ [f]).map encF).flatten → w.grownBy w' v.ownBlock → (v'.ownBlock = v.ownBlock ∨ v'.ownBlock = some w.heap.size) → wpList Tryd.prog ops Q rest (a.put o.dst v') w') : wpList Tryd.prog ops Q (o :: rest) a w := by
  obtain ⟨i0, hi, hz0, hz1, hz2⟩ := info_parts0 info_fld
  refine wpList_plain hg fun _ hK => wp_own_at s x 22 ho base 28 i0 _ 2 32 Tryd.underlying22 hi hz0 hz1 hz2 rfl (by decide) v fs.length _ hs hown Y (encF f) hx rfl hr (encF_one f) (by unfold maxLen; omega) (by omega) hbase (fun v' w' a b c => hK _ _ (h v' w' ?_ b c))
  rw [List.map_append, List.flatten_append]
  simpa using a
end
/-- What Read hands back. -/
def ReadM (o : Option (List Mt)) (w : World) (e : Ending) (w' : World) : Prop := Below w.heap.size w w' ∧ match o with
  | none => e = .returned (.tuple #[.slice none 0 0, .int .i64 2])
  | some ms => ∃ v, e = .returned (.tuple #[v, .int .i64 0]) ∧ w'.ownsRow w.heap.size 31 3 v ms.length (ms.map encM).flatten
def lenV : Value → Nat
  | .slice _ n _ => n
  | _ => 0
/-- Where the loop stands: some were read; a text is left, and more is to come or not. -/
def GoP (s : Bs) (ms : List Mt) (rest : Bs) (more : Bool) : Prop := ms.length ≤ 12 ∧ ∃ j, rest = s.drop j ∧ j ≤ s.length ∧ match more with
  | true => readM s = (goM (12 - ms.length) rest).map (ms ++ ·)
  | false => if rest = [] then readM s = some ms else readM s = none
theorem GoP.start (s : Bs) : GoP s [] s (decide (s ≠ [])) := by
  refine ⟨by simp, 0, rfl, by simp, ?_⟩
  by_cases h : s = []
  · subst h
    simp [readM]
  · rw [decide_eq_true h]
    simp only [readM, if_neg h]
    cases goM 12 s <;> simp
theorem GoP.bad {s : Bs} {ms : List Mt} {rest : Bs} (h : GoP s ms rest true) (hm : matM rest = none) : readM s = none := by
  obtain ⟨h1, j, h2, h3, h4⟩ := h
  simp only at h4
  rw [h4]
  cases hk : 12 - ms.length with
  | zero => rfl
  | succ k => rw [goM, hm]; rfl
theorem GoP.full {s : Bs} {ms : List Mt} {rest : Bs} (h : GoP s ms rest true) (hm : ms.length = 12) : readM s = none := by
  obtain ⟨h1, j, h2, h3, h4⟩ := h
  simp only at h4
  rw [h4, hm]
  rfl
theorem GoP.next {s : Bs} {ms : List Mt} {rest r : Bs} {m : Mt} (h : GoP s ms rest true) (hm : matM rest = some (m, r)) (hl : ms.length ≠ 12) : GoP s (ms ++ [m]) ((preB [44] r).getD r) (preB [44] r).isSome := by
  obtain ⟨h1, j, h2, h3, h4⟩ := h
  simp only at h4
  obtain ⟨k, hk⟩ : ∃ k, 12 - ms.length = k + 1 := ⟨11 - ms.length, by omega⟩
  rw [hk, goM, hm] at h4
  simp only at h4
  have hs := (mat_some hm).2
  have hr : ∃ j', r = s.drop j' ∧ j' ≤ s.length := by
    refine ⟨j + (oneM m).length, ?_, ?_⟩
    · rw [← List.drop_drop, ← h2, hs, List.drop_left]
    · have e := congrArg List.length h2
      rw [hs, List.length_append, List.length_drop] at e
      omega
  obtain ⟨j', hr1, hr2⟩ := hr
  refine ⟨by simp; omega, ?_⟩
  cases r with
  | nil =>
    simp only at h4
    refine ⟨j', by simpa [preB] using hr1, hr2, ?_⟩
    simp [preB, h4]
  | cons c r =>
    simp only at h4
    by_cases hc : c = 44
    · subst hc
      rw [if_pos rfl] at h4
      refine ⟨j' + 1, ?_, ?_, ?_⟩
      · rw [← List.drop_drop, ← hr1]; simp [preB]
      · have e := congrArg List.length hr1
        rw [List.length_drop, List.length_cons] at e
        omega
      · simp only [preB, if_true, Option.isSome_some, Option.getD_some]
        rw [h4, show 12 - (ms ++ [m]).length = k by simp; omega]
        cases goM k r <;> simp
    · rw [if_neg hc] at h4
      refine ⟨j', ?_, hr2, ?_⟩
      · rw [← hr1]; simp [preB, Ne.symm hc]
      · simp [preB, Ne.symm hc, h4]
end Go.Proofs.YteooofakpkbgoaaDoor
/- match.Read: the loop. -/
namespace Go.Proofs.YteooofakpkbgoaaDoor
open Go.ChangeShapes Go.WideShapes Go.RowKit

theorem mts_snoc (ms : List Mt) (m : Mt) : (List.map encM (ms ++ [m])).flatten = (List.map encM ms).flatten ++ encM m := by simp
theorem flds_snoc (fs : List (Bs × Bs)) (f : Bs × Bs) : (List.map encF (fs ++ [f])).flatten = (List.map encF fs).flatten ++ encF f := by simp
theorem eqN_false {a b : Nat} (h : a ≠ b) : ((a : Int) == (b : Int)) = false := by rw [beq_eq_false_iff_ne]; omega
set_option maxHeartbeats 6400000 in
set_option maxRecDepth 100000 in
theorem read_loop (s : Bs) (w : World) (hs : s.length ≤ 50000) (hix : ∀ j, IxQ (s.drop j)) (hg : SgAt w) : Calls Tryd.prog 19 #[.string ⟨s.toArray⟩] w (ReadM (readM s) w) := by
  have hst := GoP.start s
  obtain ⟨O, hO⟩ : ∃ O, readM s = O := ⟨_, rfl⟩
  have HO : Unit → readM s = O := fun _ => hO
  have HI : Unit → ∀ j, IxQ (s.drop j) := fun _ => hix
  have hlt := hg.lt
  rw [hO]
  clear hO hix
  have hM : Unit → decide (s ≠ []) = !(⟨s.toArray⟩ : ByteArray).toList.isEmpty := fun _ => by rw [text_list]; cases s <;> rfl
  obtain ⟨mo, hmo⟩ : ∃ mo, decide (s ≠ []) = mo := ⟨_, rfl⟩
  rw [hmo] at hst hM
  have HST : Unit → GoP s [] s mo := fun _ => hst
  have hemp : (⟨s.toArray⟩ : ByteArray).toList.isEmpty = !mo := by rw [hM ()]; simp
  clear hmo hM hst
  obtain ⟨T, hT⟩ : ∃ T : ByteArray, (⟨s.toArray⟩ : ByteArray) = T := ⟨_, rfl⟩
  have HT : Unit → (⟨s.toArray⟩ : ByteArray) = T := fun _ => hT
  rw [hT] at hemp ⊢
  clear hT
  go_enter Tryd.func19, Tryd.ntmps19
  go_upto_region 3 with fail
  go_loopw [4, 5, 6] (fun u4 u5 u6 wr => ∃ (ms : List Mt) (rest : Bs) (more : Bool), u5 = .string ⟨rest.toArray⟩ ∧ u6 = .bool more ∧ GoP s ms rest more ∧ wr.ownsRow w.heap.size 31 3 u4 ms.length (ms.map encM).flatten ∧ Below w.heap.size w wr) (fun u4 _ _ _ => 13 - lenV u4)
  case atStart => exact ⟨[], s, mo, by rw [HT ()], by simp, HST (), World.ownsRow_nil _ _ _ _, Below.refl _ _⟩
  case round =>
    clear hemp
    obtain ⟨ms, rest, more, rfl, rfl, hP, hown, hB⟩ := hrel
    have HP : Unit → GoP s ms rest more := fun _ => hP
    have hml : ms.length ≤ 12 := hP.1
    have hrl : rest.length ≤ 50000 := by
      obtain ⟨_, j, h2, _⟩ := hP
      rw [h2, List.length_drop]
      omega
    have hri : IxQ rest := by
      obtain ⟨_, j, h2, _⟩ := hP
      rw [h2]
      exact HI () j
    clear hP
    obtain ⟨aO, cO, rfl, _⟩ := own_slice hown
    have hszr := hB.size
    cases more with
    | true =>
      have hgr := hg.keep hB hlt
      have KM := Lib.hid (mat_read rest wr hrl hri hgr)
      have HBad : Unit → matM rest = none → O = none := fun _ h => (HO ()).symm.trans ((HP ()).bad h)
      have HFull : Unit → ms.length = 12 → O = none := fun _ h => (HO ()).symm.trans ((HP ()).full h)
      have HNext : Unit → ∀ m r, matM rest = some (m, r) → ms.length ≠ 12 → GoP s (ms ++ [m]) ((preB [44] r).getD r) (preB [44] r).isSome := fun _ m r h1 h2 => (HP ()).next h1 h2
      clear hri hgr
      cases hm : matM rest with
      | none =>
        obtain rfl := HBad () hm
        rw [hm] at KM
        clear hm HBad HFull HNext hown
        go_wp2_with fail
        refine KM.out.mono ?_
        rintro e w2 ⟨rfl, hB2⟩
        simp only [matT]
        have hB3 := hB.trans (hB2.mono hszr)
        have hB4 := hB3.alloc hB3.size (.cells #[.string ⟨#[]⟩, .int .i64 0, .string ⟨#[]⟩] 31)
        go_wp2_with fail
        go_ret2
        exact ⟨hB4, rfl⟩
      | some x =>
        obtain ⟨m, r⟩ := x
        rw [hm] at KM
        have HN2 := HNext () m r hm
        have HNN : Unit → ms.length ≠ 12 → GoP s (ms ++ [m]) ((preB [44] r).getD r) (preB [44] r).isSome := fun _ => HN2
        have KC := Lib.hid fun w => cut_any r [44] w
        clear hm HBad HNext HN2
        by_cases h12 : ms.length = 12
        · obtain rfl := HFull () h12
          have h12i : ((ms.length : Int) == 12) = true := by rw [beq_iff_eq]; omega
          clear HFull HNN
          go_wp2_with fail
          refine KM.out.mono ?_
          rintro e w2 ⟨rfl, hB2⟩
          simp only [matT]
          have hB3 := hB.trans (hB2.mono hszr)
          have hB4 := hB3.alloc hB3.size (.cells #[.string ⟨m.n.toArray⟩, .int .i64 m.op, .string ⟨m.v.toArray⟩] 31)
          clear h12
          go_wp2_with fail
          go_ret2
          exact ⟨hB4, rfl⟩
        · have h12i : ((ms.length : Int) == 12) = false := by rw [beq_eq_false_iff_ne]; omega
          go_wp2_with fail
          refine KM.out.mono ?_
          rintro e w2 ⟨rfl, hB2⟩
          simp only [matT]
          have hB3 := hB.trans (hB2.mono hszr)
          have hB4 := hB3.alloc hB3.size (.cells #[.string ⟨m.n.toArray⟩, .int .i64 m.op, .string ⟨m.v.toArray⟩] 31)
          have hown2 := own_stay2 hown hB2
          have hal := (Below.refl w2.heap.size w2).alloc (Nat.le_refl _) (.cells #[.string ⟨m.n.toArray⟩, .int .i64 m.op, .string ⟨m.v.toArray⟩] 31)
          have hown3 := own_stay2 hown2 hal
          go_upto_region 7 with fail
          have rM : Rw (w2.alloc (.cells #[.string ⟨m.n.toArray⟩, .int .i64 m.op, .string ⟨m.v.toArray⟩] 31)) w2.heap.size 31 [.string ⟨m.n.toArray⟩, .int .i64 m.op, .string ⟨m.v.toArray⟩] := Rw.new w2 31 [.string ⟨m.n.toArray⟩, .int .i64 m.op, .string ⟨m.v.toArray⟩]
          clear hown hown2 hal hB hB2 hB3 KM
          generalize w2.alloc (.cells #[.string ⟨m.n.toArray⟩, .int .i64 m.op, .string ⟨m.v.toArray⟩] 31) = w3 at *
          generalize w2.heap.size = q at *
          have d0 := Rw.cell rM 0
          have d1 := Rw.cell rM 1
          have d2 := Rw.cell rM 2
          simp only [List.getElem?_cons_zero, List.getElem?_cons_succ] at d0 d1 d2
          have hal := (Below.refl w3.heap.size w3).alloc (Nat.le_refl _) (.cells #[.string ⟨m.n.toArray⟩, .int .i64 m.op, .string ⟨m.v.toArray⟩] 31)
          have hown4 := own_stay2 hown3 hal
          have rY : Rw (w3.alloc (.cells #[.string ⟨m.n.toArray⟩, .int .i64 m.op, .string ⟨m.v.toArray⟩] 31)) w3.heap.size 31 (encM m) := Rw.new w3 31 (encM m)
          have hB5 := hB4.alloc hB4.size (.cells #[.string ⟨m.n.toArray⟩, .int .i64 m.op, .string ⟨m.v.toArray⟩] 31)
          clear hown3 hal rM
          go_wp2_with (refine wpList_own_mt _ _ rfl rfl w.heap.size _ ms m rfl hown4 w3.heap.size rfl rY (by omega) (by have := hB5.size; omega) ?_)
          intro v' w5 hO' hg5 _
          have hB6 := hB5.grown hg5 hB5.size (fun j e => (hown4.lt j e).1)
          obtain ⟨g', c', rfl⟩ := own_succ hO'
          clear hown4 rY hg5 hB5 hB4 d0 d1 d2 h12i
          cases hp : preB [44] r with
          | none =>
            rw [hp] at KC HNN
            simp only [Option.getD_none, Option.isSome_none] at HNN
            go_wp2_with fail
            refine (KC.out _).mono ?_
            rintro e w6 ⟨rfl, hw6⟩
            obtain rfl : w5 = w6 := hw6.symm
            simp only [cutT]
            go_wp2_with fail
            go_roundw
            case rel => exact ⟨ms ++ [m], r, false, rfl, rfl, HNN () h12, by rw [List.length_append, mts_snoc]; exact hO', hB6⟩
            case measure => simp [lenV]; omega
          | some r2 =>
            rw [hp] at KC HNN
            simp only [Option.getD_some, Option.isSome_some] at HNN
            go_wp2_with fail
            refine (KC.out _).mono ?_
            rintro e w6 ⟨rfl, hw6⟩
            obtain rfl : w5 = w6 := hw6.symm
            simp only [cutT]
            go_wp2_with fail
            go_roundw
            case rel => exact ⟨ms ++ [m], r2, true, rfl, rfl, HNN () h12, by rw [List.length_append, mts_snoc]; exact hO', hB6⟩
            case measure => simp [lenV]; omega
    | false =>
      obtain ⟨_, j, h2, _, h4⟩ := HP ()
      simp only at h4
      clear HP HI hri h2
      cases rest with
      | nil =>
        rw [if_pos rfl] at h4
        obtain rfl := (HO ()).symm.trans h4
        clear h4 HO
        go_wp2_with fail
        go_ret2
        exact ⟨hB, _, rfl, hown⟩
      | cons c rest =>
        rw [if_neg (by simp)] at h4
        obtain rfl := (HO ()).symm.trans h4
        have hemp := full_text c rest
        clear h4 HO
        generalize (⟨(c :: rest).toArray⟩ : ByteArray) = R at *
        go_wp2_with fail
        go_ret2
        exact ⟨hB, rfl⟩
end Go.Proofs.YteooofakpkbgoaaDoor
/- strings.IndexRune: a rune that is no ASCII sign isn't found among = and !. -/
namespace Go.Proofs.YteooofakpkbgoaaDoor
open Go.ChangeShapes Go.WideShapes Go.RowKit

theorem enc_cases (r : Int) (h : 128 ≤ r) (hv : Utf8.valid r = true) : (∃ a b, Utf8.encode r = ⟨#[a, b]⟩ ∧ 128 ≤ b.toNat) ∨ (∃ a b c, Utf8.encode r = ⟨#[a, b, c]⟩) ∨ (∃ a b c d, Utf8.encode r = ⟨#[a, b, c, d]⟩) := by
  unfold Utf8.encode
  simp only [hv, if_true]
  have h1 : ¬ r.toNat < 128 := by omega
  simp only [h1, if_false]
  by_cases h2 : r.toNat < 2048
  · simp only [h2, if_true]
    refine .inl ⟨_, _, rfl, ?_⟩
    rw [UInt8.toNat_ofNat']
    omega
  · simp only [h2, if_false]
    by_cases h3 : r.toNat < 65536
    · simp only [h3, if_true]
      exact .inr (.inl ⟨_, _, _, rfl⟩)
    · simp only [h3, if_false]
      exact .inr (.inr ⟨_, _, _, _, rfl⟩)
theorem valid_call (r : Int) (w : World) : Calls Tryd.prog 90 #[.int .i32 r] w fun e w' => e = .returned (.bool (Lib.validRune r)) ∧ w' = w := Any.utf8_ValidRune (ρ := Tryd.lays152_ren) { Tryd.lays152 with } r w
set_option maxHeartbeats 3200000 in
set_option maxRecDepth 100000 in
theorem rune_none (r : Int) (h : 128 ≤ r) (hm : r ≤ 2147483647) (w : World) : Calls Tryd.prog 74 #[.string ⟨#[61, 33]⟩, .int .i32 r] w fun e w' => e = .returned (.int .i64 (-1)) ∧ Below w.heap.size w w' := by
  have h1 : (0 : Int) ≤ r := by omega
  have h2 : ¬ r < 128 := by omega
  have KV := Lib.hid fun w => valid_call r w
  by_cases he : r = 65533
  · subst he
    clear KV h2 h1 h hm
    have hn0 := fun ty => run_next_ascii (P := Tryd.prog) w ⟨#[61, 33]⟩ 0 ty (by decide) (by decide)
    have hn1 := fun ty => run_next_ascii (P := Tryd.prog) w ⟨#[61, 33]⟩ 1 ty (by decide) (by decide)
    have hn2 := fun ty => run_next_end (P := Tryd.prog) w ⟨#[61, 33]⟩ 2 ty (by decide)
    have e0 : ((⟨#[61, 33]⟩ : ByteArray)[0]'(by decide)).toNat = 61 := rfl
    have e1 : ((⟨#[61, 33]⟩ : ByteArray)[1]'(by decide)).toNat = 33 := rfl
    rw [e0] at hn0
    rw [e1] at hn1
    clear e0 e1
    have hB : ∀ k, Below w.heap.size w (w.iter ⟨#[61, 33]⟩ k) := fun k => (Below.refl _ _).alloc (Nat.le_refl _) _
    generalize (⟨#[61, 33]⟩ : ByteArray) = T at *
    go_enter Tryd.func74, Tryd.ntmps74
    go_upto_region 38 with fail
    go_loopg [5, 6] 2 (fun g _ _ wx => ∃ i : Nat, i + g = 2 ∧ wx = w.iter T i)
    case atStart => exact ⟨0, rfl, rfl⟩
    case round =>
      obtain ⟨i, hi, rfl⟩ := hrel
      have hc : (i = 0 ∧ gk = 2) ∨ (i = 1 ∧ gk = 1) ∨ (i = 2 ∧ gk = 0) := by omega
      rcases hc with ⟨rfl, rfl⟩ | ⟨rfl, rfl⟩ | ⟨rfl, rfl⟩
      · clear hn1 hn2
        go_wp2_with fail
        go_roundg 1
        case measure => omega
        case rel => exact ⟨1, rfl, rfl⟩
      · clear hn0 hn2
        go_wp2_with fail
        go_roundg 0
        case measure => omega
        case rel => exact ⟨2, rfl, rfl⟩
      · clear hn0 hn1
        go_wp2_with fail
        go_ret
        exact ⟨rfl, hB 2⟩
  · have hne : (r == 65533) = false := by rw [beq_eq_false_iff_ne]; exact he
    cases hv : Lib.validRune r with
    | false =>
      rw [hv] at KV
      go_enter Tryd.func74, Tryd.ntmps74
      go_wp2_with fail
      refine (KV.out _).mono ?_
      rintro e w1 ⟨rfl, rfl⟩
      go_wp2_with fail
      go_ret
      exact ⟨rfl, Below.refl _ _⟩
    | true =>
      rw [hv] at KV
      have hv2 : Utf8.valid r = true := by
        unfold Lib.validRune at hv
        unfold Utf8.valid
        simp at hv ⊢
        omega
      rcases enc_cases r h hv2 with ⟨a, b, hE, hb⟩ | ⟨a, b, c, hE⟩ | ⟨a, b, c, d, hE⟩
      · have KB := fun w => Tryd.strings_IndexByte ⟨#[]⟩ (b.toNat : Int) w
        simp only [show ∀ x : UInt8, Lib.indexByte (⟨#[]⟩ : ByteArray).data.toList x = -1 from fun x => rfl] at KB
        replace KB := Lib.hid KB
        have hib : ∀ w, (Instr.index 9 (.string ⟨#[a, b]⟩) (.int .i64 1)).run Tryd.prog w = .ok (.int .u8 (b.toNat : Int)) w := fun w => at_text [a, b] 1 b rfl 1 rfl w
        have hi33 : ∀ w, (Instr.index 9 (.string ⟨#[61, 33]⟩) (.int .i64 1)).run Tryd.prog w = .ok (.int .u8 33) w := fun w => at_text [61, 33] 1 33 rfl 1 rfl w
        have hsl : ∀ w, (Instr.slice 9 (.string ⟨#[61, 33]⟩) (some (.int .i64 2)) none none).run Tryd.prog w = .ok (.string ⟨#[]⟩) w := fun w => cut_text [61, 33] 2 (by decide) 2 rfl w
        have hne2 : ((33 : Int) != (b.toNat : Int)) = true := by rw [bne_iff_ne]; omega
        have hz : (⟨#[a, b]⟩ : ByteArray).size = 2 := rfl
        go_enter Tryd.func74, Tryd.ntmps74
        go_wp2_with fail
        refine (KV.out _).mono ?_
        rintro e w1 ⟨rfl, hw1⟩
        obtain rfl : w = w1 := hw1.symm
        clear KV
        go_wp2_with fail
        refine wp_scope_straight ?_
        go_upto_region 5 with fail
        generalize (⟨#[a, b]⟩ : ByteArray) = S at *
        generalize (b.toNat : Int) = x at *
        go_loopw [9] (fun u wr => u = .int .i64 1 ∧ wr = w) (fun _ _ => 0)
        case atStart => exact ⟨rfl, rfl⟩
        case round =>
          obtain ⟨rfl, hwr⟩ := hrel
          obtain rfl : w = wr := hwr.symm
          go_wp2_with fail
          refine wp_scope_straight ?_
          go_upto_region 6 with fail
          try simp only [List.append_eq, List.cons_append, List.nil_append]
          refine region_class (fun w' => Below w.heap.size w w') (by kernel_rfl) (by kernel_rfl) ((Below.refl _ _).drew) ?_
          repeat
            first
            | go_big_quiet_skip
            | (go_big_quiet_want
               refine quiet_val ?_
               apply Exists.intro
               refine ⟨fun w' hw' => ?_, ?_⟩
               · obtain _ := hw'
                 go_simp
                 first | done | rfl | exact ⟨rfl, rfl⟩
               simp only [Act.put, List.setIfInBounds_toArray, List.set_cons_zero, List.set_cons_succ]
               go_big_quiet_on)
            | (go_big_quiet_want
               refine quiet_call ?_
               apply Exists.intro
               apply Exists.intro
               refine ⟨fun w' => ?_, ?_⟩
               · go_simp
                 first | done | rfl | exact ⟨rfl, rfl⟩
               apply Exists.intro
               refine ⟨fun w' hw' => ?_, ?_⟩
               · first
                 | fail
               simp only [Act.put, List.setIfInBounds_toArray, List.set_cons_zero, List.set_cons_succ]
               go_big_quiet_on)
          refine wpQuiet_nil ?_
          intro w5 hw5
          go_upto_region 7 with fail
          try simp only [List.append_eq, List.cons_append, List.nil_append]
          refine region_class (fun w' => Below w.heap.size w w') (by kernel_rfl) (by kernel_rfl) (Below.drew hw5) ?_
          repeat
            first
            | go_big_quiet_skip
            | (go_big_quiet_want
               refine quiet_val ?_
               apply Exists.intro
               refine ⟨fun w' hw' => ?_, ?_⟩
               · obtain _ := hw'
                 go_simp
                 first | done | rfl | exact ⟨rfl, rfl⟩
               simp only [Act.put, List.setIfInBounds_toArray, List.set_cons_zero, List.set_cons_succ]
               go_big_quiet_on)
            | (go_big_quiet_want
               refine quiet_call ?_
               apply Exists.intro
               apply Exists.intro
               refine ⟨fun w' => ?_, ?_⟩
               · go_simp
                 first | done | rfl | exact ⟨rfl, rfl⟩
               apply Exists.intro
               refine ⟨fun w' hw' => ?_, ?_⟩
               · first
                 | exact (KB.out _).mono fun e w'' ⟨he, hw⟩ => ⟨he, hw ▸ hw'⟩
               simp only [Act.put, List.setIfInBounds_toArray, List.set_cons_zero, List.set_cons_succ]
               go_big_quiet_on)
          refine wpQuiet_nil ?_
          intro w5 hw5
          go_wp2_with fail
          change bodyPost Tryd.prog Tryd.f74 (fun e w' => e = .returned (.int .i64 (-1)) ∧ Below w.heap.size w w') Exit.ret _ _
          go_ret
          exact ⟨rfl, hw5⟩
      · have hz : (⟨#[a, b, c]⟩ : ByteArray).size = 3 := rfl
        go_enter Tryd.func74, Tryd.ntmps74
        go_wp2_with fail
        refine (KV.out _).mono ?_
        rintro e w1 ⟨rfl, hw1⟩
        obtain rfl : w = w1 := hw1.symm
        clear KV
        go_wp2_with fail
        refine wp_scope_straight ?_
        go_upto_region 5 with fail
        generalize (⟨#[a, b, c]⟩ : ByteArray) = S at *
        go_loopw [9] (fun u wr => u = .int .i64 2 ∧ wr = w) (fun _ _ => 0)
        case atStart => exact ⟨rfl, rfl⟩
        case round =>
          obtain ⟨rfl, hwr⟩ := hrel
          obtain rfl : w = wr := hwr.symm
          go_wp2_with fail
          go_ret
          exact ⟨rfl, Below.refl _ _⟩
      · have hz : (⟨#[a, b, c, d]⟩ : ByteArray).size = 4 := rfl
        go_enter Tryd.func74, Tryd.ntmps74
        go_wp2_with fail
        refine (KV.out _).mono ?_
        rintro e w1 ⟨rfl, hw1⟩
        obtain rfl : w = w1 := hw1.symm
        clear KV
        go_wp2_with fail
        refine wp_scope_straight ?_
        go_upto_region 5 with fail
        generalize (⟨#[a, b, c, d]⟩ : ByteArray) = S at *
        go_loopw [9] (fun u wr => u = .int .i64 3 ∧ wr = w) (fun _ _ => 0)
        case atStart => exact ⟨rfl, rfl⟩
        case round =>
          obtain ⟨rfl, hwr⟩ := hrel
          obtain rfl : w = wr := hwr.symm
          go_wp2_with fail
          go_ret
          exact ⟨rfl, Below.refl _ _⟩
end Go.Proofs.YteooofakpkbgoaaDoor
/- strings.IndexAny at a short text, whatever its bytes. -/
namespace Go.Proofs.YteooofakpkbgoaaDoor
open Go.ChangeShapes Go.WideShapes Go.RowKit

theorem run_next_at (w : World) (k : Nat) (s : ByteArray) (pos : Nat) (ty : TypeId) (hk : w.heap[k]? = some (.stringIter s pos)) (h : pos < s.size) :
    (Instr.next (.pointer (some ⟨k, 0, none⟩)) true ty).run Tryd.prog w = .ok (.tuple #[.bool true, .int .i64 pos, .int .i32 (Utf8.decode s pos).1]) (w.putObj k (.stringIter s (pos + (Utf8.decode s pos).2))) := by
  simp only [Instr.next, getObj, setObj, Sem.run_bind, Sem.run, hk, Result.andThen, h, if_true]
  simp [goInt, World.putObj]
theorem run_next_out (w : World) (k : Nat) (s : ByteArray) (pos : Nat) (ty : TypeId) (hk : w.heap[k]? = some (.stringIter s pos)) (h : ¬ pos < s.size) :
    (Instr.next (.pointer (some ⟨k, 0, none⟩)) true ty).run Tryd.prog w = .ok (.tuple #[.bool false]) w := by
  simp [Instr.next, getObj, Sem.run, hk, h]
theorem below_put {B k : Nat} {a w : World} (h : Below B a w) (hk : B ≤ k) (o : Obj) : Below B a (w.putObj k o) :=
  ⟨h.os, h.tape, h.output, by rw [World.putObj_size]; exact h.size, fun i hi => by rw [World.putObj_heap_other (by omega)]; exact h.block i hi⟩
set_option maxRecDepth 100000 in
theorem none_high : ∀ n : Fin 256, 128 ≤ n.val → ([61, 33] : Bs).contains (UInt8.ofNat n.val) = false := by decide
theorem high_not {c : UInt8} (h : 128 ≤ c.toNat) : ([61, 33] : Bs).contains c = false := by
  have := none_high ⟨c.toNat, c.toNat_lt⟩ h
  rwa [show UInt8.ofNat c.toNat = c by simp] at this
theorem dec_cont (s : ByteArray) (i k : Nat) (h1 : 1 ≤ k) (h2 : k < (Utf8.decode s i).2) : i + k < s.size ∧ (s.get! (i + k)).toNat / 64 = 2 := by
  have hk : k = 1 ∨ k = 2 ∨ k = 3 := by
    have : (Utf8.decode s i).2 ≤ 4 := by
      unfold Utf8.decode
      simp only
      repeat' split
      all_goals simp
    omega
  unfold Utf8.decode at h2
  simp only at h2
  split at h2
  · simp at h2; omega
  split at h2
  · rename_i hc
    split at h2
    · simp at h2 hc
      obtain rfl : k = 1 := by omega
      exact hc.2
    · simp at h2; omega
  split at h2
  · rename_i hc
    split at h2
    · simp at h2 hc
      rcases hk with rfl | rfl | rfl
      · exact hc.1.2
      · exact hc.2
      · omega
    · simp at h2; omega
  split at h2
  · rename_i hc
    split at h2
    · simp at h2 hc
      rcases hk with rfl | rfl | rfl
      · exact hc.1.1.2
      · exact hc.1.2
      · exact hc.2
    · simp at h2; omega
  · simp at h2; omega
theorem get_list (l : Bs) (j : Nat) (d : UInt8) (h : l[j]? = some d) : (⟨l.toArray⟩ : ByteArray).get! j = d := by
  have hj := (List.getElem?_eq_some_iff.1 h)
  obtain ⟨h1, h2⟩ := hj
  show (l.toArray)[j]! = d
  rw [← h2]
  simp [h1]
/-- A sign that is decoded of high bytes spans high bytes only. -/
theorem dec_step (l : Bs) (i : Nat) (c : UInt8) (hc : l[i]? = some c) (h : 128 ≤ c.toNat) : 128 ≤ (Utf8.decode ⟨l.toArray⟩ i).1 ∧ (Utf8.decode ⟨l.toArray⟩ i).1 ≤ 2147483647 ∧ 1 ≤ (Utf8.decode ⟨l.toArray⟩ i).2 ∧ i + (Utf8.decode ⟨l.toArray⟩ i).2 ≤ l.length ∧ ∀ j d, i ≤ j → j < i + (Utf8.decode ⟨l.toArray⟩ i).2 → l[j]? = some d → 128 ≤ d.toNat := by
  have hlt := (List.getElem?_eq_some_iff.1 hc).1
  have hsz : (⟨l.toArray⟩ : ByteArray).size = l.length := by simp [ByteArray.size]
  have hg : ((⟨l.toArray⟩ : ByteArray)[i]'(by rw [hsz]; exact hlt)) = c := by
    have := (List.getElem?_eq_some_iff.1 hc).2
    rw [← this]; rfl
  have hH := decode_high ⟨l.toArray⟩ i (by rw [hsz]; exact hlt) (by rw [hg]; exact h)
  have hC := dec_cont ⟨l.toArray⟩ i
  refine ⟨hH.1, decode_le _ _, hH.2, ?_, fun j d h1 h2 hd => ?_⟩
  · rcases Nat.lt_or_ge 1 (Utf8.decode ⟨l.toArray⟩ i).2 with h1 | h1
    · have := (hC ((Utf8.decode ⟨l.toArray⟩ i).2 - 1) (by omega) (by omega)).1
      omega
    · omega
  · rcases Nat.lt_or_ge i j with h3 | h3
    · have := (hC (j - i) (by omega) (by omega)).2
      rw [show i + (j - i) = j by omega, get_list l j d hd] at this
      omega
    · obtain rfl : i = j := by omega
      rw [hc] at hd
      injection hd with hd
      rw [← hd]; exact h
set_option maxHeartbeats 3200000 in
set_option maxRecDepth 100000 in
theorem index_short (s : Bs) (h8 : s.length ≤ 8) : IxQ s := fun w => by
  have hsz : ((⟨s.toArray⟩ : ByteArray).size) = s.length := by simp [ByteArray.size]
  obtain ⟨T, hT⟩ : ∃ T : ByteArray, (⟨s.toArray⟩ : ByteArray) = T := ⟨_, rfl⟩
  have HD : Unit → ∀ (i : Nat) c, s[i]? = some c → 128 ≤ c.toNat → 128 ≤ (Utf8.decode T i).1 ∧ (Utf8.decode T i).1 ≤ 2147483647 ∧ 1 ≤ (Utf8.decode T i).2 ∧ i + (Utf8.decode T i).2 ≤ s.length ∧ ∀ j d, i ≤ j → j < i + (Utf8.decode T i).2 → s[j]? = some d → 128 ≤ d.toNat := fun _ i c hc h => by rw [← hT]; exact dec_step s i c hc h
  have HL : Unit → ∀ (i : Nat) c, s[i]? = some c → c.toNat < 128 → Utf8.decode T i = (c.toNat, 1) := fun _ i c hc h => by
    rw [← hT]
    have hlt := (List.getElem?_eq_some_iff.1 hc).1
    have hg : ((⟨s.toArray⟩ : ByteArray)[i]'(by rw [hsz]; exact hlt)) = c := by
      have := (List.getElem?_eq_some_iff.1 hc).2
      rw [← this]; rfl
    rw [decode_ascii ⟨s.toArray⟩ i (by rw [hsz]; exact hlt) (by rw [hg]; exact h), hg]
  have KU := Lib.hid fun n w => Tryd.strings_shouldUseASCIISet n w
  have KA := Lib.hid fun (r : Int) w (h0 : 0 ≤ r) (h1 : r < 128) => Tryd.strings_IndexRune_ascii ⟨#[61, 33]⟩ r w h0 h1
  have KR := Lib.hid fun (r : Int) w (h0 : 128 ≤ r) (h1 : r ≤ 2147483647) => rune_none r h0 h1 w
  rw [hT] at hsz ⊢
  clear hT
  obtain ⟨n, hn⟩ : ∃ n, s.length = n := ⟨_, rfl⟩
  rw [hn] at hsz h8
  have HN : Unit → s.length = n := fun _ => hn
  clear hn
  have hd8 : decide ((8 : Int) < (n : Int)) = false := decide_eq_false (by omega)
  go_enter Tryd.func58, Tryd.ntmps58
  go_wp2_with fail
  refine (KU.out _ _).mono ?_
  rintro e w1 ⟨rfl, hw1⟩
  obtain rfl : w = w1 := hw1.symm
  go_upto_region 18 with fail
  have hw0 : (w.iter T 0).heap[w.heap.size]? = some (.stringIter T 0) := World.iter_heap w T 0
  have hB0 : Below w.heap.size w (w.iter T 0) := (Below.refl _ _).alloc (Nat.le_refl _) _
  go_loopg [9, 10] n (fun g _ _ wx => ∃ i : Nat, i + g = n ∧ Below w.heap.size w wx ∧ wx.heap[w.heap.size]? = some (.stringIter T i) ∧ Lib.NoAny s [61, 33] i)
  case atStart => exact ⟨0, by omega, hB0, hw0, Lib.NoAny.zero _ _⟩
  case round =>
    clear hw0 hB0 hd8
    obtain ⟨i, hig, hB, hk, hno⟩ := hrel
    have HNO : Unit → Lib.NoAny s [61, 33] i := fun _ => hno
    clear hno
    have hbl : w.heap.size < wr.heap.size := (Array.getElem?_eq_some_iff.1 hk).1
    cases gk with
    | zero =>
      have e : i = n := by omega
      have hnx := fun ty => run_next_out wr w.heap.size T i ty hk (by omega)
      have hend : Lib.indexAny s [61, 33] = -1 := Lib.indexAny_none (by rw [HN (), ← e]; exact HNO ())
      have HE : Unit → Lib.indexAny s [61, 33] = -1 := fun _ => hend
      clear hend e
      go_wp2_with fail
      go_ret
      exact ⟨by rw [HE ()]; rfl, hB⟩
    | succ g =>
      have hi : i < n := by omega
      obtain ⟨c, hc⟩ : ∃ c, s[i]? = some c := ⟨_, List.getElem?_eq_getElem (by have := HN (); omega)⟩
      have hnx := fun ty => run_next_at wr w.heap.size T i ty hk (by omega)
      by_cases hc128 : c.toNat < 128
      · rw [HL () i c hc hc128] at hnx
        simp only at hnx
        have hB2 := below_put hB (k := w.heap.size) (by omega) (.stringIter T (i + 1))
        have hk2 : (wr.putObj w.heap.size (.stringIter T (i + 1))).heap[w.heap.size]? = some (.stringIter T (i + 1)) := World.putObj_heap_same hbl
        have K := Lib.hid (KA.out (c.toNat : Int) (wr.putObj w.heap.size (.stringIter T (i + 1))) (by omega) (by omega))
        have hback : ((c.toNat : Int)).toNat.toUInt8 = c := by simp
        rw [hback] at K
        have hcon := Lib.contains_iff_indexByte [61, 33] c
        have HC : Unit → s[i]? = some c := fun _ => hc
        have HNX : Unit → ([61, 33] : Bs).contains c = false → Lib.NoAny s [61, 33] (i + 1) := fun _ h => (HNO ()).succ (HC ()) h
        have HHit : Unit → ([61, 33] : Bs).contains c = true → Lib.indexAny s [61, 33] = (i : Int) := fun _ h => Lib.indexAny_hit (HNO ()) (HC ()) h
        generalize ([61, 33] : Bs).contains c = ct at *
        generalize Lib.indexByte [61, 33] c = ib at *
        clear hc hback hB hk
        generalize wr.putObj w.heap.size (.stringIter T (i + 1)) = w2 at *
        cases ct with
        | true =>
          have hge : (0 : Int) ≤ ib := of_decide_eq_true hcon.symm
          clear hcon
          go_wp2_with fail
          refine K.out.mono ?_
          rintro e w3 ⟨rfl, rfl⟩
          go_wp2_with fail
          go_ret
          exact ⟨by rw [HHit () (by trivial)]; rfl, hB2⟩
        | false =>
          have hge : ¬ (0 : Int) ≤ ib := of_decide_eq_false hcon.symm
          clear hcon
          go_wp2_with fail
          refine K.out.mono ?_
          rintro e w3 ⟨rfl, rfl⟩
          go_wp2_with fail
          go_roundg g
          case measure => omega
          case rel => exact ⟨i + 1, by omega, hB2, hk2, HNX () (by trivial)⟩
      · obtain ⟨d1, d2, d3, d4, d5⟩ := HD () i c hc (by omega)
        rw [HN ()] at d4
        have HNX : Unit → Lib.NoAny s [61, 33] (i + (Utf8.decode T i).2) := fun _ j d hj hd => by
          by_cases h : j < i
          · exact HNO () j d h hd
          · exact high_not (d5 j d (by omega) hj hd)
        have hB2 := below_put hB (k := w.heap.size) (by omega) (.stringIter T (i + (Utf8.decode T i).2))
        have hk2 : (wr.putObj w.heap.size (.stringIter T (i + (Utf8.decode T i).2))).heap[w.heap.size]? = some (.stringIter T (i + (Utf8.decode T i).2)) := World.putObj_heap_same hbl
        have hbl2 : w.heap.size < (wr.putObj w.heap.size (.stringIter T (i + (Utf8.decode T i).2))).heap.size := by rw [World.putObj_size]; exact hbl
        have K := Lib.hid (KR.out ((Utf8.decode T i).1 : Int) (wr.putObj w.heap.size (.stringIter T (i + (Utf8.decode T i).2))) (by omega) (by omega))
        clear d5 hc hB hk
        generalize (Utf8.decode T i).2 = wd at *
        generalize ((Utf8.decode T i).1 : Int) = r at *
        generalize wr.putObj w.heap.size (.stringIter T (i + wd)) = w2 at *
        go_wp2_with fail
        refine K.out.mono ?_
        rintro e w3 ⟨rfl, hB3⟩
        have hk3 : w3.heap[w.heap.size]? = some (.stringIter T (i + wd)) := (hB3.block w.heap.size hbl2).trans hk2
        have hB4 := hB2.trans (hB3.mono hB2.size)
        go_wp2_with fail
        go_roundg (g + 1 - wd)
        case measure => omega
        case rel => exact ⟨i + wd, by omega, hB4, hk3, HNX ()⟩
/-- strings.IndexAny finds the first = or !, whatever the text. -/
theorem index_ok (s : Bs) (hs : s.length ≤ 1000000) : IxQ s := by
  by_cases h : 8 < s.length
  · exact index_long s h hs
  · exact index_short s (by omega)
end Go.Proofs.YteooofakpkbgoaaDoor
/- The document's example. -/
namespace Go.Proofs.YteooofakpkbgoaaDoor
open Go.ChangeShapes Go.WideShapes Go.RowKit

theorem mread_any (s : Bs) (w : World) (hs : s.length ≤ 50000) (hg : SgAt w) : Calls Tryd.prog 19 #[.string ⟨s.toArray⟩] w (ReadM (readM s) w) :=
  read_loop s w hs (fun j => index_ok _ (by rw [List.length_drop]; omega)) hg
/-- team="a",host!~"x.*" -/
def exT : Bs := [116, 101, 97, 109, 61, 34, 97, 34, 44, 104, 111, 115, 116, 33, 126, 34, 120, 46, 42, 34]
def exM : List Mt := [⟨[116, 101, 97, 109], 0, [97]⟩, ⟨[104, 111, 115, 116], 3, [120, 46, 42]⟩]
def exF : List (Bs × Bs) := [([104, 111, 115, 116], [121]), ([116, 101, 97, 109], [97])]
theorem ex_pat : readN [120, 46, 42] = .ok (.one (.cons (.set fun b => b == 120) (.cons (.star (.set fun _ => true)) .nil))) [] := by kernel_rfl
theorem ex_err : errM [120, 46, 42] = 0 := by unfold errM; rw [if_neg (by decide), ex_pat]; rfl
theorem ex_fine : exM.all fineB = true := by
  unfold exM
  simp only [List.all_cons, List.all_nil, Bool.and_true, fineB, ex_err]
  decide
theorem ex_text : textM exM = some exT := by
  unfold textM
  rw [if_neg (by decide), ex_fine]
  rfl
theorem ex_readM : readM exT = some exM := read_text ex_text
theorem ex_not : fb [120, 46, 42] [121] = false := by
  have h : ¬ FitP [120, 46, 42] [121] := by
    rintro ⟨a, h1, h2⟩
    have hp : patM [120, 46, 42] = some (.one (.cons (.set fun b => b == 120) (.cons (.star (.set fun _ => true)) .nil))) := by unfold patM; rw [if_neg (by decide), ex_pat]; rfl
    rw [hp] at h1
    injection h1 with h1
    subst h1
    rw [langA, langS] at h2
    obtain ⟨s1, s2, h3, h4, _⟩ := h2
    rw [langR] at h4
    obtain ⟨c, rfl, hc⟩ := h4
    simp at h3
    have hc2 : c = 120 := by simpa using hc
    rw [hc2] at h3
    exact absurd h3.1 (by decide)
  cases hb : fb [120, 46, 42] [121] with
  | false => rfl
  | true => exact absurd ((fb_iff _ _).1 hb) h
theorem ex_fine1 : fineB ⟨[116, 101, 97, 109], 0, [97]⟩ = true := List.all_eq_true.1 ex_fine _ (by unfold exM; simp)
theorem ex_fine2 : fineB ⟨[104, 111, 115, 116], 3, [120, 46, 42]⟩ = true := List.all_eq_true.1 ex_fine _ (by unfold exM; simp)
theorem ex_all : allM exF exM = true := by
  unfold allM exM
  rw [List.all_cons, List.all_cons, List.all_nil, Bool.and_true]
  unfold fitsB
  rw [ex_fine1, ex_fine2]
  have e1 : valueF exF [116, 101, 97, 109] = [97] := by decide
  have e2 : valueF exF [104, 111, 115, 116] = [121] := by decide
  simp only [e1, e2]
  unfold cmpB
  simp [ex_not]
theorem ex_none : allM [] exM = false := by
  unfold allM exM
  rw [List.all_cons]
  unfold fitsB
  rw [ex_fine1]
  simp [valueF, cmpB]
theorem ex_size : ∀ m ∈ exM, m.n.length ≤ 9223372036854775807 ∧ m.v.length ≤ 9223372036854775807 := by
  intro m hm
  simp [exM] at hm
  rcases hm with rfl | rfl <;> decide
set_option maxHeartbeats 3200000 in
set_option maxRecDepth 100000 in
theorem lives_any (w : World) (hg : SgAt w) : Calls Tryd.prog 11 #[] w fun e w' => e = .returned (.bool true) ∧ Below w.heap.size w w' := by
  have K := mread_any exT w (by decide) hg
  rw [ex_readM] at K
  replace K := Lib.hid K
  go_enter Tryd.func11, Tryd.ntmps11
  go_wp2_with fail
  refine K.out.mono ?_
  rintro e w1 ⟨hB, v, rfl, hown⟩
  clear K
  have hM := own_mts hown
  have hg1 := hg.stay hB
  have K2 := text_any _ v exM w1 hM (by decide) ex_size hg1
  rw [ex_text] at K2
  replace K2 := Lib.hid K2
  obtain ⟨a, c, rfl⟩ := hM.shape
  have hlen : exM.length = 2 := rfl
  rw [hlen] at *
  clear hown hg1
  go_wp2_with fail
  refine K2.out.mono ?_
  rintro e w2 ⟨rfl, hB2⟩
  clear K2
  have hM2 := hM.stay hB2
  have hB3 := hB.trans (hB2.mono hB.size)
  simp only [textT]
  go_wp2_with fail
  have rF : Rw (w2.alloc (.cells #[.string ⟨#[104, 111, 115, 116]⟩, .string ⟨#[121]⟩, .string ⟨#[116, 101, 97, 109]⟩, .string ⟨#[97]⟩] 28)) w2.heap.size 28 [.string ⟨#[104, 111, 115, 116]⟩, .string ⟨#[121]⟩, .string ⟨#[116, 101, 97, 109]⟩, .string ⟨#[97]⟩] := Rw.new w2 28 [.string ⟨#[104, 111, 115, 116]⟩, .string ⟨#[121]⟩, .string ⟨#[116, 101, 97, 109]⟩, .string ⟨#[97]⟩]
  have hF := own_flds (fs := exF) (own_new (base := 0) (n := 2) (k := 2) rF (Nat.zero_le _) rfl (by decide))
  have hal := (Below.refl w2.heap.size w2).alloc (Nat.le_refl _) (.cells #[.string ⟨#[104, 111, 115, 116]⟩, .string ⟨#[121]⟩, .string ⟨#[116, 101, 97, 109]⟩, .string ⟨#[97]⟩] 28)
  have hM3 := hM2.stay hal
  have hB4 := hB3.trans (hal.mono hB3.size)
  have K3 := all_at _ _ _ _ exF exM _ hF hM3 (by decide) (by decide) (by decide) ex_size
  rw [ex_all] at K3
  replace K3 := Lib.hid K3
  clear hal hM2 hB3 rF hF
  generalize w2.alloc (.cells #[.string ⟨#[104, 111, 115, 116]⟩, .string ⟨#[121]⟩, .string ⟨#[116, 101, 97, 109]⟩, .string ⟨#[97]⟩] 28) = w3 at *
  refine K3.out.mono ?_
  rintro e w4 ⟨rfl, hB5⟩
  clear K3
  have hM4 := hM3.stay hB5
  have hB6 := hB4.trans (hB5.mono hB4.size)
  have K4 := all_at (fun _ => True) _ (.slice none 0 0) _ [] exM _ (RowsAt.nil 2 _ w4 none 0) hM4 (by decide) (by simp) (by decide) ex_size
  rw [ex_none] at K4
  replace K4 := Lib.hid K4
  go_wp2_with fail
  refine K4.out.mono ?_
  rintro e w5 ⟨rfl, hB7⟩
  go_wp2_with fail
  go_ret
  exact ⟨rfl, hB6.trans (hB7.mono hB6.size)⟩
end Go.Proofs.YteooofakpkbgoaaDoor
