/- The document's Value, Fits, All: which matchers fit. -/
import Derived.Test.YteooofakpkbgoaaDoorQFine
namespace Go.Proofs.YteooofakpkbgoaaDoor
open Go.ChangeShapes Go.WideShapes Go.RowKit

set_option maxHeartbeats 3200000 in
set_option maxRecDepth 100000 in
theorem rvalue_any (P : Nat → Prop) (v : Value) (fs : List (Bs × Bs)) (nm : Bs) (w : World) (h : FldsAt P w v fs) (hl : fs.length ≤ 9223372036854775807) :
    Calls Tryd.prog 28 #[v, .string ⟨nm.toArray⟩] w fun e w' => e = .returned (.string ⟨(valueF fs nm).toArray⟩) ∧ Below w.heap.size w w' := by
  obtain ⟨a, c, rfl⟩ := h.shape
  obtain ⟨n, hn⟩ : ∃ n, fs.length = n := ⟨_, rfl⟩
  rw [hn] at hl h ⊢
  have HN : Unit → fs.length = n := fun _ => hn
  clear hn
  obtain ⟨O, hO⟩ : ∃ O, valueF fs nm = O := ⟨_, rfl⟩
  have HO : Unit → valueF fs nm = O := fun _ => hO
  rw [hO]
  clear hO
  have hni : (n : Int) ≤ 9223372036854775807 := by omega
  go_enter Tryd.func28, Tryd.ntmps28
  go_upto_region 2 with fail
  go_loopw [5] (fun iv wr => ∃ k : Nat, k ≤ n ∧ iv = .int .i64 (k : Int) ∧ valueF fs nm = valueF (fs.drop k) nm ∧ Below w.heap.size w wr) (fun iv _ => n - (intOf iv).toNat)
  case atStart => exact ⟨0, Nat.zero_le _, rfl, by rw [List.drop_zero], Below.refl _ _⟩
  case round =>
    obtain ⟨k, hk, rfl, hV, hB⟩ := hrel
    have HV : Unit → valueF fs nm = valueF (fs.drop k) nm := fun _ => hV
    clear hV
    by_cases hlt : k < n
    · have hki : (k : Int) < (n : Int) := by omega
      obtain ⟨f, hf⟩ : ∃ f, fs[k]? = some f := ⟨_, List.getElem?_eq_getElem (by have := HN (); omega)⟩
      obtain ⟨g, o, rfl, _, hg, c0, c1⟩ := (h.stay hB).part hf
      have hst := valueF_at hf nm
      have hsame := same_text f.1 nm
      obtain ⟨f1, f2⟩ := f
      simp only at c0 c1 hst hsame
      by_cases he : f1 = nm
      · rw [if_pos he] at hst
        have e : f2 = O := (hst.symm.trans (HV ()).symm).trans (HO ())
        subst e
        have hb : (f1 == nm) = true := by simpa using he
        rw [hb] at hsame
        clear hst he
        go_wp2_with fail
        go_ret
        exact ⟨rfl, hB⟩
      · rw [if_neg he] at hst
        have HV2 : Unit → valueF fs nm = valueF (fs.drop (k + 1)) nm := fun _ => (HV ()).trans hst
        have hb : (f1 == nm) = false := by simpa using he
        rw [hb] at hsame
        clear hst he
        go_wp2_with fail
        go_roundw
        case rel => exact ⟨k + 1, by omega, by go_num, HV2 (), hB⟩
        case measure => simp [intOf]; omega
    · have hki : ¬ (k : Int) < (n : Int) := by omega
      have e : ([] : Bs) = O := by rw [← HO (), HV (), List.drop_eq_nil_of_le (by have := HN (); omega)]; rfl
      subst e
      go_wp2_with fail
      go_ret
      exact ⟨rfl, hB⟩
theorem fine_same (m : Mt) : Dn.fineD m.n m.op m.v = fineB m := by
  unfold Dn.fineD fineB
  rw [(Dn.read_one m.v).2]
  have e1 : decide (0 ≤ m.op ∧ m.op < 2) = (decide (m.op = 0) || decide (m.op = 1)) := by
    rw [← Bool.decide_or]
    exact decide_eq_decide.2 (by omega)
  have e2 : decide (2 ≤ m.op ∧ m.op ≤ 3) = (decide (m.op = 2) || decide (m.op = 3)) := by
    rw [← Bool.decide_or]
    exact decide_eq_decide.2 (by omega)
  rw [e1, e2, Bool.and_assoc]
theorem exec_load_node {o : Oper} {a : Act} {w : World} {g : Nat} {cs : List Value} (x : Operand) (ho : o.op = .load 61 x) (hx : a.eval x = .pointer (some ⟨g, 0, none⟩)) (hr : Rw w g 61 cs) (hn : cs.length = 258) : (execOp a.eval o).run Tryd.prog w = .ok (.value (.agg cs.toArray)) w := by
  unfold execOp
  simp only [ho, hx, Instr.loadAt, Instr.sureAddr, Sem.run_bind, Sem.run_pure, Result.andThen_ok, run_loadVar_row w g 61 61 cs.toArray (0, 0) _ hr Tryd.underlying61 rfl (by rw [Dn.size_node]; simp [hn])]
theorem pat_some {m : Mt} (h : fineB m = true) (h2 : 2 ≤ m.op) : ∃ a, patM m.v = some a := by
  unfold fineB at h
  rw [Bool.and_eq_true, Bool.and_eq_true, Bool.or_eq_true] at h
  rcases h.2 with h3 | h3
  · simp at h3; omega
  · rw [Bool.and_eq_true] at h3
    have h4 : errM m.v = 0 := by simpa using h3.2
    have h5 := (Dn.readE_ok m.v).1 ((Dn.read_one m.v).2.trans h4)
    rw [(Dn.read_one m.v).1] at h5
    exact Option.isSome_iff_exists.1 h5
theorem fb_is {P V : Bs} {a : Al} {b : Bool} (hm : patM P = some a) (hb : b = true ↔ langA a V) : b = fb P V := by
  have h2 : fb P V = true ↔ FitP P V := fb_iff P V
  have : FitP P V ↔ langA a V := ⟨fun ⟨c, h, hc⟩ => by rw [hm] at h; injection h with h; rw [h]; exact hc, fun h => ⟨a, hm, h⟩⟩
  have h3 := hb.trans (this.symm.trans h2.symm)
  cases b <;> cases hf : fb P V <;> simp_all
end Go.Proofs.YteooofakpkbgoaaDoor
