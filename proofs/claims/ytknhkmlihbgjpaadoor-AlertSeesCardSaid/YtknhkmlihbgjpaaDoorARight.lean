/- Whether fields may be: match's own walk; plain. -/
import Derived.Test.YtknhkmlihbgjpaaDoorAGoods
namespace Go.Proofs.YtknhkmlihbgjpaaDoor
open Go.ChangeShapes Go.WideShapes Go.RowKit

theorem less_ahead (a b : Bs) : Op.bytesLess a b = aheadB a b := by
  induction a generalizing b with
  | nil => cases b <;> rfl
  | cons c a ih =>
    cases b with
    | nil => rfl
    | cons d b =>
      rw [Op.bytesLess, aheadB, ih]
      by_cases h : c = d
      · subst h
        rw [if_pos rfl]
        simp
      · rw [if_neg h]
        simp [h, UInt8.lt_iff_toNat_lt]
theorem ahead_irr (a : Bs) : aheadB a a = false := by
  induction a with
  | nil => rfl
  | cons c a ih => rw [aheadB, if_pos rfl, ih]
theorem ahead_trans {a b c : Bs} (h : aheadB a b = true) (h2 : aheadB b c = true) : aheadB a c = true := by
  induction a generalizing b c with
  | nil =>
    cases b with
    | nil => cases h
    | cons d b => cases c <;> first | rfl | cases h2
  | cons x a ih =>
    cases b with
    | nil => cases h
    | cons y b =>
      cases c with
      | nil => cases h2
      | cons z c =>
        rw [aheadB] at h h2 ⊢
        by_cases e1 : x = y
        · subst e1
          rw [if_pos rfl] at h
          by_cases e2 : x = z
          · subst e2
            rw [if_pos rfl] at h2 ⊢
            exact ih h h2
          · rw [if_neg e2] at h2 ⊢
            exact h2
        · rw [if_neg e1] at h
          by_cases e2 : y = z
          · subst e2
            rw [if_neg e1]
            exact h
          · rw [if_neg e2] at h2
            have h3 := of_decide_eq_true h
            have h4 := of_decide_eq_true h2
            rw [if_neg (fun e => by subst e; omega)]
            exact decide_eq_true (by omega)
theorem ahead_tri {a b : Bs} (h : aheadB a b = false) (hne : a ≠ b) : aheadB b a = true := by
  induction a generalizing b with
  | nil => cases b with
    | nil => exact absurd rfl hne
    | cons d b => cases h
  | cons x a ih =>
    cases b with
    | nil => rfl
    | cons y b =>
      rw [aheadB] at h ⊢
      by_cases e : x = y
      · subst e
        rw [if_pos rfl] at h ⊢
        exact ih h (fun e2 => hne (by rw [e2]))
      · rw [if_neg e] at h
        rw [if_neg (fun e2 => e e2.symm)]
        have h2 := of_decide_eq_false h
        have : x.toNat ≠ y.toNat := fun e2 => e (UInt8.toNat_inj.1 e2)
        exact decide_eq_true (by omega)
def Asc (fs : List (Bs × Bs)) : Prop := fs.Pairwise fun f g => aheadB f.1 g.1 = true
def okF (f : Bs × Bs) : Bool := nameB f.1 && decide (f.2.length ≤ 200)
theorem right_iff (fs : List (Bs × Bs)) : rightB fs = true ↔ (∀ f ∈ fs, okF f = true) ∧ Asc fs ∧ fs.length ≤ 8 := by
  unfold rightB
  rw [Bool.and_eq_true, decide_eq_true_iff, List.all_eq_true]
  constructor
  · rintro ⟨h, hl⟩
    have hk : ∀ (k : Nat) (hk : k < fs.length), okF fs[k] = true ∧ (∀ j, k = j + 1 → ∀ g, fs[j]? = some g → aheadB g.1 fs[k].1 = true) := fun k hk => by
      have h1 := h k (List.mem_range.2 hk)
      unfold fldB at h1
      rw [List.getElem?_eq_getElem hk] at h1
      simp only [Bool.and_eq_true] at h1
      refine ⟨by unfold okF; rw [Bool.and_eq_true]; exact h1.1, fun j e g hg => ?_⟩
      have h2 := h1.2
      rw [if_neg (by omega), show k - 1 = j by omega, hg] at h2
      exact h2
    refine ⟨fun f hf => ?_, ?_, hl⟩
    · obtain ⟨k, hk2, rfl⟩ := List.mem_iff_getElem.1 hf
      exact (hk k hk2).1
    · unfold Asc
      rw [List.pairwise_iff_getElem]
      intro i j hi hj hij
      induction j with
      | zero => omega
      | succ j ih =>
        have h1 := (hk (j + 1) hj).2 j rfl fs[j] (List.getElem?_eq_getElem (by omega))
        rcases Nat.lt_or_ge i j with h2 | h2
        · exact ahead_trans (ih (by omega) h2) h1
        · obtain rfl : i = j := by omega
          exact h1
  · rintro ⟨h1, h2, hl⟩
    refine ⟨fun k hk => ?_, hl⟩
    have hk := List.mem_range.1 hk
    unfold fldB
    rw [List.getElem?_eq_getElem hk]
    have h3 := h1 fs[k] (List.getElem_mem hk)
    unfold okF at h3
    simp only [h3, Bool.true_and]
    by_cases h0 : k = 0
    · rw [if_pos h0]
    · rw [if_neg h0, List.getElem?_eq_getElem (show k - 1 < fs.length by omega)]
      unfold Asc at h2
      rw [List.pairwise_iff_getElem] at h2
      exact h2 (k - 1) k (by omega) hk (by omega)
theorem fld_at {fs : List (Bs × Bs)} {k : Nat} {f : Bs × Bs} (h : fs[k]? = some f) : fldB fs k = (nameB f.1 && decide (f.2.length ≤ 200) && (if k = 0 then true else match fs[k - 1]? with
    | none => true
    | some g => aheadB g.1 f.1)) := by unfold fldB; rw [h]; rfl
set_option maxHeartbeats 3200000 in
set_option maxRecDepth 100000 in
theorem rightm_any (P : Nat → Prop) (v : Value) (fs : List (Bs × Bs)) (w : World) (h : FldsAt P w v fs) (hl : fs.length ≤ 1000000) (hfl : ∀ f ∈ fs, f.1.length ≤ 9223372036854775807 ∧ f.2.length ≤ 9223372036854775807) :
    Calls Tryd.prog 42 #[v] w fun e w' => e = .returned (.bool (rightB fs)) ∧ Below w.heap.size w w' := by
  have HFL : Unit → ∀ f ∈ fs, f.1.length ≤ 9223372036854775807 ∧ f.2.length ≤ 9223372036854775807 := fun _ => hfl
  clear hfl
  obtain ⟨a, c, rfl⟩ := h.shape
  obtain ⟨O, hO⟩ : ∃ O, rightB fs = O := ⟨_, rfl⟩
  rw [hO]
  have HO : Unit → rightB fs = O := fun _ => hO
  clear hO
  obtain ⟨n, hn⟩ : ∃ n, fs.length = n := ⟨_, rfl⟩
  rw [hn] at hl h ⊢
  have HN : Unit → fs.length = n := fun _ => hn
  clear hn
  by_cases h8 : 8 < n
  · have h8i : (8 : Int) < (n : Int) := by omega
    have hOF : O = false := by
      rw [← HO ()]
      unfold rightB
      rw [decide_eq_false (by have := HN (); omega), Bool.and_false]
    subst hOF
    go_enter Tryd.func42, Tryd.ntmps42
    go_wp2_with fail
    go_ret
    exact ⟨rfl, Below.refl _ _⟩
  · have h8i : ¬ (8 : Int) < (n : Int) := by omega
    have HT : Unit → (List.range n).all (fldB fs) = true → O = true := fun _ e => by
      rw [← HO ()]
      unfold rightB
      rw [HN (), e, decide_eq_true (by have := HN (); omega)]
      rfl
    have HB : Unit → ∀ k, k < n → fldB fs k = false → O = false := fun _ k hk e => by
      rw [← HO ()]
      unfold rightB
      rw [HN (), all_range_bad hk e, Bool.false_and]
    clear HO
    go_enter Tryd.func42, Tryd.ntmps42
    go_upto_region 4 with fail
    go_loopw [10] (fun u10 wr => ∃ k : Nat, u10 = .int .i64 (k : Int) ∧ k ≤ n ∧ (List.range k).all (fldB fs) = true ∧ Below w.heap.size w wr) (fun u10 _ => n - (intOf u10).toNat)
    case atStart => exact ⟨0, rfl, Nat.zero_le _, rfl, Below.refl _ _⟩
    case round =>
      obtain ⟨k, rfl, hk, hA, hB⟩ := hrel
      have HA : Unit → (List.range k).all (fldB fs) = true := fun _ => hA
      clear hA
      by_cases hlt : k < n
      · have hki : (k : Int) < (n : Int) := by omega
        obtain ⟨f, hf⟩ : ∃ f, fs[k]? = some f := ⟨_, List.getElem?_eq_getElem (by have := HN (); omega)⟩
        have hfz := HFL () f (List.mem_of_getElem? hf)
        have KN := Lib.hid fun w => name_any f.1 w hfz.1
        obtain ⟨g, o, rfl, _, hgl, c0, c1⟩ := (h.stay hB).part hf
        have HF : Unit → fldB fs k = (nameB f.1 && decide (f.2.length ≤ 200) && (if k = 0 then true else match fs[k - 1]? with
            | none => true
            | some g => aheadB g.1 f.1)) := fun _ => fld_at hf
        have hsz : ((⟨f.2.toArray⟩ : ByteArray).size : Int) = (f.2.length : Int) := by simp [ByteArray.size]
        obtain ⟨f1, f2⟩ := f
        simp only at *
        clear hf hfz
        have hal := (Below.refl wr.heap.size wr).alloc (Nat.le_refl _) (.cells #[.string ⟨f1.toArray⟩, .string ⟨f2.toArray⟩] 64)
        have rM : Rw (wr.alloc (.cells #[.string ⟨f1.toArray⟩, .string ⟨f2.toArray⟩] 64)) wr.heap.size 64 [.string ⟨f1.toArray⟩, .string ⟨f2.toArray⟩] := Rw.new wr 64 [.string ⟨f1.toArray⟩, .string ⟨f2.toArray⟩]
        have hB1 := hB.trans (hal.mono hB.size)
        go_upto_region 6 with fail
        generalize wr.alloc (.cells #[.string ⟨f1.toArray⟩, .string ⟨f2.toArray⟩] 64) = w1 at *
        have d0 := Rw.cell rM 0
        have d1 := Rw.cell rM 1
        simp only [List.getElem?_cons_zero, List.getElem?_cons_succ] at d0 d1
        clear hB c0 c1
        cases hnb : nameB f1 with
        | false =>
          rw [hnb] at KN
          have hOF : O = false := HB () k hlt (by rw [HF (), hnb]; rfl)
          subst hOF
          clear hnb HF
          go_wp2_with fail
          refine (KN.out _).mono ?_
          rintro e w2 ⟨rfl, e2⟩
          rw [e2]
          clear KN e2
          go_wp2_with fail
          go_ret
          exact ⟨rfl, hB1⟩
        | true =>
          rw [hnb] at KN
          by_cases hv : 200 < f2.length
          · have hvi : (200 : Int) < (f2.length : Int) := by omega
            have hOF : O = false := HB () k hlt (by rw [HF (), decide_eq_false (by omega), Bool.and_false, Bool.false_and])
            subst hOF
            clear hnb HF
            go_wp2_with fail
            refine (KN.out _).mono ?_
            rintro e w2 ⟨rfl, e2⟩
            rw [e2]
            clear KN e2
            go_wp2_with fail
            go_ret
            exact ⟨rfl, hB1⟩
          · have hvi : ¬ (200 : Int) < (f2.length : Int) := by omega
            have HF2 : Unit → fldB fs k = (if k = 0 then true else match fs[k - 1]? with
                | none => true
                | some g => aheadB g.1 f1) := fun _ => by rw [HF (), hnb, decide_eq_true (by omega)]; simp
            clear hnb HF
            go_wp2_with fail
            refine (KN.out _).mono ?_
            rintro e w2 ⟨rfl, e2⟩
            rw [e2]
            clear KN e2
            go_upto_region 8 with fail
            cases k with
            | zero =>
              have HNX : Unit → (List.range (0 + 1)).all (fldB fs) = true := fun _ => all_range (HA ()) (by rw [HF2 ()]; rfl)
              clear HF2 HA
              try simp only [List.append_eq, List.cons_append, List.nil_append]
              refine region_class (fun w' => Below w1.heap.size w1 w') (by kernel_rfl) (by kernel_rfl) ((Below.refl _ _).drew) ?_
              repeat
                first
                | go_big_quiet_skip
                | (go_big_quiet_want
                   refine quiet_val ?_
                   apply Exists.intro
                   refine ⟨fun w' hw' => ?_, ?_⟩
                   · obtain _ := hw'
                     go_simp
                     first | done | rfl | exact ⟨rfl, rfl⟩
                   simp only [Act.put, List.setIfInBounds_toArray, List.set_cons_zero, List.set_cons_succ]
                   go_big_quiet_on)
                | (go_big_quiet_want
                   refine quiet_call ?_
                   apply Exists.intro
                   apply Exists.intro
                   refine ⟨fun w' => ?_, ?_⟩
                   · go_simp
                     first | done | rfl | exact ⟨rfl, rfl⟩
                   apply Exists.intro
                   refine ⟨fun w' hw' => ?_, ?_⟩
                   · first
                     | fail
                   simp only [Act.put, List.setIfInBounds_toArray, List.set_cons_zero, List.set_cons_succ]
                   go_big_quiet_on)
              refine wpQuiet_nil ?_
              intro w5 hw5
              go_wp2_with fail
              go_roundw
              case rel => exact ⟨0 + 1, by go_num, by omega, HNX (), hB1.trans (hw5.mono hB1.size)⟩
              case measure => simp [intOf]; omega
            | succ j =>
              obtain ⟨q, hq⟩ : ∃ q, fs[j]? = some q := ⟨_, List.getElem?_eq_getElem (by have := HN (); omega)⟩
              obtain ⟨g2, o2, e2, _, _, p0, _⟩ := (h.stay hB1).part hq
              injection e2 with e2
              injection e2 with e2 e3 _
              subst e2 e3
              have HF3 : Unit → fldB fs (j + 1) = Op.bytesLess q.1 f1 := fun _ => by
                rw [HF2 (), less_ahead, if_neg (by omega), show j + 1 - 1 = j by omega, hq]
              obtain ⟨q1, q2⟩ := q
              simp only at *
              have h0 : (0 : Int) < (j : Int) + 1 := by omega
              have hjn : (j : Int) < (n : Int) := by omega
              have hwj : IntKind.i64.wrap (j : Int) = (j : Int) := by rw [IntKind.wrap_i64]; omega
              clear HF2 hq
              cases hb : Op.bytesLess q1 f1 with
              | true =>
                have HNX : Unit → (List.range (j + 1 + 1)).all (fldB fs) = true := fun _ => all_range (HA ()) (by rw [HF3 (), hb])
                clear HF3 HA
                try simp only [List.append_eq, List.cons_append, List.nil_append]
                refine region_class (fun w' => Below w1.heap.size w1 w' ∧ w'.cell? ⟨g, o + j * 2, none⟩ = some (.string ⟨q1.toArray⟩) ∧ w'.cell? ⟨wr.heap.size, 0, none⟩ = some (.string ⟨f1.toArray⟩)) (by kernel_rfl) (by kernel_rfl) (⟨(Below.refl _ _).drew, p0, d0⟩) ?_
                repeat
                  first
                  | go_big_quiet_skip
                  | (go_big_quiet_want
                     refine quiet_val ?_
                     apply Exists.intro
                     refine ⟨fun w' hw' => ?_, ?_⟩
                     · obtain ⟨_, e0, e1⟩ := hw'
                       go_simp
                       first | done | rfl | exact ⟨rfl, rfl⟩
                     simp only [Act.put, List.setIfInBounds_toArray, List.set_cons_zero, List.set_cons_succ]
                     go_big_quiet_on)
                  | (go_big_quiet_want
                     refine quiet_call ?_
                     apply Exists.intro
                     apply Exists.intro
                     refine ⟨fun w' => ?_, ?_⟩
                     · go_simp
                       first | done | rfl | exact ⟨rfl, rfl⟩
                     apply Exists.intro
                     refine ⟨fun w' hw' => ?_, ?_⟩
                     · first
                       | fail
                     simp only [Act.put, List.setIfInBounds_toArray, List.set_cons_zero, List.set_cons_succ, hwj]
                     go_big_quiet_on)
                refine wpQuiet_nil ?_
                intro w5 hw5
                have hb5 := hw5.1
                clear hw5
                go_wp2_with fail
                go_roundw
                case rel => exact ⟨j + 1 + 1, by go_num, by omega, HNX (), hB1.trans (hb5.mono hB1.size)⟩
                case measure => simp [intOf]; omega
              | false =>
                have hOF : O = false := HB () (j + 1) hlt (by rw [HF3 (), hb])
                subst hOF
                clear HF3 HA
                try simp only [List.append_eq, List.cons_append, List.nil_append]
                refine region_class (fun w' => Below w1.heap.size w1 w' ∧ w'.cell? ⟨g, o + j * 2, none⟩ = some (.string ⟨q1.toArray⟩) ∧ w'.cell? ⟨wr.heap.size, 0, none⟩ = some (.string ⟨f1.toArray⟩)) (by kernel_rfl) (by kernel_rfl) (⟨(Below.refl _ _).drew, p0, d0⟩) ?_
                repeat
                  first
                  | go_big_quiet_skip
                  | (go_big_quiet_want
                     refine quiet_val ?_
                     apply Exists.intro
                     refine ⟨fun w' hw' => ?_, ?_⟩
                     · obtain ⟨_, e0, e1⟩ := hw'
                       go_simp
                       first | done | rfl | exact ⟨rfl, rfl⟩
                     simp only [Act.put, List.setIfInBounds_toArray, List.set_cons_zero, List.set_cons_succ]
                     go_big_quiet_on)
                  | (go_big_quiet_want
                     refine quiet_call ?_
                     apply Exists.intro
                     apply Exists.intro
                     refine ⟨fun w' => ?_, ?_⟩
                     · go_simp
                       first | done | rfl | exact ⟨rfl, rfl⟩
                     apply Exists.intro
                     refine ⟨fun w' hw' => ?_, ?_⟩
                     · first
                       | fail
                     simp only [Act.put, List.setIfInBounds_toArray, List.set_cons_zero, List.set_cons_succ, hwj]
                     go_big_quiet_on)
                refine wpQuiet_nil ?_
                intro w5 hw5
                have hb5 := hw5.1
                clear hw5
                go_wp2_with fail
                go_ret
                exact ⟨rfl, hB1.trans (hb5.mono hB1.size)⟩
      · obtain rfl : k = n := by omega
        have hki : ¬ (k : Int) < (k : Int) := by omega
        have hOT : O = true := HT () (HA ())
        subst hOT
        go_wp2_with fail
        go_ret
        exact ⟨rfl, hB⟩
end Go.Proofs.YtknhkmlihbgjpaaDoor
