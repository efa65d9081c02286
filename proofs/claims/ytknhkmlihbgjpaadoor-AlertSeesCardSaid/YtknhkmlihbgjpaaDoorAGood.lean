/- The document's Right and Good: the walks. -/
import Derived.Test.YtknhkmlihbgjpaaDoorAWithR
namespace Go.Proofs.YtknhkmlihbgjpaaDoor
open Go.ChangeShapes Go.WideShapes Go.RowKit

/-- May a field be, behind those ahead of it? -/
def fldB (fs : List (Bs × Bs)) (k : Nat) : Bool := match fs[k]? with
  | none => true
  | some f => nameB f.1 && decide (f.2.length ≤ 200) && (if k = 0 then true else match fs[k - 1]? with
    | none => true
    | some g => aheadB g.1 f.1)
def rightB (fs : List (Bs × Bs)) : Bool := (List.range fs.length).all (fldB fs) && decide (fs.length ≤ 8)
theorem all_range {p : Nat → Bool} {k : Nat} (h : (List.range k).all p = true) (hp : p k = true) : (List.range (k + 1)).all p = true := by
  rw [List.range_succ, List.all_append, h]; simp [hp]
theorem all_range_bad {p : Nat → Bool} {k n : Nat} (hk : k < n) (hp : p k = false) : (List.range n).all p = false := by
  rw [List.all_eq_false]
  exact ⟨k, List.mem_range.2 hk, by rw [hp]; simp⟩
/-- Three cells of a block, whatever is laid besides. -/
def F3 (W : World) (g a b c : Nat) (x y z : Value) (w : World) : Prop := Below W.heap.size W w ∧ w.cell? ⟨g, a, none⟩ = some x ∧ w.cell? ⟨g, b, none⟩ = some y ∧ w.cell? ⟨g, c, none⟩ = some z
theorem F3.go {W w w' : World} {g a b c : Nat} {x y z : Value} (h : F3 W g a b c x y z w) (k : Below w.heap.size w w') : F3 W g a b c x y z w' := by
  obtain ⟨h1, h2, h3, h4⟩ := h
  have hb := World.block_lt_of_cell? w _ h2
  exact ⟨h1.trans (k.mono h1.size), (k.cell (p := ⟨g, a, none⟩) hb).trans h2, (k.cell (p := ⟨g, b, none⟩) hb).trans h3, (k.cell (p := ⟨g, c, none⟩) hb).trans h4⟩
set_option maxHeartbeats 12800000 in
set_option maxRecDepth 100000 in
theorem right_at (P : Nat → Prop) (v : Value) (fs : List (Bs × Bs)) (w : World) (h : FldsAt P w v fs) (hl : fs.length ≤ 1000000) (hfl : ∀ f ∈ fs, f.1.length ≤ 9223372036854775807 ∧ f.2.length ≤ 9223372036854775807) :
    Calls Tryd.prog 46 #[v] w fun e w' => e = .returned (.bool (rightB fs)) ∧ Below w.heap.size w w' := by
  have HFL : Unit → ∀ f ∈ fs, f.1.length ≤ 9223372036854775807 ∧ f.2.length ≤ 9223372036854775807 := fun _ => hfl
  clear hfl
  obtain ⟨a, c, rfl⟩ := h.shape
  have HR : Unit → rightB fs = ((List.range fs.length).all (fldB fs) && decide (fs.length ≤ 8)) := fun _ => rfl
  obtain ⟨n, hn⟩ : ∃ n, fs.length = n := ⟨_, rfl⟩
  rw [hn] at hl h HR ⊢
  have HN : Unit → fs.length = n := fun _ => hn
  clear hn
  have hni : (n : Int) ≤ 1000000 := by omega
  generalize rightB fs = R at *
  go_enter Tryd.func46, Tryd.ntmps46
  go_upto_region 2 with fail
  go_loopw [3] (fun u3 wr => ∃ k : Nat, u3 = .int .i64 (k : Int) ∧ k ≤ n ∧ (List.range k).all (fldB fs) = true ∧ Below w.heap.size w wr) (fun u3 _ => n - (intOf u3).toNat)
  case atStart => exact ⟨0, rfl, Nat.zero_le _, rfl, Below.refl _ _⟩
  case round =>
    obtain ⟨k, rfl, hk, hA, hB⟩ := hrel
    have HA : Unit → (List.range k).all (fldB fs) = true := fun _ => hA
    clear hA
    by_cases hlt : k < n
    · have hki : (k : Int) < (n : Int) := by omega
      obtain ⟨f, hf⟩ : ∃ f, fs[k]? = some f := ⟨_, List.getElem?_eq_getElem (by have := HN (); omega)⟩
      obtain ⟨g, o, rfl, _, hgl, c0, c1⟩ := (h.stay hB).part hf
      have hfz := HFL () f (List.mem_of_getElem? hf)
      have KN := Lib.hid fun w => rname_any f.1 w hfz.1
      have HBad : Unit → fldB fs k = false → R = false := fun _ e => by rw [HR (), all_range_bad hlt e]; rfl
      have HGood : Unit → fldB fs k = true → (List.range (k + 1)).all (fldB fs) = true := fun _ e => all_range (HA ()) e
      have hsz : ((⟨f.2.toArray⟩ : ByteArray).size : Int) = (f.2.length : Int) := by simp [ByteArray.size]
      cases hnm : nameB f.1 with
      | false =>
        have hfb : fldB fs k = false := by unfold fldB; rw [hf]; simp [hnm]
        obtain rfl := HBad () hfb
        rw [hnm] at KN
        clear HBad HGood hfb
        go_upto_region 4 with fail
        try simp only [List.append_eq, List.cons_append, List.nil_append]
        refine region_class (fun w' => Below wr.heap.size wr w' ∧ w'.cell? ⟨g, o + k * 2, none⟩ = some (.string ⟨f.1.toArray⟩)) (by kernel_rfl) (by kernel_rfl) (⟨(Below.refl _ _).drew, c0⟩) ?_
        repeat
          first
          | go_big_quiet_skip
          | (go_big_quiet_want
             refine quiet_val ?_
             apply Exists.intro
             refine ⟨fun w' hw' => ?_, ?_⟩
             · obtain ⟨_, e0⟩ := hw'
               go_simp
               first | done | rfl | exact ⟨rfl, rfl⟩
             simp only [Act.put, List.setIfInBounds_toArray, List.set_cons_zero, List.set_cons_succ]
             go_big_quiet_on)
          | (go_big_quiet_want
             refine quiet_call ?_
             apply Exists.intro
             apply Exists.intro
             refine ⟨fun w' => ?_, ?_⟩
             · go_simp
               first | done | rfl | exact ⟨rfl, rfl⟩
             apply Exists.intro
             refine ⟨fun w' hw' => ?_, ?_⟩
             · first
               | exact (KN.out _).mono fun e w'' ⟨he, hw⟩ => ⟨he, hw ▸ hw'⟩
             simp only [Act.put, List.setIfInBounds_toArray, List.set_cons_zero, List.set_cons_succ]
             go_big_quiet_on)
        refine wpQuiet_nil ?_
        intro w5 hw5
        have hb5 := hw5.1
        clear hw5
        go_wp2_with fail
        go_ret
        exact ⟨rfl, hB.trans (hb5.mono hB.size)⟩
      | true =>
        rw [hnm] at KN
        by_cases hv : f.2.length ≤ 200
        · have hvi : decide ((200 : Int) < (f.2.length : Int)) = false := decide_eq_false (by omega)
          by_cases hk0 : k = 0
          · subst hk0
            have hfb : fldB fs 0 = true := by unfold fldB; rw [hf]; simp [hnm, hv]
            have hG := HGood () hfb
            clear HBad HGood hfb hv
            simp only [Nat.zero_mul, Nat.add_zero] at c0 c1
            go_upto_region 4 with fail
            try simp only [List.append_eq, List.cons_append, List.nil_append]
            refine region_class (fun w' => Below wr.heap.size wr w' ∧ w'.cell? ⟨g, o, none⟩ = some (.string ⟨f.1.toArray⟩) ∧ w'.cell? ⟨g, o + 1, none⟩ = some (.string ⟨f.2.toArray⟩)) (by kernel_rfl) (by kernel_rfl) (⟨(Below.refl _ _).drew, c0, c1⟩) ?_
            repeat
              first
              | go_big_quiet_skip
              | (go_big_quiet_want
                 refine quiet_val ?_
                 apply Exists.intro
                 refine ⟨fun w' hw' => ?_, ?_⟩
                 · obtain ⟨_, e0, e1⟩ := hw'
                   go_simp
                   first | done | rfl | exact ⟨rfl, rfl⟩
                 simp only [Act.put, List.setIfInBounds_toArray, List.set_cons_zero, List.set_cons_succ]
                 go_big_quiet_on)
              | (go_big_quiet_want
                 refine quiet_call ?_
                 apply Exists.intro
                 apply Exists.intro
                 refine ⟨fun w' => ?_, ?_⟩
                 · go_simp
                   first | done | rfl | exact ⟨rfl, rfl⟩
                 apply Exists.intro
                 refine ⟨fun w' hw' => ?_, ?_⟩
                 · first
                   | exact (KN.out _).mono fun e w'' ⟨he, hw⟩ => ⟨he, hw ▸ hw'⟩
                 simp only [Act.put, List.setIfInBounds_toArray, List.set_cons_zero, List.set_cons_succ]
                 go_big_quiet_on)
            refine wpQuiet_nil ?_
            intro w5 hw5
            have hb5 := hw5.1
            clear hw5
            go_wp2_with fail
            go_roundw
            case rel => exact ⟨1, rfl, by omega, hG, hB.trans (hb5.mono hB.size)⟩
            case measure => simp [intOf]; omega
          · obtain ⟨j, rfl⟩ : ∃ j, k = j + 1 := ⟨k - 1, by omega⟩
            obtain ⟨f', hf'⟩ : ∃ f', fs[j]? = some f' := ⟨_, List.getElem?_eq_getElem (by have := HN (); omega)⟩
            obtain ⟨g2, o2, e2, _, _, p0, _⟩ := (h.stay hB).part hf'
            injection e2 with e2
            injection e2 with e2 e3 _
            subst e2 e3
            have hfz' := HFL () f' (List.mem_of_getElem? hf')
            have KA := Lib.hid fun w => ahead_any f'.1 f.1 w hfz'.1 hfz.1
            have hfb : fldB fs (j + 1) = aheadB f'.1 f.1 := by
              unfold fldB
              rw [hf]
              simp only
              rw [if_neg (by omega), show j + 1 - 1 = j by omega, hf', hnm, decide_eq_true hv]
              simp
            rw [hfb] at HBad HGood
            have hji : (j : Int) < (n : Int) := by omega
            have hw1 : IntKind.i64.wrap ((j : Int) + 1 - 1) = (j : Int) := by simp only [IntKind.wrap, IntKind.signed, IntKind.bits]; simp; omega
            have hw2 : IntKind.i64.wrap (j : Int) = (j : Int) := by simp only [IntKind.wrap, IntKind.signed, IntKind.bits]; simp; omega
            have hj0 : decide ((0 : Int) < (j : Int) + 1) = true := decide_eq_true (by omega)
            have hj1 : (0 : Int) < (j : Int) + 1 := by omega
            clear hfb hv hk0 hf hf'
            obtain ⟨f1, f2⟩ := f
            obtain ⟨f3, f4⟩ := f'
            simp only at *
            cases hah : aheadB f3 f1 with
            | true =>
              rw [hah] at KA
              have hG := HGood () hah
              clear HBad HGood hah
              go_upto_region 4 with fail
              try simp only [List.append_eq, List.cons_append, List.nil_append]
              refine region_class (F3 wr g (o + (j + 1) * 2) (o + (j + 1) * 2 + 1) (o + j * 2) (.string ⟨f1.toArray⟩) (.string ⟨f2.toArray⟩) (.string ⟨f3.toArray⟩)) (by kernel_rfl) (by kernel_rfl) (⟨(Below.refl _ _).drew, c0, c1, p0⟩) ?_
              repeat
                first
                | go_big_quiet_skip
                | (go_big_quiet_want
                   refine quiet_val ?_
                   apply Exists.intro
                   refine ⟨fun w' hw' => ?_, ?_⟩
                   · obtain ⟨_, e0, e1, e2⟩ := hw'
                     go_simp
                     first | done | rfl | exact ⟨rfl, rfl⟩
                   simp only [Act.put, List.setIfInBounds_toArray, List.set_cons_zero, List.set_cons_succ]
                   go_big_quiet_on)
                | (go_big_quiet_want
                   refine quiet_call ?_
                   apply Exists.intro
                   apply Exists.intro
                   refine ⟨fun w' => ?_, ?_⟩
                   · go_simp
                     first | done | rfl | exact ⟨rfl, rfl⟩
                   apply Exists.intro
                   refine ⟨fun w' hw' => ?_, ?_⟩
                   · first
                     | exact (KN.out _).mono fun e w'' ⟨he, hw⟩ => ⟨he, hw ▸ hw'⟩
                     | exact (KA.out _).mono fun e w'' ⟨he, hw⟩ => ⟨he, hw'.go hw⟩
                   simp only [Act.put, List.setIfInBounds_toArray, List.set_cons_zero, List.set_cons_succ]
                   go_big_quiet_on)
              refine wpQuiet_nil ?_
              intro w5 hw5
              have hb5 := hw5.1
              clear hw5
              go_wp2_with fail
              go_roundw
              case rel => exact ⟨j + 1 + 1, by go_num, by omega, hG, hB.trans (hb5.mono hB.size)⟩
              case measure => simp [intOf]; omega
            | false =>
              rw [hah] at KA
              obtain rfl := HBad () hah
              clear HBad HGood hah
              go_upto_region 4 with fail
              try simp only [List.append_eq, List.cons_append, List.nil_append]
              refine region_class (F3 wr g (o + (j + 1) * 2) (o + (j + 1) * 2 + 1) (o + j * 2) (.string ⟨f1.toArray⟩) (.string ⟨f2.toArray⟩) (.string ⟨f3.toArray⟩)) (by kernel_rfl) (by kernel_rfl) (⟨(Below.refl _ _).drew, c0, c1, p0⟩) ?_
              repeat
                first
                | go_big_quiet_skip
                | (go_big_quiet_want
                   refine quiet_val ?_
                   apply Exists.intro
                   refine ⟨fun w' hw' => ?_, ?_⟩
                   · obtain ⟨_, e0, e1, e2⟩ := hw'
                     go_simp
                     first | done | rfl | exact ⟨rfl, rfl⟩
                   simp only [Act.put, List.setIfInBounds_toArray, List.set_cons_zero, List.set_cons_succ]
                   go_big_quiet_on)
                | (go_big_quiet_want
                   refine quiet_call ?_
                   apply Exists.intro
                   apply Exists.intro
                   refine ⟨fun w' => ?_, ?_⟩
                   · go_simp
                     first | done | rfl | exact ⟨rfl, rfl⟩
                   apply Exists.intro
                   refine ⟨fun w' hw' => ?_, ?_⟩
                   · first
                     | exact (KN.out _).mono fun e w'' ⟨he, hw⟩ => ⟨he, hw ▸ hw'⟩
                     | exact (KA.out _).mono fun e w'' ⟨he, hw⟩ => ⟨he, hw'.go hw⟩
                   simp only [Act.put, List.setIfInBounds_toArray, List.set_cons_zero, List.set_cons_succ]
                   go_big_quiet_on)
              refine wpQuiet_nil ?_
              intro w5 hw5
              have hb5 := hw5.1
              clear hw5
              go_wp2_with fail
              go_ret
              exact ⟨rfl, hB.trans (hb5.mono hB.size)⟩
        · have hvi : decide ((200 : Int) < (f.2.length : Int)) = true := decide_eq_true (by omega)
          have hfb : fldB fs k = false := by unfold fldB; rw [hf]; simp [hnm, hv]
          obtain rfl := HBad () hfb
          clear HBad HGood hfb hv
          go_upto_region 4 with fail
          try simp only [List.append_eq, List.cons_append, List.nil_append]
          refine region_class (fun w' => Below wr.heap.size wr w' ∧ w'.cell? ⟨g, o + k * 2, none⟩ = some (.string ⟨f.1.toArray⟩) ∧ w'.cell? ⟨g, o + k * 2 + 1, none⟩ = some (.string ⟨f.2.toArray⟩)) (by kernel_rfl) (by kernel_rfl) (⟨(Below.refl _ _).drew, c0, c1⟩) ?_
          repeat
            first
            | go_big_quiet_skip
            | (go_big_quiet_want
               refine quiet_val ?_
               apply Exists.intro
               refine ⟨fun w' hw' => ?_, ?_⟩
               · obtain ⟨_, e0, e1⟩ := hw'
                 go_simp
                 first | done | rfl | exact ⟨rfl, rfl⟩
               simp only [Act.put, List.setIfInBounds_toArray, List.set_cons_zero, List.set_cons_succ]
               go_big_quiet_on)
            | (go_big_quiet_want
               refine quiet_call ?_
               apply Exists.intro
               apply Exists.intro
               refine ⟨fun w' => ?_, ?_⟩
               · go_simp
                 first | done | rfl | exact ⟨rfl, rfl⟩
               apply Exists.intro
               refine ⟨fun w' hw' => ?_, ?_⟩
               · first
                 | exact (KN.out _).mono fun e w'' ⟨he, hw⟩ => ⟨he, hw ▸ hw'⟩
               simp only [Act.put, List.setIfInBounds_toArray, List.set_cons_zero, List.set_cons_succ]
               go_big_quiet_on)
          refine wpQuiet_nil ?_
          intro w5 hw5
          have hb5 := hw5.1
          clear hw5
          go_wp2_with fail
          go_ret
          exact ⟨rfl, hB.trans (hb5.mono hB.size)⟩
    · have hki : ¬ (k : Int) < (n : Int) := by omega
      obtain rfl : n = k := by omega
      have e : R = decide (n ≤ 8) := by rw [HR (), HA ()]; rfl
      subst e
      go_wp2_with fail
      go_ret
      exact ⟨by simp; omega, hB⟩
end Go.Proofs.YtknhkmlihbgjpaaDoor
