/- Words: the three that are values. -/
import Derived.Test.YtbkkcojfgdjbhaaDoorJNum
import Derived.MapKept
namespace Go.Proofs.YtbkkcojfgdjbhaaDoor
open Go.ChangeShapes Go.WideShapes Go.RowKit

/-- The map of the words. -/
def Wm (w : World) (mb : Nat) : Prop := ∃ b1 b2 b3 c, w.heap[mb]? = some (.map #[⟨.string ⟨#[110, 117, 108, 108]⟩, .int .i64 0, b1⟩, ⟨.string ⟨#[102, 97, 108, 115, 101]⟩, .int .i64 1, b2⟩, ⟨.string ⟨#[116, 114, 117, 101]⟩, .int .i64 2, b3⟩] c)
theorem Wm.lt {w : World} {mb : Nat} (h : Wm w mb) : mb < w.heap.size := by
  obtain ⟨_, _, _, _, h⟩ := h
  exact (Array.getElem?_eq_some_iff.1 h).1
theorem Wm.keep {w w' : World} {mb : Nat} {S : Nat → Prop} (h : Wm w mb) (k : Asd S w w') (hs : ¬ S mb) : Wm w' mb := by
  have hlt := h.lt
  obtain ⟨b1, b2, b3, c, h⟩ := h
  exact ⟨b1, b2, b3, c, by rw [k.block mb hlt hs]; exact h⟩
theorem beq_text (a b : Bs) : ((⟨a.toArray⟩ : ByteArray) == ⟨b.toArray⟩) = decide (a = b) := by
  show ((a.toArray : Array UInt8) == b.toArray) = decide (a = b)
  rw [Bool.eq_iff_iff, beq_iff_eq, decide_eq_true_iff]
  constructor
  · intro h
    have := congrArg Array.toList h
    simpa using this
  · rintro rfl; rfl
theorem word_look (s : Bs) (w : World) (mb : Nat) (h : Wm w mb) :
    (Instr.lookup 61 (.map (some mb)) (.string ⟨s.toArray⟩) true).run Tryd.prog w = .ok (.tuple #[.int .i64 ((wordV s).getD 0), .bool (wordV s).isSome]) w := by
  obtain ⟨b1, b2, b3, c, h⟩ := h
  have hz : (zeroValue 3).run Tryd.prog w = .ok (.int .i64 0) w := by kernel_rfl
  have e1 := beq_text s [110, 117, 108, 108]
  have e2 := beq_text s [102, 97, 108, 115, 101]
  have e3 := beq_text s [116, 114, 117, 101]
  have hck : ∀ e, (Instr.checkKey e 10000 9 (.string ⟨s.toArray⟩)).run Tryd.prog w = .ok () w := fun e => Go.MapKept.run_checkKey (k := .string ⟨s.toArray⟩) Tryd.underlying9 (show Go.MapKept.IsKey .string (.string ⟨s.toArray⟩) from trivial) e 9999
  simp only [Instr.lookup, Sem.run_bind, run_underlying Tryd.underlying61, Result.andThen_ok]
  have hg : (getObj mb).run Tryd.prog w = .ok (.map #[⟨.string ⟨#[110, 117, 108, 108]⟩, .int .i64 0, b1⟩, ⟨.string ⟨#[102, 97, 108, 115, 101]⟩, .int .i64 1, b2⟩, ⟨.string ⟨#[116, 114, 117, 101]⟩, .int .i64 2, b3⟩] c) w := Go.MapKept.run_getObj_map h
  simp only [hg, Result.andThen_ok, Sem.run_pure, hck, Sem.run_bind]
  have hf : (Instr.findKey 9 (.string ⟨s.toArray⟩) [⟨.string ⟨#[110, 117, 108, 108]⟩, .int .i64 0, b1⟩, ⟨.string ⟨#[102, 97, 108, 115, 101]⟩, .int .i64 1, b2⟩, ⟨.string ⟨#[116, 114, 117, 101]⟩, .int .i64 2, b3⟩]).run Tryd.prog w = .ok ((wordV s).map fun v => (v.toNat, .int .i64 v)) w := by
    unfold Instr.findKey wordV
    simp only [Sem.run_bind, run_underlying Tryd.underlying9, Result.andThen_ok]
    by_cases h1 : s = [110, 117, 108, 108]
    · rw [h1]; rfl
    · by_cases h2 : s = [102, 97, 108, 115, 101]
      · rw [h2]; rfl
      · by_cases h3 : s = [116, 114, 117, 101]
        · rw [h3]; rfl
        · rw [decide_eq_false h1] at e1
          rw [decide_eq_false h2] at e2
          rw [decide_eq_false h3] at e3
          rw [if_neg h1, if_neg h2, if_neg h3]
          have f1 : Instr.sameNow .string (.string ⟨s.toArray⟩) (.string ⟨#[110, 117, 108, 108]⟩) = some false := congrArg some e1
          have f2 : Instr.sameNow .string (.string ⟨s.toArray⟩) (.string ⟨#[102, 97, 108, 115, 101]⟩) = some false := congrArg some e2
          have f3 : Instr.sameNow .string (.string ⟨s.toArray⟩) (.string ⟨#[116, 114, 117, 101]⟩) = some false := congrArg some e3
          simp only [Instr.findNow, f1, f2, f3]
          rfl
  rw [hf]
  cases hv : wordV s with
  | none => simp [hz]
  | some v => simp
theorem low_letters (l : Bs) : ∀ k, (∀ j c, j < k → l[j]? = some c → isLow c = true) → k ≤ l.length → (∀ c, l[k]? = some c → isLow c = false) → l.takeWhile isLow = l.take k ∧ l.dropWhile isLow = l.drop k := by
  induction l with
  | nil => intro k _ hk _; simp at hk; subst hk; simp
  | cons a l ih =>
    intro k hd hk he
    cases k with
    | zero =>
      have := he a rfl
      simp [this]
    | succ k =>
      have h1 := hd 0 a (by omega) rfl
      obtain ⟨h2, h3⟩ := ih k (fun j c hj hc => hd (j + 1) c (by omega) hc) (by simpa using hk) (fun c hc => he c hc)
      simp [h1, h2, h3]
def wordC (l : Bs) : Rs (List Value) := match wordN l with
  | .ok (.mk k _ _ _ _) r => .ok (cells5 k 0 [] (.slice none 0 0) (.slice none 0 0)) r
  | .err e => .err e
theorem wordC_ok {l : Bs} {k : Nat} {v : Int} (h2 : l.takeWhile isLow = l.take k) (h3 : l.dropWhile isLow = l.drop k) (hx : wordV (l.take k) = some v) : wordC l = .ok (cells5 v 0 [] (.slice none 0 0) (.slice none 0 0)) (l.drop k) := by
  unfold wordC wordN
  rw [h2, h3, hx]
theorem wordC_bad {l : Bs} {k : Nat} (h2 : l.takeWhile isLow = l.take k) (hx : wordV (l.take k) = none) : wordC l = .err 2 := by
  unfold wordC wordN
  rw [h2, hx]
/-- What a word's look-up looks at. -/
def Cw (W : World) (R mb : Nat) (X Y : ByteArray) (v : Int) (ok : Bool) (w' : World) : Prop := Drew W w' ∧ w'.cell? ⟨R, 0, none⟩ = some (.string X) ∧ w'.cell? ⟨R, 2, none⟩ = some (.map (some mb)) ∧ (Instr.lookup 61 (.map (some mb)) (.string Y) true).run Tryd.prog w' = .ok (.tuple #[.int .i64 v, .bool ok]) w'

set_option maxHeartbeats 1600000 in
set_option maxRecDepth 100000 in
theorem word_any (R mb : Nat) (l : Bs) (n : Nat) (w : World) (h : Rq w R l n (.map (some mb))) (hm : Wm w mb) (hl : l.length ≤ 1000000) :
    Calls Tryd.prog 50 #[.pointer (some ⟨R, 0, none⟩)] w (ValP R n (.map (some mb)) w (wordC l)) := by
  have hz := zero_val
  have hRw : R < w.heap.size := Rw.lt h
  have hs : (⟨l.toArray⟩ : ByteArray).size = l.length := by simp [ByteArray.size]
  have HI2 : Unit → ∀ (k : Nat) (c : UInt8), l[k]? = some c → ∀ w, (Instr.index 9 (.string ⟨l.toArray⟩) (.int .i64 (k : Int))).run Tryd.prog w = .ok (.int .u8 (c.toNat : Int)) w := fun _ k c hk => at_text _ k c hk (k : Int) rfl
  have HU2 : Unit → ∀ k : Nat, k ≤ l.length → ∀ w, (Instr.slice 9 (.string ⟨l.toArray⟩) none (some (.int .i64 (k : Int))) none).run Tryd.prog w = .ok (.string ⟨(l.take k).toArray⟩) w := fun _ k hk => cut_upto _ k hk (k : Int) rfl
  have HC2 : Unit → ∀ k : Nat, k ≤ l.length → ∀ w, (Instr.slice 9 (.string ⟨l.toArray⟩) (some (.int .i64 (k : Int))) none none).run Tryd.prog w = .ok (.string ⟨(l.drop k).toArray⟩) w := fun _ k hk => cut_text _ k hk (k : Int) rfl
  have cr := h.rest
  generalize hX : (⟨l.toArray⟩ : ByteArray) = X at *
  have HX : Unit → (⟨l.toArray⟩ : ByteArray) = X := fun _ => hX
  clear hX
  go_enter Tryd.func50, Tryd.ntmps50
  go_upto_region 2 with fail
  have rV := Rw.new w 29 zero5
  have hb1 : Below w.heap.size w (w.alloc (.cells zero5.toArray 29)) := (Below.refl _ _).alloc (Nat.le_refl _) _
  replace h := h.stay hb1
  have a1 : Asd (· = R) w (w.alloc (.cells zero5.toArray 29)) := Asd.of_below hb1
  replace hm := hm.keep (S := fun _ => False) (Asd.of_below hb1) (fun e => e)
  replace cr := h.rest
  rw [HX ()] at cr
  have cm := h.words
  have f0 := Rw.frozen h 0
  clear hb1
  generalize w.alloc (.cells zero5.toArray 29) = W1 at *
  generalize hV : w.heap.size = V at *
  have HV : Unit → w.heap.size = V := fun _ => hV
  clear hV
  go_loopw [4] (fun i wr => ∃ k : Nat, k ≤ l.length ∧ i = .int .i64 (k : Int) ∧ Hid (∀ j c, j < k → l[j]? = some c → isLow c = true) ∧ wr = W1) (fun i _ => l.length - (intOf i).toNat)
  case atStart => exact ⟨0, by omega, rfl, fun j c hj => by omega, rfl⟩
  case round =>
    obtain ⟨k, hk, rfl, hdig, rfl⟩ := hrel
    have hend : (∃ c, l[k]? = some c ∧ isLow c = true) ∨ (∀ c, l[k]? = some c → isLow c = false) := by
      cases hc : l[k]? with
      | none => exact .inr (fun c e => by cases e)
      | some c =>
        cases hd : isLow c with
        | true => exact .inl ⟨c, rfl, hd⟩
        | false => exact .inr (fun c' e => by injection e with e; rw [← e]; exact hd)
    rcases hend with ⟨c, hc, hd⟩ | hend
    · have hklt : k < l.length := (List.getElem?_eq_some_iff.1 hc).1
      have hi := HI2 () k c hc
      have Hnx : Unit → Hid (∀ j c, j < k + 1 → l[j]? = some c → isLow c = true) := fun _ j c' hj hc' => by
        by_cases e : j = k
        · subst e
          rw [hc] at hc'; injection hc' with e; rw [← e]; exact hd
        · exact hdig.out j c' (by omega) hc'
      have hlt : (k : Int) < (l.length : Int) := by omega
      have hd1 : (97 : Int) ≤ (c.toNat : Int) ∧ (c.toNat : Int) ≤ 122 := by unfold isLow at hd; simp at hd; omega
      obtain ⟨hd2, hd3⟩ := hd1
      clear hdig hc hd
      go_wp2_with fail
      go_roundw
      case rel => exact ⟨k + 1, by omega, by go_num, Hnx (), trivial⟩
      case measure => simp [intOf]; omega
    · have hlast : k = l.length ∨ ∃ c, l[k]? = some c ∧ ((c.toNat : Int) < 97 ∨ 97 ≤ (c.toNat : Int) ∧ 122 < (c.toNat : Int)) ∧ k < l.length := by
        by_cases e : k < l.length
        · have hh := hend _ (List.getElem?_eq_getElem e)
          refine .inr ⟨_, List.getElem?_eq_getElem e, ?_, e⟩
          unfold isLow at hh
          simp at hh
          omega
        · exact .inl (by omega)
      obtain ⟨h2, h3⟩ := low_letters l k hdig.out hk hend
      have hu := HU2 () k hk
      have hct := HC2 () k hk
      have Hok : Unit → ∀ v, wordV (l.take k) = some v → wordC l = .ok (cells5 v 0 [] (.slice none 0 0) (.slice none 0 0)) (l.drop k) := fun _ v => wordC_ok h2 h3
      have Hbad : Unit → wordV (l.take k) = none → wordC l = .err 2 := fun _ => wordC_bad h2
      have hlk := word_look (l.take k) wr.drew mb (hm.keep (S := fun _ => False) ((Asd.refl _ _).drew) (fun e => e))
      clear hend hdig h2 h3 hm
      cases hx : wordV (l.take k) with
      | some v =>
        have HO : Unit → wordC l = .ok (cells5 v 0 [] (.slice none 0 0) (.slice none 0 0)) (l.drop k) := fun _ => Hok () v hx
        rw [hx] at hlk
        clear Hok Hbad hx
        generalize (⟨(l.take k).toArray⟩ : ByteArray) = Y at *
        generalize l.drop k = rest at *
        have hcw : Cw wr R mb X Y v true wr.drew := ⟨⟨_, rfl⟩, cr, cm, hlk⟩
        clear hlk
        rcases hlast with hkk | ⟨c, hc, hd, hklt⟩
        · have hlt : ¬ (k : Int) < (l.length : Int) := by omega
          clear hkk
          go_upto_region 4 with fail
          try simp only [List.append_eq, List.cons_append, List.nil_append]
          refine region_class (fun w' => Cw wr R mb X Y v true w') (by kernel_rfl) (by kernel_rfl) (hcw) ?_
          repeat
            first
            | go_big_quiet_skip
            | (go_big_quiet_want
               refine quiet_val ?_
               apply Exists.intro
               refine ⟨fun w' hw' => ?_, ?_⟩
               · obtain ⟨_, e0, e2, e3⟩ := hw'
                 go_simp
                 first | done | rfl | exact ⟨rfl, rfl⟩
               simp only [Act.put, List.setIfInBounds_toArray, List.set_cons_zero, List.set_cons_succ]
               go_big_quiet_on)
            | (go_big_quiet_want
               refine quiet_call ?_
               apply Exists.intro
               apply Exists.intro
               refine ⟨fun w' => ?_, ?_⟩
               · go_simp
                 first | done | rfl | exact ⟨rfl, rfl⟩
               apply Exists.intro
               refine ⟨fun w' hw' => ?_, ?_⟩
               · first
                 | fail
               simp only [Act.put, List.setIfInBounds_toArray, List.set_cons_zero, List.set_cons_succ]
               go_big_quiet_on)
          refine wpQuiet_nil ?_
          intro w5 hw5
          replace h := h.stay (Drew.below hw5.1)
          replace rV := rV.stay (Drew.below hw5.1)
          replace a1 := a1.below (Drew.below hw5.1)
          clear hw5 hcw cr cm f0
          have cr3 := h.rest
          rw [HX ()] at cr3
          have f3 := Rw.frozen h 0
          have hq3 := h
          go_wp2_with (refine store_arr V 29 zero5 (rV.other (by omega) _ _) 5 rfl 29 (by kernel_rfl) (cells5 v 0 [] (.slice none 0 0) (.slice none 0 0)) rfl (one5 _ _ _ rfl rfl) _ _ rfl rfl rfl rfl ?_)
          refine ret_val V 29 _ ((rV.other (by omega) _ _).row _) rfl _ rfl rfl rfl rfl ?_
          refine ⟨?_, by first | (refine Asd.setRow ?_ (.inr ?_) _; exact a1.set1 _ _; rw [HV ()]; exact Nat.le_refl _)⟩
          rw [HO ()]
          exact ⟨rfl, Rw.rowOther (hq3.set _) (by omega) _⟩
        · have hi := HI2 () k c hc
          have hlt : (k : Int) < (l.length : Int) := by omega
          clear hc
          rcases hd with hd | ⟨hd1, hd⟩
          · go_upto_region 4 with fail
            try simp only [List.append_eq, List.cons_append, List.nil_append]
            refine region_class (fun w' => Cw wr R mb X Y v true w') (by kernel_rfl) (by kernel_rfl) (hcw) ?_
            repeat
              first
              | go_big_quiet_skip
              | (go_big_quiet_want
                 refine quiet_val ?_
                 apply Exists.intro
                 refine ⟨fun w' hw' => ?_, ?_⟩
                 · obtain ⟨_, e0, e2, e3⟩ := hw'
                   go_simp
                   first | done | rfl | exact ⟨rfl, rfl⟩
                 simp only [Act.put, List.setIfInBounds_toArray, List.set_cons_zero, List.set_cons_succ]
                 go_big_quiet_on)
              | (go_big_quiet_want
                 refine quiet_call ?_
                 apply Exists.intro
                 apply Exists.intro
                 refine ⟨fun w' => ?_, ?_⟩
                 · go_simp
                   first | done | rfl | exact ⟨rfl, rfl⟩
                 apply Exists.intro
                 refine ⟨fun w' hw' => ?_, ?_⟩
                 · first
                   | fail
                 simp only [Act.put, List.setIfInBounds_toArray, List.set_cons_zero, List.set_cons_succ]
                 go_big_quiet_on)
            refine wpQuiet_nil ?_
            intro w5 hw5
            replace h := h.stay (Drew.below hw5.1)
            replace rV := rV.stay (Drew.below hw5.1)
            replace a1 := a1.below (Drew.below hw5.1)
            clear hw5 hcw cr cm f0
            have cr3 := h.rest
            rw [HX ()] at cr3
            have f3 := Rw.frozen h 0
            have hq3 := h
            go_wp2_with (refine store_arr V 29 zero5 (rV.other (by omega) _ _) 5 rfl 29 (by kernel_rfl) (cells5 v 0 [] (.slice none 0 0) (.slice none 0 0)) rfl (one5 _ _ _ rfl rfl) _ _ rfl rfl rfl rfl ?_)
            refine ret_val V 29 _ ((rV.other (by omega) _ _).row _) rfl _ rfl rfl rfl rfl ?_
            refine ⟨?_, by first | (refine Asd.setRow ?_ (.inr ?_) _; exact a1.set1 _ _; rw [HV ()]; exact Nat.le_refl _)⟩
            rw [HO ()]
            exact ⟨rfl, Rw.rowOther (hq3.set _) (by omega) _⟩
          · go_upto_region 4 with fail
            try simp only [List.append_eq, List.cons_append, List.nil_append]
            refine region_class (fun w' => Cw wr R mb X Y v true w') (by kernel_rfl) (by kernel_rfl) (hcw) ?_
            repeat
              first
              | go_big_quiet_skip
              | (go_big_quiet_want
                 refine quiet_val ?_
                 apply Exists.intro
                 refine ⟨fun w' hw' => ?_, ?_⟩
                 · obtain ⟨_, e0, e2, e3⟩ := hw'
                   go_simp
                   first | done | rfl | exact ⟨rfl, rfl⟩
                 simp only [Act.put, List.setIfInBounds_toArray, List.set_cons_zero, List.set_cons_succ]
                 go_big_quiet_on)
              | (go_big_quiet_want
                 refine quiet_call ?_
                 apply Exists.intro
                 apply Exists.intro
                 refine ⟨fun w' => ?_, ?_⟩
                 · go_simp
                   first | done | rfl | exact ⟨rfl, rfl⟩
                 apply Exists.intro
                 refine ⟨fun w' hw' => ?_, ?_⟩
                 · first
                   | fail
                 simp only [Act.put, List.setIfInBounds_toArray, List.set_cons_zero, List.set_cons_succ]
                 go_big_quiet_on)
            refine wpQuiet_nil ?_
            intro w5 hw5
            replace h := h.stay (Drew.below hw5.1)
            replace rV := rV.stay (Drew.below hw5.1)
            replace a1 := a1.below (Drew.below hw5.1)
            clear hw5 hcw cr cm f0
            have cr3 := h.rest
            rw [HX ()] at cr3
            have f3 := Rw.frozen h 0
            have hq3 := h
            go_wp2_with (refine store_arr V 29 zero5 (rV.other (by omega) _ _) 5 rfl 29 (by kernel_rfl) (cells5 v 0 [] (.slice none 0 0) (.slice none 0 0)) rfl (one5 _ _ _ rfl rfl) _ _ rfl rfl rfl rfl ?_)
            refine ret_val V 29 _ ((rV.other (by omega) _ _).row _) rfl _ rfl rfl rfl rfl ?_
            refine ⟨?_, by first | (refine Asd.setRow ?_ (.inr ?_) _; exact a1.set1 _ _; rw [HV ()]; exact Nat.le_refl _)⟩
            rw [HO ()]
            exact ⟨rfl, Rw.rowOther (hq3.set _) (by omega) _⟩
      | none =>
        have HE : Unit → wordC l = .err 2 := fun _ => Hbad () hx
        rw [hx] at hlk
        clear Hok Hbad hx
        generalize (⟨(l.take k).toArray⟩ : ByteArray) = Y at *
        have hcw : Cw wr R mb X Y 0 false wr.drew := ⟨⟨_, rfl⟩, cr, cm, hlk⟩
        clear hlk
        rcases hlast with hkk | ⟨c, hc, hd, hklt⟩
        · have hlt : ¬ (k : Int) < (l.length : Int) := by omega
          clear hkk
          go_upto_region 4 with fail
          try simp only [List.append_eq, List.cons_append, List.nil_append]
          refine region_class (fun w' => Cw wr R mb X Y 0 false w') (by kernel_rfl) (by kernel_rfl) (hcw) ?_
          repeat
            first
            | go_big_quiet_skip
            | (go_big_quiet_want
               refine quiet_val ?_
               apply Exists.intro
               refine ⟨fun w' hw' => ?_, ?_⟩
               · obtain ⟨_, e0, e2, e3⟩ := hw'
                 go_simp
                 first | done | rfl | exact ⟨rfl, rfl⟩
               simp only [Act.put, List.setIfInBounds_toArray, List.set_cons_zero, List.set_cons_succ]
               go_big_quiet_on)
            | (go_big_quiet_want
               refine quiet_call ?_
               apply Exists.intro
               apply Exists.intro
               refine ⟨fun w' => ?_, ?_⟩
               · go_simp
                 first | done | rfl | exact ⟨rfl, rfl⟩
               apply Exists.intro
               refine ⟨fun w' hw' => ?_, ?_⟩
               · first
                 | fail
               simp only [Act.put, List.setIfInBounds_toArray, List.set_cons_zero, List.set_cons_succ]
               go_big_quiet_on)
          refine wpQuiet_nil ?_
          intro w5 hw5
          replace h := h.stay (Drew.below hw5.1)
          replace rV := rV.stay (Drew.below hw5.1)
          replace a1 := a1.below (Drew.below hw5.1)
          clear hw5 hcw cr cm f0
          have cr3 := h.rest
          rw [HX ()] at cr3
          have f3 := Rw.frozen h 0
          have hq3 := h
          go_wp2_with (refine store_arr V 29 zero5 rV 5 rfl 29 (by kernel_rfl) zero5 rfl (one5 _ _ _ rfl rfl) _ _ rfl rfl rfl rfl ?_)
          refine ret_val V 29 zero5 (rV.row _) rfl _ rfl rfl rfl rfl ?_
          refine ⟨?_, by first | (refine Asd.setRow ?_ (.inr ?_) _; exact a1; rw [HV ()]; exact Nat.le_refl _)⟩
          rw [HE ()]
          exact ⟨_, rfl, Rw.rowOther hq3 (by omega) _⟩
        · have hi := HI2 () k c hc
          have hlt : (k : Int) < (l.length : Int) := by omega
          clear hc
          rcases hd with hd | ⟨hd1, hd⟩
          · go_upto_region 4 with fail
            try simp only [List.append_eq, List.cons_append, List.nil_append]
            refine region_class (fun w' => Cw wr R mb X Y 0 false w') (by kernel_rfl) (by kernel_rfl) (hcw) ?_
            repeat
              first
              | go_big_quiet_skip
              | (go_big_quiet_want
                 refine quiet_val ?_
                 apply Exists.intro
                 refine ⟨fun w' hw' => ?_, ?_⟩
                 · obtain ⟨_, e0, e2, e3⟩ := hw'
                   go_simp
                   first | done | rfl | exact ⟨rfl, rfl⟩
                 simp only [Act.put, List.setIfInBounds_toArray, List.set_cons_zero, List.set_cons_succ]
                 go_big_quiet_on)
              | (go_big_quiet_want
                 refine quiet_call ?_
                 apply Exists.intro
                 apply Exists.intro
                 refine ⟨fun w' => ?_, ?_⟩
                 · go_simp
                   first | done | rfl | exact ⟨rfl, rfl⟩
                 apply Exists.intro
                 refine ⟨fun w' hw' => ?_, ?_⟩
                 · first
                   | fail
                 simp only [Act.put, List.setIfInBounds_toArray, List.set_cons_zero, List.set_cons_succ]
                 go_big_quiet_on)
            refine wpQuiet_nil ?_
            intro w5 hw5
            replace h := h.stay (Drew.below hw5.1)
            replace rV := rV.stay (Drew.below hw5.1)
            replace a1 := a1.below (Drew.below hw5.1)
            clear hw5 hcw cr cm f0
            have cr3 := h.rest
            rw [HX ()] at cr3
            have f3 := Rw.frozen h 0
            have hq3 := h
            go_wp2_with (refine store_arr V 29 zero5 rV 5 rfl 29 (by kernel_rfl) zero5 rfl (one5 _ _ _ rfl rfl) _ _ rfl rfl rfl rfl ?_)
            refine ret_val V 29 zero5 (rV.row _) rfl _ rfl rfl rfl rfl ?_
            refine ⟨?_, by first | (refine Asd.setRow ?_ (.inr ?_) _; exact a1; rw [HV ()]; exact Nat.le_refl _)⟩
            rw [HE ()]
            exact ⟨_, rfl, Rw.rowOther hq3 (by omega) _⟩
          · go_upto_region 4 with fail
            try simp only [List.append_eq, List.cons_append, List.nil_append]
            refine region_class (fun w' => Cw wr R mb X Y 0 false w') (by kernel_rfl) (by kernel_rfl) (hcw) ?_
            repeat
              first
              | go_big_quiet_skip
              | (go_big_quiet_want
                 refine quiet_val ?_
                 apply Exists.intro
                 refine ⟨fun w' hw' => ?_, ?_⟩
                 · obtain ⟨_, e0, e2, e3⟩ := hw'
                   go_simp
                   first | done | rfl | exact ⟨rfl, rfl⟩
                 simp only [Act.put, List.setIfInBounds_toArray, List.set_cons_zero, List.set_cons_succ]
                 go_big_quiet_on)
              | (go_big_quiet_want
                 refine quiet_call ?_
                 apply Exists.intro
                 apply Exists.intro
                 refine ⟨fun w' => ?_, ?_⟩
                 · go_simp
                   first | done | rfl | exact ⟨rfl, rfl⟩
                 apply Exists.intro
                 refine ⟨fun w' hw' => ?_, ?_⟩
                 · first
                   | fail
                 simp only [Act.put, List.setIfInBounds_toArray, List.set_cons_zero, List.set_cons_succ]
                 go_big_quiet_on)
            refine wpQuiet_nil ?_
            intro w5 hw5
            replace h := h.stay (Drew.below hw5.1)
            replace rV := rV.stay (Drew.below hw5.1)
            replace a1 := a1.below (Drew.below hw5.1)
            clear hw5 hcw cr cm f0
            have cr3 := h.rest
            rw [HX ()] at cr3
            have f3 := Rw.frozen h 0
            have hq3 := h
            go_wp2_with (refine store_arr V 29 zero5 rV 5 rfl 29 (by kernel_rfl) zero5 rfl (one5 _ _ _ rfl rfl) _ _ rfl rfl rfl rfl ?_)
            refine ret_val V 29 zero5 (rV.row _) rfl _ rfl rfl rfl rfl ?_
            refine ⟨?_, by first | (refine Asd.setRow ?_ (.inr ?_) _; exact a1; rw [HV ()]; exact Nat.le_refl _)⟩
            rw [HE ()]
            exact ⟨_, rfl, Rw.rowOther hq3 (by omega) _⟩
end Go.Proofs.YtbkkcojfgdjbhaaDoor
