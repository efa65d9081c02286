/- A value: the walk. -/
import Derived.Test.YtbkkcojfgdjbhaaDoorJKids
import Derived.Defers
namespace Go.Proofs.YtbkkcojfgdjbhaaDoor
open Go.ChangeShapes Go.WideShapes Go.RowKit

set_option maxHeartbeats 400000 in
theorem skip_later (R : Nat) (l : Bs) (n : Nat) (M : Value) (u : FrameMode) (w : World) (h : Rq w R l n M) :
    CallsD Tryd.prog 30 #[.pointer (some ⟨R, 0, none⟩)] u w fun e u' w' => u' = u ∧ (e = .returned (.tuple #[]) ∧ Rq w' R (skipB l) n M ∧ Asd (· = R) w w') := by
  have c0 := h.rest
  have K := Lib.hid (trim_any l w)
  generalize skipB l = l2 at *
  go_enter_d Tryd.func30, Tryd.ntmps30
  go_wp2_with fail
  with_reducible refine K.out.mono ?_
  rintro e w1 ⟨rfl, hb⟩
  replace h := h.stay hb
  have f0 := Rw.frozen h 0
  have c1 := h.rest
  clear c0 K
  go_wp2_with fail
  go_end0
  exact ⟨rfl, h.set l2, (Asd.of_below hb).set1 _ _⟩
/-- The door of value: blanks are passed over, then the results are read. -/
theorem val_door {a : Act} {w : World} {Q : Ending → World → Prop} (R : Nat) (l : Bs) (n : Nat) (M : Value) (hq : Rq w R l n M) (g : Nat) (t : TypeId) (cs : List Value) (hr : Rw w g t cs) (hn : cs.length = 5) (e : Value) (hgR : g ≠ R)
    (hd : a.defers = [{ target := .fn (.func 30) #[], args := #[.pointer (some ⟨R, 0, none⟩)] }]) (hp : a.tmps.getD 4 undef = .pointer (some ⟨g, 0, none⟩)) (hu : a.tmps.getD 5 undef = e)
    (h : ∀ w', Rq w' R (skipB l) n M → Asd (· = R) w w' → Q (.returned (.tuple #[.agg cs.toArray, e])) w') : bodyPostD Tryd.prog Tryd.f31 Q .ret a w := by
  show Leaves Tryd.prog _ a.tmps Q a.defers .returning w
  rw [hd]
  refine leaves_cons (f := 30) (args := #[.pointer (some ⟨R, 0, none⟩)]) (by simp) (by simp [go_sem]) ?_
  refine (skip_later R l n M .returning w hq).mono ?_
  rintro e1 u' w' ⟨rfl, rfl, hq', a'⟩
  have hr' := hr.keep a' hgR
  refine ⟨.tuple #[.agg cs.toArray, e], ?_, h w' hq' a'⟩
  rw [results_cell_tmp (p := 4) (u := 5) (ty := 29) (by rfl), hp]
  have := run_loadVar_row (P := Tryd.prog) w' g t 29 cs.toArray (0, 0) _ hr' Tryd.underlying29 rfl (by rw [show cs.toArray.size = 5 by simp [hn]]; kernel_rfl)
  simp [asAddr, this, ← hu]
set_option maxHeartbeats 3200000 in
set_option maxRecDepth 100000 in
theorem val_full (d R mb : Nat) (l : Bs) (w : World) (hq : Rq w R l 400 (.map (some mb))) :
    Calls Tryd.prog 31 #[.pointer (some ⟨R, 0, none⟩), .int .i64 (6 - (d : Int))] w (ValQ R mb w d (valN d l 400)) := by
  have hz := zero_val
  have hRw := Rw.lt hq
  have hv : valN d l 400 = .err 4 := by cases d <;> (unfold valN; simp)
  rw [hv]
  have c1 : w.cell? ⟨R, 1, none⟩ = some (.int .i64 400) := hq.count
  go_enter_defers Tryd.func31, Tryd.ntmps31
  go_upto_region 2 with fail
  have rN := Rw.new w 29 zero5
  have hb1 : Below w.heap.size w (w.alloc (.cells zero5.toArray 29)) := (Below.refl _ _).alloc (Nat.le_refl _) _
  replace hq := hq.stay hb1
  have a1 : Asd (· = R) w (w.alloc (.cells zero5.toArray 29)) := Asd.of_below hb1
  replace c1 : (w.alloc (.cells zero5.toArray 29)).cell? ⟨R, 1, none⟩ = some (.int .i64 400) := hq.count
  clear hb1
  generalize w.alloc (.cells zero5.toArray 29) = W1 at *
  generalize hN : w.heap.size = N at *
  have HN : Unit → w.heap.size = N := fun _ => hN
  clear hN
  go_wp2_with (refine store_arr N 29 zero5 rN 5 rfl 29 (by kernel_rfl) zero5 rfl (one5 _ _ _ rfl rfl) _ _ rfl rfl rfl rfl ?_)
  refine val_door R l 400 (.map (some mb)) (Rw.rowOther hq (by omega) _) N 29 zero5 (rN.row _) rfl _ (by omega) rfl rfl rfl ?_
  intro w' hq' a'
  exact ⟨⟨⟨zero5, rfl, rfl, one5 _ _ _ rfl rfl, rfl⟩, _, _, hq'⟩, (a1.setRow (.inr (by rw [HN ()]; exact Nat.le_refl _)) _).andThen a'⟩
theorem val_step (d : Nat) (c : UInt8) (r : Bs) (n : Nat) (hn : n ≠ 400) : valN d (c :: r) n = (if c = 34 then (textV (c :: r)).count (n + 1) else if c = 91 then kidsN d 5 r (n + 1) else if c = 123 then kidsN d 6 r (n + 1) else if c = 45 ∨ isDig c = true then (numN (c :: r)).count (n + 1) else (wordN (c :: r)).count (n + 1)).skip := by
  cases d <;> (rw [valN, if_neg hn]; rfl)
theorem num_split (l : Bs) : (∃ v r, numN l = .ok (.mk 3 v [] [] []) r ∧ numC l = .ok (cells5 3 v [] (.slice none 0 0) (.slice none 0 0)) r) ∨ (numN l = .err 2 ∧ numC l = .err 2) := by
  have key : (∃ v r, numN l = .ok (.mk 3 v [] [] []) r) ∨ numN l = .err 2 := by
    unfold numN
    simp only
    split
    · split
      · exact .inl ⟨_, _, rfl⟩
      · exact .inr rfl
    · exact .inr rfl
  rcases key with ⟨v, r, e⟩ | e
  · exact .inl ⟨v, r, e, by unfold numC; rw [e]⟩
  · exact .inr ⟨e, by unfold numC; rw [e]⟩
theorem word_split (l : Bs) : (∃ v r, wordN l = .ok (.mk v 0 [] [] []) r ∧ wordC l = .ok (cells5 v 0 [] (.slice none 0 0) (.slice none 0 0)) r) ∨ (wordN l = .err 2 ∧ wordC l = .err 2) := by
  have key : (∃ v r, wordN l = .ok (.mk v 0 [] [] []) r) ∨ wordN l = .err 2 := by
    unfold wordN
    split
    · exact .inl ⟨_, _, rfl⟩
    · exact .inr rfl
  rcases key with ⟨v, r, e⟩ | e
  · exact .inl ⟨v, r, e, by unfold wordC; rw [e]⟩
  · exact .inr ⟨e, by unfold wordC; rw [e]⟩
/-- The contract of kids, as value calls it. -/
def KCt (d : Nat) : Prop := ∀ (R mb kN : Nat) (oc : UInt8) (l : Bs) (n : Nat) (w : World), Rq w R (oc :: l) n (.map (some mb)) → Env w → Wm w mb → 10 ≤ R → mb ≠ R → l.length ≤ 1000000 → n ≤ 400 → kN < 7 → [0, 0, 0, 0, 0, 91, 123][kN]? = some oc.toNat → [0, 0, 0, 0, 0, 93, 125][kN]? = some (clN (kN : Int)).toNat →
    Calls Tryd.prog 47 #[.pointer (some ⟨R, 0, none⟩), .int .i64 (kN : Int), .int .i64 (6 - (d : Int))] w (ValQ R mb w d (kidsN d (kN : Int) l n))
end Go.Proofs.YtbkkcojfgdjbhaaDoor
