/- The document's pattern reader: its memory; next, fail. -/
import Derived.Test.YteooofakpkbgoaaDoorQNode
import Derived.Test.YteooofakpkbgoaaDoorPB
namespace Go.Proofs.YteooofakpkbgoaaDoor.Dn
open Go.ChangeShapes Go.WideShapes Go.RowKit

/-- The document's reader: its text, how far it is read, the first error. -/
def Rd (w : World) (R : Nat) (s : Bs) (K : Nat) (E : Int) : Prop := Rw w R 82 [sv s, .int .i64 (K : Int), .int .i64 E]
section
variable {w w' : World} {R K : Nat} {s : Bs} {E : Int}
theorem Rd.text (h : Rd w R s K E) : w.cell? ⟨R, 0, none⟩ = some (.string ⟨s.toArray⟩) := Rw.cell h 0
theorem Rd.pos (h : Rd w R s K E) : w.cell? ⟨R, 1, none⟩ = some (.int .i64 (K : Int)) := Rw.cell h 1
theorem Rd.err (h : Rd w R s K E) : w.cell? ⟨R, 2, none⟩ = some (.int .i64 E) := Rw.cell h 2
theorem Rd.go (h : Rd w R s K E) (K' : Nat) : Rd (w.setCell ⟨R, 1, none⟩ (.int .i64 (K' : Int))) R s K' E := Rw.setCell h 1 _
theorem Rd.mark (h : Rd w R s K E) (E' : Int) : Rd (w.setCell ⟨R, 2, none⟩ (.int .i64 E')) R s K E' := Rw.setCell h 2 _
theorem Rd.stay (h : Rd w R s K E) (k : Below w.heap.size w w') : Rd w' R s K E := Rw.stay h k
theorem Rd.keep {S : Nat → Prop} (h : Rd w R s K E) (k : Asd S w w') (hs : ¬ S R) : Rd w' R s K E := Rw.keep h k hs
end
/-- What stands next. -/
def nextN (s : Bs) (K : Nat) (E : Int) : Option UInt8 := if E = 0 then s[K]? else none
def nextV : Option UInt8 → Value
  | none => .tuple #[.int .u8 0, .bool false]
  | some c => .tuple #[.int .u8 (c.toNat : Int), .bool true]
set_option maxHeartbeats 1600000 in
set_option maxRecDepth 100000 in
theorem next_any (R : Nat) (s : Bs) (K : Nat) (E : Int) (w : World) (h : Rd w R s K E) :
    Calls Tryd.prog 71 #[.pointer (some ⟨R, 0, none⟩)] w fun e w' => e = .returned (nextV (nextN s K E)) ∧ Below w.heap.size w w' := by
  have c0 := h.text
  have c1 := h.pos
  have c2 := h.err
  have hs : (⟨s.toArray⟩ : ByteArray).size = s.length := by simp [ByteArray.size]
  unfold nextN
  by_cases hE : E = 0
  · subst hE
    rw [if_pos rfl]
    by_cases hk : K < s.length
    · obtain ⟨c, hc⟩ : ∃ c, s[K]? = some c := ⟨_, List.getElem?_eq_getElem hk⟩
      rw [hc]
      have hi := at_text s K c hc (K : Int) rfl
      have hl : ¬ (s.length : Int) ≤ (K : Int) := by omega
      clear hc h
      generalize (⟨s.toArray⟩ : ByteArray) = X at *
      generalize s.length = n at *
      go_enter Tryd.func71, Tryd.ntmps71
      go_upto_region 1 with fail
      try simp only [List.append_eq, List.cons_append, List.nil_append]
      refine region_class (fun w' => Below w.heap.size w w' ∧ w'.cell? ⟨R, 0, none⟩ = some (.string X) ∧ w'.cell? ⟨R, 1, none⟩ = some (.int .i64 (K : Int)) ∧ w'.cell? ⟨R, 2, none⟩ = some (.int .i64 0)) (by kernel_rfl) (by kernel_rfl) (⟨(Below.refl _ _).drew, c0, c1, c2⟩) ?_
      repeat
        first
        | go_big_quiet_skip
        | (go_big_quiet_want
           refine quiet_val ?_
           apply Exists.intro
           refine ⟨fun w' hw' => ?_, ?_⟩
           · obtain ⟨_, e0, e1, e2⟩ := hw'
             go_simp
             first | done | rfl | exact ⟨rfl, rfl⟩
           simp only [Act.put, List.setIfInBounds_toArray, List.set_cons_zero, List.set_cons_succ]
           go_big_quiet_on)
        | (go_big_quiet_want
           refine quiet_call ?_
           apply Exists.intro
           apply Exists.intro
           refine ⟨fun w' => ?_, ?_⟩
           · go_simp
             first | done | rfl | exact ⟨rfl, rfl⟩
           apply Exists.intro
           refine ⟨fun w' hw' => ?_, ?_⟩
           · first
             | fail
           simp only [Act.put, List.setIfInBounds_toArray, List.set_cons_zero, List.set_cons_succ]
           go_big_quiet_on)
      refine wpQuiet_nil ?_
      intro w5 hw5
      obtain ⟨hb, c3, c4, c5⟩ := hw5
      clear c0 c1 c2
      go_upto_region 3 with fail
      try simp only [List.append_eq, List.cons_append, List.nil_append]
      refine region_class (fun w' => Below w.heap.size w w' ∧ w'.cell? ⟨R, 0, none⟩ = some (.string X) ∧ w'.cell? ⟨R, 1, none⟩ = some (.int .i64 (K : Int))) (by kernel_rfl) (by kernel_rfl) (⟨hb.drew, c3, c4⟩) ?_
      repeat
        first
        | go_big_quiet_skip
        | (go_big_quiet_want
           refine quiet_val ?_
           apply Exists.intro
           refine ⟨fun w' hw' => ?_, ?_⟩
           · obtain ⟨_, e0, e1⟩ := hw'
             go_simp
             first | done | rfl | exact ⟨rfl, rfl⟩
           simp only [Act.put, List.setIfInBounds_toArray, List.set_cons_zero, List.set_cons_succ]
           go_big_quiet_on)
        | (go_big_quiet_want
           refine quiet_call ?_
           apply Exists.intro
           apply Exists.intro
           refine ⟨fun w' => ?_, ?_⟩
           · go_simp
             first | done | rfl | exact ⟨rfl, rfl⟩
           apply Exists.intro
           refine ⟨fun w' hw' => ?_, ?_⟩
           · first
             | fail
           simp only [Act.put, List.setIfInBounds_toArray, List.set_cons_zero, List.set_cons_succ]
           go_big_quiet_on)
      refine wpQuiet_nil ?_
      intro w5 hw5
      have hb2 := hw5.1
      go_wp2_with fail
      refine bodyPost_ret (results_tmp2 rfl _ _ _) rfl ?_
      exact ⟨rfl, hb2⟩
    · rw [List.getElem?_eq_none (by omega)]
      have hl : (s.length : Int) ≤ (K : Int) := by omega
      clear h
      generalize (⟨s.toArray⟩ : ByteArray) = X at *
      generalize s.length = n at *
      go_enter Tryd.func71, Tryd.ntmps71
      go_upto_region 1 with fail
      try simp only [List.append_eq, List.cons_append, List.nil_append]
      refine region_class (fun w' => Below w.heap.size w w' ∧ w'.cell? ⟨R, 0, none⟩ = some (.string X) ∧ w'.cell? ⟨R, 1, none⟩ = some (.int .i64 (K : Int)) ∧ w'.cell? ⟨R, 2, none⟩ = some (.int .i64 0)) (by kernel_rfl) (by kernel_rfl) (⟨(Below.refl _ _).drew, c0, c1, c2⟩) ?_
      repeat
        first
        | go_big_quiet_skip
        | (go_big_quiet_want
           refine quiet_val ?_
           apply Exists.intro
           refine ⟨fun w' hw' => ?_, ?_⟩
           · obtain ⟨_, e0, e1, e2⟩ := hw'
             go_simp
             first | done | rfl | exact ⟨rfl, rfl⟩
           simp only [Act.put, List.setIfInBounds_toArray, List.set_cons_zero, List.set_cons_succ]
           go_big_quiet_on)
        | (go_big_quiet_want
           refine quiet_call ?_
           apply Exists.intro
           apply Exists.intro
           refine ⟨fun w' => ?_, ?_⟩
           · go_simp
             first | done | rfl | exact ⟨rfl, rfl⟩
           apply Exists.intro
           refine ⟨fun w' hw' => ?_, ?_⟩
           · first
             | fail
           simp only [Act.put, List.setIfInBounds_toArray, List.set_cons_zero, List.set_cons_succ]
           go_big_quiet_on)
      refine wpQuiet_nil ?_
      intro w5 hw5
      have hb := hw5.1
      go_wp2_with fail
      refine bodyPost_ret (results_tmp2 rfl _ _ _) rfl ?_
      exact ⟨rfl, hb⟩
  · rw [if_neg hE]
    have he2 : (E == 0) = false := by rw [beq_eq_false_iff_ne]; exact hE
    have he3 : (E != 0) = true := by simp [bne, he2]
    clear h c0 c1 hs
    go_enter Tryd.func71, Tryd.ntmps71
    go_upto_region 1 with fail
    try simp only [List.append_eq, List.cons_append, List.nil_append]
    refine region_class (fun w' => Below w.heap.size w w' ∧ w'.cell? ⟨R, 2, none⟩ = some (.int .i64 E)) (by kernel_rfl) (by kernel_rfl) (⟨(Below.refl _ _).drew, c2⟩) ?_
    repeat
      first
      | go_big_quiet_skip
      | (go_big_quiet_want
         refine quiet_val ?_
         apply Exists.intro
         refine ⟨fun w' hw' => ?_, ?_⟩
         · obtain ⟨_, e2⟩ := hw'
           go_simp
           first | done | rfl | exact ⟨rfl, rfl⟩
         simp only [Act.put, List.setIfInBounds_toArray, List.set_cons_zero, List.set_cons_succ]
         go_big_quiet_on)
      | (go_big_quiet_want
         refine quiet_call ?_
         apply Exists.intro
         apply Exists.intro
         refine ⟨fun w' => ?_, ?_⟩
         · go_simp
           first | done | rfl | exact ⟨rfl, rfl⟩
         apply Exists.intro
         refine ⟨fun w' hw' => ?_, ?_⟩
         · first
           | fail
         simp only [Act.put, List.setIfInBounds_toArray, List.set_cons_zero, List.set_cons_succ]
         go_big_quiet_on)
    refine wpQuiet_nil ?_
    intro w5 hw5
    have hb := hw5.1
    go_wp2_with fail
    refine bodyPost_ret (results_tmp2 rfl _ _ _) rfl ?_
    exact ⟨rfl, hb⟩
set_option maxHeartbeats 800000 in
theorem fail_any (R K : Nat) (s : Bs) (E x : Int) (w : World) (h : Rd w R s K E) :
    Calls Tryd.prog 53 #[.pointer (some ⟨R, 0, none⟩), .int .i64 x] w fun r w' => r = .returned (.tuple #[]) ∧ Rd w' R s K (if E = 0 then x else E) ∧ Asd (· = R) w w' := by
  have c2 := h.err
  have f2 := Rw.frozen h 2
  by_cases he : E = 0
  · subst he
    have h2 := h.mark x
    go_enter Tryd.func53, Tryd.ntmps53
    go_wp2_with fail
    go_end0
    exact ⟨rfl, by first | exact h2 | (rw [if_pos rfl]; exact h2), Asd.one _ _ _ _⟩
  · have he2 : (E == 0) = false := by rw [beq_eq_false_iff_ne]; exact he
    have h9 := h
    go_enter Tryd.func53, Tryd.ntmps53
    go_wp2_with fail
    go_end0
    exact ⟨rfl, by first | exact h9 | (rw [if_neg he]; exact h9), Asd.refl _ _⟩
end Go.Proofs.YteooofakpkbgoaaDoor.Dn
