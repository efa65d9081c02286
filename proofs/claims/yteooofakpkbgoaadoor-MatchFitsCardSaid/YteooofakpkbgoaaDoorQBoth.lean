/- The document's both: two rows of truths as one. -/
import Derived.Test.YteooofakpkbgoaaDoorQLang
namespace Go.Proofs.YteooofakpkbgoaaDoor.Dn
open Go.ChangeShapes Go.WideShapes Go.RowKit

theorem info_bool : (Tryd.prog.info? 4).map (fun i => (i.zero, i.size, i.bytes)) = some (some (.bool false), 1, 1) := by kernel_rfl
set_option maxRecDepth 100000 in
theorem make_bool (c : Nat) (hc : c ≤ 1000000) (l : Int) (hl : l = (c : Int)) (w : World) :
    (Instr.makeSlice 100 (.int .i64 l) (.int .i64 l)).run Tryd.prog w = .ok (.slice (some ⟨w.heap.size, 0, none⟩) c c) (w.alloc (.cells (rowB c (fun _ => false)).toArray 4)) := by
  subst hl
  have h := info_bool
  cases hq : Tryd.prog.info? 4 with
  | none => rw [hq] at h; cases h
  | some i =>
    rw [hq] at h
    simp only [Option.map_some, Option.some.injEq, Prod.mk.injEq] at h
    obtain ⟨hz, hs, hb⟩ := h
    have := run_make w 100 4 i (.bool false) (by kernel_rfl) hq hz .i64 .i64 (c : Int) (c : Int) (by omega) (by omega) (by rw [hb]; omega) (by omega)
    rw [this, hs, Int.toNat_natCast, Nat.mul_one]
    congr 3
    apply Array.ext
    · simp [size_madeCells, rowB_len]
    · intro j h1 h2
      simp [madeCells, Value.cells, Nat.mod_one, rowB]
/-- What was written so far. -/
def upB (k : Nat) (f : Nat → Bool) (j : Nat) : Bool := decide (j < k) && f j
theorem upB_zero (f : Nat → Bool) : upB 0 f = fun _ => false := by funext j; simp [upB]
theorem upB_step (k : Nat) (f : Nat → Bool) : (fun i => if i = k then f k else upB k f i) = upB (k + 1) f := by
  funext i
  unfold upB
  by_cases e : i = k
  · subst e
    rw [if_pos rfl, decide_eq_true (Nat.lt_succ_self i), Bool.true_and]
  · rw [if_neg e]
    by_cases h : i < k
    · rw [decide_eq_true h, decide_eq_true (by omega : i < k + 1)]
    · rw [decide_eq_false h, decide_eq_false (by omega : ¬ i < k + 1)]
theorem upB_end (n : Nat) (f : Nat → Bool) : rowB n (upB n f) = rowB n f := rowB_ext fun j hj => by simp [upB, hj]
theorem below_asd {w w' : World} (h : Asd (fun _ => False) w w') : Below w.heap.size w w' := ⟨h.os, h.tape, h.output, h.size, fun k hk => h.block k hk (fun e => e)⟩
set_option maxHeartbeats 1600000 in
set_option maxRecDepth 100000 in
theorem both_any (n : Nat) (f g : Nat → Bool) (v u : Value) (w : World) (h : BAt w v n f) (k : BAt w u n g) (hn : n ≤ 2000) :
    Calls Tryd.prog 81 #[v, u] w fun e w' => Below w.heap.size w w' ∧ ∃ v', e = .returned v' ∧ BAt w' v' n (fun j => f j || g j) := by
  obtain ⟨ga, rfl, ra⟩ := h
  obtain ⟨gb, rfl, rb⟩ := k
  have hmk := make_bool n (by omega) (n : Int) rfl w
  go_enter Tryd.func81, Tryd.ntmps81
  go_upto_region 2 with fail
  have ro := Rw.new w 4 (rowB n (fun _ => false))
  have A := Asd.of_below (S := fun _ => False) ((Below.refl w.heap.size w).alloc (Nat.le_refl _) (.cells (rowB n (fun _ => false)).toArray 4))
  generalize w.alloc (.cells (rowB n (fun _ => false)).toArray 4) = w1 at *
  obtain ⟨go, hgo, ego⟩ : ∃ go, w.heap.size ≤ go ∧ w.heap.size = go := ⟨_, Nat.le_refl _, rfl⟩
  rw [ego] at ro
  simp only [ego]
  rw [← upB_zero (fun j => f j || g j)] at ro
  clear hmk
  go_wp2_with fail
  go_loopw [6] (fun iv wr => ∃ i : Nat, i ≤ n ∧ iv = .int .i64 (i : Int) ∧ Rw wr go 4 (rowB n (upB i (fun j => f j || g j))) ∧ Asd (fun _ => False) w wr) (fun iv _ => n - (intOf iv).toNat)
  case atStart => exact ⟨0, by omega, rfl, ro, A⟩
  case round =>
    clear ro A
    obtain ⟨i, hi, rfl, ro, A⟩ := hrel
    by_cases hlt : i < n
    · have hli : (i : Int) < (n : Int) := by omega
      have ca := ((ra.keep A (fun e => e)).cell i).trans (rowB_get f hlt)
      have cb := ((rb.keep A (fun e => e)).cell i).trans (rowB_get g hlt)
      have co := (ro.cell i).trans (rowB_get (upB i (fun j => f j || g j)) hlt)
      have fo := ro.frozen i
      have hst := upB_step i (fun j => f j || g j)
      cases hf : f i with
      | true =>
        rw [hf] at ca
        simp only [hf, Bool.true_or] at hst
        go_wp2_with fail
        go_roundw
        case rel =>
          refine ⟨i + 1, by omega, by go_num, ?_, A.setCell (p := ⟨go, i, none⟩) (.inr hgo) _⟩
          have := ro.setCell i (.bool true)
          rw [rowB_set, hst] at this
          exact this
        case measure => simp [intOf]; omega
      | false =>
        rw [hf] at ca
        simp only [hf, Bool.false_or] at hst
        obtain ⟨b, hb⟩ : ∃ b, g i = b := ⟨_, rfl⟩
        rw [hb] at cb hst
        go_wp2_with fail
        go_roundw
        case rel =>
          refine ⟨i + 1, by omega, by go_num, ?_, A.setCell (p := ⟨go, i, none⟩) (.inr hgo) _⟩
          have := ro.setCell i (.bool b)
          rw [rowB_set, hst] at this
          exact this
        case measure => simp [intOf]; omega
    · have hli : ¬ (i : Int) < (n : Int) := by omega
      obtain rfl : i = n := by omega
      rw [upB_end] at ro
      go_wp2_with fail
      go_ret
      exact ⟨by rw [← ego]; exact below_asd A, _, rfl, go, rfl, ro⟩
end Go.Proofs.YteooofakpkbgoaaDoor.Dn
