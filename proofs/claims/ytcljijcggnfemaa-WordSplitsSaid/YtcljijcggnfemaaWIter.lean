/- The lines of a text, one after the other: the iterator. -/
import Derived.RangeFuncNested
import Derived.RangeFuncBound
import Derived.RangeFuncCalls
import Derived.RangeFuncLeaves
import Derived.Shelf.Abstract
import Derived.Shelf.RegionOpen
import Derived.WalkKit
import Derived.OwnWalkIn
import Derived.TacticsInMore
import Derived.LoopNIn
import Derived.LoopIn
import Derived.Test.YtcljijcggnfemaaWLinesP
namespace Go.Proofs.Ytcljijcggnfemaa
open Go.ChangeShapes Go.WideShapes Go.RowKit Go.Shelf

attribute [local go_sem] Oper.semAt_some

/-- A line, up to a length that no line here has. -/
def tk (x : Nat × Bs) : Bs := x.2.take 400000
def encL (x : Nat × Bs) : Array Value := #[.int .i64 (x.1 : Int), .string ⟨(tk x).toArray⟩]
/-- How much is left. -/
def leftL (r m : Value) : Nat := match m, r with
  | .bool true, .string s => s.size + 1
  | _, _ => 0
theorem leftL_true (r : Bs) : leftL (.string ⟨r.toArray⟩) (.bool true) = r.length + 1 := by simp [leftL, ByteArray.size]
theorem leftL_false (r : Value) : leftL r (.bool false) = 0 := by cases r <;> rfl
theorem numbered_any (l : Bs) (w : World) : Calls Try.prog 18 #[.string ⟨l.toArray⟩] w fun e w' => e = .returned (.func (.func 22) #[] #[.pointer (some ⟨w.heap.size, 0, none⟩)]) ∧ w' = w.alloc (.cells #[.string ⟨l.toArray⟩] 9) := by
  go_enter Try.func18, Try.ntmps18
  go_wp2_with fail
  go_ret
  exact ⟨rfl, rfl⟩
theorem cut_call (l : Bs) (hl : l.length ≤ 1000000) (m : Int) (w : World) (hm : w.cell? ⟨0, 0, none⟩ = some (.int .i64 m)) :
    Calls Try.prog 23 #[.string ⟨l.toArray⟩, .string ⟨#[10]⟩] w fun e w' => e = .returned (.tuple #[.string ⟨(cutC l).1.toArray⟩, .string ⟨(cutC l).2.1.toArray⟩, .bool (cutC l).2.2]) ∧ ∃ n, w' = w.drewN n := by
  have h := Try.strings_Cut ⟨l.toArray⟩ ⟨#[10]⟩ m w (by simp [ByteArray.size]; omega) hm
  rw [show ((⟨l.toArray⟩ : ByteArray).data.toList) = l from rfl, show ((⟨#[10]⟩ : ByteArray).data.toList) = [10] from rfl, cut_eq l] at h
  exact h
set_option maxRecDepth 100000 in
set_option maxHeartbeats 4000000 in
theorem numbered1_in (n : Nat) (hn : 1 ≤ n) (lp Bn n₀ : Nat) (l : Bs) (hl : l.length ≤ 400000) (m : Int) (J Jx : List (Nat × Bs) → World → Prop)
    (hY : ∀ pre x W, J pre W → pre.length < (linesL l).length → YieldAt Fence.wide (n - 1) Try.prog lp (encL x) W fun e W' =>
      (e = .returned (.bool true) ∧ J (pre ++ [x]) W' ∧ Below n₀ W W') ∨ (e = .returned (.bool false) ∧ Jx (pre ++ [x]) W'))
    (W : World) (hJ : AbidesFrom W.heap.size J) (hBn : W.cell? ⟨Bn, 0, none⟩ = some (.string ⟨l.toArray⟩)) (hm : W.cell? ⟨0, 0, none⟩ = some (.int .i64 m)) (hg : 0 < n₀) (h0 : J [] W) :
    CallsIn Fence.wide n Try.prog 22 #[.func (.yield lp) #[] #[], .pointer (some ⟨Bn, 0, none⟩)] W fun e W' => (∃ v, e = .returned v) ∧
      ((∃ ys, ys = numL 1 (linesL l) ∧ J ys W') ∨ (∃ pre, pre <+: numL 1 (linesL l) ∧ Jx pre W')) := by
  refine callsIn_of_wp Try.func22 rfl trivial ?_ rfl
  simp only [Try.ntmps22, List.size_toArray, List.length_cons, List.length_nil, Nat.reduceAdd, Nat.reduceSub, Array.replicate_succ, Array.replicate_zero, List.push_toArray, List.append_toArray, List.nil_append, List.cons_append]
  gi_wp2
  gi_loopw [3, 4, 5] (fun r mo k wr => ∃ (pre : List (Nat × Bs)) (r' : Bs) (mo' : Bool), r = .string ⟨r'.toArray⟩ ∧ mo = .bool mo' ∧ k = .int .i64 ((pre.length : Int) + 1) ∧ numL 1 (linesL l) = pre ++ (if mo' then numL (pre.length + 1) (linesL r') else []) ∧ r'.length ≤ l.length ∧ J pre wr ∧ wr.cell? ⟨0, 0, none⟩ = some (.int .i64 m)) (fun r mo _ _ => leftL r mo)
  case atStart => exact ⟨[], l, true, rfl, rfl, rfl, rfl, Nat.le_refl _, h0, hm⟩
  case round =>
    obtain ⟨pre, r', mo', rfl, rfl, rfl, hx, hr, hJs, hmr⟩ := hrel
    cases mo' with
    | false =>
      gi_wp2
      go_end0
      exact ⟨⟨_, rfl⟩, .inl ⟨pre, by rw [hx]; simp, hJs⟩⟩
    | true =>
      have hcut := Lib.hid (cut_call r' (by omega) m wr hmr)
      have hx' : numL 1 (linesL l) = pre ++ numL (pre.length + 1) (linesL r') := hx
      clear hx
      have hlen : pre.length < (linesL l).length := by
        have h1 := congrArg List.length hx'
        rw [List.length_append, numL_length, numL_length] at h1
        have h2 := lines_ne r'
        have h3 : 0 < (linesL r').length := List.length_pos_iff.2 h2
        omega
      have hll := lines_len l
      have hpl : (pre.length : Int) + 1 ≤ 2000000 := by omega
      have hJq : ∀ q, J pre (wr.drewN q) := fun q => hJ pre wr _ none hJs ⟨rfl, rfl, rfl, Nat.le_refl _, fun _ _ _ => rfl⟩ (fun r e => by cases e)
      have hLt := leftL_true r'
      have htk : (cutC r').1.take 400000 = (cutC r').1 := List.take_of_length_le (by have := cut_len1 r'; omega)
      cases ht : (cutC r').2.2 with
      | true =>
        obtain ⟨hl1, hl2⟩ := lines_true r' ht
        rw [ht] at hcut
        rw [hl1, numL] at hx'
        generalize (cutC r').1 = a1 at *
        generalize (cutC r').2.1 = b1 at *
        gi_wp2
        refine ⟨trivial, ?_⟩
        refine (callsIn_wide.2 hcut.out).mono ?_
        rintro e w1 ⟨rfl, q, rfl⟩
        clear hcut
        obtain ⟨fn, tmps, assign, body, hy, hR⟩ := hY pre (pre.length + 1, a1) (wr.drewN q) (hJq q) hlen
        simp only [encL, tk, htk, Int.natCast_add, Int.cast_ofNat_Int] at hy
        gi_wp2
        refine hR.mono ?_
        rintro e W3 (⟨rfl, hJ3, hk3⟩ | ⟨rfl, hJx3⟩)
        · have hm3 : W3.cell? ⟨0, 0, none⟩ = some (.int .i64 m) := (hk3.cell (p := ⟨0, 0, none⟩) hg).trans hmr
          gi_wp2
          go_roundw
          case rel => exact ⟨pre ++ [(pre.length + 1, a1)], b1, true, rfl, rfl, by simp, by rw [hx']; simp, by omega, hJ3, hm3⟩
          case measure => rw [leftL_true, hLt]; omega
        · gi_wp2
          refine bodyPost_ret (results_none rfl _ _ _) rfl ?_
          exact ⟨⟨_, rfl⟩, .inr ⟨pre ++ [(pre.length + 1, a1)], ⟨numL (pre.length + 1 + 1) (linesL b1), by rw [hx']; simp⟩, hJx3⟩⟩
      | false =>
        have hl1 := lines_false r' ht
        rw [ht] at hcut
        rw [hl1, numL, numL] at hx'
        have hl2 : (cutC r').2.1.length ≤ l.length := Nat.le_trans (cut_len r') hr
        generalize (cutC r').1 = a1 at *
        generalize (cutC r').2.1 = b1 at *
        gi_wp2
        refine ⟨trivial, ?_⟩
        refine (callsIn_wide.2 hcut.out).mono ?_
        rintro e w1 ⟨rfl, q, rfl⟩
        clear hcut
        obtain ⟨fn, tmps, assign, body, hy, hR⟩ := hY pre (pre.length + 1, a1) (wr.drewN q) (hJq q) hlen
        simp only [encL, tk, htk, Int.natCast_add, Int.cast_ofNat_Int] at hy
        gi_wp2
        refine hR.mono ?_
        rintro e W3 (⟨rfl, hJ3, hk3⟩ | ⟨rfl, hJx3⟩)
        · have hm3 : W3.cell? ⟨0, 0, none⟩ = some (.int .i64 m) := (hk3.cell (p := ⟨0, 0, none⟩) hg).trans hmr
          gi_wp2
          go_roundw
          case rel => exact ⟨pre ++ [(pre.length + 1, a1)], b1, false, rfl, rfl, by simp, by rw [hx']; simp, hl2, hJ3, hm3⟩
          case measure => rw [leftL_false, hLt]; omega
        · gi_wp2
          refine bodyPost_ret (results_none rfl _ _ _) rfl ?_
          exact ⟨⟨_, rfl⟩, .inr ⟨pre ++ [(pre.length + 1, a1)], ⟨[], by rw [hx']; simp⟩, hJx3⟩⟩
/-- The iterator's contract. -/
theorem numbered_stops (n : Nat) (hn : 1 ≤ n) (Bn n₀ : Nat) (l : Bs) (hl : l.length ≤ 400000) (m : Int) (w : World) (hBn : Bn < w.heap.size) (hn₀ : n₀ ≤ w.heap.size) (hc : w.cell? ⟨Bn, 0, none⟩ = some (.string ⟨l.toArray⟩)) (hm : w.cell? ⟨0, 0, none⟩ = some (.int .i64 m)) (hg : 0 < n₀) :
    SeqStopsK Fence.wide n Try.prog 22 #[.pointer (some ⟨Bn, 0, none⟩)] encL (Below n₀) (fun ys => ys = numL 1 (linesL l)) (fun pre => pre <+: numL 1 (linesL l)) (linesL l).length w := fun lp J Jx W hW hJ _ hY h0 =>
  numbered1_in n hn lp Bn n₀ l hl m J Jx hY W hJ ((hW.cell (p := ⟨Bn, 0, none⟩) hBn).trans hc) ((hW.cell (p := ⟨0, 0, none⟩) (by have := hn₀; simp only; omega)).trans hm) hg h0
end Go.Proofs.Ytcljijcggnfemaa
