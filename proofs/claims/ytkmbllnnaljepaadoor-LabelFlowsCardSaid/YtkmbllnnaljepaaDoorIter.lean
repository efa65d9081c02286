/- What teamTexts' iterator hands on: the texts of a label's teams, in the order of their numbers, whatever the loop does that keeps the memory of others. -/
import Derived.Test.YtkmbllnnaljepaaDoorTeams
import Derived.Test.YtkmbllnnaljepaaDoorShelf
import Derived.RangeFuncNested
import Derived.RangeFuncBound
import Derived.RangeFuncCalls
import Derived.RangeFuncLeaves
import Derived.Shelf.Abstract
import Derived.Shelf.RegionOpen
import Derived.OwnWalkIn
import Derived.TacticsInMore
import Derived.LoopNIn
import Derived.LoopIn
namespace Go.Proofs.YtkmbllnnaljepaaDoor
open Go.ChangeShapes Go.WideShapes Go.RowKit Go.Shelf
attribute [local go_sem] Oper.semAt_some

/-- The digits of a number, as a string. -/
def dgs (k : Nat) : ByteArray := ⟨(Lib.decDigits k).toArray⟩
/-- The teams of c, as numbers below 32. -/
def tmsF (c : Int) : List (Fin 32) := (List.finRange 32).filter fun i => c.toNat.testBit i.val
theorem range32 : List.range 32 = (List.finRange 32).map Fin.val := by decide
theorem tmsF_map (c : Int) : (tmsF c).map Fin.val = tms c 32 := by
  unfold tmsF tms
  rw [range32, List.filter_map]
  rfl

/-- What a round keeps: every block of cells but the two that the loop's body writes. -/
def KpT (T M : Nat) (A B : World) : Prop := A.heap.size ≤ B.heap.size ∧ ∀ k o, k ≠ T → k ≠ M → A.heap[k]? = some o → o.isCells = true → B.heap[k]? = some o
theorem KpT.trans {T M : Nat} {A B C : World} (h : KpT T M A B) (k : KpT T M B C) : KpT T M A C :=
  ⟨Nat.le_trans h.1 k.1, fun i o h1 h2 h3 h4 => k.2 i o h1 h2 (h.2 i o h1 h2 h3 h4) h4⟩
theorem KpT.refl {T M : Nat} {A : World} : KpT T M A A := ⟨Nat.le_refl _, fun _ _ _ _ h _ => h⟩
theorem KpT.put {T M : Nat} {w : World} (W : World) (l : Nat) (o o' : Obj) (_ : w.heap.size ≤ l) (h : W.heap[l]? = some o) (hc : o.isCells = false) (_ : o.isWalk = false) : KpT T M W (W.putObj l o') := by
  have hl := (Array.getElem?_eq_some_iff.1 h).1
  refine ⟨(grownBy_putObj' W l o').size, fun k p _ _ hk hp => ?_⟩
  by_cases e : k = l
  · subst e; rw [h] at hk; cases hk; rw [hc] at hp; cases hp
  · exact (World.putObj_heap_other e).trans hk

/-- The value of a slice that owns its row. -/
theorem own_shape {w : World} {base : Nat} {e : TypeId} {v : Value} {n : Nat} {xs : List Value} (h : w.ownsRow base e 1 v n xs) :
    ∃ a cap, v = .slice a n cap ∧ ((a = none ∧ n = 0) ∨ ∃ g o, a = some ⟨g, 0, none⟩ ∧ base ≤ g ∧ w.heap[g]? = some o ∧ o.isCells = true ∧ ∀ W : World, W.heap[g]? = some o → ∀ j u, xs[j]? = some u → W.cell? ⟨g, j, none⟩ = some u) := by
  have hc := h
  rcases h.2 with ⟨rfl, h0⟩ | ⟨g, cap, cur, rfl, hb, hg, _⟩
  · exact ⟨none, 0, by rw [h0], .inl ⟨rfl, h0⟩⟩
  · refine ⟨_, cap, rfl, .inr ⟨g, _, rfl, hb, hg, rfl, fun W hW j u hu => ?_⟩⟩
    have h1 := hc.cells (g := g) rfl j u hu
    have hadd : (⟨g, 0, none⟩ : Addr).add j = ⟨g, j, none⟩ := by unfold Addr.add; split <;> simp_all
    rw [hadd] at h1
    rw [← h1]
    exact World.cell?_of_block (a := ⟨g, j, none⟩) (hW.trans hg.symm)

set_option maxRecDepth 100000 in
set_option maxHeartbeats 1000000 in
theorem iter_in (n : Nat) (l Bn T M : Nat) (lv c : Int) (hc0 : 0 ≤ c) (hc1 : c < 4294967296) (J Jx : List (Fin 32) → World → Prop) (W : World) (hJ : AbidesFrom W.heap.size J)
    (hY : ∀ pre x W1, J pre W1 → pre.length < 32 → YieldAt Fence.wide (n - 1) Tryd.prog l #[.string (dgs x.val)] W1 fun e W' =>
      (e = .returned (.bool true) ∧ J (pre ++ [x]) W' ∧ KpT T M W1 W') ∨ (e = .returned (.bool false) ∧ Jx (pre ++ [x]) W'))
    (hT : T < W.heap.size) (hM : M < W.heap.size) (hbox : LabAt W Bn lv c) (h0 : J [] W) :
    CallsIn Fence.wide n Tryd.prog 39 #[.func (.yield l) #[] #[], .pointer (some ⟨Bn, 0, none⟩)] W fun e W' => (∃ v, e = .returned v) ∧
      ((∃ ys, ys = tmsF c ∧ J ys W') ∨ (∃ pre, True ∧ Jx pre W')) := by
  obtain ⟨b0, b1⟩ := hbox
  refine callsIn_of_wp Tryd.func39 rfl trivial ?_ rfl
  simp only [Tryd.ntmps39, List.size_toArray, List.length_cons, List.length_nil, Nat.reduceAdd, Nat.reduceSub, Array.replicate_succ, Array.replicate_zero, List.push_toArray, List.append_toArray, List.nil_append, List.cons_append]
  gi_wp2_with fail
  refine ⟨trivial, fun h => (by cases h), ?_⟩
  refine (callsIn_wide.2 (teams_any lv c hc0 hc1 _)).mono ?_
  rintro e w1 ⟨v, rfl, hown, hb⟩
  obtain ⟨a, cap, rfl, hsh⟩ := own_shape hown
  have hJ1 : J [] w1 := hJ [] W w1 none h0 ⟨hb.os, hb.tape, hb.output, hb.size, fun i hi _ => hb.block i hi⟩ (fun _ e => by cases e)
  have hlen := tms_le c 32
  have hsz := hb.size
  clear b0 b1 hown
  have hlF : (tmsF c).length = (tms c 32).length := by rw [← tmsF_map, List.length_map]
  have HlF := Lib.hid hlF
  clear hlF
  rcases hsh with ⟨rfl, hn0⟩ | ⟨g, o, rfl, hg, hgo, hoc, hcell⟩
  · have hnil : tmsF c = [] := by rw [← List.length_eq_zero_iff, HlF.out, hn0]
    have Hnil := Lib.hid hnil
    rw [hn0]
    clear hn0 hnil HlF hlen
    gi_wp2
    gi_loopw [8] (fun i wr => i = .int .i64 0 ∧ J [] wr) (fun _ _ => 0)
    case atStart => exact ⟨rfl, hJ1⟩
    case round =>
      obtain ⟨rfl, hJs⟩ := hrel
      gi_wp2
      go_end0
      exact ⟨⟨_, rfl⟩, .inl ⟨[], Hnil.out.symm, hJs⟩⟩
  · have Hcell := Lib.hid hcell
    clear hcell
    gi_wp2
    gi_loopw [8] (fun i wr => ∃ k : Nat, k ≤ (tms c 32).length ∧ i = .int .i64 k ∧ J ((tmsF c).take k) wr ∧ wr.heap[g]? = some o)
      (fun i _ => (tms c 32).length - (intOf i).toNat)
    case atStart => exact ⟨0, Nat.zero_le _, rfl, hJ1, hgo⟩
    case round =>
      obtain ⟨k, hk, rfl, hJs, hgs⟩ := hrel
      by_cases hlt : k < (tms c 32).length
      · obtain ⟨x, hx⟩ : ∃ x, (tmsF c)[k]? = some x := ⟨_, List.getElem?_eq_getElem (by rw [HlF.out]; exact hlt)⟩
        have hcx : wr.cell? ⟨g, k, none⟩ = some (.int .i64 (x.val : Int)) := Hcell.out wr hgs k _ (by rw [← tmsF_map]; simp [hx, intV])
        have Htk := Lib.hid (show (tmsF c).take (k + 1) = (tmsF c).take k ++ [x] by rw [List.take_add_one, hx]; rfl)
        have hlk : ((tmsF c).take k).length < 32 := by rw [List.length_take]; omega
        have hx32 : x.val < 32 := x.isLt
        clear hx
        obtain ⟨fn, tmps, assign, body, hy, hR⟩ := hY _ x wr hJs hlk
        gi_wp2_with fail
        refine ⟨trivial, fun h => (by cases h), ?_⟩
        refine (callsIn_wide.2 (Tryd.strconv_Itoa_small x.val (by omega) _)).mono ?_
        rintro e w2 ⟨rfl, rfl⟩
        change (Instr.yield l #[.string ⟨(Lib.decDigits x.val).toArray⟩]).run _ _ = _ at hy
        gi_wp2
        refine ⟨fun h => (by cases h), hR.mono ?_⟩
        rintro e W3 (⟨rfl, hJ3, hk3⟩ | ⟨rfl, hJx3⟩)
        · have hg3 := hk3.2 g o (by omega) (by omega) hgs hoc
          gi_wp2
          go_roundw
          case rel => exact ⟨k + 1, by omega, by simp, by rw [Htk.out]; exact hJ3, hg3⟩
          case measure => simp [intOf]; omega
        · gi_wp2
          refine bodyPost_ret (results_none rfl _ _ _) rfl ?_
          exact ⟨⟨_, rfl⟩, .inr ⟨_, trivial, hJx3⟩⟩
      · obtain rfl : k = (tms c 32).length := by omega
        gi_wp2
        go_end0
        exact ⟨⟨_, rfl⟩, .inl ⟨_, List.take_of_length_le (by rw [HlF.out]; exact Nat.le_refl _), hJs⟩⟩

theorem iter_stops (n : Nat) (Bn T M : Nat) (lv c : Int) (hc0 : 0 ≤ c) (hc1 : c < 4294967296) (w : World) (hT : T < w.heap.size) (hM : M < w.heap.size) (hbox : LabAt w Bn lv c) :
    SeqStopsK Fence.wide n Tryd.prog 39 #[.pointer (some ⟨Bn, 0, none⟩)] (fun x : Fin 32 => #[.string (dgs x.val)]) (KpT T M) (fun ys => ys = tmsF c) (fun _ => True) 32 w :=
  fun l J Jx W hW hJ _ hY h0 => iter_in n l Bn T M lv c hc0 hc1 J Jx W hJ hY (Nat.lt_of_lt_of_le hT hW.size) (Nat.lt_of_lt_of_le hM hW.size) (hbox.keep hW) h0
end Go.Proofs.YtkmbllnnaljepaaDoor
