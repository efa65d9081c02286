/- All the words are those that are reckoned from primes. -/
import Derived.Test.YtlhgpnkhfahlbaaDoorWOne
import Derived.Test.YtlhgpnkhfahlbaaDoorWTwo
import Derived.Test.YtlhgpnkhfahlbaaDoorROf
namespace Go.Proofs.YtlhgpnkhfahlbaaDoor
open Go.ChangeShapes Go.WideShapes Go.RowKit

theorem list_quarters {α β : Type} (f : α → β) (xs : List α) (ys : List β) (k i : Nat) (h : ((xs.drop k).take 4).map f = (ys.drop k).take 4) (h1 : k ≤ i) (h2 : i < k + 4) : (xs[i]?).map f = ys[i]? := by
  obtain ⟨j, rfl⟩ : ∃ j, i = k + j := ⟨i - k, by omega⟩
  have := congrArg (fun l => l[j]?) h
  simp only [List.getElem?_map] at this
  rw [List.getElem?_take_of_lt (by omega), List.getElem?_take_of_lt (by omega), List.getElem?_drop, List.getElem?_drop] at this
  exact this
theorem roots3 (i : Nat) (h : i < 64) : (primeL[i]?).map (fun p => rootN p 3) = keyL[i]? := by
  rcases (show i / 4 = 0 ∨ i / 4 = 1 ∨ i / 4 = 2 ∨ i / 4 = 3 ∨ i / 4 = 4 ∨ i / 4 = 5 ∨ i / 4 = 6 ∨ i / 4 = 7 ∨ i / 4 = 8 ∨ i / 4 = 9 ∨ i / 4 = 10 ∨ i / 4 = 11 ∨ i / 4 = 12 ∨ i / 4 = 13 ∨ i / 4 = 14 ∨ i / 4 = 15 by omega) with e | e | e | e | e | e | e | e | e | e | e | e | e | e | e | e
  · exact list_quarters _ _ _ 0 i rt3_0 (by omega) (by omega)
  · exact list_quarters _ _ _ 4 i rt3_1 (by omega) (by omega)
  · exact list_quarters _ _ _ 8 i rt3_2 (by omega) (by omega)
  · exact list_quarters _ _ _ 12 i rt3_3 (by omega) (by omega)
  · exact list_quarters _ _ _ 16 i rt3_4 (by omega) (by omega)
  · exact list_quarters _ _ _ 20 i rt3_5 (by omega) (by omega)
  · exact list_quarters _ _ _ 24 i rt3_6 (by omega) (by omega)
  · exact list_quarters _ _ _ 28 i rt3_7 (by omega) (by omega)
  · exact list_quarters _ _ _ 32 i rt3_8 (by omega) (by omega)
  · exact list_quarters _ _ _ 36 i rt3_9 (by omega) (by omega)
  · exact list_quarters _ _ _ 40 i rt3_10 (by omega) (by omega)
  · exact list_quarters _ _ _ 44 i rt3_11 (by omega) (by omega)
  · exact list_quarters _ _ _ 48 i rt3_12 (by omega) (by omega)
  · exact list_quarters _ _ _ 52 i rt3_13 (by omega) (by omega)
  · exact list_quarters _ _ _ 56 i rt3_14 (by omega) (by omega)
  · exact list_quarters _ _ _ 60 i rt3_15 (by omega) (by omega)
theorem roots2 (i : Nat) (h : i < 8) : (primeL[i]?).map (fun p => rootN p 2) = startL[i]? := by
  have := congrArg (fun l => l[i]?) rt2
  simp only [List.getElem?_map] at this
  rw [List.getElem?_take_of_lt h] at this
  exact this
/-- What lies in memory: the first words, the words of the rounds, the primes. -/
def Wd (w : World) (N g gp : Nat) (wr : World) : Prop := Rw wr g 46 (startL.map v32) ∧ Rw wr (g + 1) 48 (keyL.map v32) ∧ Cls wr gp 0 (primeL.map v64) ∧ Below N w wr ∧ N ≤ wr.heap.size
theorem Wd.keep {w wr w5 : World} {N g gp : Nat} (h : Wd w N g gp wr) (hb : Below wr.heap.size wr w5) : Wd w N g gp w5 :=
  ⟨h.1.keep hb, h.2.1.keep hb, h.2.2.1.keep hb, h.2.2.2.1.trans (hb.mono h.2.2.2.2), Nat.le_trans h.2.2.2.2 hb.size⟩
/-- The numbers that a round looks at. -/
def Wc (w : World) (N g gp i : Nat) (b p : Nat) (wr : World) : Prop := Wd w N g gp wr ∧ wr.cell? ⟨g + 1, i, none⟩ = some (.int .u32 (b : Int)) ∧ wr.cell? ⟨gp, i, none⟩ = some (.int .u64 (p : Int))
def Wa (w : World) (N g gp i : Nat) (a b p : Nat) (wr : World) : Prop := Wc w N g gp i b p wr ∧ wr.cell? ⟨g, i, none⟩ = some (.int .u32 (a : Int))
theorem Wd.at {w wr : World} {N g gp i b p : Nat} (h : Wd w N g gp wr) (h2 : keyL[i]? = some b) (h3 : primeL[i]? = some p) : Wc w N g gp i b p wr := by
  refine ⟨h, (h.2.1.cell i).trans (at32 h2), ?_⟩
  have := h.2.2.1 i _ (at64 h3)
  rw [Nat.zero_add] at this; exact this
theorem Wc.at {w wr : World} {N g gp i a b p : Nat} (h : Wc w N g gp i b p wr) (h2 : startL[i]? = some a) : Wa w N g gp i a b p wr := ⟨h, (h.1.1.cell i).trans (at32 h2)⟩
theorem below_cell {w w' : World} {a : Addr} {v : Value} (hb : Below w.heap.size w w') (h : w.cell? a = some v) : w'.cell? a = some v := by rw [hb.cell (World.block_lt_of_cell? _ _ h)]; exact h
theorem Wc.keep {w wr w5 : World} {N g gp i b p : Nat} (h : Wc w N g gp i b p wr) (hb : Below wr.heap.size wr w5) : Wc w N g gp i b p w5 :=
  ⟨h.1.keep hb, below_cell hb h.2.1, below_cell hb h.2.2⟩
theorem Wa.keep {w wr w5 : World} {N g gp i a b p : Nat} (h : Wa w N g gp i a b p wr) (hb : Below wr.heap.size wr w5) : Wa w N g gp i a b p w5 :=
  ⟨h.1.keep hb, below_cell hb h.2⟩

theorem root2 (p : Nat) (w : World) : Calls Tryd.prog 24 #[.int .u64 (p : Int), .int .i64 2] w fun e w' => e = .returned (.int .u32 (rootN p 2 : Int)) ∧ Below w.heap.size w w' := root_any p 2 (by omega) w
theorem root3 (p : Nat) (w : World) : Calls Tryd.prog 24 #[.int .u64 (p : Int), .int .i64 3] w fun e w' => e = .returned (.int .u32 (rootN p 3 : Int)) ∧ Below w.heap.size w w' := root_any p 3 (by omega) w

set_option maxRecDepth 100000 in
set_option maxHeartbeats 1600000 in
theorem words_any (w : World) :
    Calls Tryd.prog 10 #[] w fun e w' => e = .returned (.bool true) ∧ Below w.heap.size w w' := by
  go_enter Tryd.func10, Tryd.ntmps10
  go_upto_region 1 with fail
  go_wp2_with fail
  refine (primes_any _).mono ?_
  rintro e w1 ⟨⟨gp, cp, rfl, hp⟩, hB⟩
  go_wp2_with fail
  refine (rstart_any _).mono ?_
  rintro e w2 ⟨rfl, hb2⟩
  replace hp := hp.keep hb2
  replace hB := hB.trans (hb2.mono hB.size)
  clear hb2
  generalize hSt : (startL.map v32).toArray = ST
  go_wp2_with fail
  refine (rkeys_any _).mono ?_
  rintro e w3 ⟨rfl, hb3⟩
  replace hp := hp.keep hb3
  replace hB := hB.trans (hb3.mono hB.size)
  clear hb3
  rw [← hSt]
  clear hSt ST
  go_upto_region 2 with (first
    | (change wpList _ _ _ _ _ (two w3); refine store_arr w3.heap.size 46 ((zs 8).map v32) (two_a w3) 8 rfl 46 (by kernel_rfl) (startL.map v32) rfl (one32 _) _ _ rfl rfl rfl rfl ?_)
    | (refine store_arr (w3.heap.size + 1) 48 ((zs 64).map v32) ((two_b w3).rowOther (by omega) _) 64 rfl 48 (by kernel_rfl) (keyL.map v32) rfl (one32 _) _ _ rfl rfl rfl rfl ?_))
  have hW : Wd w w.heap.size w3.heap.size gp (((two w3).setRow w3.heap.size (startL.map v32).toArray).setRow (w3.heap.size + 1) (keyL.map v32).toArray) := by
    have hs := two_size w3
    have hb := hB.size
    have hb2 : Below w.heap.size w (((two w3).setRow w3.heap.size (startL.map v32).toArray).setRow (w3.heap.size + 1) (keyL.map v32).toArray) := below_setRow (below_setRow (hB.trans ((two_below w3).mono (by omega))) (by omega) _) (by omega) _
    refine ⟨((two_a w3).row _).rowOther (by omega) _, ((two_b w3).rowOther (by omega) _).row _, ?_, hb2, hb2.size⟩
    exact hp.keep (below_setRow (below_setRow (two_below w3) (by omega) _) (by omega) _)
  generalize ((two w3).setRow w3.heap.size (startL.map v32).toArray).setRow (w3.heap.size + 1) (keyL.map v32).toArray = W4 at *
  generalize w3.heap.size = g at *
  clear hp hB
  simp only [Act.put]
  generalize (startL.map v32).toArray = ST
  generalize (keyL.map v32).toArray = KT
  go_upto_region 3 with fail
  go_loopw [4] (fun i wr => ∃ k : Nat, k ≤ 64 ∧ i = .int .i64 (k : Int) ∧ Wd w w.heap.size g gp wr) (fun i _ => 64 - (intOf i).toNat)
  case atStart => exact ⟨0, by omega, rfl, hW⟩
  case round =>
    clear hW
    obtain ⟨i, hi, rfl, hW⟩ := hrel
    by_cases hlt : i < 64
    · obtain ⟨p, h3⟩ : ∃ p, primeL[i]? = some p := ⟨_, List.getElem?_eq_getElem (show i < 64 from hlt)⟩
      have h2 := roots3 i hlt
      rw [h3] at h2
      have hi64 : (i : Int) < 64 := by omega
      by_cases hlt8 : i < 8
      · have h1 := roots2 i hlt8
        rw [h3] at h1
        have hc := (hW.at h2.symm h3).at h1.symm
        simp only at hc
        clear h1 h2 h3
        have hi8 : (i : Int) < 8 := by omega
        have K2 := Lib.hid (fun w' => root2 p w')
        have K3 := Lib.hid (fun w' => root3 p w')
        generalize rootN p 2 = a at *
        generalize rootN p 3 = b at *
        go_upto_region 5 with fail
        try simp only [List.append_eq, List.cons_append, List.nil_append]
        refine region_class (fun w' => Wa w w.heap.size g gp i a b p w') (by kernel_rfl) (by kernel_rfl) (hc.keep (Below.refl _ _).drew) ?_
        repeat
          first
          | go_big_quiet_skip
          | (go_big_quiet_want
             refine quiet_val ?_
             apply Exists.intro
             refine ⟨fun w' hw' => ?_, ?_⟩
             · obtain ⟨⟨_, e1, e2⟩, e3⟩ := hw'
               go_simp
               first | done | rfl | exact ⟨rfl, rfl⟩
             simp only [Act.put, List.setIfInBounds_toArray, List.set_cons_zero, List.set_cons_succ]
             go_big_quiet_on)
          | (go_big_quiet_want
             refine quiet_call ?_
             apply Exists.intro
             apply Exists.intro
             refine ⟨fun w' => ?_, ?_⟩
             · go_simp
               first | done | rfl | exact ⟨rfl, rfl⟩
             apply Exists.intro
             refine ⟨fun w' hw' => ?_, ?_⟩
             · first
               | (with_reducible refine (K2.out _).mono ?_); (rintro e w2 ⟨rfl, hdd⟩; exact ⟨rfl, hw'.keep hdd⟩)
               | (with_reducible refine (K3.out _).mono ?_); (rintro e w2 ⟨rfl, hdd⟩; exact ⟨rfl, hw'.keep hdd⟩)
             simp only [Act.put, List.setIfInBounds_toArray, List.set_cons_zero, List.set_cons_succ]
             go_big_quiet_on)
        refine wpQuiet_nil ?_
        intro w5 hw5
        replace hW := hw5.1.1
        clear hw5 hc K2 K3
        go_wp2_with fail
        go_roundw
        case rel => exact ⟨i + 1, by omega, by go_num, hW⟩
        case measure => simp [intOf]; omega
      · have hc := hW.at h2.symm h3
        simp only at hc
        clear h2 h3
        have hi8 : ¬ (i : Int) < 8 := by omega
        have K3 := Lib.hid (fun w' => root3 p w')
        generalize rootN p 3 = b at *
        go_upto_region 5 with fail
        try simp only [List.append_eq, List.cons_append, List.nil_append]
        refine region_class (fun w' => Wc w w.heap.size g gp i b p w') (by kernel_rfl) (by kernel_rfl) (hc.keep (Below.refl _ _).drew) ?_
        repeat
          first
          | go_big_quiet_skip
          | (go_big_quiet_want
             refine quiet_val ?_
             apply Exists.intro
             refine ⟨fun w' hw' => ?_, ?_⟩
             · obtain ⟨_, e1, e2⟩ := hw'
               go_simp
               first | done | rfl | exact ⟨rfl, rfl⟩
             simp only [Act.put, List.setIfInBounds_toArray, List.set_cons_zero, List.set_cons_succ]
             go_big_quiet_on)
          | (go_big_quiet_want
             refine quiet_call ?_
             apply Exists.intro
             apply Exists.intro
             refine ⟨fun w' => ?_, ?_⟩
             · go_simp
               first | done | rfl | exact ⟨rfl, rfl⟩
             apply Exists.intro
             refine ⟨fun w' hw' => ?_, ?_⟩
             · first
               | (with_reducible refine (K3.out _).mono ?_); (rintro e w2 ⟨rfl, hdd⟩; exact ⟨rfl, hw'.keep hdd⟩)
             simp only [Act.put, List.setIfInBounds_toArray, List.set_cons_zero, List.set_cons_succ]
             go_big_quiet_on)
        refine wpQuiet_nil ?_
        intro w5 hw5
        replace hW := hw5.1
        clear hw5 hc K3
        go_wp2_with fail
        go_roundw
        case rel => exact ⟨i + 1, by omega, by go_num, hW⟩
        case measure => simp [intOf]; omega
    · obtain rfl : i = 64 := by omega
      go_wp2_with fail
      go_ret
      exact ⟨rfl, hW.2.2.2.1⟩
end Go.Proofs.YtlhgpnkhfahlbaaDoor
