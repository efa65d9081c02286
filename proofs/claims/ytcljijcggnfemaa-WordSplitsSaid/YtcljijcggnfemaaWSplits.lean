/- WordSplits returns true: the walk. -/
import Derived.Test.YtcljijcggnfemaaWRefL
import Derived.Test.YtcljijcggnfemaaWLinesL
namespace Go.Proofs.Ytcljijcggnfemaa
open Go.ChangeShapes Go.WideShapes Go.RowKit

theorem strs_any (P : Nat → Prop) {P' : Nat → Prop} {w : World} {v : Value} {ss : List Bs} (h : StrsAt P' w v ss) (hp : ∀ i, P' i → P i) : StrsAt P w v ss := h.mono (fun i hi _ => hp i hi)
def wSp : Option (List Bs) → List Bs
  | none => []
  | some ss => ss
def eSp : Option (List Bs) → Int
  | none => 2
  | some _ => 0
/-- What Split hands back, in short. -/
theorem SplitP.at {w w' : World} {o : Option (List Bs)} {e : Ending} (h : SplitP w o e w') : ∃ a c, e = .returned (.tuple #[.slice a (wSp o).length c, .int .i64 (eSp o)]) ∧ StrsAt (fun _ => True) w' (.slice a (wSp o).length c) (wSp o) ∧ Below w.heap.size w w' := by
  obtain ⟨h, hB⟩ := h
  cases o with
  | none => exact ⟨none, 0, h, .inl ⟨rfl, none, 0, rfl⟩, hB⟩
  | some ss =>
    obtain ⟨v, rfl, ho⟩ := h
    have hs := own_strs ho
    obtain ⟨a, c, rfl⟩ := hs.shape
    exact ⟨a, c, rfl, hs.mono (fun _ _ _ => trivial), hB⟩
def lsOf : List (List Bs) ⊕ Nat → List (List Bs)
  | .inl wss => wss
  | .inr _ => []
def kOf : List (List Bs) ⊕ Nat → Nat
  | .inl _ => 0
  | .inr k => k
def eOf : List (List Bs) ⊕ Nat → Int
  | .inl _ => 0
  | .inr _ => 2
theorem LinesP.at {w w' : World} {o : List (List Bs) ⊕ Nat} {e : Ending} (h : LinesP w o e w') : ∃ a c, e = .returned (.tuple #[.slice a (lsOf o).length c, .int .i64 (kOf o : Int), .int .i64 (eOf o)]) ∧ LsAt w' (.slice a (lsOf o).length c) (lsOf o) ∧ Below w.heap.size w w' := by
  obtain ⟨h, hB⟩ := h
  cases o with
  | inr k => exact ⟨none, 0, h, .inl ⟨rfl, none, 0, rfl⟩, hB⟩
  | inl wss =>
    obtain ⟨v, vals, rfl, hl⟩ := h
    obtain ⟨a, c, rfl⟩ := hl.at.shape
    exact ⟨a, c, rfl, hl.at, hB⟩
set_option maxHeartbeats 6400000 in
set_option maxRecDepth 100000 in
theorem splits_any (s : Bs) (m : Int) (w : World) (hs0 : s.length ≤ 9223372036854775807) (hm : w.cell? ⟨0, 0, none⟩ = some (.int .i64 m)) :
    Calls Try.prog 3 #[.string ⟨s.toArray⟩] w fun e w' => e = .returned (.bool true) ∧ Below w.heap.size w w' := by
  have hg0 := World.block_lt_of_cell? w _ hm
  simp only at hg0
  have K := Lib.hid (lives_any w)
  have hla : (s.take 500).length ≤ 500 := by rw [List.length_take]; omega
  have EA : Hid (∀ w, Calls Try.prog 8 #[.string ⟨s.toArray⟩] w fun e w' => e = .returned (.string ⟨(s.take 500).toArray⟩) ∧ w' = w) := Lib.hid fun w => early_any s w hs0
  have KA : Hid (∀ w', Calls Try.prog 9 #[.string ⟨(s.take 500).toArray⟩] w' (SplitP w' (splitN (s.take 500)))) := Lib.hid fun w' => split_any _ w' (by omega)
  have KB : Hid (∀ w', Calls Try.prog 10 #[.string ⟨(s.take 500).toArray⟩] w' (SplitP w' (splitN (s.take 500)))) := Lib.hid fun w' => rsplit_any _ w' (by omega)
  have KC : Hid (∀ w', Below w.heap.size w w' → Calls Try.prog 11 #[.string ⟨(s.take 500).toArray⟩] w' (LinesP w' (wordsN (linesL (s.take 500)) 1))) := Lib.hid fun w' h => lines_any _ m w' (by omega) ((h.cell (p := ⟨0, 0, none⟩) hg0).trans hm)
  have KD : Hid (∀ w', Calls Try.prog 12 #[.string ⟨(s.take 500).toArray⟩] w' (LinesP w' (wordsN (linesL (s.take 500)) 1))) := Lib.hid fun w' => rlines_any _ w' (by omega)
  have hls : (lsOf (wordsN (linesL (s.take 500)) 1)).length ≤ 501 ∧ ∀ ws ∈ lsOf (wordsN (linesL (s.take 500)) 1), ws.length ≤ 501 := by
    cases h : wordsN (linesL (s.take 500)) 1 with
    | inr k => exact ⟨Nat.zero_le _, fun _ h => (by cases h)⟩
    | inl wss =>
      refine ⟨?_, fun ws hw => ?_⟩
      · show wss.length ≤ 501
        rw [words_len h]; have := lines_len (s.take 500); omega
      · have := words_short h ws hw; omega
  have hss : (wSp (splitN (s.take 500))).length ≤ 501 := by
    cases h : splitN (s.take 500) with
    | none => exact Nat.zero_le _
    | some ss => have := split_sum h; show ss.length ≤ 501; omega
  clear hla hs0 hm
  obtain ⟨hL, hM⟩ := hls
  generalize splitN (s.take 500) = oA at *
  generalize wordsN (linesL (s.take 500)) 1 = oB at *
  generalize (⟨(s.take 500).toArray⟩ : ByteArray) = ta at *
  go_enter Try.func3, Try.ntmps3
  go_wp2_with fail
  refine K.out.mono ?_
  rintro e w1 ⟨rfl, hB1⟩
  clear K
  go_wp2_with fail
  refine (EA.out w1).mono ?_
  rintro e w2 ⟨rfl, rfl⟩
  clear EA
  go_wp2_with fail
  refine (KA.out w2).mono ?_
  intro e w3 he
  obtain ⟨a3, c3, rfl, h3, hB2⟩ := he.at
  clear KA he
  replace hB1 := hB1.trans (hB2.mono hB1.size)
  clear hB2
  go_wp2_with fail
  refine (KB.out w3).mono ?_
  intro e w4 he
  obtain ⟨a4, c4, rfl, h4, hB2⟩ := he.at
  clear KB he
  replace hB1 := hB1.trans (hB2.mono hB1.size)
  replace h3 := h3.stay hB2
  clear hB2
  go_wp2_with fail
  refine (KC.out w4 hB1).mono ?_
  intro e w5 he
  obtain ⟨a5, c5, rfl, h5, hB2⟩ := he.at
  clear KC he
  replace hB1 := hB1.trans (hB2.mono hB1.size)
  replace h3 := h3.stay hB2
  replace h4 := h4.stay hB2
  clear hB2
  go_wp2_with fail
  refine (KD.out w5).mono ?_
  intro e w6 he
  obtain ⟨a6, c6, rfl, h6, hB2⟩ := he.at
  clear KD he
  replace hB1 := hB1.trans (hB2.mono hB1.size)
  replace h3 := h3.stay hB2
  replace h4 := h4.stay hB2
  replace h5 := h5.stay hB2
  clear hB2
  have KS := Lib.hid (same_any _ _ _ _ _ _ w6 h3 h4 (by omega))
  rw [decide_eq_true rfl] at KS
  generalize wSp oA = sA at *
  generalize sA.length = nA at *
  generalize eSp oA = eA at *
  generalize (kOf oB : Int) = kB at *
  generalize eOf oB = eB at *
  generalize lsOf oB = W3 at *
  have HW : Unit → ∀ ws ∈ W3, ws.length ≤ 501 := fun _ => hM
  clear hM
  obtain ⟨T, hT⟩ : ∃ T, W3.length = T := ⟨_, rfl⟩
  rw [hT] at h5 h6 hL ⊢
  have HT : Unit → W3.length = T := fun _ => hT
  clear hT h3 h4
  have q1 : (eA != eA) = false := by simp
  have q2 : (kB != kB) = false := by simp
  have q3 : (eB != eB) = false := by simp
  have q4 : ((T : Int) != (T : Int)) = false := by simp
  have hTi : (T : Int) ≤ 501 := by omega
  go_wp2_with fail
  refine KS.out.mono ?_
  rintro e w7 ⟨rfl, hB2⟩
  clear KS
  replace hB1 := hB1.trans (hB2.mono hB1.size)
  replace h5 := h5.stay hB2
  replace h6 := h6.stay hB2
  clear hB2
  go_upto_region 10 with fail
  go_upto_region 11 with fail
  go_loopw [13] (fun u wr => ∃ k : Nat, k ≤ T ∧ u = .int .i64 (k : Int) ∧ Below w7.heap.size w7 wr) (fun u _ => T - (intOf u).toNat)
  case atStart => exact ⟨0, by omega, rfl, Below.refl _ _⟩
  case round =>
    obtain ⟨k, hk, rfl, hB⟩ := hrel
    have hsz := hB1.size
    by_cases hlt : k < T
    · have hki : (k : Int) < (T : Int) := by omega
      obtain ⟨ws, hw1⟩ : ∃ ws, W3[k]? = some ws := ⟨_, List.getElem?_eq_getElem (by have := HT (); omega)⟩
      have hw2 := HW () ws (List.mem_of_getElem? hw1)
      obtain ⟨g, o, x, rfl, hg, hc, hs⟩ := (h5.stay hB).row hw1
      obtain ⟨g', o', y, rfl, hg', hc', hs'⟩ := (h6.stay hB).row hw1
      obtain ⟨ax, cx, rfl⟩ := hs.shape
      obtain ⟨ay, cy, rfl⟩ := hs'.shape
      have KS : Hid (∀ w', Below wr.heap.size wr w' → Calls Try.prog 13 #[.slice ax ws.length cx, .slice ay ws.length cy] w' fun e w'' => e = .returned (.bool true) ∧ Below w'.heap.size w' w'') := Lib.hid fun w' h => by
        have := same_any _ _ _ _ ws ws w' (hs.stay h) (hs'.stay h) (by omega)
        rwa [decide_eq_true rfl] at this
      clear hs hs'
      go_upto_region 13 with fail
      try simp only [List.append_eq, List.cons_append, List.nil_append]
      refine region_class (fun w' => Ck wr ⟨g, o + k, none⟩ ⟨g', o' + k, none⟩ (.slice ax ws.length cx) (.slice ay ws.length cy) w') (by kernel_rfl) (by kernel_rfl) (⟨(Below.refl _ _).drew, hc, hc', hg, hg'⟩) ?_
      repeat
        first
        | go_big_quiet_skip
        | (go_big_quiet_want
           refine quiet_val ?_
           apply Exists.intro
           refine ⟨fun w' hw' => ?_, ?_⟩
           · obtain ⟨_, e0, e1, _⟩ := hw'
             go_simp
             first | done | rfl | exact ⟨rfl, rfl⟩
           simp only [Act.put, List.setIfInBounds_toArray, List.set_cons_zero, List.set_cons_succ]
           go_big_quiet_on)
        | (go_big_quiet_want
           refine quiet_call ?_
           apply Exists.intro
           apply Exists.intro
           refine ⟨fun w' => ?_, ?_⟩
           · go_simp
             first | done | rfl | exact ⟨rfl, rfl⟩
           apply Exists.intro
           refine ⟨fun w' hw' => ?_, ?_⟩
           · first
             | (with_reducible refine (KS.out _ (Ck.env hw')).mono ?_); (rintro e w2 ⟨rfl, hdd⟩; exact ⟨rfl, hw'.step hdd⟩)
           simp only [Act.put, List.setIfInBounds_toArray, List.set_cons_zero, List.set_cons_succ]
           go_big_quiet_on)
      refine wpQuiet_nil ?_
      intro w5 hw5
      have hb5 := hw5.1
      replace hB := hB.trans (hb5.mono hB.size)
      clear hb5 hw5 hc hc' KS
      go_wp2_with fail
      go_roundw
      case rel => exact ⟨k + 1, by omega, by simp, hB⟩
      case measure => simp [intOf]; omega
    · obtain rfl : k = T := by omega
      go_wp2_with fail
      go_ret
      exact ⟨rfl, hB1.trans (hB.mono hsz)⟩
end Go.Proofs.Ytcljijcggnfemaa
