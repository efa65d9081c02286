/- WordLines returns true: the walk. -/
import Derived.Test.YtcljijcggnfemaaWLs
namespace Go.Proofs.Ytcljijcggnfemaa
open Go.ChangeShapes Go.WideShapes Go.RowKit

theorem two_text (A B : Bs) : (⟨A.toArray⟩ : ByteArray) ++ ⟨#[10]⟩ ++ ⟨B.toArray⟩ = ⟨(A ++ 10 :: B).toArray⟩ := by
  have e1 : (⟨A.toArray⟩ : ByteArray) ++ ⟨#[10]⟩ = ⟨(A ++ [10]).toArray⟩ := cat_text A [10]
  rw [e1, cat_text, List.append_assoc]; rfl
/-- Cells that are looked at while Same runs. -/
def Ck (b : World) (p q : Addr) (x y : Value) (w : World) : Prop := Below b.heap.size b w ∧ w.cell? p = some x ∧ w.cell? q = some y ∧ p.block < b.heap.size ∧ q.block < b.heap.size
theorem Ck.env {b w : World} {p q : Addr} {x y : Value} (h : Ck b p q x y w) : Below b.heap.size b w := h.1
theorem Ck.step {b w w' : World} {p q : Addr} {x y : Value} (h : Ck b p q x y w) (k : Below w.heap.size w w') : Ck b p q x y w' :=
  ⟨h.1.trans (k.mono h.1.size), (k.cell (by have := h.1.size; have := h.2.2.2.1; omega)).trans h.2.1, (k.cell (by have := h.1.size; have := h.2.2.2.2; omega)).trans h.2.2.1, h.2.2.2⟩
set_option maxHeartbeats 6400000 in
set_option maxRecDepth 100000 in
theorem linesL_any (a b : Bs) (m : Int) (w : World) (ha : a.length ≤ 9223372036854775807) (hb : b.length ≤ 9223372036854775807) (hm : w.cell? ⟨0, 0, none⟩ = some (.int .i64 m)) :
    Calls Try.prog 4 #[.string ⟨a.toArray⟩, .string ⟨b.toArray⟩] w fun e w' => e = .returned (.bool true) ∧ Below w.heap.size w w' := by
  have hg0 := World.block_lt_of_cell? w _ hm
  simp only at hg0
  have K := Lib.hid (lives_any w)
  have KM : ∀ w', Below w.heap.size w w' → w'.cell? ⟨0, 0, none⟩ = some (.int .i64 m) := fun w' h => (h.cell (p := ⟨0, 0, none⟩) hg0).trans hm
  have hla : (a.take 500).length ≤ 500 := by rw [List.length_take]; omega
  have hlb : (b.take 500).length ≤ 500 := by rw [List.length_take]; omega
  have KA : Hid (∀ w', Below w.heap.size w w' → Calls Try.prog 11 #[.string ⟨(a.take 500).toArray⟩] w' (LinesP w' (wordsN (linesL (a.take 500)) 1))) := Lib.hid fun w' h => lines_any _ m w' (by omega) (KM w' h)
  have KB : Hid (∀ w', Below w.heap.size w w' → Calls Try.prog 11 #[.string ⟨(b.take 500).toArray⟩] w' (LinesP w' (wordsN (linesL (b.take 500)) 1))) := Lib.hid fun w' h => lines_any _ m w' (by omega) (KM w' h)
  have KC : Hid (∀ w', Below w.heap.size w w' → Calls Try.prog 11 #[.string (⟨(a.take 500).toArray⟩ ++ ⟨#[10]⟩ ++ ⟨(b.take 500).toArray⟩)] w' (LinesP w' (bothN (wordsN (linesL (a.take 500)) 1) (wordsN (linesL (b.take 500)) 1)))) := Lib.hid fun w' h => by
    rw [two_text, ← words_append, ← lines_append]
    exact lines_any _ m w' (by simp only [List.length_append, List.length_cons]; omega) (KM w' h)
  have hlA : ∀ wss, wordsN (linesL (a.take 500)) 1 = .inl wss → wss.length ≤ 501 ∧ ∀ ws ∈ wss, ws.length ≤ 501 := fun wss h => ⟨by rw [words_len h]; have := lines_len (a.take 500); omega, fun ws hw => by have := words_short h ws hw; omega⟩
  have hlB : ∀ wss, wordsN (linesL (b.take 500)) 1 = .inl wss → wss.length ≤ 501 ∧ ∀ ws ∈ wss, ws.length ≤ 501 := fun wss h => ⟨by rw [words_len h]; have := lines_len (b.take 500); omega, fun ws hw => by have := words_short h ws hw; omega⟩
  have hkB : ∀ j, wordsN (linesL (b.take 500)) 1 = .inr j → j ≤ 502 := fun j h => by have := words_le h; have := lines_len (b.take 500); omega
  have EA : Hid (∀ w, Calls Try.prog 8 #[.string ⟨a.toArray⟩] w fun e w' => e = .returned (.string ⟨(a.take 500).toArray⟩) ∧ w' = w) := Lib.hid fun w => early_any a w ha
  have EB : Hid (∀ w, Calls Try.prog 8 #[.string ⟨b.toArray⟩] w fun e w' => e = .returned (.string ⟨(b.take 500).toArray⟩) ∧ w' = w) := Lib.hid fun w => early_any b w hb
  have hza : (⟨(a.take 500).toArray⟩ : ByteArray).size = (a.take 500).length := by simp [ByteArray.size]
  have hzb : (⟨(b.take 500).toArray⟩ : ByteArray).size = (b.take 500).length := by simp [ByteArray.size]
  have hia : ((a.take 500).length : Int) ≤ 500 := by omega
  have hib : ((b.take 500).length : Int) ≤ 500 := by omega
  clear ha hb KM hm hla hlb
  generalize wordsN (linesL (a.take 500)) 1 = oA at *
  generalize wordsN (linesL (b.take 500)) 1 = oB at *
  generalize (a.take 500).length = za at *
  generalize (b.take 500).length = zb at *
  generalize (⟨(a.take 500).toArray⟩ : ByteArray) = ta at *
  generalize (⟨(b.take 500).toArray⟩ : ByteArray) = tb at *
  go_enter Try.func4, Try.ntmps4
  go_wp2_with fail
  refine K.out.mono ?_
  rintro e w1 ⟨rfl, hB1⟩
  clear K
  go_wp2_with fail
  refine (EA.out w1).mono ?_
  rintro e w2 ⟨rfl, rfl⟩
  clear EA
  go_wp2_with fail
  refine (EB.out w2).mono ?_
  rintro e w3 ⟨rfl, rfl⟩
  clear EB
  go_wp2_with fail
  refine (KA.out w3 hB1).mono ?_
  rintro e w4 ⟨he, hB2⟩
  clear KA
  replace hB1 := hB1.trans (hB2.mono hB1.size)
  clear hB2
  cases oA with
  | inr j =>
    subst he
    clear hlA
    go_wp2_with fail
    refine (KB.out w4 hB1).mono ?_
    rintro e w5 ⟨he, hB3⟩
    clear KB
    replace hB1 := hB1.trans (hB3.mono hB1.size)
    clear hB3
    have hk := KC.out w5 hB1
    simp only [bothN] at hk
    have hk := Lib.hid hk
    clear KC
    cases oB with
    | inr j' =>
      subst he
      clear hlB hkB
      go_wp2_with fail
      refine hk.out.mono ?_
      rintro e w6 ⟨rfl, hB6⟩
      go_wp2_with fail
      go_ret
      exact ⟨rfl, hB1.trans (hB6.mono hB1.size)⟩
    | inl wss' =>
      obtain ⟨v', vals', rfl, hl'⟩ := he
      obtain ⟨av', cv', rfl⟩ := hl'.at.shape
      clear hlB hkB hl'
      go_wp2_with fail
      refine hk.out.mono ?_
      rintro e w6 ⟨rfl, hB6⟩
      go_wp2_with fail
      go_ret
      exact ⟨rfl, hB1.trans (hB6.mono hB1.size)⟩
  | inl wss =>
    obtain ⟨v, vals, rfl, hl⟩ := he
    replace hl := hl.at
    obtain ⟨av, cv, rfl⟩ := hl.shape
    obtain ⟨hn, hma⟩ := hlA wss rfl
    clear hlA
    go_wp2_with fail
    refine (KB.out w4 hB1).mono ?_
    rintro e w5 ⟨he, hB3⟩
    clear KB
    replace hB1 := hB1.trans (hB3.mono hB1.size)
    replace hl := hl.stay hB3
    clear hB3
    have hk := KC.out w5 hB1
    clear KC
    cases oB with
    | inr j' =>
      subst he
      have hj := hkB j' rfl
      simp only [bothN] at hk
      have hk := Lib.hid hk
      clear hlB hkB
      generalize wss.length = L at *
      go_wp2_with fail
      refine hk.out.mono ?_
      rintro e w6 ⟨rfl, hB6⟩
      clear hk
      go_wp2_with fail
      have hsum : (((j' : Int) + (L : Int)) == (L : Int) + (j' : Int)) = true := by rw [beq_iff_eq]; omega
      rw [hsum]
      go_ret
      exact ⟨rfl, hB1.trans (hB6.mono hB1.size)⟩
    | inl wss' =>
      obtain ⟨v', vals', rfl, hl'⟩ := he
      replace hl' := hl'.at
      obtain ⟨av', cv', rfl⟩ := hl'.shape
      obtain ⟨hn', hmb⟩ := hlB wss' rfl
      simp only [bothN] at hk
      have hk := Lib.hid hk
      clear hlB hkB
      go_wp2_with fail
      refine hk.out.mono ?_
      rintro e w6 ⟨⟨v6, vals6, rfl, hl6⟩, hB6⟩
      clear hk
      replace hB1 := hB1.trans (hB6.mono hB1.size)
      replace hl := hl.stay hB6
      replace hl' := hl'.stay hB6
      replace hl6 := hl6.at
      obtain ⟨av6, cv6, rfl⟩ := hl6.shape
      clear hB6
      have hlen : Unit → (wss ++ wss').length = wss.length + wss'.length := fun _ => List.length_append
      have GA : Unit → ∀ k, k < wss.length → (wss ++ wss')[k]? = wss[k]? := fun _ k hk => List.getElem?_append_left hk
      have GB : Unit → ∀ k, wss.length ≤ k → (wss ++ wss')[k]? = wss'[k - wss.length]? := fun _ k hk => List.getElem?_append_right hk
      have GL : Unit → ∀ k, k < wss.length + wss'.length → ∃ ws, (wss ++ wss')[k]? = some ws ∧ ws.length ≤ 501 := fun _ k hk => by
        have hlt : k < (wss ++ wss').length := by rw [hlen ()]; exact hk
        refine ⟨_, List.getElem?_eq_getElem hlt, ?_⟩
        rcases List.mem_append.1 (List.getElem_mem hlt) with h | h
        · exact hma _ h
        · exact hmb _ h
      clear hma hmb hk
      generalize wss ++ wss' = W3 at *
      obtain ⟨T, hT⟩ : ∃ T, W3.length = T := ⟨_, rfl⟩
      obtain ⟨L, hL⟩ : ∃ L, wss.length = L := ⟨_, rfl⟩
      obtain ⟨M, hM⟩ : ∃ M, wss'.length = M := ⟨_, rfl⟩
      rw [hT] at hl6 hlen
      rw [hL] at hl hlen GA GB GL hn
      rw [hM] at hl' hlen GL hn'
      rw [hT, hL, hM]
      clear hT hL hM
      have hTi : Unit → (T : Int) = (L : Int) + (M : Int) := fun _ => by have := hlen (); omega
      have hne : ((T : Int) != (L : Int) + (M : Int)) = false := by rw [hTi ()]; simp
      have hLi : (L : Int) ≤ 501 := by omega
      have hMi : (M : Int) ≤ 501 := by omega
      have hTi2 : (T : Int) ≤ 1002 := by have := hTi (); omega
      go_upto_region 13 with fail
      go_upto_region 14 with fail
      go_loopw [14] (fun u wr => ∃ k : Nat, k ≤ T ∧ u = .int .i64 (k : Int) ∧ Below w6.heap.size w6 wr) (fun u _ => T - (intOf u).toNat)
      case atStart => exact ⟨0, by omega, rfl, Below.refl _ _⟩
      case round =>
        obtain ⟨k, hk, rfl, hB⟩ := hrel
        have hsz := hB1.size
        by_cases hlt : k < T
        · have hki : (k : Int) < (T : Int) := by omega
          obtain ⟨ws, hw1, hw2⟩ := GL () k (by have := hlen (); omega)
          obtain ⟨g, o, x, rfl, hg, hc, hs⟩ := (hl6.stay hB).row hw1
          obtain ⟨ax, cx, rfl⟩ := hs.shape
          by_cases hkL : k < L
          · have hkLi : (k : Int) < (L : Int) := by omega
            have hw3 := (GA () k hkL).symm.trans hw1
            obtain ⟨g', o', y, rfl, hg', hc', hs'⟩ := (hl.stay hB).row hw3
            obtain ⟨ay, cy, rfl⟩ := hs'.shape
            have KS : Hid (∀ w', Below wr.heap.size wr w' → Calls Try.prog 13 #[.slice ax ws.length cx, .slice ay ws.length cy] w' fun e w'' => e = .returned (.bool true) ∧ Below w'.heap.size w' w'') := Lib.hid fun w' h => by
              have := same_any _ _ _ _ ws ws w' (hs.stay h) (hs'.stay h) (by omega)
              rwa [decide_eq_true rfl] at this
            clear hs hs'
            go_upto_region 21 with fail
            try simp only [List.append_eq, List.cons_append, List.nil_append]
            refine region_class (fun w' => Ck wr ⟨g, o + k, none⟩ ⟨g', o' + k, none⟩ (.slice ax ws.length cx) (.slice ay ws.length cy) w') (by kernel_rfl) (by kernel_rfl) (⟨(Below.refl _ _).drew, hc, hc', hg, hg'⟩) ?_
            repeat
              first
              | go_big_quiet_skip
              | (go_big_quiet_want
                 refine quiet_val ?_
                 apply Exists.intro
                 refine ⟨fun w' hw' => ?_, ?_⟩
                 · obtain ⟨_, e0, e1, _⟩ := hw'
                   go_simp
                   first | done | rfl | exact ⟨rfl, rfl⟩
                 simp only [Act.put, List.setIfInBounds_toArray, List.set_cons_zero, List.set_cons_succ]
                 go_big_quiet_on)
              | (go_big_quiet_want
                 refine quiet_call ?_
                 apply Exists.intro
                 apply Exists.intro
                 refine ⟨fun w' => ?_, ?_⟩
                 · go_simp
                   first | done | rfl | exact ⟨rfl, rfl⟩
                 apply Exists.intro
                 refine ⟨fun w' hw' => ?_, ?_⟩
                 · first
                   | (with_reducible refine (KS.out _ (Ck.env hw')).mono ?_); (rintro e w2 ⟨rfl, hdd⟩; exact ⟨rfl, hw'.step hdd⟩)
                 simp only [Act.put, List.setIfInBounds_toArray, List.set_cons_zero, List.set_cons_succ]
                 go_big_quiet_on)
            refine wpQuiet_nil ?_
            intro w5 hw5
            have hb5 := hw5.1
            replace hB := hB.trans (hb5.mono hB.size)
            clear hb5 hw5 hc hc' KS
            go_wp2_with fail
            go_roundw
            case rel => exact ⟨k + 1, by omega, by simp, hB⟩
            case measure => simp [intOf]; omega
          · obtain ⟨j, rfl⟩ : ∃ j, k = L + j := ⟨k - L, by omega⟩
            have hji : (j : Int) < (M : Int) := by have := hTi (); omega
            have hw3 := (GB () (L + j) (by omega)).symm.trans hw1
            rw [show L + j - L = j by omega] at hw3
            obtain ⟨g', o', y, rfl, hg', hc', hs'⟩ := (hl'.stay hB).row hw3
            obtain ⟨ay, cy, rfl⟩ := hs'.shape
            have KS : Hid (∀ w', Below wr.heap.size wr w' → Calls Try.prog 13 #[.slice ax ws.length cx, .slice ay ws.length cy] w' fun e w'' => e = .returned (.bool true) ∧ Below w'.heap.size w' w'') := Lib.hid fun w' h => by
              have := same_any _ _ _ _ ws ws w' (hs.stay h) (hs'.stay h) (by omega)
              rwa [decide_eq_true rfl] at this
            obtain ⟨k, hkj⟩ : ∃ k, L + j = k := ⟨_, rfl⟩
            rw [hkj] at hc hw1 hk hlt hkL hki ⊢
            have hjk : Unit → (k : Int) - (L : Int) = (j : Int) := fun _ => by omega
            have hge : (L : Int) ≤ (k : Int) := by omega
            clear hs hs'
            clear hkj
            go_upto_region 21 with fail
            rw [hjk ()]
            try simp only [List.append_eq, List.cons_append, List.nil_append]
            refine region_class (fun w' => Ck wr ⟨g, o + k, none⟩ ⟨g', o' + j, none⟩ (.slice ax ws.length cx) (.slice ay ws.length cy) w') (by kernel_rfl) (by kernel_rfl) (⟨(Below.refl _ _).drew, hc, hc', hg, hg'⟩) ?_
            repeat
              first
              | go_big_quiet_skip
              | (go_big_quiet_want
                 refine quiet_val ?_
                 apply Exists.intro
                 refine ⟨fun w' hw' => ?_, ?_⟩
                 · obtain ⟨_, e0, e1, _⟩ := hw'
                   go_simp
                   first | done | rfl | exact ⟨rfl, rfl⟩
                 simp only [Act.put, List.setIfInBounds_toArray, List.set_cons_zero, List.set_cons_succ]
                 go_big_quiet_on)
              | (go_big_quiet_want
                 refine quiet_call ?_
                 apply Exists.intro
                 apply Exists.intro
                 refine ⟨fun w' => ?_, ?_⟩
                 · go_simp
                   first | done | rfl | exact ⟨rfl, rfl⟩
                 apply Exists.intro
                 refine ⟨fun w' hw' => ?_, ?_⟩
                 · first
                   | (with_reducible refine (KS.out _ (Ck.env hw')).mono ?_); (rintro e w2 ⟨rfl, hdd⟩; exact ⟨rfl, hw'.step hdd⟩)
                 simp only [Act.put, List.setIfInBounds_toArray, List.set_cons_zero, List.set_cons_succ]
                 go_big_quiet_on)
            refine wpQuiet_nil ?_
            intro w5 hw5
            have hb5 := hw5.1
            replace hB := hB.trans (hb5.mono hB.size)
            clear hb5 hw5 hc hc' KS
            go_wp2_with fail
            go_roundw
            case rel => exact ⟨k + 1, by omega, by simp, hB⟩
            case measure => simp [intOf]; omega
        · obtain rfl : k = T := by omega
          go_wp2_with fail
          go_ret
          exact ⟨rfl, hB1.trans (hB.mono hsz)⟩
end Go.Proofs.Ytcljijcggnfemaa
