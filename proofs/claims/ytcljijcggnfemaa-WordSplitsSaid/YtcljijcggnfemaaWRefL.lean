/- The document's way to split a text into lines: the walk. -/
import Derived.Test.YtcljijcggnfemaaWRefW
namespace Go.Proofs.Ytcljijcggnfemaa
open Go.ChangeShapes Go.WideShapes Go.RowKit

theorem lines_plain (a : Bs) (h : ∀ c ∈ a, c ≠ 10) : linesL a = [a] := by
  induction a with
  | nil => rfl
  | cons c a ih => exact lines_step (h c (by simp)) (ih (fun d hd => h d (by simp [hd])))
/-- No byte 10 from f up to i. -/
def no10 (l : Bs) (f i : Nat) : Prop := ∀ j, f ≤ j → j < i → l[j]? ≠ some 10
theorem no10_mem {l : Bs} {f i : Nat} (h : no10 l f i) (hi : i ≤ l.length) : ∀ c ∈ (l.take i).drop f, c ≠ 10 := by
  intro c hc e
  subst e
  obtain ⟨j, hj, he⟩ := List.mem_iff_getElem.1 hc
  rw [List.length_drop, List.length_take] at hj
  refine h (f + j) (by omega) (by omega) ?_
  rw [List.getElem_drop, List.getElem_take] at he
  rw [← he]
  exact List.getElem?_eq_getElem (by omega)
theorem seg_split {l : Bs} {f i : Nat} (hf : f ≤ i) (hi : i ≤ l.length) : l.drop f = (l.take i).drop f ++ l.drop i := by
  have h : l.drop f = (l.take i ++ l.drop i).drop f := by rw [List.take_append_drop]
  rw [h, List.drop_append_of_le_length (by rw [List.length_take]; omega)]
theorem seg_ten {l : Bs} {f i : Nat} (hf : f ≤ i) (hk : l[i]? = some 10) (h : no10 l f i) : linesL (l.drop f) = (l.take i).drop f :: linesL (l.drop (i + 1)) := by
  have hlt := (List.getElem?_eq_some_iff.1 hk).1
  have e : l.drop i = 10 :: l.drop (i + 1) := by
    rw [List.drop_eq_getElem_cons hlt]
    congr 1
    exact (List.getElem?_eq_some_iff.1 hk).2
  rw [seg_split hf (by omega), e, lines_append, lines_plain _ (no10_mem h (by omega))]; rfl
theorem seg_last {l : Bs} {f : Nat} (hf : f ≤ l.length) (h : no10 l f l.length) : linesL (l.drop f) = [(l.take l.length).drop f] := by
  have e := seg_split hf (Nat.le_refl _)
  rw [List.drop_length, List.append_nil] at e
  rw [e]
  exact lines_plain _ (no10_mem h (Nat.le_refl _))
/-- How far the lines are read: at byte i, the line under way from byte f. -/
def LR (l : Bs) (f i : Nat) (ls : List Bs) : Prop := (i ≤ l.length ∧ f ≤ i ∧ linesL l = ls ++ linesL (l.drop f) ∧ no10 l f i) ∨ (i = l.length + 1 ∧ linesL l = ls)
theorem LR.start (l : Bs) : LR l 0 0 [] := .inl ⟨Nat.zero_le _, Nat.le_refl _, rfl, fun j h1 h2 => by omega⟩
theorem LR.on {l : Bs} {f i : Nat} {ls : List Bs} {c : UInt8} (h : LR l f i ls) (hk : l[i]? = some c) (hc : c ≠ 10) : LR l f (i + 1) ls := by
  have hlt := (List.getElem?_eq_some_iff.1 hk).1
  rcases h with ⟨h1, h2, h3, h4⟩ | ⟨h1, _⟩
  · refine .inl ⟨by omega, by omega, h3, fun j hj1 hj2 => ?_⟩
    by_cases e : j = i
    · subst e; rw [hk]; intro e; injection e with e; exact hc e
    · exact h4 j hj1 (by omega)
  · omega
/-- A line ends at byte i. -/
theorem LR.line {l : Bs} {f i : Nat} {ls : List Bs} (h : LR l f i ls) (hi : i ≤ l.length) (hk : i = l.length ∨ l[i]? = some 10) : f ≤ i ∧ LR l (i + 1) (i + 1) (ls ++ [(l.take i).drop f]) ∧ ∃ rest, linesL l = ls ++ (l.take i).drop f :: rest := by
  rcases h with ⟨h1, h2, h3, h4⟩ | ⟨h1, _⟩
  · rcases hk with rfl | hk
    · rw [seg_last h2 h4] at h3
      exact ⟨h2, .inr ⟨rfl, h3⟩, [], h3⟩
    · rw [seg_ten h2 hk h4] at h3
      have hlt := (List.getElem?_eq_some_iff.1 hk).1
      refine ⟨h2, .inl ⟨by omega, Nat.le_refl _, ?_, fun j a b => by omega⟩, _, h3⟩
      rw [h3]; simp
  · omega
set_option maxHeartbeats 6400000 in
set_option maxRecDepth 100000 in
theorem rlines_any (l : Bs) (w : World) (hl : l.length ≤ 400000) : Calls Try.prog 12 #[.string ⟨l.toArray⟩] w (LinesP w (wordsN (linesL l) 1)) := by
  have hsz : (⟨l.toArray⟩ : ByteArray).size = l.length := by simp [ByteArray.size]
  obtain ⟨n, hn⟩ : ∃ n, l.length = n := ⟨_, rfl⟩
  rw [hn] at hl hsz
  obtain ⟨t, ht⟩ : ∃ t : ByteArray, t = ⟨l.toArray⟩ := ⟨_, rfl⟩
  have hix : Unit → ∀ (k : Nat) (c : UInt8), l[k]? = some c → ∀ w, (Instr.index 9 (.string t) (.int .i64 (k : Int))).run Try.prog w = .ok (.int .u8 (c.toNat : Int)) w := fun _ k c hc w => by rw [ht]; exact at_text l k c hc _ rfl w
  have hct : Unit → ∀ (a b : Nat), b ≤ n → a ≤ b → ∀ w, (Instr.slice 9 (.string t) (some (.int .i64 (a : Int))) (some (.int .i64 (b : Int))) none).run Try.prog w = .ok (.string ⟨((l.take b).drop a).toArray⟩) w := fun _ a b h1 h2 w => by rw [ht]; exact cut_part l a b (by omega) h2 w
  rw [← ht] at hsz ⊢
  clear ht
  obtain ⟨i0, hi, hz0, hz1, hz2⟩ := info_parts0 info_sl
  have HN : Unit → l.length = n := fun _ => hn
  clear hn
  have hni : (n : Int) ≤ 400000 := by omega
  obtain ⟨o, ho⟩ : ∃ o, wordsN (linesL l) 1 = o := ⟨_, rfl⟩
  rw [ho]
  have HO : Unit → wordsN (linesL l) 1 = o := fun _ => ho
  clear ho
  go_enter Try.func12, Try.ntmps12
  go_upto_region 4 with fail
  go_loopw [5, 6, 7] (fun u5 u6 u7 wr => ∃ (f i : Nat) (ls : List Bs) (wss : List (List Bs)) (v : Value) (vals : List Value), i ≤ n + 1 ∧ u5 = v ∧ u6 = .int .i64 (f : Int) ∧ u7 = .int .i64 (i : Int) ∧ LR l f i ls ∧ okL ls wss ∧ wss.length ≤ i ∧ Ln w.heap.size wss v vals wr ∧ Below w.heap.size w wr) (fun _ _ u7 _ => n + 1 - (intOf u7).toNat)
  case atStart => exact ⟨0, 0, [], [], _, [], by omega, rfl, rfl, rfl, LR.start l, rfl, Nat.le_refl _, Ln.nil _ _, Below.refl _ _⟩
  case round =>
    obtain ⟨f, i, ls, wss, v, vals, hin, rfl, rfl, rfl, hR, hok, hwl, hln, hB⟩ := hrel
    obtain ⟨av, cv, rfl, _⟩ := own_slice hln.row
    by_cases hlt : i < n
    · have hki : (i : Int) < (n : Int) := by omega
      have hki2 : (i : Int) ≤ (n : Int) := by omega
      obtain ⟨c, hc⟩ : ∃ c, l[i]? = some c := ⟨_, List.getElem?_eq_getElem (by have := HN (); omega)⟩
      have hx := hix () i c hc
      obtain ⟨b, hb⟩ : ∃ b : Int, (c.toNat : Int) = b := ⟨_, rfl⟩
      rw [hb] at hx
      have HC : Unit → (c.toNat : Int) = b := fun _ => hb
      clear hb
      by_cases b10 : b = 10
      · subst b10
        have hc10 : c = 10 := by
          have h1 := HC ()
          have h2 : c.toNat = 10 := by omega
          exact UInt8.toNat_inj.1 (by rw [h2]; rfl)
        subst hc10
        obtain ⟨hfi, hR', rest, hrest⟩ := hR.line (by have := HN (); omega) (.inr hc)
        clear HC hR
        have hcf := hct () f i (by omega) hfi
        have hXl : ((l.take i).drop f).length ≤ 400000 := by rw [List.length_drop, List.length_take]; omega
        generalize hX : (l.take i).drop f = X at *
        have K := Lib.hid (rsplit_any X wr hXl)
        have hsl := hok.len
        cases hs : splitN X with
        | none =>
          have hd : wordsN (linesL l) 1 = .inr (1 + ls.length) := by rw [hrest]; exact hok.bad hs rest 1
          obtain rfl := (HO ()).symm.trans hd
          rw [hs] at K
          have hwi : (wss.length : Int) ≤ 400001 := by omega
          clear hrest hR' hd HO
          rw [hsl]
          go_wp2_with fail
          refine K.out.mono ?_
          rintro e w2 ⟨rfl, hB2⟩
          clear K
          go_wp2_with fail
          go_ret3
          have hcast : (wss.length : Int) + 1 = ((1 + wss.length : Nat) : Int) := by omega
          exact ⟨congrArg (fun z => Ending.returned (.tuple #[.slice none 0 0, .int .i64 z, .int .i64 2])) hcast, hB.trans (hB2.mono hB.size)⟩
        | some ws =>
          rw [hs] at K
          have hok' := hok.snoc hs
          clear hrest hok
          go_wp2_with fail
          refine K.out.mono ?_
          rintro e w2 ⟨⟨vw, rfl, how⟩, hB2⟩
          clear K
          replace hln := hln.stay hB2
          have hszr := hB.size
          replace hB := hB.trans (hB2.mono hB.size)
          have hsz2 := hB.size
          replace how := own_base how (b' := w.heap.size) (by have := hB2.size; omega)
          obtain ⟨aw, cw, rfl, _⟩ := own_slice how
          have hrow := hln.row
          clear hB2
          go_wp2_with (at_builtin; refine wpList_append_own_at _ rfl _ _ 28 rfl w.heap.size 24 i0 (.slice none 0 0) 1 24 Try.underlying28 hi hz0 hz1 hz2 rfl (by decide) _ wss.length _ rfl (World.ownsRow.alloc hrow _) ⟨w2.heap.size, 0, none⟩ 1 1 [.slice aw ws.length cw] rfl rfl (cell_one_new _ _ _) (fun u hu => by simp at hu; subst hu; rfl) (by unfold maxLen; omega) (by omega) (by simp; omega) ?_)
          intro v' W4 hO hg _ _
          have hal := (Below.refl w2.heap.size w2).alloc (Nat.le_refl _) (.cells #[.slice aw ws.length cw] 24)
          have hln4 := hln.add how hal hg hO
          have hB4 : Below w.heap.size w W4 := (hB.alloc hsz2 _).grown hg (by simp; omega) (fun k e => (hrow.lt k e).1)
          obtain ⟨g3, cap3, rfl⟩ := own_succ hO
          clear hO hg hln hrow how hal hB
          go_wp2_with fail
          go_roundw
          case rel => exact ⟨i + 1, i + 1, ls ++ [X], wss ++ [ws], _, _, by omega, rfl, by simp, by simp, hR', hok', by rw [List.length_append]; simp; omega, hln4, hB4⟩
          case measure => simp [intOf]; omega
      · have e10 : (b != 10) = true := by rw [bne_iff_ne]; exact b10
        have hR' := hR.on hc (fun e => by subst e; have := HC (); simp at this; omega)
        clear HC
        go_wp2_with fail
        go_roundw
        case rel => exact ⟨f, i + 1, ls, wss, _, vals, by omega, rfl, rfl, by simp, hR', hok, by omega, hln, hB⟩
        case measure => simp [intOf]; omega
    · by_cases hin' : i = n
      · obtain rfl : n = i := by omega
        obtain ⟨hfi, hR', rest, hrest⟩ := hR.line (by have := HN (); omega) (.inl (HN ()).symm)
        clear hR
        have hcf := hct () f n (by omega) hfi
        have hXl : ((l.take n).drop f).length ≤ 400000 := by rw [List.length_drop, List.length_take]; omega
        generalize hX : (l.take n).drop f = X at *
        have K := Lib.hid (rsplit_any X wr hXl)
        have hsl := hok.len
        cases hs : splitN X with
        | none =>
          have hd : wordsN (linesL l) 1 = .inr (1 + ls.length) := by rw [hrest]; exact hok.bad hs rest 1
          obtain rfl := (HO ()).symm.trans hd
          rw [hs] at K
          have hwi : (wss.length : Int) ≤ 400001 := by omega
          clear hrest hR' hd HO
          rw [hsl]
          go_wp2_with fail
          refine K.out.mono ?_
          rintro e w2 ⟨rfl, hB2⟩
          clear K
          go_wp2_with fail
          go_ret3
          have hcast : (wss.length : Int) + 1 = ((1 + wss.length : Nat) : Int) := by omega
          exact ⟨congrArg (fun z => Ending.returned (.tuple #[.slice none 0 0, .int .i64 z, .int .i64 2])) hcast, hB.trans (hB2.mono hB.size)⟩
        | some ws =>
          rw [hs] at K
          have hok' := hok.snoc hs
          clear hrest hok
          go_wp2_with fail
          refine K.out.mono ?_
          rintro e w2 ⟨⟨vw, rfl, how⟩, hB2⟩
          clear K
          replace hln := hln.stay hB2
          have hszr := hB.size
          replace hB := hB.trans (hB2.mono hB.size)
          have hsz2 := hB.size
          replace how := own_base how (b' := w.heap.size) (by have := hB2.size; omega)
          obtain ⟨aw, cw, rfl, _⟩ := own_slice how
          have hrow := hln.row
          clear hB2
          go_wp2_with (at_builtin; refine wpList_append_own_at _ rfl _ _ 28 rfl w.heap.size 24 i0 (.slice none 0 0) 1 24 Try.underlying28 hi hz0 hz1 hz2 rfl (by decide) _ wss.length _ rfl (World.ownsRow.alloc hrow _) ⟨w2.heap.size, 0, none⟩ 1 1 [.slice aw ws.length cw] rfl rfl (cell_one_new _ _ _) (fun u hu => by simp at hu; subst hu; rfl) (by unfold maxLen; omega) (by omega) (by simp; omega) ?_)
          intro v' W4 hO hg _ _
          have hal := (Below.refl w2.heap.size w2).alloc (Nat.le_refl _) (.cells #[.slice aw ws.length cw] 24)
          have hln4 := hln.add how hal hg hO
          have hB4 : Below w.heap.size w W4 := (hB.alloc hsz2 _).grown hg (by simp; omega) (fun k e => (hrow.lt k e).1)
          obtain ⟨g3, cap3, rfl⟩ := own_succ hO
          clear hO hg hln hrow how hal hB
          go_wp2_with fail
          go_roundw
          case rel => exact ⟨n + 1, n + 1, ls ++ [X], wss ++ [ws], _, _, by omega, rfl, by simp, by simp, hR', hok', by rw [List.length_append]; simp; omega, hln4, hB4⟩
          case measure => simp [intOf]
      · obtain rfl : i = n + 1 := by omega
        have hls : linesL l = ls := by
          rcases hR with ⟨h1, _⟩ | ⟨_, h2⟩
          · have := HN (); omega
          · exact h2
        have hd : wordsN (linesL l) 1 = .inl wss := by rw [hls]; exact hok.all 1
        obtain rfl := (HO ()).symm.trans hd
        have hki : ¬ ((n + 1 : Nat) : Int) ≤ (n : Int) := by omega
        go_wp2_with fail
        go_ret3
        exact ⟨⟨_, _, rfl, hln⟩, hB⟩
end Go.Proofs.Ytcljijcggnfemaa
