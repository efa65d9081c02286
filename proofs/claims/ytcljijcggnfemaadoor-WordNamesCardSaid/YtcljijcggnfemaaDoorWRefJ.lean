/- The document's Join and NamesText: the walks; the first texts of a list. -/
import Derived.Test.YtcljijcggnfemaaDoorWRefW
import Derived.Test.YtcljijcggnfemaaDoorWListsP
import Derived.Test.YtcljijcggnfemaaDoorWLists
import Derived.Great.BuildSlice
namespace Go.Proofs.YtcljijcggnfemaaDoor
open Go.ChangeShapes Go.WideShapes Go.RowKit

theorem joinL_snoc (sep : Bs) (l : List Bs) (x : Bs) : joinL sep (l ++ [x]) = if l = [] then x else joinL sep l ++ sep ++ x := by
  cases l with
  | nil => exact Lib.join_one x sep
  | cons y l =>
    rw [if_neg (by simp)]
    unfold joinL
    rw [List.cons_append, Lib.join_cons, Lib.join_cons, Lib.joinTail, Lib.joinTail]
    simp
theorem take_sum (l : List Bs) (i : Nat) : ((l.take i).map List.length).sum ≤ (l.map List.length).sum := by
  induction l generalizing i with
  | nil => simp
  | cons x l ih =>
    cases i with
    | zero => simp
    | succ i => have := ih i; simp only [List.take_succ_cons, List.map_cons, List.sum_cons]; omega
theorem get_sum (l : List Bs) {i : Nat} {x : Bs} (h : l[i]? = some x) : x.length ≤ (l.map List.length).sum := by
  induction l generalizing i with
  | nil => cases h
  | cons y l ih =>
    cases i with
    | zero => simp at h; subst h; simp
    | succ i => have := ih (i := i) (by simpa using h); simp only [List.map_cons, List.sum_cons]; omega
theorem cat3_text (a b : Bs) (d : UInt8) : (⟨a.toArray⟩ : ByteArray) ++ ⟨#[d]⟩ ++ ⟨b.toArray⟩ = ⟨(a ++ [d] ++ b).toArray⟩ := by
  have e1 : (⟨a.toArray⟩ : ByteArray) ++ ⟨#[d]⟩ = ⟨(a ++ [d]).toArray⟩ := cat_text a [d]
  rw [e1, cat_text]
set_option maxHeartbeats 3200000 in
set_option maxRecDepth 100000 in
theorem rntext_any (P : Nat → Prop) (v : Value) (ss : List Bs) (w : World) (h : StrsAt P w v ss) (hn : ss.length ≤ 1000) (hs : (ss.map List.length).sum ≤ 100000) :
    Calls Tryd.prog 17 #[v] w fun e w' => e = .returned (.string ⟨(ntextN ss).toArray⟩) ∧ w' = w := by
  obtain ⟨a, c, rfl⟩ := h.shape
  obtain ⟨n, hN⟩ : ∃ n, ss.length = n := ⟨_, rfl⟩
  rw [hN] at h hn ⊢
  have HN : Unit → ss.length = n := fun _ => hN
  clear hN
  have hni : (n : Int) ≤ 1000 := by omega
  obtain ⟨o, ho⟩ : ∃ o : ByteArray, ⟨(ntextN ss).toArray⟩ = o := ⟨_, rfl⟩
  rw [ho]
  have HO : Unit → (⟨(ntextN ss).toArray⟩ : ByteArray) = o := fun _ => ho
  clear ho
  have HS : Unit → ∀ i, (joinL [44] (ss.take i)).length ≤ 102000 := fun _ i => by
    have h1 := join_len [44] (ss.take i)
    have h2 := take_sum ss i
    have h3 : (ss.take i).length ≤ ss.length := by rw [List.length_take]; omega
    have := HN ()
    simp only [List.length_cons, List.length_nil] at h1
    omega
  have HG : Unit → ∀ (i : Nat) (x : Bs), ss[i]? = some x → x.length ≤ 100000 := fun _ i x hx => Nat.le_trans (get_sum ss hx) hs
  clear hs
  go_enter Tryd.func17, Tryd.ntmps17
  go_upto_region 3 with fail
  go_loopw [3, 4] (fun u3 u4 wr => ∃ i : Nat, i ≤ n ∧ u4 = .int .i64 (i : Int) ∧ u3 = .string ⟨(joinL [44] (ss.take i)).toArray⟩ ∧ w = wr) (fun _ u4 _ => n - (intOf u4).toNat)
  case atStart => exact ⟨0, Nat.zero_le _, rfl, rfl, rfl⟩
  case round =>
    obtain ⟨i, hin, rfl, rfl, rfl⟩ := hrel
    have hjl := HS () i
    have hjz : (⟨(joinL [44] (ss.take i)).toArray⟩ : ByteArray).size = (joinL [44] (ss.take i)).length := by simp [ByteArray.size]
    by_cases hlt : i < n
    · have hki : (i : Int) < (n : Int) := by omega
      obtain ⟨x, hx⟩ : ∃ x, ss[i]? = some x := ⟨_, List.getElem?_eq_getElem (by have := HN (); omega)⟩
      obtain ⟨g, o1, rfl, hg, hc⟩ := h.text hx
      have hxl := HG () i x hx
      have hxz : (⟨x.toArray⟩ : ByteArray).size = x.length := by simp [ByteArray.size]
      have hJ : ss.take (i + 1) = ss.take i ++ [x] := by rw [List.take_add_one, hx]; rfl
      by_cases hi0 : i = 0
      · have hc0 := hc
        rw [hi0, Nat.add_zero] at hc0
        have HR : Unit → (⟨(joinL [44] (ss.take i)).toArray⟩ : ByteArray) ++ ⟨x.toArray⟩ = ⟨(joinL [44] (ss.take (i + 1))).toArray⟩ := fun _ => by
          rw [cat_text, hJ, joinL_snoc, hi0, if_pos (by simp)]; rfl
        clear hJ
        generalize (⟨(joinL [44] (ss.take i)).toArray⟩ : ByteArray) = tJ at *
        generalize (⟨x.toArray⟩ : ByteArray) = tX at *
        generalize (joinL [44] (ss.take i)).length = lJ at *
        generalize x.length = lX at *
        have i1 : (lJ : Int) ≤ 102000 := by omega
        have i2 : (lX : Int) ≤ 100000 := by omega
        go_wp2_with fail
        go_roundw
        case rel =>
          subst hi0
          exact ⟨1, by omega, by simp, by rw [HR ()], trivial⟩
        case measure => simp [intOf]; omega
      · have hi0i : 0 < (i : Int) := by omega
        have HR : Unit → (⟨(joinL [44] (ss.take i)).toArray⟩ : ByteArray) ++ ⟨#[44]⟩ ++ ⟨x.toArray⟩ = ⟨(joinL [44] (ss.take (i + 1))).toArray⟩ := fun _ => by
          rw [cat3_text, hJ, joinL_snoc, if_neg (by intro e; have h9 := congrArg List.length e; rw [List.length_take, HN ()] at h9; simp only [List.length_nil] at h9; omega)]
        clear hJ
        generalize (⟨(joinL [44] (ss.take i)).toArray⟩ : ByteArray) = tJ at *
        generalize (⟨x.toArray⟩ : ByteArray) = tX at *
        generalize (joinL [44] (ss.take i)).length = lJ at *
        generalize x.length = lX at *
        have i1 : (lJ : Int) ≤ 102000 := by omega
        have i2 : (lX : Int) ≤ 100000 := by omega
        go_wp2_with fail
        go_roundw
        case rel => exact ⟨i + 1, by omega, by simp, by rw [HR ()], trivial⟩
        case measure => simp [intOf]; omega
    · obtain rfl : n = i := by omega
      have hall : ss.take n = ss := by rw [← HN (), List.take_length]
      rw [hall]
      clear hall hjl hjz
      by_cases hn0 : n = 0
      · subst hn0
        have e : ss = [] := List.eq_nil_of_length_eq_zero (HN ())
        have ho : (⟨(ntextN ss).toArray⟩ : ByteArray) = ⟨#[45]⟩ := by rw [e]; rfl
        obtain rfl := (HO ()).symm.trans ho
        go_wp2_with fail
        go_ret
        exact ⟨rfl, rfl⟩
      · have e : ss ≠ [] := fun e => by subst e; exact hn0 (HN ()).symm
        have ho : (⟨(ntextN ss).toArray⟩ : ByteArray) = ⟨(joinL [44] ss).toArray⟩ := by unfold ntextN; rw [if_neg e]
        rw [show (⟨(joinL [44] ss).toArray⟩ : ByteArray) = o from ho.symm.trans (HO ())]
        have hne : ((n : Int) == 0) = false := by rw [beq_eq_false_iff_ne]; omega
        clear ho
        go_wp2_with fail
        go_ret
        exact ⟨rfl, rfl⟩
set_option maxHeartbeats 3200000 in
set_option maxRecDepth 100000 in
theorem rjoin_any (P : Nat → Prop) (v : Value) (ss : List Bs) (w : World) (h : StrsAt P w v ss) (hn : ss.length ≤ 1000) (hs : (ss.map List.length).sum ≤ 100000) :
    Calls Tryd.prog 14 #[v] w fun e w' => e = .returned (joinT (joinN ss)) ∧ Below w.heap.size w w' := by
  obtain ⟨a, c, rfl⟩ := h.shape
  obtain ⟨n, hN⟩ : ∃ n, ss.length = n := ⟨_, rfl⟩
  rw [hN] at h hn ⊢
  have HN : Unit → ss.length = n := fun _ => hN
  clear hN
  have hni : (n : Int) ≤ 1000 := by omega
  obtain ⟨o, ho⟩ : ∃ o, joinN ss = o := ⟨_, rfl⟩
  rw [ho]
  have HO : Unit → joinN ss = o := fun _ => ho
  clear ho
  have HS : Unit → ∀ i, (joinL [32] (ss.take i)).length ≤ 102000 := fun _ i => by
    have h1 := join_len [32] (ss.take i)
    have h2 := take_sum ss i
    have h3 : (ss.take i).length ≤ ss.length := by rw [List.length_take]; omega
    have := HN ()
    simp only [List.length_cons, List.length_nil] at h1
    omega
  have HG : Unit → ∀ (i : Nat) (x : Bs), ss[i]? = some x → x.length ≤ 100000 := fun _ i x hx => Nat.le_trans (get_sum ss hx) hs
  clear hs
  go_enter Tryd.func14, Tryd.ntmps14
  go_upto_region 3 with fail
  go_loopw [4, 5] (fun u4 u5 wr => ∃ i : Nat, i ≤ n ∧ u5 = .int .i64 (i : Int) ∧ u4 = .string ⟨(joinL [32] (ss.take i)).toArray⟩ ∧ w = wr) (fun _ u5 _ => n - (intOf u5).toNat)
  case atStart => exact ⟨0, Nat.zero_le _, rfl, rfl, rfl⟩
  case round =>
    obtain ⟨i, hin, rfl, rfl, rfl⟩ := hrel
    have hjl := HS () i
    have hjz : (⟨(joinL [32] (ss.take i)).toArray⟩ : ByteArray).size = (joinL [32] (ss.take i)).length := by simp [ByteArray.size]
    by_cases hlt : i < n
    · have hki : (i : Int) < (n : Int) := by omega
      obtain ⟨x, hx⟩ : ∃ x, ss[i]? = some x := ⟨_, List.getElem?_eq_getElem (by have := HN (); omega)⟩
      obtain ⟨g, o1, rfl, hg, hc⟩ := h.text hx
      have hxl := HG () i x hx
      have hxz : (⟨x.toArray⟩ : ByteArray).size = x.length := by simp [ByteArray.size]
      have hJ : ss.take (i + 1) = ss.take i ++ [x] := by rw [List.take_add_one, hx]; rfl
      by_cases hi0 : i = 0
      · have hc0 := hc
        rw [hi0, Nat.add_zero] at hc0
        have HR : Unit → (⟨(joinL [32] (ss.take i)).toArray⟩ : ByteArray) ++ ⟨x.toArray⟩ = ⟨(joinL [32] (ss.take (i + 1))).toArray⟩ := fun _ => by
          rw [cat_text, hJ, joinL_snoc, hi0, if_pos (by simp)]; rfl
        clear hJ
        generalize (⟨(joinL [32] (ss.take i)).toArray⟩ : ByteArray) = tJ at *
        generalize (⟨x.toArray⟩ : ByteArray) = tX at *
        generalize (joinL [32] (ss.take i)).length = lJ at *
        generalize x.length = lX at *
        have i1 : (lJ : Int) ≤ 102000 := by omega
        have i2 : (lX : Int) ≤ 100000 := by omega
        go_wp2_with fail
        go_roundw
        case rel =>
          subst hi0
          exact ⟨1, by omega, by simp, by rw [HR ()], trivial⟩
        case measure => simp [intOf]; omega
      · have hi0i : 0 < (i : Int) := by omega
        have HR : Unit → (⟨(joinL [32] (ss.take i)).toArray⟩ : ByteArray) ++ ⟨#[32]⟩ ++ ⟨x.toArray⟩ = ⟨(joinL [32] (ss.take (i + 1))).toArray⟩ := fun _ => by
          rw [cat3_text, hJ, joinL_snoc, if_neg (by intro e; have h9 := congrArg List.length e; rw [List.length_take, HN ()] at h9; simp only [List.length_nil] at h9; omega)]
        clear hJ
        generalize (⟨(joinL [32] (ss.take i)).toArray⟩ : ByteArray) = tJ at *
        generalize (⟨x.toArray⟩ : ByteArray) = tX at *
        generalize (joinL [32] (ss.take i)).length = lJ at *
        generalize x.length = lX at *
        have i1 : (lJ : Int) ≤ 102000 := by omega
        have i2 : (lX : Int) ≤ 100000 := by omega
        go_wp2_with fail
        go_roundw
        case rel => exact ⟨i + 1, by omega, by simp, by rw [HR ()], trivial⟩
        case measure => simp [intOf]; omega
    · obtain rfl : n = i := by omega
      have hall : ss.take n = ss := by rw [← HN (), List.take_length]
      rw [hall] at hjl hjz ⊢
      clear hall
      have K := Lib.hid (rsplit_any (joinL [32] ss) w (by omega))
      have HJ : Unit → joinN ss = if splitN (joinL [32] ss) = some ss then some (joinL [32] ss) else none := fun _ => rfl
      obtain ⟨q, hq⟩ : ∃ q, splitN (joinL [32] ss) = q := ⟨_, rfl⟩
      rw [hq] at K HJ
      have HT : Unit → o = some (joinL [32] ss) → joinT o = .tuple #[.string ⟨(joinL [32] ss).toArray⟩, .int .i64 0] := fun _ e => by rw [e]; rfl
      have HF : Unit → o = none → joinT o = .tuple #[.string ⟨#[]⟩, .int .i64 1] := fun _ e => by rw [e]; rfl
      have HQ : Unit → ∀ ss', q = some ss' → ss'.length ≤ 102001 := fun _ ss' e => by have := split_sum (hq.trans e); omega
      clear hq hjl hjz
      generalize hL : joinL [32] ss = L at *
      clear hL
      generalize (⟨L.toArray⟩ : ByteArray) = tJ at *
      cases q with
      | none =>
        have e := (HO ()).symm.trans (HJ ())
        rw [if_neg (by simp)] at e
        have hf := HF () e
        clear HT HF HQ HJ HO
        go_wp2_with fail
        refine K.out.mono ?_
        rintro e w1 ⟨rfl, hB⟩
        clear K
        go_wp2_with fail
        go_ret2
        exact ⟨by rw [hf]; rfl, hB⟩
      | some ss' =>
        have hql := HQ () ss' rfl
        clear HQ
        go_wp2_with fail
        refine K.out.mono ?_
        rintro e w1 ⟨⟨v1, rfl, ho1⟩, hB⟩
        clear K
        have h1 := own_strs ho1
        obtain ⟨a1, c1, rfl⟩ := h1.shape
        clear ho1
        have KS := Lib.hid (same_any _ _ _ _ ss' ss w1 h1 (h.stay hB) (by omega))
        by_cases hee : ss' = ss
        · have e := (HO ()).symm.trans (HJ ())
          rw [if_pos (by rw [hee])] at e
          have ht := HT () e
          rw [decide_eq_true hee] at KS
          clear HT HF HJ HO h1 hee
          generalize ss'.length = m at *
          go_wp2_with fail
          refine KS.out.mono ?_
          rintro e w2 ⟨rfl, hB2⟩
          clear KS
          go_wp2_with fail
          go_ret2
          exact ⟨by rw [ht]; rfl, hB.trans (hB2.mono hB.size)⟩
        · have e := (HO ()).symm.trans (HJ ())
          rw [if_neg (by intro h; injection h with h; exact hee h)] at e
          have hf := HF () e
          rw [decide_eq_false hee] at KS
          clear HT HF HJ HO h1 hee
          generalize ss'.length = m at *
          go_wp2_with fail
          refine KS.out.mono ?_
          rintro e w2 ⟨rfl, hB2⟩
          clear KS
          go_wp2_with fail
          go_ret2
          exact ⟨by rw [hf]; rfl, hB.trans (hB2.mono hB.size)⟩
end Go.Proofs.YtcljijcggnfemaaDoor
