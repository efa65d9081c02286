/- Lists of names that are unlike one another, as plain functions; texts that come in. -/
import Derived.Test.YtcljijcggnfemaaDoorWNames
import Derived.Test.YtcljijcggnfemaaDoorWEarly
import Derived.Deep.Strs
namespace Go.Proofs.YtcljijcggnfemaaDoor
open Go.ChangeShapes Go.WideShapes Go.RowKit

theorem go_names {seen xs : List Bs} (h : goN seen xs = true) : ∀ x ∈ xs, nameB x = true := by
  induction xs generalizing seen with
  | nil => intro x hx; cases hx
  | cons y xs ih =>
    rw [goN] at h
    simp only [Bool.and_eq_true] at h
    intro x hx
    rcases List.mem_cons.1 hx with rfl | hx
    · exact h.1.2
    · exact ih h.2 x hx
theorem names_each {l : Bs} {ns : List Bs} (h : namesN l = some ns) : ∀ x ∈ ns, nameB x = true := by
  unfold namesN at h
  split at h
  · injection h with h
    subst h; intro x hx; cases hx
  · split at h
    · rename_i hg
      injection h with h
      subst h
      exact go_names hg
    · cases h
/-- Names, none of them twice. -/
def GoodO (O : List Bs) : Prop := ∀ k x, O[k]? = some x → (O.take k).contains x = false ∧ nameB x = true
theorem GoodO.nil : GoodO [] := fun k x h => by cases h
theorem GoodO.snoc {O : List Bs} {x : Bs} (h : GoodO O) (hx : O.contains x = false) (hn : nameB x = true) : GoodO (O ++ [x]) := by
  intro k y hk
  by_cases hlt : k < O.length
  · rw [List.getElem?_append_left hlt] at hk
    rw [List.take_append_of_le_length (by omega)]
    exact h k y hk
  · rw [List.getElem?_append_right (by omega)] at hk
    have e : k - O.length = 0 := by have := (List.getElem?_eq_some_iff.1 hk).1; simp at this; omega
    rw [e] at hk
    simp at hk
    subst hk
    rw [show k = O.length by omega, List.take_left]
    exact ⟨hx, hn⟩
theorem GoodO.each {O : List Bs} (h : GoodO O) : ∀ x ∈ O, nameB x = true := fun x hx => by
  obtain ⟨k, hk, rfl⟩ := List.mem_iff_getElem.1 hx
  exact (h k _ (List.getElem?_eq_getElem hk)).2
theorem name_clean {x : Bs} (h : nameB x = true) : ∀ c ∈ x, c ≠ 44 := by
  unfold nameB at h
  simp only [Bool.and_eq_true] at h
  intro c hc e
  subst e
  have := List.all_eq_true.1 h.2 44 hc
  revert this; decide
theorem name_short {x : Bs} (h : nameB x = true) : x.length ≤ 12 := by
  unfold nameB at h
  simp only [Bool.and_eq_true, decide_eq_true_eq] at h
  exact h.1.1.2
theorem sep_plain {d : UInt8} (a : Bs) (h : ∀ c ∈ a, c ≠ d) : sepL d a = [a] := by
  induction a with
  | nil => rfl
  | cons c a ih => exact sep_step (h c (by simp)) (ih (fun e he => h e (by simp [he])))
theorem sep_append (d : UInt8) (a b : Bs) : sepL d (a ++ d :: b) = sepL d a ++ sepL d b := by
  induction a with
  | nil => exact sep_hit d b
  | cons c a ih =>
    by_cases hc : c = d
    · subst hc
      rw [List.cons_append, sep_hit, ih, sep_hit]; rfl
    · cases hl : sepL d a with
      | nil => exact absurd hl (sep_ne d a)
      | cons x xs =>
        rw [hl] at ih
        rw [List.cons_append, sep_step hc ih, sep_step hc hl]; rfl
theorem sep_back (O : List Bs) (h : ∀ x ∈ O, ∀ c ∈ x, c ≠ 44) (hne : O ≠ []) : sepL 44 (joinL [44] O) = O := by
  induction O with
  | nil => exact absurd rfl hne
  | cons x xs ih =>
    cases xs with
    | nil =>
      rw [show joinL [44] [x] = x from Lib.join_one x [44]]
      exact sep_plain x (h x (by simp))
    | cons y ys =>
      have e : joinL [44] (x :: y :: ys) = x ++ 44 :: joinL [44] (y :: ys) := by
        unfold joinL
        rw [Lib.join_cons, Lib.join_cons, Lib.joinTail, Lib.joinTail]
        simp
      rw [e, sep_append, sep_plain x (h x (by simp)), ih (fun z hz => h z (by simp [hz])) (by simp)]; rfl
theorem own_text (O : List Bs) (h : GoodO O) : namesN (ntextN O) = some O := by
  by_cases hO : O = []
  · subst hO; rfl
  · have hs := sep_back O (fun x hx => name_clean (h.each x hx)) hO
    have h45 : joinL [44] O ≠ [45] := fun e => by
      rw [e] at hs
      have : nameB [45] = true := h.each _ (by rw [← hs]; decide)
      revert this; decide
    unfold ntextN
    rw [if_neg hO]
    unfold namesN
    rw [if_neg h45, hs, if_pos (go_all (fun k x hk => by rw [List.nil_append]; exact h k x hk))]
theorem own_twice (O : List Bs) (h : GoodO O) {x : Bs} (hx : x ∈ O) : namesN (ntextN O ++ 44 :: x) = none := by
  have hO : O ≠ [] := fun e => by subst e; cases hx
  have hs := sep_back O (fun x hx => name_clean (h.each x hx)) hO
  have e : ntextN O = joinL [44] O := by unfold ntextN; rw [if_neg hO]
  have hsp : sepL 44 (ntextN O ++ 44 :: x) = O ++ [x] := by rw [e, sep_append, hs, sep_plain x (name_clean (h.each x hx))]
  have h45 : ntextN O ++ 44 :: x ≠ [45] := fun e2 => by
    have := congrArg (fun l => (44 : UInt8) ∈ l) e2
    simp at this
  refine names_bad h45 (k := O.length) (x := x) (by rw [hsp]; simp) (.inl ?_)
  rw [hsp, List.take_left]
  simpa using hx
theorem own_len (O : List Bs) (h : GoodO O) : (O.map List.length).sum ≤ 12 * O.length := by
  have h1 := h.each
  clear h
  induction O with
  | nil => exact Nat.le_refl _
  | cons x xs ih =>
    have := ih (fun y hy => h1 y (by simp [hy]))
    have := name_short (h1 x (by simp))
    simp only [List.map_cons, List.sum_cons, List.length_cons]; omega
def wSp : Option (List Bs) → List Bs
  | none => []
  | some ss => ss
def eSp : Option (List Bs) → Int
  | none => 2
  | some _ => 0
/-- What Names hands back, in short. -/
theorem NamesP.at {w w' : World} {o : Option (List Bs)} {e : Ending} (h : NamesP w o e w') : ∃ a c, e = .returned (.tuple #[.slice a (wSp o).length c, .int .i64 (eSp o)]) ∧ StrsAt (fun k => w.heap.size ≤ k) w' (.slice a (wSp o).length c) (wSp o) ∧ Below w.heap.size w w' := by
  obtain ⟨h, hB⟩ := h
  cases o with
  | none => exact ⟨none, 0, h, .inl ⟨rfl, none, 0, rfl⟩, hB⟩
  | some ss =>
    obtain ⟨v, rfl, hs⟩ := h
    obtain ⟨a, c, rfl⟩ := hs.shape
    exact ⟨a, c, rfl, hs, hB⟩
/-- Texts that come in. -/
theorem open_strs {H : Type} {enc : TypeId × Value → H} {w : World} {r : Reach} {b0 : Nat} {v : Value} {d : DataW H} {p : List MemPlace} (hv : Value.okWide Tryd.prog w r b0 22 v) (h : DataW.Trod enc Tryd.prog w 0 (fun _ => true) true 22 v d p) :
    ∃ ss : List Bs, StrsAt (fun _ => True) w v ss ∧ (∀ s ∈ ss, s.length ≤ 9223372036854775807) ∧ ss.length ≤ 9223372036854775807 := by
  obtain ⟨aa, n, cap, rfl⟩ := okWide_slice Tryd.underlying22 hv
  obtain ⟨fuel, hf⟩ := h
  rcases Go.Deep.open_strs Tryd.underlying22 Tryd.underlying9 (by kernel_rfl) hf with ⟨e, _⟩ | ⟨ad, len, cap', m, Sx, e, _, hl, hm, hmm, _, hc⟩
  · simp [Value.cells] at e
    obtain ⟨rfl, rfl, rfl⟩ := e
    exact ⟨[], .inl ⟨rfl, _, _, rfl⟩, by simp, by simp⟩
  · simp [Value.cells] at e
    obtain ⟨rfl, rfl, rfl⟩ := e
    simp at hmm
    have hml : maxLen = 9223372036854775807 := rfl
    refine ⟨(List.range n).map fun i => (Sx i).data.toList, ?_, fun s hs => ?_, by simp; omega⟩
    · cases n with
      | zero => exact .inl ⟨rfl, _, _, rfl⟩
      | succ n =>
        obtain ⟨bb, off, spot⟩ := ad
        have hspot : spot = none := by have h0 := (hc 0 (by omega)).1; have := World.cell?_spot h0; simpa [Addr.add] using this
        subst hspot
        have hlt : bb < w.heap.size := by have h0 := (hc 0 (by omega)).1; have := World.block_lt_of_cell? w _ h0; simpa [Addr.add] using this
        refine .inr ⟨bb, off, cap, by simp, by simpa using hl, trivial, hlt, fun j s hs => ?_⟩
        have hj : j < n + 1 := by have := (List.getElem?_eq_some_iff.1 hs).1; simpa using this
        have h1 := (hc j (by omega)).1
        rw [show (⟨bb, off, none⟩ : Addr).add j = ⟨bb, off + j, none⟩ from add_at bb off j] at h1
        rw [h1]
        rw [List.getElem?_map, List.getElem?_range hj] at hs
        injection hs with hs
        rw [← hs]
    · obtain ⟨i, hi, rfl⟩ := List.mem_map.1 hs
      have := (hc i (by have := List.mem_range.1 hi; omega)).2
      rw [Array.length_toList]
      exact this
end Go.Proofs.YtcljijcggnfemaaDoor
