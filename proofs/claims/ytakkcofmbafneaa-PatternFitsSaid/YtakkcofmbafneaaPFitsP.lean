/- Whether a text fits. -/
import Derived.Test.YtakkcofmbafneaaPReach
import Derived.Test.YtakkcofmbafneaaPB
namespace Go.Proofs.Ytakkcofmbafneaa
open Go.ChangeShapes Go.WideShapes Go.RowKit Go.Maps

theorem tame_steps {a : Al} (ho : okA a) (hl : lenA a ≤ 200) : Tame (stepsM a) := by
  have hlen : (stepsM a).length = lenR (.grp a) := stR_length _ _
  have hle : lenR (.grp a) ≤ 201 := by rw [lenR]; omega
  refine ⟨fun s hs x hx => ?_, Fb.ofR (by rw [okR]; exact ho) (by omega), by omega⟩
  have := (clR (.grp a) 0 s hs x hx).2
  omega
theorem has_nil (l : Lit) : Maps.has (.map [] : DataW Unit) l = false := rfl
theorem map_nil {w : World} {mb N n : Nat} (h : w.ownsMap Try.prog 3 unitElem mb n (.map [] : DataW Unit)) (hn : n = 0) : MapAt w mb N (.map []) :=
  ⟨⟨n, h, by rw [lack_nil]; omega⟩, fun x hx => by rw [has_nil] at hx; cases hx⟩
theorem lack_le (D : DataW Unit) (N : Nat) : lackM D N ≤ N + 1 := by
  unfold lackM
  refine Nat.le_trans List.countP_le_length ?_
  simp
theorem shut_nil (S : List Stp) : Shut S (InM (.map [])) := fun k hk => by unfold InM at hk; rw [has_nil] at hk; cases hk
theorem nil_not (j : Nat) : ¬ InM (.map []) j := fun h => by unfold InM at h; rw [has_nil] at h; cases h
theorem size_le {w : World} {mb n : Nat} {D : DataW Unit} (h : w.ownsMap Try.prog 3 unitElem mb n D) : Maps.size D ≤ n := by
  obtain ⟨es, clock, _, _, hs, rfl⟩ := h
  rw [Maps.size_eq, length_sorted, List.length_map, Array.length_toList]
  exact hs
/-- What is ahead, of the numbers that have come up. -/
structure Ah (S : List Stp) (D : DataW Unit) (c : UInt8) (left : Lit → Bool) (xs : List Nat) : Prop where
  from_ : ∀ x ∈ xs, ∃ k st, x = k + 1 ∧ InM D k ∧ S[k]? = some st ∧ st.set c = true
  all : ∀ (k : Nat) st, InM D k → left (.int .i64 (k : Int)) = false → S[k]? = some st → st.set c = true → k + 1 ∈ xs
theorem Ah.start (S : List Stp) (D : DataW Unit) (c : UInt8) : Ah S D c (Maps.has D) [] := ⟨fun x h => by (cases h), fun k st h1 h2 => by (unfold InM at h1; rw [h1] at h2; cases h2)⟩
theorem left_next {left : Lit → Bool} {k j : Nat} (h : (left (.int .i64 (k : Int)) && !(Lit.int .i64 (k : Int)).sameKey (.int .i64 (j : Int))) = false) : left (.int .i64 (k : Int)) = false ∨ k = j := by
  by_cases e : k = j
  · exact .inr e
  · rw [sameKey_ne (fun e' => e (by injection e' with _ e'; omega))] at h
    simp at h
    exact .inl h
theorem Ah.miss {S : List Stp} {D : DataW Unit} {c : UInt8} {left : Lit → Bool} {xs : List Nat} {j : Nat} (h : Ah S D c left xs) (hj : ∀ st, S[j]? = some st → st.set c = false) : Ah S D c (fun z => left z && !z.sameKey (.int .i64 (j : Int))) xs :=
  ⟨h.from_, fun k st h1 h2 h3 h4 => by
    rcases left_next h2 with q | rfl
    · exact h.all k st h1 q h3 h4
    · rw [hj st h3] at h4; cases h4⟩
theorem Ah.hit {S : List Stp} {D : DataW Unit} {c : UInt8} {left : Lit → Bool} {xs : List Nat} {j : Nat} {st : Stp} (h : Ah S D c left xs) (hj : InM D j) (hs : S[j]? = some st) (hc : st.set c = true) : Ah S D c (fun z => left z && !z.sameKey (.int .i64 (j : Int))) (xs ++ [j + 1]) :=
  ⟨fun x hx => by
    rcases List.mem_append.1 hx with hx | hx
    · exact h.from_ x hx
    · rw [List.mem_singleton.1 hx]; exact ⟨j, st, rfl, hj, hs, hc⟩, fun k st' h1 h2 h3 h4 => by
    rcases left_next h2 with q | rfl
    · exact List.mem_append_left _ (h.all k st' h1 q h3 h4)
    · exact List.mem_append_right _ (by simp)⟩
theorem Ah.step {S : List Stp} {D : DataW Unit} {c : UInt8} {left : Lit → Bool} {xs : List Nat} {u : Bx} (h : Ah S D c left xs) (hl : ∀ l, left l = false) (hD : ∀ j, InM D j ↔ At S u j) (y : Nat) : (∃ x ∈ xs, Eps S x y) ↔ At S (u ++ [c]) y := by
  rw [at_snoc]
  constructor
  · rintro ⟨x, hx, he⟩
    obtain ⟨k, st, rfl, h1, h2, h3⟩ := h.from_ x hx
    exact ⟨k, st, (hD k).1 h1, h2, h3, he⟩
  · rintro ⟨k, st, h1, h2, h3, he⟩
    exact ⟨k + 1, h.all k st ((hD k).2 h1) (hl _) h2 h3, he⟩
theorem Ah.none {S : List Stp} {D : DataW Unit} {c : UInt8} {left : Lit → Bool} {u v : Bx} (h : Ah S D c left []) (hl : ∀ l, left l = false) (hD : ∀ j, InM D j ↔ At S u j) (y : Nat) : ¬ At S (u ++ c :: v) y := fun ha => by
  obtain ⟨j, st, h1, h2, h3, _⟩ := at_over ha
  have := h.all j st ((hD j).2 h1) (hl _) h2 h3
  cases this
theorem reach_more {S : List Stp} {D D' : DataW Unit} {xs : List Nat} {j x : Nat} (hs : Shut S (InM D)) (hD : ∀ y, InM D y ↔ ∃ z ∈ xs.take j, Eps S z y) (hx : xs[j]? = some x) (h : Rch S (InM D) x (InM D')) : Shut S (InM D') ∧ ∀ y, InM D' y ↔ ∃ z ∈ xs.take (j + 1), Eps S z y := by
  obtain ⟨h1, h2⟩ := h.all hs
  refine ⟨h1, fun y => ?_⟩
  rw [h2, take_more hx, hD]
  constructor
  · rintro (⟨z, hz, he⟩ | he)
    · exact ⟨z, List.mem_append_left _ hz, he⟩
    · exact ⟨x, by simp, he⟩
  · rintro ⟨z, hz, he⟩
    rcases List.mem_append.1 hz with hz | hz
    · exact .inl ⟨z, hz, he⟩
    · rw [List.mem_singleton.1 hz] at he; exact .inr he
/-- A row of one's own is cut to nothing. -/
theorem own_cut0 {w : World} {base : Nat} {e : TypeId} {v : Value} {n : Nat} {xs : List Value} (h : w.ownsRow base e 1 v n xs) : ∃ v', (Instr.slice 63 v none (some (.int .i64 0)) none).run Try.prog w = .ok v' w ∧ w.ownsRow base e 1 v' 0 [] ∧ v'.ownBlock = v.ownBlock := by
  rcases h.2 with ⟨rfl, _⟩ | ⟨g, cap, cur, rfl, h1, h2, h3, h4, h5, _⟩
  · refine ⟨.slice none 0 0, ?_, World.ownsRow_nil _ _ _ _, rfl⟩
    simp [Instr.slice, run_underlying Try.underlying63, Instr.sliceBounds, run_sliceBound]
  · refine ⟨.slice (some ⟨g, 0, none⟩) 0 cap, ?_, ⟨rfl, .inr ⟨g, cap, cur, rfl, h1, h2, Nat.zero_le _, h4, h5, by simp⟩⟩, rfl⟩
    have hsz : Try.prog.info? 3 = none ∨ True := .inr trivial
    simp [Instr.slice, run_underlying Try.underlying63, Instr.sliceBounds, run_sliceBound, Addr.add]
end Go.Proofs.Ytakkcofmbafneaa
