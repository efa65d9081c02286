/- Lists of lists of words, in memory. -/
import Derived.Test.YtcljijcggnfemaaWIter
import Derived.RangeFuncBox
namespace Go.Proofs.Ytcljijcggnfemaa
open Go.ChangeShapes Go.WideShapes Go.RowKit

theorem own_keep {W W' : World} {b : Nat} {S : Nat → Prop} {e : TypeId} {s n : Nat} {v : Value} {xs : List Value} (h : W.ownsRow b e s v n xs) (k : Asd S W W') (hs : ∀ i c, S i → W.heap[i]? ≠ some (.cells c e (0, 0))) : W'.ownsRow b e s v n xs := by
  refine own_asdS h k (fun i hi hS => ?_)
  rcases h.2 with ⟨rfl, _⟩ | ⟨g, cap, cur, rfl, _, hg, _⟩
  · cases hi
  · injection hi with hi
    subst hi
    exact hs _ _ hS hg
/-- Lists of words: v: their slice; vals: the words' slices. -/
structure Ln (N : Nat) (wss : List (List Bs)) (v : Value) (vals : List Value) (W : World) : Prop where
  row : W.ownsRow N 24 1 v wss.length vals
  ins : ∀ (i : Nat) x ws, vals[i]? = some x → wss[i]? = some ws → W.ownsRow N 9 1 x ws.length (ws.map sv)
theorem Ln.nil (N : Nat) (W : World) : Ln N [] (.slice none 0 0) [] W := ⟨World.ownsRow_nil _ _ _ _, fun i x ws h => by cases h⟩
theorem Ln.asd {N : Nat} {wss : List (List Bs)} {v : Value} {vals : List Value} {W W' : World} {S : Nat → Prop} (h : Ln N wss v vals W) (k : Asd S W W') (h1 : ∀ i c, S i → W.heap[i]? ≠ some (.cells c 24 (0, 0))) (h2 : ∀ i c, S i → W.heap[i]? ≠ some (.cells c 9 (0, 0))) : Ln N wss v vals W' :=
  ⟨own_keep h.row k h1, fun i x ws hi hw => own_keep (h.ins i x ws hi hw) k h2⟩
theorem Ln.stay {N : Nat} {wss : List (List Bs)} {v : Value} {vals : List Value} {W W' : World} (h : Ln N wss v vals W) (k : Below W.heap.size W W') : Ln N wss v vals W' := h.asd (S := fun _ => False) (Asd.of_below k) (fun _ _ e => e.elim) (fun _ _ e => e.elim)
/-- A variable of another kind is set. -/
theorem Ln.set {N b : Nat} {t : TypeId} {cs : List Value} {wss : List (List Bs)} {v u : Value} {vals : List Value} {W : World} (h : Ln N wss v vals W) (hb : Rw W b t cs) (h1 : t ≠ 24) (h2 : t ≠ 9) : Ln N wss v vals (W.setCell ⟨b, 0, none⟩ u) := by
  refine h.asd (Asd.one W b 0 u) (fun i c e hc => ?_) (fun i c e hc => ?_)
  · subst e; unfold Rw at hb; rw [hb] at hc; injection hc with hc; injection hc with _ hc; exact h1 hc
  · subst e; unfold Rw at hb; rw [hb] at hc; injection hc with hc; injection hc with _ hc; exact h2 hc
/-- One list more. -/
theorem Ln.add {N : Nat} {wss : List (List Bs)} {ws : List Bs} {v v' x : Value} {vals : List Value} {W W1 W2 : World} (h : Ln N wss v vals W) (hx : W.ownsRow N 9 1 x ws.length (ws.map sv)) (hb : Below W.heap.size W W1) (hg : W1.grownBy W2 v.ownBlock) (ho : W2.ownsRow N 24 1 v' (wss.length + 1) (vals ++ [x])) : Ln N (wss ++ [ws]) v' (vals ++ [x]) W2 := by
  have k : Asd (fun k => v.ownBlock = some k) W W2 := (Asd.of_below hb).grown hg (fun k e => .inl e)
  have hlen : vals.length = wss.length := by have := h.row.1; omega
  have hk : ∀ {y : Value} {us : List Bs}, W.ownsRow N 9 1 y us.length (us.map sv) → W2.ownsRow N 9 1 y us.length (us.map sv) := fun hy => own_asdS hy k (fun i e e' => own_apart hy h.row (by decide) i e e')
  refine ⟨by rw [List.length_append]; exact ho, fun i y us hi hu => ?_⟩
  by_cases hlt : i < vals.length
  · rw [List.getElem?_append_left hlt] at hi
    rw [List.getElem?_append_left (by omega)] at hu
    exact hk (h.ins i y us hi hu)
  · rw [List.getElem?_append_right (by omega)] at hi hu
    have e1 : i - vals.length = 0 := by have := (List.getElem?_eq_some_iff.1 hi).1; simp at this; omega
    rw [hlen.symm] at hu
    rw [e1] at hi hu
    simp at hi hu
    subst hi hu
    exact hk hx
/-- Which words there are, and which line has none. -/
def okL (ls : List Bs) (wss : List (List Bs)) : Prop := ls.map splitN = wss.map some
theorem okL.all {ls : List Bs} {wss : List (List Bs)} (h : okL ls wss) (k : Nat) : wordsN ls k = .inl wss := by
  induction ls generalizing wss k with
  | nil =>
    cases wss with
    | nil => rfl
    | cons w wss => cases h
  | cons x ls ih =>
    cases wss with
    | nil => cases h
    | cons w wss =>
      unfold okL at h
      simp only [List.map_cons, List.cons.injEq] at h
      rw [wordsN, h.1]
      simp only
      rw [ih h.2]
theorem okL.bad {ls : List Bs} {wss : List (List Bs)} (h : okL ls wss) {x : Bs} (hx : splitN x = none) (rest : List Bs) (k : Nat) : wordsN (ls ++ x :: rest) k = .inr (k + ls.length) := by
  induction ls generalizing wss k with
  | nil => rw [List.nil_append, wordsN, hx]; rfl
  | cons y ls ih =>
    cases wss with
    | nil => cases h
    | cons w wss =>
      unfold okL at h
      simp only [List.map_cons, List.cons.injEq] at h
      rw [List.cons_append, wordsN, h.1]
      simp only
      rw [ih h.2]
      simp only [List.length_cons]
      congr 1; omega
theorem okL.snoc {ls : List Bs} {wss : List (List Bs)} (h : okL ls wss) {x : Bs} {ws : List Bs} (hx : splitN x = some ws) : okL (ls ++ [x]) (wss ++ [ws]) := by
  unfold okL at *
  rw [List.map_append, List.map_append, h]; simp [hx]
theorem okL.len {ls : List Bs} {wss : List (List Bs)} (h : okL ls wss) : ls.length = wss.length := by
  have := congrArg List.length h
  simpa using this
theorem num_prefix {ls : List Bs} {k : Nat} {pre : List (Nat × Bs)} {x : Nat × Bs} (h : pre ++ [x] <+: numL k ls) : x.1 = k + pre.length ∧ ∃ rest, ls = pre.map (·.2) ++ x.2 :: rest := by
  induction ls generalizing k pre with
  | nil => have := h.length_le; simp [numL] at this
  | cons y ls ih =>
    rw [numL] at h
    cases pre with
    | nil =>
      obtain ⟨t, ht⟩ := h
      simp at ht
      obtain ⟨rfl, _⟩ := ht
      exact ⟨rfl, ls, rfl⟩
    | cons p pre =>
      obtain ⟨t, ht⟩ := h
      simp only [List.cons_append, List.append_assoc] at ht
      injection ht with h1 h2
      obtain ⟨h3, rest, h4⟩ := ih (k := k + 1) (pre := pre) ⟨t, by simpa using h2⟩
      refine ⟨by simp; omega, rest, ?_⟩
      rw [h4, h1]; rfl
/-- What Lines hands back. -/
def LinesP (w : World) (o : List (List Bs) ⊕ Nat) (e : Ending) (w' : World) : Prop :=
  (match o with
    | .inr k => e = .returned (.tuple #[.slice none 0 0, .int .i64 (k : Int), .int .i64 2])
    | .inl wss => ∃ v vals, e = .returned (.tuple #[v, .int .i64 0, .int .i64 0]) ∧ Ln w.heap.size wss v vals w') ∧ Below w.heap.size w w'
end Go.Proofs.Ytcljijcggnfemaa
