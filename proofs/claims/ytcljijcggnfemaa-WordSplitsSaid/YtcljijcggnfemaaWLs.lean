/- Lists of lists of words: how they are read; lines of two texts; the variable that holds some number. -/
import Derived.Test.YtcljijcggnfemaaWLinesW
import Derived.Test.YtcljijcggnfemaaWEarly
namespace Go.Proofs.Ytcljijcggnfemaa
open Go.ChangeShapes Go.WideShapes Go.RowKit

/-- A slice of slices of texts. -/
def LsAt (w : World) (v : Value) (wss : List (List Bs)) : Prop :=
  (wss = [] ∧ ∃ a c, v = .slice a 0 c) ∨ ∃ g o c, v = .slice (some ⟨g, o, none⟩) wss.length c ∧ wss.length ≤ c ∧ g < w.heap.size ∧ ∀ (j : Nat) ws, wss[j]? = some ws → ∃ x, w.cell? ⟨g, o + j, none⟩ = some x ∧ StrsAt (fun _ => True) w x ws
theorem LsAt.stay {w w' : World} {v : Value} {wss : List (List Bs)} (h : LsAt w v wss) (k : Below w.heap.size w w') : LsAt w' v wss := by
  rcases h with h | ⟨g, o, c, e, hle, hlt, hc⟩
  · exact .inl h
  · refine .inr ⟨g, o, c, e, hle, Nat.lt_of_lt_of_le hlt k.size, fun j ws hj => ?_⟩
    obtain ⟨x, hx, hs⟩ := hc j ws hj
    exact ⟨x, (k.cell hlt).trans hx, hs.stay k⟩
theorem LsAt.shape {w : World} {v : Value} {wss : List (List Bs)} (h : LsAt w v wss) : ∃ a c, v = .slice a wss.length c := by
  rcases h with ⟨rfl, a, c, rfl⟩ | ⟨g, o, c, rfl, _⟩
  · exact ⟨a, c, rfl⟩
  · exact ⟨_, _, rfl⟩
theorem LsAt.row {w : World} {a : Option Addr} {n c : Nat} {wss : List (List Bs)} (h : LsAt w (.slice a n c) wss) {q : Nat} {ws : List Bs} (hq : wss[q]? = some ws) : ∃ g o x, a = some ⟨g, o, none⟩ ∧ g < w.heap.size ∧ w.cell? ⟨g, o + q, none⟩ = some x ∧ StrsAt (fun _ => True) w x ws := by
  rcases h with ⟨rfl, _⟩ | ⟨g, o, c, e, _, hg, hc⟩
  · cases hq
  · injection e with e1 _ _
    obtain ⟨x, hx, hs⟩ := hc q ws hq
    exact ⟨g, o, x, e1, hg, hx, hs⟩
theorem Ln.at {N : Nat} {wss : List (List Bs)} {v : Value} {vals : List Value} {W : World} (h : Ln N wss v vals W) : LsAt W v wss := by
  have hc := h.row
  rcases h.row.2 with ⟨rfl, h0⟩ | ⟨g, cap, cur, rfl, hb, hg, hn, _⟩
  · exact .inl ⟨List.eq_nil_of_length_eq_zero h0, none, 0, rfl⟩
  · refine .inr ⟨g, 0, cap, rfl, hn, (Array.getElem?_eq_some_iff.1 hg).1, fun j ws hj => ?_⟩
    have hlen : vals.length = wss.length := by have := h.row.1; omega
    have hlt := (List.getElem?_eq_some_iff.1 hj).1
    have hv : vals[j]? = some (vals[j]'(by omega)) := List.getElem?_eq_getElem (by omega)
    refine ⟨_, ?_, (own_strs (h.ins j _ ws hv hj)).mono (fun _ _ _ => trivial)⟩
    have h1 := hc.cells (g := g) rfl j _ hv
    rw [show (⟨g, 0 + j, none⟩ : Addr) = (⟨g, 0, none⟩ : Addr).add j by unfold Addr.add; split <;> simp_all]
    exact h1
theorem words_shift (ls : List Bs) (k d : Nat) : wordsN ls (k + d) = match wordsN ls k with | .inl wss => .inl wss | .inr j => .inr (j + d) := by
  induction ls generalizing k with
  | nil => rfl
  | cons x ls ih =>
    rw [wordsN, wordsN]
    cases splitN x with
    | none => rfl
    | some ws =>
      simp only
      have := ih (k + 1)
      rw [show k + 1 + d = k + d + 1 by omega] at this
      rw [this]
      cases wordsN ls (k + 1) <;> rfl
theorem words_len {ls : List Bs} {k : Nat} {wss : List (List Bs)} (h : wordsN ls k = .inl wss) : wss.length = ls.length := by
  induction ls generalizing k wss with
  | nil => injection h with h; subst h; rfl
  | cons x ls ih =>
    rw [wordsN] at h
    cases hs : splitN x with
    | none => rw [hs] at h; cases h
    | some ws =>
      rw [hs] at h
      simp only at h
      cases hr : wordsN ls (k + 1) with
      | inr j => rw [hr] at h; cases h
      | inl r =>
        rw [hr] at h
        injection h with h
        subst h
        simp only [List.length_cons, ih hr]
theorem words_le {ls : List Bs} {k j : Nat} (h : wordsN ls k = .inr j) : j < k + ls.length := by
  induction ls generalizing k with
  | nil => cases h
  | cons x ls ih =>
    rw [wordsN] at h
    cases hs : splitN x with
    | none => rw [hs] at h; injection h with h; subst h; simp only [List.length_cons]; omega
    | some ws =>
      rw [hs] at h
      simp only at h
      cases hr : wordsN ls (k + 1) with
      | inl r => rw [hr] at h; cases h
      | inr i =>
        rw [hr] at h
        injection h with h
        subst h
        have := ih hr
        simp only [List.length_cons]; omega
theorem words_mem {ls : List Bs} {k : Nat} {wss : List (List Bs)} (h : wordsN ls k = .inl wss) : ∀ ws ∈ wss, ∃ x ∈ ls, splitN x = some ws := by
  induction ls generalizing k wss with
  | nil => injection h with h; subst h; intro ws hw; cases hw
  | cons x ls ih =>
    rw [wordsN] at h
    cases hs : splitN x with
    | none => rw [hs] at h; cases h
    | some us =>
      rw [hs] at h
      simp only at h
      cases hr : wordsN ls (k + 1) with
      | inr j => rw [hr] at h; cases h
      | inl r =>
        rw [hr] at h
        injection h with h
        subst h
        intro ws hw
        rcases List.mem_cons.1 hw with rfl | hw
        · exact ⟨x, by simp, hs⟩
        · obtain ⟨y, hy, he⟩ := ih hr ws hw
          exact ⟨y, by simp [hy], he⟩
theorem words_short {l : Bs} {k : Nat} {wss : List (List Bs)} (h : wordsN (linesL l) k = .inl wss) (ws : List Bs) (hw : ws ∈ wss) : ws.length ≤ l.length + 1 := by
  obtain ⟨x, hx, hs⟩ := words_mem h ws hw
  have h1 := split_sum hs
  have h2 := line_len hx
  omega
def bothN : List (List Bs) ⊕ Nat → List (List Bs) ⊕ Nat → List (List Bs) ⊕ Nat
  | .inr j, _ => .inr j
  | .inl wss, .inl wss' => .inl (wss ++ wss')
  | .inl wss, .inr j => .inr (j + wss.length)
theorem words_append (ls ls' : List Bs) (k : Nat) : wordsN (ls ++ ls') k = bothN (wordsN ls k) (wordsN ls' k) := by
  induction ls generalizing k with
  | nil =>
    rw [List.nil_append]
    rw [show wordsN [] k = .inl [] from rfl]
    cases wordsN ls' k <;> rfl
  | cons x ls ih =>
    rw [List.cons_append, wordsN, wordsN]
    cases splitN x with
    | none => rfl
    | some ws =>
      simp only
      rw [ih, words_shift ls' k 1]
      cases wordsN ls (k + 1) with
      | inr j => rfl
      | inl wss =>
        simp only
        cases wordsN ls' k with
        | inl r => rfl
        | inr j => simp only [bothN, List.length_cons]; congr 1; omega
/-- The library's variable holds some number. -/
theorem max_shaped (W : World) (h : W.ShapedOpen Try.prog) : ∃ m, W.cell? ⟨0, 0, none⟩ = some (.int .i64 m) := by
  obtain ⟨cs, h1, h2, h3⟩ := h.1 0 #[.int .i64 0] 3 (of_decide_eq_true (by kernel_rfl)) (by kernel_rfl)
  obtain ⟨ts, h4, _, h5⟩ := h3 (by kernel_rfl)
  have e : ts = [3] := by
    have h6 : Try.prog.cellTypes Try.prog.depth 3 = some [3] := by kernel_rfl
    rw [h6] at h4; injection h4 with h4; exact h4.symm
  subst e
  have hs : 0 < cs.size := by rw [h2]; decide
  obtain ⟨u, h6, h7⟩ := h5 0 (cs[0]'hs) (by simp)
  have e : u = 3 := by simpa using h6.symm
  subst e
  have hc : W.cell? ⟨0, 0, none⟩ = some (cs[0]'hs) := by
    rw [cell_of_row W _ 0 cs _ _ h1]; simp
  rw [hc]
  unfold Cell.ok at h7
  rw [Try.underlying3] at h7
  generalize cs[0]'hs = v at *
  cases v with
  | int k n => obtain ⟨rfl, _⟩ := h7; exact ⟨_, rfl⟩
  | _ => cases h7
end Go.Proofs.Ytcljijcggnfemaa
