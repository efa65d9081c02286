/- Slices of structs. -/
import Derived.Test.YtknhkmlihbgjpaaDoorPG
namespace Go.Proofs.YtknhkmlihbgjpaaDoor
open Go.ChangeShapes Go.WideShapes Go.RowKit

/-- A slice of structs of k cells each, in a block of P. -/
def RowsAt (k : Nat) (P : Nat → Prop) (w : World) (v : Value) (css : List (List Value)) : Prop :=
  (css = [] ∧ ∃ a c, v = .slice a 0 c) ∨ ∃ g o c, v = .slice (some ⟨g, o, none⟩) css.length c ∧ css.length ≤ c ∧ P g ∧ g < w.heap.size ∧ ∀ (j : Nat) cs, css[j]? = some cs → ∀ (i : Nat) u, cs[i]? = some u → w.cell? ⟨g, o + j * k + i, none⟩ = some u
theorem RowsAt.keepN {k : Nat} {P S : Nat → Prop} {w w' : World} {v : Value} {css : List (List Value)} (h : RowsAt k P w v css) (q : Asd S w w') (hd : ∀ i, P i → i < w.heap.size → ¬ S i) : RowsAt k P w' v css := by
  rcases h with h | ⟨g, o, c, e, hle, hp, hlt, hc⟩
  · exact .inl h
  · exact .inr ⟨g, o, c, e, hle, hp, Nat.lt_of_lt_of_le hlt q.size, fun j cs hj i u hi => cell_asd q (hd g hp hlt) (hc j cs hj i u hi)⟩
theorem RowsAt.stay {k : Nat} {P : Nat → Prop} {w w' : World} {v : Value} {css : List (List Value)} (h : RowsAt k P w v css) (q : Below w.heap.size w w') : RowsAt k P w' v css := h.keepN (S := fun _ => False) (Asd.of_below q) (fun _ _ _ e => e)
theorem RowsAt.mono {k : Nat} {P P' : Nat → Prop} {w : World} {v : Value} {css : List (List Value)} (h : RowsAt k P w v css) (hp : ∀ i, P i → i < w.heap.size → P' i) : RowsAt k P' w v css := by
  rcases h with h | ⟨g, o, c, e, hle, hq, hlt, hc⟩
  · exact .inl h
  · exact .inr ⟨g, o, c, e, hle, hp g hq hlt, hlt, hc⟩
theorem RowsAt.shape {k : Nat} {P : Nat → Prop} {w : World} {v : Value} {css : List (List Value)} (h : RowsAt k P w v css) : ∃ a c, v = .slice a css.length c := by
  rcases h with ⟨rfl, a, c, rfl⟩ | ⟨g, o, c, rfl, _⟩
  · exact ⟨a, c, rfl⟩
  · exact ⟨_, _, rfl⟩
theorem RowsAt.part {k : Nat} {P : Nat → Prop} {w : World} {a : Option Addr} {n c : Nat} {css : List (List Value)} (h : RowsAt k P w (.slice a n c) css) {j : Nat} {cs : List Value} (hj : css[j]? = some cs) :
    ∃ g o, a = some ⟨g, o, none⟩ ∧ P g ∧ g < w.heap.size ∧ ∀ (i : Nat) u, cs[i]? = some u → w.cell? ⟨g, o + j * k + i, none⟩ = some u := by
  rcases h with ⟨rfl, _⟩ | ⟨g, o, c, e, _, hp, hg, hc⟩
  · cases hj
  · injection e with e1 _ _
    exact ⟨g, o, e1, hp, hg, hc j cs hj⟩
theorem RowsAt.nil (k : Nat) (P : Nat → Prop) (w : World) (a : Option Addr) (c : Nat) : RowsAt k P w (.slice a 0 c) [] := .inl ⟨rfl, a, c, rfl⟩
theorem flat_get {k : Nat} {css : List (List Value)} (h : ∀ cs ∈ css, cs.length = k) {j : Nat} {cs : List Value} (hj : css[j]? = some cs) {i : Nat} {u : Value} (hi : cs[i]? = some u) : css.flatten[j * k + i]? = some u := by
  induction css generalizing j with
  | nil => cases hj
  | cons c css ih =>
    have hc := h c (by simp)
    rw [List.flatten_cons]
    cases j with
    | zero =>
      simp at hj
      subst hj
      rw [List.getElem?_append_left (by have := (List.getElem?_eq_some_iff.1 hi).1; omega)]
      simpa using hi
    | succ j =>
      rw [List.getElem?_append_right (by rw [hc, Nat.succ_mul]; omega), hc, show (j + 1) * k + i - k = j * k + i by rw [Nat.succ_mul]; omega]
      exact ih (fun x hx => h x (by simp [hx])) (by simpa using hj)
theorem own_rows {k : Nat} {w : World} {base : Nat} {e : TypeId} {v : Value} {css : List (List Value)} (h : w.ownsRow base e k v css.length css.flatten) (hk : ∀ cs ∈ css, cs.length = k) : RowsAt k (fun b => v.ownBlock = some b) w v css := by
  have hc := h
  rcases h.2 with ⟨rfl, h0⟩ | ⟨g, cap, cur, rfl, hb, hg, hn, _⟩
  · exact .inl ⟨List.eq_nil_of_length_eq_zero h0, none, 0, rfl⟩
  · refine .inr ⟨g, 0, cap, rfl, hn, rfl, (Array.getElem?_eq_some_iff.1 hg).1, fun j cs hj i u hi => ?_⟩
    have h1 := hc.cells (g := g) rfl (j * k + i) u (flat_get hk hj hi)
    rw [add_at] at h1
    rw [show 0 + j * k + i = 0 + (j * k + i) by omega]
    exact h1
/-- The cells of a matcher, and of a field. -/
def encF (f : Bs × Bs) : List Value := [.string ⟨f.1.toArray⟩, .string ⟨f.2.toArray⟩]
def FldsAt (P : Nat → Prop) (w : World) (v : Value) (fs : List (Bs × Bs)) : Prop := RowsAt 2 P w v (fs.map encF)
theorem encF_len (fs : List (Bs × Bs)) : ∀ cs ∈ fs.map encF, cs.length = 2 := by
  intro cs h
  obtain ⟨m, _, rfl⟩ := List.mem_map.1 h
  rfl
theorem FldsAt.shape {P : Nat → Prop} {w : World} {v : Value} {fs : List (Bs × Bs)} (h : FldsAt P w v fs) : ∃ a c, v = .slice a fs.length c := by
  have := RowsAt.shape h
  rwa [List.length_map] at this
theorem FldsAt.part {P : Nat → Prop} {w : World} {a : Option Addr} {n c : Nat} {fs : List (Bs × Bs)} (h : FldsAt P w (.slice a n c) fs) {j : Nat} {f : Bs × Bs} (hj : fs[j]? = some f) :
    ∃ g o, a = some ⟨g, o, none⟩ ∧ P g ∧ g < w.heap.size ∧ w.cell? ⟨g, o + j * 2, none⟩ = some (.string ⟨f.1.toArray⟩) ∧ w.cell? ⟨g, o + j * 2 + 1, none⟩ = some (.string ⟨f.2.toArray⟩) := by
  obtain ⟨g, o, e, hp, hg, hc⟩ := RowsAt.part h (j := j) (cs := encF f) (by simp [hj])
  exact ⟨g, o, e, hp, hg, hc 0 _ rfl, hc 1 _ rfl⟩
theorem FldsAt.stay {P : Nat → Prop} {w w' : World} {v : Value} {fs : List (Bs × Bs)} (h : FldsAt P w v fs) (q : Below w.heap.size w w') : FldsAt P w' v fs := RowsAt.stay h q
theorem FldsAt.keepN {P S : Nat → Prop} {w w' : World} {v : Value} {fs : List (Bs × Bs)} (h : FldsAt P w v fs) (q : Asd S w w') (hd : ∀ i, P i → i < w.heap.size → ¬ S i) : FldsAt P w' v fs := RowsAt.keepN h q hd
theorem FldsAt.mono {P P' : Nat → Prop} {w : World} {v : Value} {fs : List (Bs × Bs)} (h : FldsAt P w v fs) (hp : ∀ i, P i → i < w.heap.size → P' i) : FldsAt P' w v fs := RowsAt.mono h hp
theorem own_flds {w : World} {base : Nat} {e : TypeId} {v : Value} {fs : List (Bs × Bs)} (h : w.ownsRow base e 2 v fs.length (fs.map encF).flatten) : FldsAt (fun b => v.ownBlock = some b) w v fs := own_rows (e := e) (by rw [List.length_map]; exact h) (encF_len fs)
end Go.Proofs.YtknhkmlihbgjpaaDoor
