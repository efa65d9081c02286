/- Fields with one more: the walk of With. -/
import Derived.Test.YteooofakpkbgoaaDoorMConcat
namespace Go.Proofs.YteooofakpkbgoaaDoor
open Go.ChangeShapes Go.WideShapes Go.RowKit

theorem FldsAt.upto {P : Nat → Prop} {w : World} {a : Option Addr} {n c : Nat} {fs : List (Bs × Bs)} (h : FldsAt P w (.slice a n c) fs) {k : Nat} (hk : k ≤ fs.length) : FldsAt P w (.slice a k c) (fs.take k) := by
  rcases h with ⟨e, _⟩ | ⟨g, o, c', e, hle, hp, hg, hc⟩
  · have e2 : fs = [] := by simpa using e
    subst e2
    obtain rfl : k = 0 := by simpa using hk
    exact .inl ⟨rfl, a, c, rfl⟩
  · injection e with e1 _ e3
    subst e1 e3
    refine .inr ⟨g, o, c, ?_, ?_, hp, hg, fun j cs hj i u hi => hc j cs ?_ i u hi⟩
    · rw [List.length_map, List.length_take, Nat.min_eq_left hk]
    · rw [List.length_map] at hle ⊢
      rw [List.length_take]; omega
    · rw [List.map_take] at hj
      exact (List.getElem?_take_of_lt (by have := (List.getElem?_eq_some_iff.1 hj).1; rw [List.length_take] at this; omega)).symm.trans hj
theorem FldsAt.from {P : Nat → Prop} {w : World} {g o n c : Nat} {fs : List (Bs × Bs)} (h : FldsAt P w (.slice (some ⟨g, o, none⟩) n c) fs) {k : Nat} (hk : k < fs.length) : FldsAt P w (.slice (some ⟨g, o + k * 2, none⟩) (fs.length - k) (c - k)) (fs.drop k) := by
  rcases h with ⟨e, _⟩ | ⟨g', o', c', e, hle, hp, hg, hc⟩
  · have e2 : fs = [] := by simpa using e
    subst e2
    cases hk
  · injection e with e1 _ e3
    injection e1 with e1
    injection e1 with e1 e4 _
    subst e1 e3 e4
    rw [List.length_map] at hle
    refine .inr ⟨g, o + k * 2, c - k, ?_, ?_, hp, hg, fun j cs hj i u hi => ?_⟩
    · rw [List.length_map, List.length_drop]
    · rw [List.length_map, List.length_drop]; omega
    · rw [List.map_drop, List.getElem?_drop] at hj
      have := hc (k + j) cs hj i u hi
      rw [show o + k * 2 + j * 2 + i = o + (k + j) * 2 + i by rw [Nat.add_mul]; omega]
      exact this
theorem FldsAt.cap {P : Nat → Prop} {w : World} {a : Option Addr} {n c : Nat} {fs : List (Bs × Bs)} (h : FldsAt P w (.slice a n c) fs) (h0 : 0 < fs.length) : fs.length ≤ c := by
  rcases h with ⟨e, _⟩ | ⟨g, o, c', e, hle, _⟩
  · have e2 : fs = [] := by simpa using e
    subst e2
    cases h0
  · injection e with _ _ e3
    rw [List.length_map] at hle
    omega
theorem FldsAt.behind {P : Nat → Prop} {w : World} {g q m c : Nat} {f : Bs × Bs} {r : List (Bs × Bs)} (h : FldsAt P w (.slice (some ⟨g, q, none⟩) m c) (f :: r)) : FldsAt P w (.slice (some ⟨g, q + 2, none⟩) (m - 1) (c - 1)) r := by
  obtain ⟨a', c', e⟩ := h.shape
  injection e with _ e2 _
  cases r with
  | nil => exact .inl ⟨rfl, some ⟨g, q + 2, none⟩, c - 1, by rw [e2]; rfl⟩
  | cons y r =>
    have := h.from (k := 1) (by simp)
    rw [e2]
    exact this
theorem own_base {w : World} {b b' : Nat} {e : TypeId} {k : Nat} {v : Value} {n : Nat} {xs : List Value} (h : w.ownsRow b e k v n xs) (hb : b' ≤ b) : w.ownsRow b' e k v n xs := by
  refine ⟨h.1, ?_⟩
  rcases h.2 with h2 | ⟨g, cap, cur, h1, h2, h3⟩
  · exact .inl h2
  · exact .inr ⟨g, cap, cur, h1, Nat.le_trans hb h2, h3⟩
theorem with_end (w : World) (p t : Value) (lp lt : List (Bs × Bs)) (nm val : Bs) (hp : FldsAt (fun _ => True) w p lp) (ht : FldsAt (fun _ => True) w t lt) (hl : lp.length + lt.length ≤ 900) :
    Calls Tryd.prog 49 #[.slice (some ⟨w.heap.size + 1, 0, none⟩) 3 3] ((w.alloc (.cells #[.string ⟨nm.toArray⟩, .string ⟨val.toArray⟩] 28)).alloc (.cells #[p, .slice (some ⟨w.heap.size, 0, none⟩) 1 1, t] 22))
      fun e w' => ∃ v', e = .returned v' ∧ w'.ownsRow w.heap.size 28 2 v' (lp ++ (nm, val) :: lt).length ((lp ++ (nm, val) :: lt).map encF).flatten ∧ Below w.heap.size w w' := by
  have hal := (Below.refl w.heap.size w).alloc (Nat.le_refl _) (.cells #[.string ⟨nm.toArray⟩, .string ⟨val.toArray⟩] 28)
  have rN : Rw (w.alloc (.cells #[.string ⟨nm.toArray⟩, .string ⟨val.toArray⟩] 28)) w.heap.size 28 [.string ⟨nm.toArray⟩, .string ⟨val.toArray⟩] := Rw.new w 28 [.string ⟨nm.toArray⟩, .string ⟨val.toArray⟩]
  have hsz : (w.alloc (.cells #[.string ⟨nm.toArray⟩, .string ⟨val.toArray⟩] 28)).heap.size = w.heap.size + 1 := by simp
  generalize w.alloc (.cells #[.string ⟨nm.toArray⟩, .string ⟨val.toArray⟩] 28) = W1 at *
  have hal2 := (Below.refl W1.heap.size W1).alloc (Nat.le_refl _) (.cells #[p, .slice (some ⟨w.heap.size, 0, none⟩) 1 1, t] 22)
  have rY : Rw (W1.alloc (.cells #[p, .slice (some ⟨w.heap.size, 0, none⟩) 1 1, t] 22)) W1.heap.size 22 [p, .slice (some ⟨w.heap.size, 0, none⟩) 1 1, t] := Rw.new W1 22 [p, .slice (some ⟨w.heap.size, 0, none⟩) 1 1, t]
  generalize W1.alloc (.cells #[p, .slice (some ⟨w.heap.size, 0, none⟩) 1 1, t] 22) = W2 at *
  have hb2 : Below w.heap.size w W2 := hal.trans (hal2.mono hal.size)
  have hN : FldsAt (fun _ => True) W2 (.slice (some ⟨w.heap.size, 0, none⟩) 1 1) [(nm, val)] := FldsAt.mono (own_flds (fs := [(nm, val)]) (own_new (base := 0) (n := 1) (k := 2) (rN.stay hal2) (Nat.zero_le _) rfl (by decide))) (fun _ _ _ => trivial)
  have K := concat_any W1.heap.size [p, .slice (some ⟨w.heap.size, 0, none⟩) 1 1, t] [lp, [(nm, val)], lt] W2 rY rfl (fun k v l hv hl => by
    match k, hv, hl with
    | 0, hv, hl => simp at hv hl; subst hv hl; exact hp.stay hb2
    | 1, hv, hl => simp at hv hl; subst hv hl; exact hN
    | 2, hv, hl => simp at hv hl; subst hv hl; exact ht.stay hb2) (by simp; omega) (by simp; omega) (by simp)
  rw [hsz] at K
  refine K.mono ?_
  rintro e w' ⟨v', rfl, hown, hb⟩
  have e2 : [lp, [(nm, val)], lt].flatten = lp ++ (nm, val) :: lt := by simp
  rw [e2] at hown
  exact ⟨v', rfl, own_base hown hb2.size, hb2.trans (hb.mono hb2.size)⟩
end Go.Proofs.YteooofakpkbgoaaDoor
