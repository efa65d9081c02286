/- Which values may be. -/
import Derived.Test.YtbkkcojfgdjbhaaDoorJKeys
import Derived.StillTailTactics
namespace Go.Proofs.YtbkkcojfgdjbhaaDoor
open Go.ChangeShapes Go.WideShapes Go.RowKit

/-- May a value be, so deep, with so many values left? How many are left then. -/
def fitG (k n : Int) (s : Bs) (keys : List Bs) (kids : List J) (left : Int) (more : Option Int) : Option Int :=
  if left - 1 < (kids.length : Int) ∨ formB k n s keys.length kids.length = false then none
  else if k ≠ 5 ∧ k ≠ 6 then (if textOk s then some (left - 1) else none)
  else more
def fitN : Nat → J → Int → Option Int
  | 0, .mk k n s keys kids, left => fitG k n s keys kids left none
  | d + 1, .mk k n s keys kids, left => fitG k n s keys kids left (if kyN [] keys then kids.foldl (fun o kid => o.bind (fun l => fitN d kid l)) (some (left - 1)) else none)
theorem fitG_go {k n : Int} {s : Bs} {keys : List Bs} {kids : List J} {left : Int} {more : Option Int} (h1 : ¬ left - 1 < (kids.length : Int)) (h2 : formB k n s keys.length kids.length = true) : fitG k n s keys kids left more = if k ≠ 5 ∧ k ≠ 6 then (if textOk s then some (left - 1) else none) else more := by
  unfold fitG
  rw [if_neg]
  rintro (h | h)
  · exact h1 h
  · rw [h2] at h; cases h
theorem fitN_leaf {d : Nat} {k n : Int} {s : Bs} {keys : List Bs} {kids : List J} {left : Int} (h1 : ¬ left - 1 < (kids.length : Int)) (h2 : formB k n s keys.length kids.length = true) (hk : k ≠ 5 ∧ k ≠ 6) : fitN d (.mk k n s keys kids) left = if textOk s then some (left - 1) else none := by
  cases d <;> rw [fitN, fitG_go h1 h2, if_pos hk]
theorem fitN_low {k n : Int} {s : Bs} {keys : List Bs} {kids : List J} {left : Int} (h1 : ¬ left - 1 < (kids.length : Int)) (h2 : formB k n s keys.length kids.length = true) (hk : ¬ (k ≠ 5 ∧ k ≠ 6)) : fitN 0 (.mk k n s keys kids) left = none := by
  rw [fitN, fitG_go h1 h2, if_neg hk]
theorem fitN_more {d : Nat} {k n : Int} {s : Bs} {keys : List Bs} {kids : List J} {left : Int} (h1 : ¬ left - 1 < (kids.length : Int)) (h2 : formB k n s keys.length kids.length = true) (hk : ¬ (k ≠ 5 ∧ k ≠ 6)) : fitN (d + 1) (.mk k n s keys kids) left = if kyN [] keys then kids.foldl (fun o kid => o.bind (fun l => fitN d kid l)) (some (left - 1)) else none := by
  rw [fitN, fitG_go h1 h2, if_neg hk]
/-- Sizes that every machine has. -/
def Siz : Nat → J → Prop
  | 0, _ => True
  | d + 1, .mk _ _ s keys kids => s.length ≤ 9223372036854775807 ∧ keys.length ≤ 1000000 ∧ (∀ k ∈ keys, k.length ≤ 9223372036854775807) ∧ kids.length ≤ 1000000 ∧ ∀ kid ∈ kids, Siz d kid
theorem fold_none (f : J → Int → Option Int) (l : List J) : l.foldl (fun o kid => o.bind (fun x => f kid x)) none = none := by
  induction l with
  | nil => rfl
  | cons a l ih => exact ih
theorem run_load5 (w : World) (g k : Nat) (cs : List Value) (h5 : cs.length = 5) (hc : ∀ (j : Nat) u, cs[j]? = some u → w.cell? ⟨g, k + j, none⟩ = some u) : (loadVar 29 ⟨g, k, none⟩).run Tryd.prog w = .ok (.agg cs.toArray) w := by
  have hl := run_loadCells_list (P := Tryd.prog) w ⟨g, k, none⟩ cs (fun j v hv => by
    rw [show (⟨g, k, none⟩ : Addr).add j = ⟨g, k + j, none⟩ by unfold Addr.add; split <;> simp_all]; exact hc j v hv)
  obtain ⟨i, hi, _, hs, _⟩ := info_parts info_jval
  have hagg : (isAgg 29).run Tryd.prog w = .ok true w := by
    unfold isAgg
    rw [Sem.run_bind, run_underlying Tryd.underlying29 w]
    simp
  rw [h5] at hl
  simp [loadVar, Sem.run_bind, hagg, sizeOf, typeInfo, hi, hs, hl]
/-- A whole value is read, wherever it lies. -/
theorem load5_at {ops : Array Oper} {rest : List Oper} {o : Oper} {a : Act} {w : World} {Q : Exit → Act → World → Prop} (g k : Nat) (cs : List Value) (h5 : cs.length = 5) (hc : ∀ (j : Nat) u, cs[j]? = some u → w.cell? ⟨g, k + j, none⟩ = some u) (x : Operand) (hgd : o.guard = none) (ho : o.op = .load 29 x) (hx : a.eval x = .pointer (some ⟨g, k, none⟩))
    (h : wpList Tryd.prog ops Q rest (a.put o.dst (.agg cs.toArray)) w) : wpList Tryd.prog ops Q (o :: rest) a w :=
  wpList_plain hgd fun _ hK => by
    unfold Oper.wp execOp
    simp only [ho, hx, Instr.loadAt, Instr.sureAddr, Sem.run_bind, Sem.run_pure, Result.andThen_ok, run_load5 w g k cs h5 hc]
    exact hK _ _ h
theorem fold_le (f : J → Int → Option Int) (hf : ∀ j l l2, f j l = some l2 → 0 ≤ l2 ∧ l2 ≤ l - 1) : ∀ (kids : List J) (l l2 : Int), 0 ≤ l → kids.foldl (fun o kid => o.bind (fun x => f kid x)) (some l) = some l2 → 0 ≤ l2 ∧ l2 ≤ l := by
  intro kids
  induction kids with
  | nil => intro l l2 h0 h; cases h; omega
  | cons a r ih =>
    intro l l2 h0 h
    rw [List.foldl_cons] at h
    change r.foldl _ (f a l) = _ at h
    cases hx : f a l with
    | none => rw [hx, fold_none] at h; cases h
    | some l3 =>
      rw [hx] at h
      have := hf _ _ _ hx
      have := ih l3 l2 this.1 h
      omega
theorem fitN_le : ∀ (d : Nat) (j : J) (l l2 : Int), fitN d j l = some l2 → 0 ≤ l2 ∧ l2 ≤ l - 1 := by
  intro d
  induction d with
  | zero =>
    rintro ⟨k, n, s, keys, kids⟩ l l2 h
    rw [fitN, fitG] at h
    split at h
    · cases h
    · rename_i h1
      split at h
      · split at h
        · cases h; omega
        · cases h
      · cases h
  | succ d ih =>
    rintro ⟨k, n, s, keys, kids⟩ l l2 h
    rw [fitN, fitG] at h
    split at h
    · cases h
    · rename_i h1
      split at h
      · split at h
        · cases h; omega
        · cases h
      · split at h
        · exact fold_le _ ih kids (l - 1) l2 (by omega) h
        · cases h
/-- What a look at a value hands back. -/
def FitP (X : Nat) (w : World) (o : Option Int) (e : Ending) (w' : World) : Prop := e = .returned (.bool o.isSome) ∧ (∃ l', Rw w' X 3 [.int .i64 l'] ∧ ∀ l2, o = some l2 → l' = l2) ∧ Asd (· = X) w w'
def FCt (d : Nat) : Prop := ∀ (P : Nat → Prop) (D : Nat) (cs : List Value) (j : J) (left : Int) (X : Nat) (w : World), JAt P w D cs j → ¬ P X → Rw w X 3 [.int .i64 left] → Env w → 10 ≤ X → Siz (d + 1) j → -1000000 ≤ left → left ≤ 1000000 → (d : Int) ≤ 1000 →
  Calls Tryd.prog 25 #[.agg cs.toArray, .int .i64 (d : Int), .pointer (some ⟨X, 0, none⟩)] w (FitP X w (fitN d j left))
end Go.Proofs.YtbkkcojfgdjbhaaDoor
