/- The first 500 bytes; texts that are appended to a slice of texts. -/
import Derived.Test.YtcljijcggnfemaaDoorWSame
import Derived.Test.YtcljijcggnfemaaDoorWGood
import Derived.Test.YtcljijcggnfemaaDoorWLives
namespace Go.Proofs.YtcljijcggnfemaaDoor
open Go.ChangeShapes Go.WideShapes Go.RowKit

theorem take_text (l : Bs) (m : Nat) (z : Int) (hz : z = (m : Int)) : (⟨l.toArray⟩ : ByteArray).extract 0 (min (l.length : Int) z).toNat = ⟨(l.take m).toArray⟩ := by
  subst hz
  rw [extract_text, List.drop_zero, show (min (l.length : Int) (m : Int)).toNat = min l.length m by omega]
  congr 2
  rw [Nat.min_comm, ← List.take_take, List.take_length]
theorem cat_text (a b : Bs) : (⟨a.toArray⟩ : ByteArray) ++ (⟨b.toArray⟩ : ByteArray) = ⟨(a ++ b).toArray⟩ := by
  apply ByteArray.ext
  simp
/-- The first 500 bytes. -/
theorem early_any (l : Bs) (w : World) (hl : l.length ≤ 9223372036854775807) : Calls Tryd.prog 7 #[.string ⟨l.toArray⟩] w fun e w' => e = .returned (.string ⟨(l.take 500).toArray⟩) ∧ w' = w := by
  have hsz : (⟨l.toArray⟩ : ByteArray).size = l.length := by simp [ByteArray.size]
  have ht := take_text l 500 500 rfl
  generalize (⟨(l.take 500).toArray⟩ : ByteArray) = T at *
  have hle : (l.length : Int) ≤ 9223372036854775807 := by omega
  go_enter Tryd.func7, Tryd.ntmps7
  go_wp2_with fail
  go_ret
  exact ⟨rfl, rfl⟩
theorem run_app_none (t e ty : TypeId) (b : Option Addr) (n cap c : Nat) (hn : n ≤ cap) (ht : Tryd.prog.underlying t = some (.slice e)) (w : World) (he : (Tryd.prog.info? e).map (·.size) = some 1) :
    (Builtin.append_ #[t, t] ty #[.slice b n cap, .slice none 0 c]).run Tryd.prog w = .ok (.slice b n cap) w := by
  cases hq : Tryd.prog.info? e with
  | none => rw [hq] at he; cases he
  | some i =>
    cases b with
    | none => simp [Builtin.append_, run_underlying ht, sizeOf, typeInfo, hq, Builtin.lenOf, Builtin.firstCells, hn]
    | some ad => simp [Builtin.append_, run_underlying ht, sizeOf, typeInfo, hq, Builtin.lenOf, Builtin.firstCells, hn, storeCells]
theorem sv_one (ss : List Bs) : ∀ u ∈ ss.map sv, u.oneCell' = true := by
  intro u hu
  simp at hu
  obtain ⟨b, _, rfl⟩ := hu
  rfl
theorem add_at (g o j : Nat) : (⟨g, o, none⟩ : Addr).add j = ⟨g, o + j, none⟩ := by unfold Addr.add; split <;> simp_all
/-- Texts are appended to a slice of one's own. -/
theorem app_strs {ops : Array Oper} {rest : List Oper} {o : Oper} {a : Act} {w : World} {Q : Exit → Act → World → Prop} {P : Nat → Prop} (base : Nat) (v u : Value) (xs ys : List Bs) (hown : w.ownsRow base 9 1 v xs.length (xs.map sv)) (hu : StrsAt P w u ys) (hl : xs.length + ys.length ≤ 1000000) (hb : base ≤ w.heap.size)
    (s x : Operand) (hgd : o.guard = none) (ho : o.op = .call { callee := .builtin .append, args := #[s, x], argTypes := #[22, 22] }) (hs : a.eval s = v) (hx : a.eval x = u)
    (h : ∀ v' w', w'.ownsRow base 9 1 v' (xs ++ ys).length ((xs ++ ys).map sv) → w.grownBy w' v.ownBlock → wpList Tryd.prog ops Q rest (a.put o.dst v') w') : wpList Tryd.prog ops Q (o :: rest) a w := by
  obtain ⟨i0, hi, hz0, hz1, hz2⟩ := info_parts0 info_str
  obtain ⟨aa, cap, rfl⟩ : ∃ aa cap, u = .slice aa ys.length cap := by
    rcases hu with ⟨rfl, a, c, rfl⟩ | ⟨g, o, c, rfl, _⟩
    · exact ⟨a, c, rfl⟩
    · exact ⟨_, _, rfl⟩
  cases aa with
  | none =>
    have hys : ys = [] := by
      rcases hu with ⟨h1, _⟩ | ⟨g, o, c, e, _⟩
      · exact h1
      · cases e
    subst hys
    obtain ⟨av, cv, rfl, hcv⟩ := own_slice hown
    refine wpList_plain hgd fun K hK => ?_
    have hrun := run_app_none 22 9 o.type av xs.length cv cap hcv (by kernel_rfl) w (by kernel_rfl)
    unfold Oper.wp
    simp only [execOp, ho, resolve, invoke, builtin, List.map_toArray, List.map_cons, List.map_nil, hs, hx, List.length_nil]
    simp [hrun, Result.andThen]
    exact hK _ _ (h _ _ (by rw [List.append_nil]; exact hown) ⟨rfl, rfl, rfl, Nat.le_refl _, fun _ _ _ => rfl⟩)
  | some ad =>
    refine wpList_append_own w hgd s x 22 ho base 9 i0 (.string ⟨#[]⟩) 1 16 Tryd.underlying22 hi hz0 hz1 hz2 rfl (by decide) v xs.length (xs.map sv) hs hown ad ys.length cap (ys.map sv) hx (by simp) (fun j u' hu' => ?_) (sv_one ys) (by unfold maxLen; omega) (by omega) hb (fun v' w' h1 h2 _ => ?_)
    · simp at hu'
      obtain ⟨y, hy, rfl⟩ := hu'
      rcases hu with ⟨h1, _⟩ | ⟨g, o, c, e, _, _, _, hc⟩
      · subst h1; cases hy
      · injection e with e1 _ _
        injection e1 with e1
        subst e1
        rw [add_at]
        exact hc j y hy
    · rw [← List.map_append, ← List.length_append] at h1
      exact h v' w' h1 h2
end Go.Proofs.YtcljijcggnfemaaDoor
