/- label.Above: the numbers of the labels of a slice to which a label flows, in a new slice; old memory stays as it was. And what is plain about all that are joined. -/
import Derived.Test.YtkmbllnnaljepaaDoorAll
import Derived.Test.YtkmbllnnaljepaaDoorRTeams
namespace Go.Proofs.YtkmbllnnaljepaaDoor
open Go.ChangeShapes Go.WideShapes Go.RowKit

/-- The label l, c flows to the one with number i. -/
def atB (l c : Int) (xs : List (Int × Int)) (i : Nat) : Bool := match xs[i]? with | some x => flB l c x.1 x.2 | none => false
/-- Of the first k those to which l, c flows. -/
def abv (l c : Int) (xs : List (Int × Int)) (k : Nat) : List Nat := (List.range k).filter fun i => atB l c xs i
theorem abv_le (l c : Int) (xs : List (Int × Int)) (k : Nat) : (abv l c xs k).length ≤ k := by
  have := List.length_filter_le (fun i => atB l c xs i) (List.range k)
  simpa [abv] using this
theorem abv_hit {l c : Int} {xs : List (Int × Int)} {k : Nat} {x : Int × Int} (hx : xs[k]? = some x) (h : flB l c x.1 x.2 = true) : abv l c xs (k + 1) = abv l c xs k ++ [k] := by
  have : atB l c xs k = true := by unfold atB; rw [hx]; exact h
  simp [abv, List.range_succ, List.filter_append, this]
theorem abv_miss {l c : Int} {xs : List (Int × Int)} {k : Nat} {x : Int × Int} (hx : xs[k]? = some x) (h : flB l c x.1 x.2 = false) : abv l c xs (k + 1) = abv l c xs k := by
  have : atB l c xs k = false := by unfold atB; rw [hx]; exact h
  simp [abv, List.range_succ, List.filter_append, this]
theorem abv_more (l c : Int) (xs : List (Int × Int)) {k n : Nat} (h : k ≤ n) : ∃ r, abv l c xs n = abv l c xs k ++ r := by
  induction n with
  | zero => obtain rfl : k = 0 := by omega
            exact ⟨[], by simp⟩
  | succ n ih =>
    rcases Nat.lt_or_ge k (n + 1) with h1 | h1
    · obtain ⟨r, hr⟩ := ih (by omega)
      refine ⟨r ++ (if atB l c xs n then [n] else []), ?_⟩
      rw [← List.append_assoc, ← hr]
      cases h2 : atB l c xs n <;> simp [abv, List.range_succ, List.filter_append, h2]
    · obtain rfl : k = n + 1 := by omega
      exact ⟨[], by simp⟩

theorem own_keep {w w' : World} {B e size n : Nat} {v : Value} {xs : List Value} (h : w.ownsRow B e size v n xs) (hb : Below w.heap.size w w') : w'.ownsRow B e size v n xs := by
  refine ⟨h.1, ?_⟩
  rcases h.2 with hn | ⟨g, cap, cur, rfl, hg, hgg, rest⟩
  · exact .inl hn
  · exact .inr ⟨g, cap, cur, rfl, hg, by rw [hb.block g (Array.getElem?_eq_some_iff.1 hgg).1]; exact hgg, rest⟩

theorem row_round {ys : List Nat} {k B : Nat} {l c : Int} {w w2 w1 : World} {v v' : Value} {x : Obj} (hB : Below B w w2) (hsz : B + 1 ≤ w2.heap.size)
    (hown : w2.ownsRow (B + 1) 3 1 v ys.length (ys.map intV))
    (hown' : w1.ownsRow (B + 1) 3 1 v' (ys.length + 1) (ys.map intV ++ [.int .i64 k])) (hgrow : (w2.alloc x).grownBy w1 v.ownBlock)
    (hc0 : w2.cell? ⟨B, 0, none⟩ = some (.int .i64 l)) (hc1 : w2.cell? ⟨B, 1, none⟩ = some (.int .u32 c)) :
    w1.ownsRow (B + 1) 3 1 v' (ys ++ [k]).length ((ys ++ [k]).map intV) ∧ w1.cell? ⟨B, 0, none⟩ = some (.int .i64 l) ∧ w1.cell? ⟨B, 1, none⟩ = some (.int .u32 c) ∧ Below B w w1 ∧ B + 1 ≤ w1.heap.size := by
  have hlt := hown.lt
  have hs := hgrow.size
  simp at hs
  have hne : (some B) ≠ v.ownBlock := fun e => by have := (hlt B e.symm).1; omega
  refine ⟨by simpa [intV] using hown', ?_, ?_, ?_, by omega⟩
  · exact hgrow.cell (a := ⟨B, 0, none⟩) (Below.keeps ((Below.refl _ _).alloc (Nat.le_refl _) _) hc0) hne
  · exact hgrow.cell (a := ⟨B, 1, none⟩) (Below.keeps ((Below.refl _ _).alloc (Nat.le_refl _) _) hc1) hne
  · exact (hB.alloc (by omega) x).grown hgrow (by simp; omega) (fun j e => by have := (hlt j e).1; omega)

set_option maxHeartbeats 1000000 in
set_option maxRecDepth 100000 in
theorem above_any (l c : Int) (a : Option Addr) (cap : Nat) (xs : List (Int × Int)) (hc0 : 0 ≤ c) (hc1 : c < 4294967296) (hn : xs.length ≤ 1000) (hr : ∀ x ∈ xs, 0 ≤ x.2 ∧ x.2 < 4294967296) (w : World) (hc : LabsAt w a xs) :
    Calls Tryd.prog 28 #[.agg #[.int .i64 l, .int .u32 c], .slice a xs.length cap] w fun e w' =>
      ∃ v, e = .returned v ∧ IntsAt w' v (abv l c xs xs.length) ∧ Below w.heap.size w w' := by
  have Hr := Lib.hid hr
  clear hr
  have Hc := Lib.hid hc
  clear hc
  obtain ⟨i0, hi, hz0, hz1, hz2⟩ := info_parts info3
  go_enter Tryd.func28, Tryd.ntmps28
  go_wp2
  go_loopw [5, 10] (fun v i wr => ∃ k : Nat, k ≤ xs.length ∧ i = .int .i64 k ∧ wr.ownsRow (w.heap.size + 1) 3 1 v (abv l c xs k).length ((abv l c xs k).map intV) ∧
      wr.cell? ⟨w.heap.size, 0, none⟩ = some (.int .i64 l) ∧ wr.cell? ⟨w.heap.size, 1, none⟩ = some (.int .u32 c) ∧ Below w.heap.size w wr ∧ w.heap.size + 1 ≤ wr.heap.size)
    (fun _ i _ => xs.length - (intOf i).toNat)
  case atStart => exact ⟨0, Nat.zero_le _, rfl, World.ownsRow_nil _ _ _ _, by simp [go_sem], by simp [go_sem], (Below.refl _ _).alloc (Nat.le_refl _) _, by simp⟩
  case round =>
    obtain ⟨k, hk, rfl, hown, r0, r1, hB, hsz⟩ := hrel
    by_cases hlt : k < xs.length
    · obtain ⟨x, hx⟩ : ∃ x, xs[k]? = some x := ⟨_, List.getElem?_eq_getElem hlt⟩
      have hr1 := Hr.out x (List.mem_of_getElem? hx)
      obtain ⟨g, o, rfl, c0, c1⟩ := (Hc.out.keep hB) k x hx
      obtain ⟨lx, cx⟩ := x
      simp only at c0 c1 hr1
      have hle := abv_le l c xs k
      have Hx := Lib.hid hx
      clear hx
      have hown1 := hown.alloc (.cells #[.int .i64 lx, .int .u32 cx] 24)
      have hB1 := hB.alloc (by omega) (.cells #[.int .i64 lx, .int .u32 cx] 24)
      have r01 := Below.keeps ((Below.refl _ wr).alloc (Nat.le_refl _) (.cells #[.int .i64 lx, .int .u32 cx] 24)) r0
      have r11 := Below.keeps ((Below.refl _ wr).alloc (Nat.le_refl _) (.cells #[.int .i64 lx, .int .u32 cx] 24)) r1
      go_wp2_with fail
      refine (flows_any l c lx cx (by omega) (by omega) (by omega) (by omega) _).mono ?_
      rintro e w2 ⟨rfl, hb⟩
      have hown2 := own_keep hown1 hb
      have r02 := Below.keeps hb r01
      have r12 := Below.keeps hb r11
      have hB2 := hB1.trans (hb.mono hB1.size)
      have hsz2 : w.heap.size + 1 ≤ w2.heap.size := Nat.le_trans hsz (Nat.le_trans (by simp) hb.size)
      clear hown hown1 hb r0 r1 r01 r11 hB hB1 hsz c0 c1
      cases hf : flB l c lx cx
      · have Hm := Lib.hid (abv_miss Hx.out hf)
        clear hf
        go_wp2
        go_roundw
        case rel => exact ⟨k + 1, by omega, by go_num, by rw [Hm.out]; exact hown2, r02, r12, hB2, hsz2⟩
        case measure => simp [intOf]; omega
      · have Hm := Lib.hid (abv_hit Hx.out hf)
        clear hf
        go_wp2_with (at_builtin; refine wpList_append_lies _ rfl _ _ 30 rfl (w.heap.size + 1) 3 i0 (.int .i64 0) 1 8 Tryd.underlying30 hi hz0 hz1 hz2 rfl (by decide) _ _ _ rfl (World.ownsRow.alloc (w := w2) hown2 _) ⟨w2.heap.size, 0, none⟩ 1 1 [.int .i64 k] rfl rfl ?c1 ?c2 (by omega) ?c3 ?c4 ?c5 (w2.heap.size + 1) (by simp) ?_)
        case c1 =>
          intro j u hj
          match j, hj with
          | 0, hj => simp at hj; subst hj; exact (World.cell?_alloc_at (w := w2) _ _ _ _ rfl).trans rfl
        case c2 => intro u hu; simp at hu; subst hu; rfl
        case c3 => unfold maxLen; omega
        case c4 => omega
        case c5 => simp; omega
        intro g cap w3 hown' hgrow hat hlt'
        have R := row_round hB2 hsz2 hown2 hown' hgrow r02 r12
        clear hown' hgrow hown2 r02 r12 hat hlt'
        go_wp2
        go_roundw
        case rel => exact ⟨k + 1, by omega, by go_num, by rw [Hm.out]; exact R.1, R.2.1, R.2.2.1, R.2.2.2.1, R.2.2.2.2⟩
        case measure => simp [intOf]; omega
    · have hke : k = xs.length := by omega
      subst hke
      go_wp2
      go_ret
      exact ⟨_, rfl, IntsAt.of_own hown, hB⟩
end Go.Proofs.YtkmbllnnaljepaaDoor
