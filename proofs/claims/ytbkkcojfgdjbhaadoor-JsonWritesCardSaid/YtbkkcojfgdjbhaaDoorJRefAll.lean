/- The document's own count, fits, digits, numbers, texts and write; as. -/
import Derived.Test.YtbkkcojfgdjbhaaDoorJBackN
import Derived.Test.YtbkkcojfgdjbhaaDoorJBackR
import Derived.Test.YtbkkcojfgdjbhaaDoorJFit
import Derived.Test.YtbkkcojfgdjbhaaDoorHeld
import Derived.Test.YtbkkcojfgdjbhaaDoorJNumbers
import Derived.Test.YtbkkcojfgdjbhaaDoorJText2
import Derived.Lib.ItoaLen
import Derived.Test.YtbkkcojfgdjbhaaDoorJBackV
namespace Go.Proofs.YtbkkcojfgdjbhaaDoor
open Go.ChangeShapes Go.WideShapes Go.RowKit

/-- At most D values within one another. -/
def Dep : Nat → J → Prop
  | 0, _ => False
  | d + 1, .mk _ _ _ _ kids => ∀ kid ∈ kids, Dep d kid
/-- How many values there are. -/
def cntN : Nat → J → Nat
  | 0, _ => 0
  | d + 1, .mk _ _ _ _ kids => 1 + (kids.map (cntN d)).sum
/-- May the fields be, so deep? -/
def rformB (k n : Int) (s : Bs) (a b : Nat) (deep : Int) : Bool :=
  !(decide (k < 0) || decide (k > 6) || (decide (k ≠ 3) && decide (n ≠ 0)) || (decide (k ≠ 4) && decide (s ≠ [])) || (decide (k ≠ 6) && decide (a > 0)) || (decide (k < 5) && decide (b > 0)) || !textOk s) && !((decide (k ≥ 5) && decide (deep ≥ 6)) || (decide (k = 6) && decide (a ≠ b)))
/-- May a value be, but for how many there are? -/
def rfitN : Nat → J → Int → Bool
  | 0, _, _ => false
  | d + 1, .mk k n s keys kids, deep => rformB k n s keys.length kids.length deep && kyN [] keys && kids.all (fun kid => rfitN d kid (deep + 1))
theorem cnt_pos {D : Nat} {j : J} (h : Dep D j) : 1 ≤ cntN D j := by
  cases D with
  | zero => exact h.elim
  | succ D => obtain ⟨k, n, s, keys, kids⟩ := j; rw [cntN]; omega
theorem sum_ge (f : J → Nat) (l : List J) (h : ∀ j ∈ l, 1 ≤ f j) : l.length ≤ (l.map f).sum := by
  induction l with
  | nil => simp
  | cons a r ih =>
    have h1 := h a (by simp)
    have h2 := ih (fun j hj => h j (by simp [hj]))
    simp only [List.length_cons, List.map_cons, List.sum_cons]
    omega
/-- The program's count, kid by kid. -/
theorem fold_is (f : J → Int → Option Int) (c : J → Nat) (r : J → Bool) : ∀ (l : List J) (x : Int), 0 ≤ x → (∀ j ∈ l, ∀ y, 0 ≤ y → f j y = if r j = true ∧ (c j : Int) ≤ y then some (y - c j) else none) →
    l.foldl (fun o kid => o.bind (fun y => f kid y)) (some x) = if l.all r = true ∧ ((l.map c).sum : Int) ≤ x then some (x - ((l.map c).sum : Nat)) else none := by
  intro l
  induction l with
  | nil => intro x hx _; simp [hx]
  | cons a t ih =>
    intro x hx h
    rw [List.foldl_cons, Option.bind_some, h a (by simp) x hx]
    by_cases h1 : r a = true ∧ (c a : Int) ≤ x
    · rw [if_pos h1, ih (x - c a) (by omega) (fun j hj => h j (by simp [hj]))]
      simp only [List.all_cons, List.map_cons, List.sum_cons, h1.1, Bool.true_and, Int.natCast_add]
      by_cases h2 : t.all r = true ∧ ((t.map c).sum : Int) ≤ x - c a
      · rw [if_pos h2, if_pos ⟨h2.1, by omega⟩]
        congr 1; omega
      · rw [if_neg h2, if_neg]
        rintro ⟨e1, e2⟩
        exact h2 ⟨e1, by omega⟩
    · rw [if_neg h1, fold_none, if_neg]
      rintro ⟨e1, e2⟩
      simp only [List.all_cons, Bool.and_eq_true] at e1
      simp only [List.map_cons, List.sum_cons, Int.natCast_add] at e2
      exact h1 ⟨e1.1, by omega⟩
theorem text_nil : textOk [] = true := by decide
theorem rform_leaf {k n : Int} {s : Bs} {a b : Nat} {deep : Int} (hk : k ≠ 5 ∧ k ≠ 6) : rformB k n s a b deep = (formB k n s a b && textOk s) := by
  unfold rformB formB
  rw [if_neg hk.1, if_neg hk.2, Bool.eq_iff_iff]
  by_cases hs : s = []
  · subst hs
    rw [text_nil]
    simp
    omega
  · generalize textOk s = T
    cases T
    · simp
    · simp [hs]
      omega
theorem rform_list {k n : Int} {s : Bs} {a b : Nat} {deep : Int} (hk : k = 5 ∨ k = 6) : rformB k n s a b deep = (formB k n s a b && decide (deep < 6)) := by
  unfold rformB formB
  rw [Bool.eq_iff_iff]
  by_cases hs : s = []
  · subst hs
    rw [text_nil]
    rcases hk with rfl | rfl
    · simp
      try omega
    · simp
      try omega
  · rcases hk with rfl | rfl <;> simp [hs]
theorem ky_nil : kyN [] [] = true := rfl
theorem fit_is : ∀ (D : Nat) (j : J) (d : Nat) (left : Int), Dep D j → d ≤ 6 → fitN d j left = if rfitN D j (6 - (d : Int)) = true ∧ (cntN D j : Int) ≤ left then some (left - (cntN D j : Nat)) else none := by
  intro D
  induction D with
  | zero => intro j d left h; exact h.elim
  | succ D ih =>
    intro j d left h hd
    obtain ⟨k, n, s, keys, kids⟩ := j
    have hge := sum_ge (cntN D) kids (fun j hj => cnt_pos (h j hj))
    have hc : cntN (D + 1) (.mk k n s keys kids) = 1 + (kids.map (cntN D)).sum := rfl
    have hr : rfitN (D + 1) (.mk k n s keys kids) (6 - (d : Int)) = (rformB k n s keys.length kids.length (6 - (d : Int)) && kyN [] keys && kids.all (fun kid => rfitN D kid (6 - (d : Int) + 1))) := rfl
    rw [hc, hr]
    by_cases h1 : left - 1 < (kids.length : Int)
    · have e : fitN d (.mk k n s keys kids) left = none := by
        cases d <;> (rw [fitN, fitG]; rw [if_pos (.inl h1)])
      rw [e, if_neg]
      rintro ⟨_, e2⟩
      omega
    · by_cases h2 : formB k n s keys.length kids.length = true
      · by_cases hk : k ≠ 5 ∧ k ≠ 6
        · obtain ⟨ha, hb⟩ := form_leaf h2 hk
          rw [fitN_leaf h1 h2 hk, rform_leaf hk, h2]
          have hk0 : keys = [] := List.eq_nil_of_length_eq_zero ha
          have hk1 : kids = [] := List.eq_nil_of_length_eq_zero hb
          subst hk0 hk1
          simp only [ky_nil, List.all_nil, List.map_nil, List.sum_nil, Bool.and_true, Bool.true_and]
          simp at h1
          by_cases ht : textOk s = true
          · rw [if_pos ht, if_pos ⟨ht, by omega⟩]; congr 1
          · rw [if_neg ht, if_neg (fun e => ht e.1)]
        · have hk' : k = 5 ∨ k = 6 := by omega
          rw [rform_list hk', h2]
          cases d with
          | zero =>
            rw [fitN_low h1 h2 hk, if_neg]
            rintro ⟨e, _⟩
            simp at e
          | succ d =>
            rw [fitN_more h1 h2 hk]
            have e6 : decide (6 - ((d + 1 : Nat) : Int) < 6) = true := decide_eq_true (by omega)
            rw [e6]
            simp only [Bool.true_and]
            by_cases hky : kyN [] keys = true
            · rw [if_pos hky, hky, fold_is (fun kid x => fitN d kid x) (cntN D) (fun kid => rfitN D kid (6 - (d : Int))) kids (left - 1) (by omega) (fun j hj y _ => ih j d y (h j hj) (by omega))]
              rw [show (6 - ((d + 1 : Nat) : Int) + 1) = 6 - (d : Int) by omega]
              simp only [Bool.true_and]
              by_cases h4 : (kids.all fun kid => rfitN D kid (6 - (d : Int))) = true ∧ ((kids.map (cntN D)).sum : Int) ≤ left - 1
              · rw [if_pos h4, if_pos ⟨h4.1, by omega⟩]; congr 1; omega
              · rw [if_neg h4, if_neg]
                rintro ⟨e1, e2⟩
                exact h4 ⟨e1, by omega⟩
            · rw [if_neg hky, if_neg]
              rintro ⟨e, _⟩
              simp only [Bool.and_eq_true] at e
              exact hky e.1
      · have e : fitN d (.mk k n s keys kids) left = none := by
          cases d <;> (rw [fitN, fitG]; rw [if_pos (.inr (by simpa using h2))])
        rw [e, if_neg]
        rintro ⟨e2, _⟩
        simp only [Bool.and_eq_true] at e2
        have e3 := e2.1.1
        by_cases hk : k ≠ 5 ∧ k ≠ 6
        · rw [rform_leaf hk, Bool.and_eq_true] at e3; exact h2 e3.1
        · rw [rform_list (by omega), Bool.and_eq_true] at e3; exact h2 e3.1
theorem right_is {D : Nat} {j : J} (h : Dep D j) : rightN j = (decide ((cntN D j : Int) ≤ 400) && rfitN D j 0) := by
  unfold rightN
  rw [fit_is D j 6 400 h (Nat.le_refl _)]
  by_cases h1 : rfitN D j (6 - ((6 : Nat) : Int)) = true ∧ (cntN D j : Int) ≤ 400
  · rw [if_pos h1, decide_eq_true h1.2]
    have : rfitN D j 0 = true := h1.1
    rw [this]; rfl
  · rw [if_neg h1]
    by_cases h2 : (cntN D j : Int) ≤ 400
    · rw [decide_eq_true h2]
      have : ¬ rfitN D j 0 = true := fun e => h1 ⟨e, h2⟩
      simp only [Bool.not_eq_true] at this
      rw [this]; rfl
    · rw [decide_eq_false h2]; rfl
/-- What was made by back: how deep, how many. -/
theorem back_dep (m : Nat) : ∀ (j : J) (c : Nat), Dep (m + 1) (backN m j c).1 := by
  induction m with
  | zero => intro j c; obtain ⟨k, n, s, keys, kids⟩ := j; intro kid hk; cases hk
  | succ m ih =>
    intro j c
    obtain ⟨k, n, s, keys, kids⟩ := j
    exact bkids_all (Q := fun j => Dep (m + 1) j) _ _ (fun j _ c => ih j c)
theorem bkids_sum {B : J → Nat → J × Nat} {f : J → Nat} (hB : ∀ j c, f (B j c).1 + c = 1 + (B j c).2) : ∀ (l : List J) (c : Nat), ((bkids B l c).1.map f).sum + c = (bkids B l c).2 := by
  intro l
  induction l with
  | nil => intro c; simp [bkids]
  | cons a r ih =>
    intro c
    rw [bkids]
    split
    · have h1 := hB a (c + 1)
      have h2 := ih (B a (c + 1)).2
      simp only [List.map_cons, List.sum_cons]
      omega
    · simp
theorem back_num (m : Nat) : ∀ (j : J) (c : Nat), cntN (m + 1) (backN m j c).1 + c = 1 + (backN m j c).2 := by
  induction m with
  | zero => intro j c; obtain ⟨k, n, s, keys, kids⟩ := j; simp [backN, cntN]
  | succ m ih =>
    intro j c
    obtain ⟨k, n, s, keys, kids⟩ := j
    have := bkids_sum (B := backN m) (f := cntN (m + 1)) ih (kids.take 20) c
    rw [backN, cntN]
    show 1 + ((bkids (backN m) (kids.take 20) c).1.map (cntN (m + 1))).sum + c = 1 + (bkids (backN m) (kids.take 20) c).2
    omega
end Go.Proofs.YtbkkcojfgdjbhaaDoor

namespace Go.Proofs.YtbkkcojfgdjbhaaDoor
open Go.ChangeShapes Go.WideShapes Go.RowKit

theorem StrsAt.shape {P : Nat → Prop} {w : World} {v : Value} {ss : List Bs} (h : StrsAt P w v ss) : ∃ a c, v = .slice a ss.length c := by
  rcases h with ⟨rfl, a, c, rfl⟩ | ⟨g, o, c, rfl, _⟩
  · exact ⟨a, c, rfl⟩
  · exact ⟨_, c, rfl⟩
theorem StrsAt.text {P : Nat → Prop} {w : World} {a : Option Addr} {n c : Nat} {ss : List Bs} (h : StrsAt P w (.slice a n c) ss) {q : Nat} {s : Bs} (hq : ss[q]? = some s) : ∃ g o, a = some ⟨g, o, none⟩ ∧ g < w.heap.size ∧ w.cell? ⟨g, o + q, none⟩ = some (.string ⟨s.toArray⟩) := by
  rcases h with ⟨rfl, _⟩ | ⟨g, o, c, e, _, _, hlt, hc⟩
  · simp at hq
  · injection e with e1 e2 e3
    exact ⟨g, o, e1, hlt, hc q s hq⟩
/-- What lies in memory while kids are built. -/
def AI (P : Nat → Prop) (d V : Nat) (k n : Int) (s : Bs) (kv dv0 : Value) (w : World) (out : List J) (wr : World) : Prop :=
  ∃ (css : List (List Value)) (dv : Value), Rw wr (V + 2) 25 (cells5 k n s kv dv) ∧ wr.ownsRow (V + 3) 25 5 dv out.length css.flatten ∧ css.length = out.length ∧
    (∀ (i : Nat) cs kid, css[i]? = some cs → out[i]? = some kid → JAt (BQ P V dv) wr d cs kid) ∧ Rw wr V 29 (cells5 k n s kv dv0) ∧ Rw wr (V + 1) 25 zero5 ∧ Below w.heap.size w wr
/-- The value at the end. -/
theorem AI.done {P : Nat → Prop} {d V : Nat} {k n : Int} {s : Bs} {kv dv0 : Value} {w wr : World} {out : List J} {ks : List Bs} (h : AI P d V k n s kv dv0 w out wr) (hV : V = w.heap.size) (hk : StrsAt (fun k => P k ∧ k < V) w kv ks) :
    ∃ dv, dv.oneCell' = true ∧ Rw wr (V + 2) 25 (cells5 k n s kv dv) ∧ Rw wr (V + 1) 25 zero5 ∧ Below w.heap.size w (wr.setRow (V + 1) (cells5 k n s kv dv).toArray) ∧
      JAt (fun k => P k ∨ V ≤ k) (wr.setRow (V + 1) (cells5 k n s kv dv).toArray) (d + 1) (cells5 k n s kv dv) (.mk k n s ks out) := by
  obtain ⟨css, dv, h1, h2, h3, h4, h6, h7, h8⟩ := h
  have A9 : Asd (fun k => V + 1 = k) wr (wr.setRow (V + 1) (cells5 k n s kv dv).toArray) := (Asd.refl _ _).setRow (.inl rfl) _
  refine ⟨dv, ?_, h1, h7, below_setRow h8 (by omega) _, ?_⟩
  · obtain ⟨a, cp, rfl, _⟩ := own_slice h2
    rfl
  · have hJ : JAt (fun k => (P k ∧ k < V) ∨ V + 2 < k) wr (d + 1) (cells5 k n s kv dv) (.mk k n s ks out) := by
      refine ⟨kv, dv, rfl, (hk.keepN (S := fun _ => False) (Asd.of_below h8) (fun _ _ _ h => h)).mono (fun i hi _ => .inl hi), ?_⟩
      have hc := h2
      rcases h2.2 with ⟨rfl, e0⟩ | ⟨g, cap, cur, rfl, hb, hg, hn, _⟩
      · exact .inl ⟨List.eq_nil_of_length_eq_zero e0, none, 0, rfl⟩
      · refine .inr ⟨g, 0, cap, rfl, .inr (by omega), (Array.getElem?_eq_some_iff.1 hg).1, fun i kid hi => ?_⟩
        have hlt : i < css.length := by rw [h3]; exact (List.getElem?_eq_some_iff.1 hi).1
        have hJ := h4 i _ kid (List.getElem?_eq_getElem hlt) hi
        refine ⟨css[i], hJ.five.1, fun j u hu => ?_, hJ.mono (fun k hk _ => hk.elim .inl (fun h => .inr h.1))⟩
        have hx := hc.cells (g := g) rfl (5 * i + j) u (flat_at css (Kst.fives h3 h4) i j _ u (List.getElem?_eq_getElem hlt) hu)
        rw [show (⟨g, 0 + 5 * i + j, none⟩ : Addr) = (⟨g, 0, none⟩ : Addr).add (5 * i + j) by unfold Addr.add; split <;> simp_all]
        exact hx
    exact (hJ.keep A9 (fun i hi _ e => by rcases hi with hi | hi <;> omega)).mono (fun i hi _ => hi.elim (fun h => .inl h.1) (fun h => .inr (by omega)))
/-- One kid more. -/
theorem AI.next {P : Nat → Prop} {d V : Nat} {k n : Int} {s : Bs} {kv dv0 dv dv2 : Value} {w wr w1 w2 w3 w4 : World} {out : List J} {css : List (List Value)} {cs2 : List Value} {kid : J}
    (h1 : Rw wr (V + 2) 25 (cells5 k n s kv dv)) (h2 : wr.ownsRow (V + 3) 25 5 dv out.length css.flatten) (h3 : css.length = out.length)
    (h4 : ∀ (i : Nat) cs kid, css[i]? = some cs → out[i]? = some kid → JAt (BQ P V dv) wr d cs kid) (h6 : Rw wr V 29 (cells5 k n s kv dv0)) (h7 : Rw wr (V + 1) 25 zero5) (h8 : Below w.heap.size w wr) (hw : w.heap.size = V)
    (A1 : Below wr.heap.size wr w1) (A2 : Below w1.heap.size w1 w2) (hJ : JAt (fun k => (P k ∧ k < V) ∨ w1.heap.size ≤ k) w2 d cs2 kid) (hb3 : Below w2.heap.size w2 w3)
    (ho : w4.ownsRow (V + 3) 25 5 dv2 (out.length + 1) (css.flatten ++ cs2)) (hg : w3.grownBy w4 dv.ownBlock) (hloc : dv2.ownBlock = dv.ownBlock ∨ dv2.ownBlock = some w3.heap.size) :
    AI P d V k n s kv dv0 w (out ++ [kid]) (w4.setCell ⟨V + 2, 4, none⟩ dv2) := by
  have hob : ∀ i, dv.ownBlock = some i → V + 3 ≤ i ∧ i < wr.heap.size := fun i e => h2.lt i e
  have hsz1 := A1.size
  have hsz2 := A2.size
  have hsz3 := hb3.size
  have hsz8 := h8.size
  have A4 : Asd (fun k => dv.ownBlock = some k) w2 w4 := (Asd.of_below hb3).grown hg (fun k e => .inl e)
  have A5 : Asd (fun k => dv.ownBlock = some k ∨ k = V + 2) w2 (w4.setCell ⟨V + 2, 4, none⟩ dv2) := (A4.any (fun i e => .inl e)).setCell (p := ⟨V + 2, 4, none⟩) (.inl (.inr rfl)) _
  have A : Asd (fun k => dv.ownBlock = some k ∨ k = V + 2) wr (w4.setCell ⟨V + 2, 4, none⟩ dv2) := ((Asd.of_below (S := fun k => dv.ownBlock = some k ∨ k = V + 2) (A1.trans (A2.mono hsz1)))).trans A5 (fun i e _ => e)
  have r4 : Rw w4 (V + 2) 25 (cells5 k n s kv dv) := ((h1.stay A1).stay A2).keep A4 (fun e => by have := hob _ e; omega)
  refine ⟨css ++ [cs2], dv2, r4.setCell 4 dv2, ?_, by simp [h3], fun i cs kd hi hk => ?_, h6.keep A ?_, h7.keep A ?_, ?_⟩
  · have h := ownsRow_setCell_below ho (a := ⟨V + 2, 4, none⟩) (Nat.lt_succ_self (V + 2)) dv2
    simpa using h
  · by_cases hlt : i < out.length
    · rw [List.getElem?_append_left (by omega)] at hi hk
      refine ((h4 i cs kd hi hk).mono (P' := fun k => BQ P V dv k ∧ BQ P V dv2 k) (fun x hx hxl => ⟨hx, ?_⟩)).keep A (fun x hx _ e => ?_) |>.mono (fun x hx _ => hx.2)
      · rcases hx with hx | hx
        · exact .inl hx
        · refine .inr ⟨hx.1, fun e => ?_⟩
          rcases hloc with hl | hl
          · exact hx.2 (hl ▸ e)
          · rw [hl] at e; injection e with e; omega
      · rcases hx.1 with hx | hx
        · rcases e with e | e
          · have := hob x e; omega
          · omega
        · rcases e with e | e
          · exact hx.2 e
          · omega
    · rw [List.getElem?_append_right (by omega)] at hi hk
      have h0 : i - css.length = 0 := by
        have := (List.getElem?_eq_some_iff.1 hi).1
        simp at this; omega
      rw [h0] at hi
      rw [← h3, h0] at hk
      simp at hi hk
      subst hi hk
      refine (hJ.mono (P' := fun k => (BQ P V dv2 k) ∧ ((P k ∧ k < V) ∨ w1.heap.size ≤ k)) (fun x hx hxl => ⟨?_, hx⟩)).keep A5 (fun x hx _ e => ?_) |>.mono (fun x hx _ => hx.1)
      · rcases hx with hx | hx
        · exact .inl hx
        · refine .inr ⟨by have := Rw.lt h1; omega, fun e => ?_⟩
          rcases hloc with hl | hl
          · have := hob x (hl ▸ e); omega
          · rw [hl] at e; injection e with e; omega
      · have := Rw.lt h1
        rcases hx.2 with hx | hx
        · rcases e with e | e
          · have := hob x e; omega
          · omega
        · rcases e with e | e
          · have := hob x e; omega
          · omega
  · rintro (e | e)
    · have := hob _ e; omega
    · omega
  · rintro (e | e)
    · have := hob _ e; omega
    · omega
  · exact h8.trans (A.toBelow hsz8 (fun i e => by
      rcases e with e | e
      · have := hob _ e; omega
      · omega))
theorem wp_one_doc {o : Oper} {a : Act} {w : World} {K : Act → World → Prop} {Q : Exit → Act → World → Prop} (x : Operand) (ho : o.op = .buildSlice 23 1 #[(0, x)]) (cs : List Value) (h5 : cs.length = 5) (hx : a.eval x = .agg cs.toArray)
    (h : K (a.put o.dst (.slice (some ⟨w.heap.size, 0, none⟩) 1 1)) (w.alloc (.cells cs.toArray 25))) : o.wp Tryd.prog a w K Q := by
  obtain ⟨i0, hi, hz0, hz1, _⟩ := info_parts info_doc
  refine wp_buildSlice 23 25 1 _ ho cs.toArray i0 _ Tryd.underlying23 hi hz0 (by rw [hz1]; decide) (by rw [hz1]; decide) ?_ h
  rw [hz1]
  simp only [List.map_toArray, List.map_cons, List.map_nil, hx]
  rw [show Array.range (1 * 5) = #[0, 1, 2, 3, 4] by kernel_rfl]
  match cs, h5 with
  | [a, b, c, d, e], _ => simp [Instr.fill, Value.cells, zero5, cells5]
theorem wp_own_doc {o : Oper} {a : Act} {w : World} {K : Act → World → Prop} {Q : Exit → Act → World → Prop} (s x : Operand) (ho : o.op = .call { callee := .builtin .append, args := #[s, x], argTypes := #[23, 23] })
    (base : Nat) (v : Value) (n : Nat) (xs : List Value) (hs : a.eval s = v) (hown : w.ownsRow base 25 5 v n xs) (g : Nat) (news : List Value) (hx : a.eval x = .slice (some ⟨g, 0, none⟩) 1 1) (hl : news.length = 5) (hr : Rw w g 25 news) (h1 : ∀ u ∈ news, u.oneCell' = true) (hn : n ≤ 1000000) (hbase : base ≤ w.heap.size)
    (h : ∀ v' w', w'.ownsRow base 25 5 v' (n + 1) (xs ++ news) → w.grownBy w' v.ownBlock → (v'.ownBlock = v.ownBlock ∨ v'.ownBlock = some w.heap.size) → K (a.put o.dst v') w') : o.wp Tryd.prog a w K Q := by
  obtain ⟨i0, hi, hz0, hz1, hz2⟩ := info_parts info_doc
  obtain ⟨v', w', hr, h2, h3, _, h5⟩ := run_append_own_at (P := Tryd.prog) w base 23 o.type 25 i0 _ 5 80 Tryd.underlying23 hi hz0 hz1 hz2 rfl (by decide) v n xs hown ⟨g, 0, none⟩ 1 1 news hl (fun j u hu => by
      rw [show (⟨g, 0, none⟩ : Addr).add j = ⟨g, j, none⟩ by unfold Addr.add; split <;> simp_all, Rw.cell hr j]
      exact hu) h1 (by unfold maxLen; omega) (by omega) hbase
  unfold Oper.wp execOp
  simp only [ho, resolve, invoke, builtin, Sem.run_bind, Sem.run_pure, Result.andThen_ok, List.map_toArray, List.map_cons, List.map_nil, hs, hx, hr]
  exact h v' w' h2 h3 h5
theorem load_docA {ops : Array Oper} {rest : List Oper} {o : Oper} {a : Act} {w : World} {Q : Exit → Act → World → Prop} (g : Nat) (t : TypeId) (cs : List Value) (hr : Rw w g t cs) (hn : cs.length = 5) (x : Operand) (hgd : o.guard = none) (ho : o.op = .load 25 x) (hx : a.eval x = .pointer (some ⟨g, 0, none⟩))
    (h : wpList Tryd.prog ops Q rest (a.put o.dst (.agg cs.toArray)) w) : wpList Tryd.prog ops Q (o :: rest) a w :=
  wpList_load_row hgd 25 x ho g hx t cs.toArray (0, 0) _ hr Tryd.underlying25 rfl (by rw [show cs.toArray.size = 5 by simp [hn]]; kernel_rfl) h
theorem run_load_jv {o : Oper} {a : Act} {w : World} (x : Operand) (ho : o.op = .load 29 x) (g k : Nat) (cs : List Value) (h5 : cs.length = 5) (hc : ∀ (j : Nat) u, cs[j]? = some u → w.cell? ⟨g, k + j, none⟩ = some u) (hx : a.eval x = .pointer (some ⟨g, k, none⟩)) : (execOp a.eval o).run Tryd.prog w = .ok (.value (.agg cs.toArray)) w := by
  unfold execOp
  simp only [ho, hx, Instr.loadAt, Instr.sureAddr, Sem.run_bind, Sem.run_pure, Result.andThen_ok, run_load5 w g k cs h5 hc]
theorem info_docz : (Tryd.prog.info? 25).map (fun i => (i.zero, i.size)) = some (some (.agg zero5.toArray), 5) := by kernel_rfl
theorem zero_doc (w : World) : (zeroValue 25).run Tryd.prog w = .ok (.agg zero5.toArray) w := (zero_of_info info_docz).1 w
theorem ret_doc {fn : Func} {p : Tmp} {a : Act} {w : World} {R : Ending → World → Prop} (g : Nat) (t : TypeId) (cs : List Value) (hr : Rw w g t cs) (hn : cs.length = 5)
    (hf : fn.results = #[.cell p 25]) (hd : a.defers = []) (hp : a.tmps.getD p undef = .pointer (some ⟨g, 0, none⟩)) (h : R (.returned (.agg cs.toArray)) w) : bodyPost Tryd.prog fn R .ret a w := by
  refine bodyPost_ret (v := .agg cs.toArray) ?_ hd h
  rw [results_cell hf, hp]
  have := run_loadVar_row (P := Tryd.prog) w g t 25 cs.toArray (0, 0) _ hr Tryd.underlying25 rfl (by rw [show cs.toArray.size = 5 by simp [hn]]; kernel_rfl)
  simp [asAddr, this]
/-- The contract. -/
def ACt (D : Nat) : Prop := ∀ (P : Nat → Prop) (cs : List Value) (j : J) (w : World), JAt P w D cs j → Siz D j →
  Calls Tryd.prog 15 #[.agg cs.toArray] w fun e w' => ∃ cs' : List Value, e = .returned (.agg cs'.toArray) ∧ JAt (fun k => P k ∨ w.heap.size ≤ k) w' D cs' j ∧ Below w.heap.size w w'
set_option maxHeartbeats 3200000 in
set_option maxRecDepth 100000 in
theorem as_step (D : Nat) (HB : ∀ d, D = d + 1 → ACt d) : ACt D := by
  intro P cs j w hJ hZ
  obtain ⟨k, n, s, keys, kids⟩ := j
  have hJ0 := hJ.mono (P' := fun k => P k ∧ k < w.heap.size) (fun _ h h2 => ⟨h, h2⟩)
  clear hJ
  obtain ⟨d, kv, dv0, rfl, rfl, hkv, hdv⟩ := hJ0.open
  obtain ⟨_, hk1, _, hk2, hk3⟩ := hZ
  replace HB := HB d rfl
  have hkv1 := hkv.one
  obtain ⟨ka, kc, hkvs⟩ := hkv.shape
  subst hkvs
  have hz := zero_val
  have hzd := zero_doc
  have rA := Rw.new w 29 (cells5 k n s (.slice ka keys.length kc) dv0)
  have hb1 : Below w.heap.size w (w.alloc (.cells (cells5 k n s (.slice ka keys.length kc) dv0).toArray 29)) := (Below.refl _ _).alloc (Nat.le_refl _) _
  have hsz : (w.alloc (.cells (cells5 k n s (.slice ka keys.length kc) dv0).toArray 29)).heap.size = w.heap.size + 1 := by simp
  have rB := Rw.new (w.alloc (.cells (cells5 k n s (.slice ka keys.length kc) dv0).toArray 29)) 25 zero5
  have hb2 : Below (w.alloc (.cells (cells5 k n s (.slice ka keys.length kc) dv0).toArray 29)).heap.size (w.alloc (.cells (cells5 k n s (.slice ka keys.length kc) dv0).toArray 29)) ((w.alloc (.cells (cells5 k n s (.slice ka keys.length kc) dv0).toArray 29)).alloc (.cells zero5.toArray 25)) := (Below.refl _ _).alloc (Nat.le_refl _) _
  replace rA := rA.stay hb2
  rw [hsz] at rB
  have hb := hb1.trans (hb2.mono hb1.size)
  have hs2 : ((w.alloc (.cells (cells5 k n s (.slice ka keys.length kc) dv0).toArray 29)).alloc (.cells zero5.toArray 25)).heap.size = w.heap.size + 2 := by simp
  clear hb1 hb2 hsz hJ0
  go_enter Tryd.func15, Tryd.ntmps15
  go_upto_region 1 with fail
  generalize (w.alloc (.cells (cells5 k n s (.slice ka keys.length kc) dv0).toArray 29)).alloc (.cells zero5.toArray 25) = W at *
  have a0 := Rw.cell rA 0
  change _ = some (Value.int .i64 k) at a0
  have a1 := Rw.cell rA 1
  change _ = some (Value.int .i64 n) at a1
  have a2 := Rw.cell rA 2
  change _ = some (Value.string ⟨s.toArray⟩) at a2
  have a3 := Rw.cell rA 3
  change _ = some (Value.slice ka keys.length kc) at a3
  have rN := Rw.new W 25 zero5
  rw [hs2] at rN
  have hS3 : Below W.heap.size W (W.alloc (.cells (cells5 k n s (.slice ka keys.length kc) (.slice none 0 0)).toArray 25)) := (Below.refl _ _).alloc (Nat.le_refl _) _
  have rO := Rw.new W 25 (cells5 k n s (.slice ka keys.length kc) (.slice none 0 0))
  rw [hs2] at rO
  go_upto_region 2 with (refine store_arr (w.heap.size + 2) 25 zero5 rN 5 rfl 25 (by kernel_rfl) (cells5 k n s (.slice ka keys.length kc) (.slice none 0 0)) rfl (one5 _ _ _ hkv1 rfl) _ _ rfl rfl rfl rfl ?_)
  rw [← hs2, World.setRow_alloc_new, hs2]
  have hbW : Below w.heap.size w (W.alloc (.cells (cells5 k n s (.slice ka keys.length kc) (.slice none 0 0)).toArray 25)) := hb.trans (hS3.mono hb.size)
  have hBI : AI P d w.heap.size k n s (.slice ka keys.length kc) dv0 w [] (W.alloc (.cells (cells5 k n s (.slice ka keys.length kc) (.slice none 0 0)).toArray 25)) :=
    ⟨[], _, rO, ⟨rfl, .inl ⟨rfl, rfl⟩⟩, rfl, fun i cs kid h => by simp at h, rA.stay hS3, rB.stay hS3, hbW⟩
  have HBI : Unit → _ := fun _ => hBI
  have HK : Unit → _ := fun _ => And.intro hkv hdv
  have hdvs := hdv.shape
  clear rO rA rB rN hS3 hb hBI hdv hkv hbW hs2 a0 a1 a2 a3
  generalize W.alloc (.cells (cells5 k n s (.slice ka keys.length kc) (.slice none 0 0)).toArray 25) = W2 at *
  obtain ⟨da, dc, rfl⟩ := hdvs
  go_upto_region 3 with fail
  go_loopw [4] (fun i wr => ∃ (q : Nat), q ≤ kids.length ∧ i = .int .i64 (q : Int) ∧ AI P d w.heap.size k n s (.slice ka keys.length kc) (.slice da kids.length dc) w (kids.take q) wr) (fun i _ => kids.length - (intOf i).toNat)
  case atStart => exact ⟨0, by omega, rfl, HBI ()⟩
  case round =>
    clear HBI
    obtain ⟨q, hqk, rfl, hBI⟩ := hrel
    have HBI : Unit → _ := fun _ => hBI
    obtain ⟨css, dv, h1, h2, h3, h4, h6, h7, h8⟩ := hBI
    have b4 := Rw.cell h6 4
    change _ = some (Value.slice da kids.length dc) at b4
    have hKr := (HK ()).2.stay h8
    by_cases g1 : q < kids.length
    · obtain ⟨kid, hkid⟩ : ∃ x, kids[q]? = some x := ⟨_, List.getElem?_eq_getElem g1⟩
      obtain ⟨g, o, ck, rfl, hk5, hkcell, hkJ⟩ := hKr.kid hkid
      have hgl : g < wr.heap.size := by
        cases hx : ck[0]? with
        | none => rw [List.getElem?_eq_none_iff, hk5] at hx; omega
        | some u => exact World.block_lt_of_cell? wr _ (hkcell 0 u hx)
      have i1 : (q : Int) < (kids.length : Int) := by omega
      have i0 : ¬ (q : Int) < 0 := by omega
      obtain ⟨out, hout⟩ : ∃ out, out = kids.take q := ⟨_, rfl⟩
      rw [← hout] at h2 h3 h4
      have HO : Unit → out ++ [kid] = kids.take (q + 1) := fun _ => by rw [hout, List.take_add_one, hkid]; rfl
      have hol : out.length ≤ 1000000 := by rw [hout, List.length_take]; omega
      have hzk := hk3 kid (List.mem_of_getElem? hkid)
      clear hout hkid
      go_upto_region 5 with fail
      have hob : ∀ i, dv.ownBlock = some i → w.heap.size + 3 ≤ i := fun i e => (h2.lt i e).1
      have hgo : ∀ i, dv.ownBlock = some i → i ≠ g := fun i e => by
        rcases (HK ()).2 with ⟨e2, _⟩ | ⟨g', o', c', e2, hpg, _, _⟩
        · subst e2; simp at g1
        · injection e2 with e2 e3 e4
          injection e2 with e2
          injection e2 with e2 e5 e6
          have := hob i e
          have := hpg.2
          omega
      have hg2 : g < w.heap.size := by
        rcases (HK ()).2 with ⟨e2, _⟩ | ⟨g', o', c', e2, hpg, _, _⟩
        · subst e2; simp at g1
        · injection e2 with e2 e3 e4
          injection e2 with e2
          injection e2 with e2 e5 e6
          have := hpg.2
          omega
      have hNX := fun (_ : Unit) (w2 w3 w4 : World) (cs2 : List Value) (dv2 : Value) => AI.next (w2 := w2) (w3 := w3) (w4 := w4) (cs2 := cs2) (dv2 := dv2) (kid := kid) (w1 := { wr with drawn := wr.drawn + 1 }) h1 h2 h3 h4 h6 h7 h8 rfl (Below.refl _ _).drew
      obtain ⟨ad, cap, rfl, hcap⟩ := own_slice h2
      refine wp_region_held (S := fun w' => Asd (fun k => (Value.slice ad out.length cap).ownBlock = some k ∨ k = w.heap.size + 2) wr w') (by kernel_rfl) ?_
      have hS0 : Below wr.heap.size wr { wr with drawn := wr.drawn + 1 } := (Below.refl _ wr).drew
      have hS : Asd (fun k => (Value.slice ad out.length cap).ownBlock = some k ∨ k = w.heap.size + 2) wr { wr with drawn := wr.drawn + 1 } := Asd.of_below hS0
      have hJ1 := hkJ.keep (S := fun _ => False) (Asd.of_below hS0) (fun _ _ _ h => h)
      have hO1 := h1.stay hS0
      have c4 := Rw.cell hO1 4
      change _ = some (Value.slice ad out.length cap) at c4
      have h21 := own_stay h2 hS0
      clear h1 h2 h3 h4 h6 h7 h8 hkJ hKr
      generalize { wr with drawn := wr.drawn + 1 } = w1 at *
      have hnV : ∀ x, x < w.heap.size + 1 → ¬ ((Value.slice ad out.length cap).ownBlock = some x ∨ x = w.heap.size + 2) := fun x hx e => by
        rcases e with e | e
        · have := hob x e; omega
        · omega
      refine held_val 0 rfl (by kernel_rfl) (by kernel_rfl) (by kernel_rfl) (fun _ _ _ _ h => h) (by rfl) hS ?_
      apply Exists.intro
      refine ⟨fun w' hw' => ?_, ?_⟩
      · skip
        go_simp
        first | done | rfl | exact ⟨rfl, rfl⟩
      simp only [Act.put, List.setIfInBounds_toArray, List.set_cons_zero, List.set_cons_succ]
      refine held_val 2 rfl (by kernel_rfl) (by kernel_rfl) (by kernel_rfl) (fun _ _ _ _ h => h) (by rfl) hS ?_
      apply Exists.intro
      refine ⟨fun w' hw' => ?_, ?_⟩
      · skip
        go_simp
        first | done | rfl | exact ⟨rfl, rfl⟩
      simp only [Act.put, List.setIfInBounds_toArray, List.set_cons_zero, List.set_cons_succ]
      refine held_val 3 rfl (by kernel_rfl) (by kernel_rfl) (by kernel_rfl) (fun _ _ _ _ h => h) (by rfl) hS ?_
      apply Exists.intro
      refine ⟨fun w' hw' => ?_, ?_⟩
      · have e1 : w'.cell? ⟨w.heap.size, 4, none⟩ = some (.slice (some ⟨g, o, none⟩) kids.length dc) := cell_asd hw' (hnV _ (by omega)) b4
        go_simp
        first | done | rfl | exact ⟨rfl, rfl⟩
      simp only [Act.put, List.setIfInBounds_toArray, List.set_cons_zero, List.set_cons_succ]
      refine held_val 4 rfl (by kernel_rfl) (by kernel_rfl) (by kernel_rfl) (fun _ _ _ _ h => h) (by rfl) hS ?_
      apply Exists.intro
      refine ⟨fun w' hw' => ?_, ?_⟩
      · skip
        go_simp
        first | done | rfl | exact ⟨rfl, rfl⟩
      simp only [Act.put, List.setIfInBounds_toArray, List.set_cons_zero, List.set_cons_succ]
      refine held_val 5 rfl (by kernel_rfl) (by kernel_rfl) (by kernel_rfl) (fun _ _ _ _ h => h) (by rfl) hS ?_
      apply Exists.intro
      refine ⟨fun w' hw' => ?_, ?_⟩
      · skip
        go_simp
        first | done | rfl | exact ⟨rfl, rfl⟩
      simp only [Act.put, List.setIfInBounds_toArray, List.set_cons_zero, List.set_cons_succ]
      refine held_val 6 rfl (by kernel_rfl) (by kernel_rfl) (by kernel_rfl) (fun _ _ _ _ h => h) (by rfl) hS ⟨.agg ck.toArray, fun w' hw' => ?_, ?_⟩
      · exact run_load_jv _ rfl g (o + q * 5) ck hk5 (fun j u hu => cell_asd hw' (hnV _ (by omega)) (hkcell j u hu)) rfl
      simp only [Act.put, List.setIfInBounds_toArray, List.set_cons_zero, List.set_cons_succ]
      clear b4 hkcell
      -- <<
      refine held_two 1 7 (by kernel_rfl) rfl rfl (by rfl) (by rfl) ?_ ?_
      · refine wp_look (.slice ad out.length cap) ?_ ⟨hS, ?_⟩
        · go_simp
        simp only [Act.put, List.setIfInBounds_toArray, List.set_cons_zero, List.set_cons_succ]
        refine held_one 7 (by kernel_rfl) rfl (by rfl) ?_
        refine wp_call2 ?_
        apply Exists.intro
        apply Exists.intro
        refine ⟨?_, ?_⟩
        · go_simp
          first | done | rfl | exact ⟨rfl, rfl⟩
        refine (HB _ ck kid w1 hJ1 hzk).mono ?_
        rintro e w2 ⟨cs2, rfl, hJ2, A2⟩
        replace hS := hS.trans (Asd.of_below (S := fun k => (Value.slice ad out.length cap).ownBlock = some k ∨ k = w.heap.size + 2) A2) (fun i e _ => e)
        refine ⟨_, rfl, hS, ?_⟩
        simp only [Act.put, List.setIfInBounds_toArray, List.set_cons_zero, List.set_cons_succ]
        obtain ⟨h52, ho2⟩ := hJ2.five
        have h22 := own_stay h21 A2
        have hO2 := hO1.stay A2
        have d4 := Rw.cell hO2 4
        change _ = some (Value.slice ad out.length cap) at d4
        have hsz2 := A2.size
        refine held_one 8 (by kernel_rfl) rfl (by rfl) ?_
        refine wp_one_doc _ rfl cs2 h52 rfl ?_
        have hb3 : Below w2.heap.size w2 (w2.alloc (.cells cs2.toArray 25)) := (Below.refl _ _).alloc (Nat.le_refl _) _
        have rT := Rw.new w2 25 cs2
        have h23 := own_stay h22 hb3
        have hO3 := hO2.stay hb3
        have d4' := Rw.cell hO3 4
        change _ = some (Value.slice ad out.length cap) at d4'
        replace hS := hS.alloc (.cells cs2.toArray 25)
        refine ⟨hS, ?_⟩
        have hsz3 := hb3.size
        clear d4
        generalize w2.alloc (.cells cs2.toArray 25) = w3 at *
        simp only [Act.put, List.setIfInBounds_toArray, List.set_cons_zero, List.set_cons_succ]
        refine held_one 9 (by kernel_rfl) rfl (by rfl) ?_
        refine wp_own_doc _ _ rfl (w.heap.size + 3) _ out.length css.flatten rfl h23 w2.heap.size cs2 rfl h52 rT ho2 hol (by have := Rw.lt hO1; omega) ?_
        intro v' w4 hO hg hloc
        obtain ⟨g', cap', rfl⟩ := own_succ hO
        have hBI' := hNX () w2 w3 w4 cs2 _ A2 hJ2 hb3 hO hg hloc
        replace hS := hS.grown hg (fun k e => .inl (.inl e))
        have hO4 : Rw w4 (w.heap.size + 2) 25 (cells5 k n s (.slice ka keys.length kc) (.slice ad out.length cap)) := hO3.keep (S := fun k => (Value.slice ad out.length cap).ownBlock = some k) ((Asd.refl _ _).grown hg (fun k e => .inl e)) (fun e => by have := hob _ e; omega)
        refine ⟨hS, ?_⟩
        simp only [Act.put, List.setIfInBounds_toArray, List.set_cons_zero, List.set_cons_succ]
        clear hO hg hloc hO3 hO2 h22 h23 rT hJ2 hb3 A2 d4' hO1 c4 h21 hJ1 hNX HB
        refine held_now 10 (by kernel_rfl) rfl (by rfl) hS ?_
        apply Exists.intro
        refine ⟨?_, ?_⟩
        · skip
          go_simp
          first | done | rfl | exact ⟨rfl, rfl⟩
        simp only [Act.put, List.setIfInBounds_toArray, List.set_cons_zero, List.set_cons_succ]
        have f4 := Rw.cell hO4 4
        have f5 := Rw.frozen hO4 4
        change _ = some (Value.slice ad out.length cap) at f4
        refine held_one 11 (by kernel_rfl) rfl (by rfl) ?_
        unfold Oper.wp
        go_simp
        replace hS := hS.setCell (p := ⟨w.heap.size + 2, 4, none⟩) (.inl (.inr rfl)) (.slice (some ⟨g', 0, none⟩) (out.length + 1) cap')
        refine ⟨hS, ?_⟩
        refine wpAnyH_done (by kernel_rfl) ?_ _
        clear hS f4 f5 hO4 hS0
        rw [HO ()] at hBI'
        generalize w4.setCell ⟨w.heap.size + 2, 4, none⟩ (.slice (some ⟨g', 0, none⟩) (out.length + 1) cap') = w5 at *
        go_wp2_with fail
        go_roundw
        case rel => exact ⟨q + 1, by omega, by go_num, hBI'⟩
        case measure => simp [intOf]; omega
      · refine wp_call2 ?_
        apply Exists.intro
        apply Exists.intro
        refine ⟨?_, ?_⟩
        · go_simp
          first | done | rfl | exact ⟨rfl, rfl⟩
        refine (HB _ ck kid w1 hJ1 hzk).mono ?_
        rintro e w2 ⟨cs2, rfl, hJ2, A2⟩
        replace hS := hS.trans (Asd.of_below (S := fun k => (Value.slice ad out.length cap).ownBlock = some k ∨ k = w.heap.size + 2) A2) (fun i e _ => e)
        refine ⟨_, rfl, hS, ?_⟩
        simp only [Act.put, List.setIfInBounds_toArray, List.set_cons_zero, List.set_cons_succ]
        obtain ⟨h52, ho2⟩ := hJ2.five
        have h22 := own_stay h21 A2
        have hO2 := hO1.stay A2
        have d4 := Rw.cell hO2 4
        change _ = some (Value.slice ad out.length cap) at d4
        have hsz2 := A2.size
        refine held_two 1 8 (by kernel_rfl) rfl rfl (by rfl) (by rfl) ?_ ?_
        · refine wp_look (.slice ad out.length cap) ?_ ⟨hS, ?_⟩
          · go_simp
          simp only [Act.put, List.setIfInBounds_toArray, List.set_cons_zero, List.set_cons_succ]
          refine held_one 8 (by kernel_rfl) rfl (by rfl) ?_
          refine wp_one_doc _ rfl cs2 h52 rfl ?_
          have hb3 : Below w2.heap.size w2 (w2.alloc (.cells cs2.toArray 25)) := (Below.refl _ _).alloc (Nat.le_refl _) _
          have rT := Rw.new w2 25 cs2
          have h23 := own_stay h22 hb3
          have hO3 := hO2.stay hb3
          have d4' := Rw.cell hO3 4
          change _ = some (Value.slice ad out.length cap) at d4'
          replace hS := hS.alloc (.cells cs2.toArray 25)
          refine ⟨hS, ?_⟩
          have hsz3 := hb3.size
          clear d4
          generalize w2.alloc (.cells cs2.toArray 25) = w3 at *
          simp only [Act.put, List.setIfInBounds_toArray, List.set_cons_zero, List.set_cons_succ]
          refine held_one 9 (by kernel_rfl) rfl (by rfl) ?_
          refine wp_own_doc _ _ rfl (w.heap.size + 3) _ out.length css.flatten rfl h23 w2.heap.size cs2 rfl h52 rT ho2 hol (by have := Rw.lt hO1; omega) ?_
          intro v' w4 hO hg hloc
          obtain ⟨g', cap', rfl⟩ := own_succ hO
          have hBI' := hNX () w2 w3 w4 cs2 _ A2 hJ2 hb3 hO hg hloc
          replace hS := hS.grown hg (fun k e => .inl (.inl e))
          have hO4 : Rw w4 (w.heap.size + 2) 25 (cells5 k n s (.slice ka keys.length kc) (.slice ad out.length cap)) := hO3.keep (S := fun k => (Value.slice ad out.length cap).ownBlock = some k) ((Asd.refl _ _).grown hg (fun k e => .inl e)) (fun e => by have := hob _ e; omega)
          refine ⟨hS, ?_⟩
          simp only [Act.put, List.setIfInBounds_toArray, List.set_cons_zero, List.set_cons_succ]
          clear hO hg hloc hO3 hO2 h22 h23 rT hJ2 hb3 A2 d4' hO1 c4 h21 hJ1 hNX HB
          refine held_now 10 (by kernel_rfl) rfl (by rfl) hS ?_
          apply Exists.intro
          refine ⟨?_, ?_⟩
          · skip
            go_simp
            first | done | rfl | exact ⟨rfl, rfl⟩
          simp only [Act.put, List.setIfInBounds_toArray, List.set_cons_zero, List.set_cons_succ]
          have f4 := Rw.cell hO4 4
          have f5 := Rw.frozen hO4 4
          change _ = some (Value.slice ad out.length cap) at f4
          refine held_one 11 (by kernel_rfl) rfl (by rfl) ?_
          unfold Oper.wp
          go_simp
          replace hS := hS.setCell (p := ⟨w.heap.size + 2, 4, none⟩) (.inl (.inr rfl)) (.slice (some ⟨g', 0, none⟩) (out.length + 1) cap')
          refine ⟨hS, ?_⟩
          refine wpAnyH_done (by kernel_rfl) ?_ _
          clear hS f4 f5 hO4 hS0
          rw [HO ()] at hBI'
          generalize w4.setCell ⟨w.heap.size + 2, 4, none⟩ (.slice (some ⟨g', 0, none⟩) (out.length + 1) cap') = w5 at *
          go_wp2_with fail
          go_roundw
          case rel => exact ⟨q + 1, by omega, by go_num, hBI'⟩
          case measure => simp [intOf]; omega
        · refine wp_one_doc _ rfl cs2 h52 rfl ?_
          have hb3 : Below w2.heap.size w2 (w2.alloc (.cells cs2.toArray 25)) := (Below.refl _ _).alloc (Nat.le_refl _) _
          have rT := Rw.new w2 25 cs2
          have h23 := own_stay h22 hb3
          have hO3 := hO2.stay hb3
          have d4' := Rw.cell hO3 4
          change _ = some (Value.slice ad out.length cap) at d4'
          replace hS := hS.alloc (.cells cs2.toArray 25)
          refine ⟨hS, ?_⟩
          have hsz3 := hb3.size
          clear d4
          generalize w2.alloc (.cells cs2.toArray 25) = w3 at *
          simp only [Act.put, List.setIfInBounds_toArray, List.set_cons_zero, List.set_cons_succ]
          refine held_one 1 (by kernel_rfl) rfl (by rfl) ?_
          refine wp_look (.slice ad out.length cap) ?_ ⟨hS, ?_⟩
          · go_simp
          simp only [Act.put, List.setIfInBounds_toArray, List.set_cons_zero, List.set_cons_succ]
          refine held_one 9 (by kernel_rfl) rfl (by rfl) ?_
          refine wp_own_doc _ _ rfl (w.heap.size + 3) _ out.length css.flatten rfl h23 w2.heap.size cs2 rfl h52 rT ho2 hol (by have := Rw.lt hO1; omega) ?_
          intro v' w4 hO hg hloc
          obtain ⟨g', cap', rfl⟩ := own_succ hO
          have hBI' := hNX () w2 w3 w4 cs2 _ A2 hJ2 hb3 hO hg hloc
          replace hS := hS.grown hg (fun k e => .inl (.inl e))
          have hO4 : Rw w4 (w.heap.size + 2) 25 (cells5 k n s (.slice ka keys.length kc) (.slice ad out.length cap)) := hO3.keep (S := fun k => (Value.slice ad out.length cap).ownBlock = some k) ((Asd.refl _ _).grown hg (fun k e => .inl e)) (fun e => by have := hob _ e; omega)
          refine ⟨hS, ?_⟩
          simp only [Act.put, List.setIfInBounds_toArray, List.set_cons_zero, List.set_cons_succ]
          clear hO hg hloc hO3 hO2 h22 h23 rT hJ2 hb3 A2 d4' hO1 c4 h21 hJ1 hNX HB
          refine held_now 10 (by kernel_rfl) rfl (by rfl) hS ?_
          apply Exists.intro
          refine ⟨?_, ?_⟩
          · skip
            go_simp
            first | done | rfl | exact ⟨rfl, rfl⟩
          simp only [Act.put, List.setIfInBounds_toArray, List.set_cons_zero, List.set_cons_succ]
          have f4 := Rw.cell hO4 4
          have f5 := Rw.frozen hO4 4
          change _ = some (Value.slice ad out.length cap) at f4
          refine held_one 11 (by kernel_rfl) rfl (by rfl) ?_
          unfold Oper.wp
          go_simp
          replace hS := hS.setCell (p := ⟨w.heap.size + 2, 4, none⟩) (.inl (.inr rfl)) (.slice (some ⟨g', 0, none⟩) (out.length + 1) cap')
          refine ⟨hS, ?_⟩
          refine wpAnyH_done (by kernel_rfl) ?_ _
          clear hS f4 f5 hO4 hS0
          rw [HO ()] at hBI'
          generalize w4.setCell ⟨w.heap.size + 2, 4, none⟩ (.slice (some ⟨g', 0, none⟩) (out.length + 1) cap') = w5 at *
          go_wp2_with fail
          go_roundw
          case rel => exact ⟨q + 1, by omega, by go_num, hBI'⟩
          case measure => simp [intOf]; omega
      -- >>
    · obtain rfl : q = kids.length := by omega
      have hBI9 := HBI ()
      rw [List.take_length] at hBI9
      obtain ⟨dv', ho1, rO, rR, A9, hJ9⟩ := AI.done hBI9 rfl (HK ()).1
      have i1 : ¬ (kids.length : Int) < (kids.length : Int) := by omega
      clear g1 h1 h2 h3 h4 h6 h7 h8 hKr HK HBI hBI9 HB
      go_wp2_with (first
        | (refine load_docA (w.heap.size + 2) 25 _ rO rfl _ rfl rfl rfl ?_)
        | (refine store_arr (w.heap.size + 1) 25 zero5 rR 5 rfl 25 (by kernel_rfl) (cells5 k n s (.slice ka keys.length kc) dv') rfl (one5 _ _ _ hkv1 ho1) _ _ rfl rfl rfl rfl ?_))
      refine ret_doc (w.heap.size + 1) 25 _ (rR.row _) rfl rfl rfl rfl ?_
      exact ⟨_, rfl, hJ9, A9⟩
theorem as_any (D : Nat) : ACt D := by
  induction D with
  | zero => exact as_step 0 (fun d e => by omega)
  | succ D ih => exact as_step (D + 1) (fun d e => by
      obtain rfl : D = d := by omega
      exact ih)
end Go.Proofs.YtbkkcojfgdjbhaaDoor

namespace Go.Proofs.YtbkkcojfgdjbhaaDoor
open Go.ChangeShapes Go.WideShapes Go.RowKit

theorem JAt.dep {P : Nat → Prop} {w : World} : ∀ {D : Nat} {cs : List Value} {j : J}, JAt P w D cs j → Dep D j := by
  intro D
  induction D with
  | zero => intro cs j h; exact h.elim
  | succ D ih =>
    intro cs j h
    obtain ⟨k, n, s, keys, kids⟩ := j
    obtain ⟨D', kv, dv, e, rfl, _, hd⟩ := h.open
    obtain rfl : D = D' := by omega
    intro kid hk
    obtain ⟨i, hi⟩ := List.getElem?_of_mem hk
    obtain ⟨a, c, rfl⟩ := hd.shape
    obtain ⟨_, _, _, _, _, _, hJ⟩ := hd.kid hi
    exact ih hJ
theorem load_doc_at {ops : Array Oper} {rest : List Oper} {o : Oper} {a : Act} {w : World} {Q : Exit → Act → World → Prop} (g k : Nat) (cs : List Value) (h5 : cs.length = 5) (hc : ∀ (j : Nat) u, cs[j]? = some u → w.cell? ⟨g, k + j, none⟩ = some u) (x : Operand) (hgd : o.guard = none) (ho : o.op = .load 25 x) (hx : a.eval x = .pointer (some ⟨g, k, none⟩))
    (h : wpList Tryd.prog ops Q rest (a.put o.dst (.agg cs.toArray)) w) : wpList Tryd.prog ops Q (o :: rest) a w :=
  wpList_plain hgd fun _ hK => by
    unfold Oper.wp execOp
    simp only [ho, hx, Instr.loadAt, Instr.sureAddr, Sem.run_bind, Sem.run_pure, Result.andThen_ok, run_load5d w g k cs h5 hc]
    exact hK _ _ h
set_option maxHeartbeats 800000 in
theorem rtext_any (s : Bs) (w : World) (hE : Env w) (hl : s.length ≤ 9223372036854775807) :
    Calls Tryd.prog 44 #[.string ⟨s.toArray⟩] w fun e w' => e = .returned (.bool (textOk s)) ∧ Below w.heap.size w w' := by
  have hs : (⟨s.toArray⟩ : ByteArray).size = s.length := by simp [ByteArray.size]
  have K : Hid (Calls Tryd.prog 60 #[.string ⟨s.toArray⟩] w fun e w' => e = .returned (.bool (Lib.validD s)) ∧ Below w.heap.size w w') := Any.utf8_ValidString Tryd.lays196 ⟨s.toArray⟩ w (by omega) hE.utf
  have Ht : Unit → textOk s = (decide (s.length ≤ 200) && Lib.validD s) := fun _ => rfl
  generalize Lib.validD s = vd at *
  generalize (⟨s.toArray⟩ : ByteArray) = X at *
  by_cases h2 : s.length ≤ 200
  · have h2i : (s.length : Int) ≤ 200 := by omega
    go_enter Tryd.func44, Tryd.ntmps44
    go_wp2_with fail
    refine K.out.mono ?_
    rintro e w1 ⟨rfl, hb⟩
    clear K
    go_wp2_with fail
    go_ret
    exact ⟨by rw [Ht (), decide_eq_true h2]; rfl, hb⟩
  · have h2i : ¬ (s.length : Int) ≤ 200 := by omega
    go_enter Tryd.func44, Tryd.ntmps44
    go_wp2_with fail
    go_ret
    exact ⟨by rw [Ht (), decide_eq_false h2]; rfl, Below.refl _ _⟩
/-- The contract of count. -/
def NCt (D : Nat) : Prop := ∀ (P : Nat → Prop) (cs : List Value) (j : J) (w : World), JAt P w D cs j → Siz D j → cntN D j ≤ 1000000 →
  Calls Tryd.prog 26 #[.agg cs.toArray] w fun e w' => e = .returned (.int .i64 (cntN D j : Int)) ∧ Below w.heap.size w w'
theorem sum_take (f : J → Nat) (l : List J) (q : Nat) : ((l.take q).map f).sum ≤ (l.map f).sum := by
  conv => rhs; rw [← List.take_append_drop q l]
  rw [List.map_append, List.sum_append]
  omega
theorem sum_next (f : J → Nat) (l : List J) (q : Nat) (x : J) (h : l[q]? = some x) : ((l.take (q + 1)).map f).sum = ((l.take q).map f).sum + f x := by
  rw [List.take_add_one, h]
  simp
set_option maxHeartbeats 1600000 in
set_option maxRecDepth 100000 in
theorem count_step (D : Nat) (HB : ∀ d, D = d + 1 → NCt d) : NCt D := by
  intro P cs j w hJ hZ hN
  obtain ⟨k, n, s, keys, kids⟩ := j
  obtain ⟨d, kv, dv0, rfl, rfl, hkv, hdv⟩ := hJ.open
  obtain ⟨_, hk1, _, hk2, hk3⟩ := hZ
  replace HB := HB d rfl
  have hc : cntN (d + 1) (.mk k n s keys kids) = 1 + (kids.map (cntN d)).sum := rfl
  rw [hc] at hN ⊢
  clear hc hJ
  have rA := Rw.new w 25 (cells5 k n s kv dv0)
  have hb : Below w.heap.size w (w.alloc (.cells (cells5 k n s kv dv0).toArray 25)) := (Below.refl _ _).alloc (Nat.le_refl _) _
  have hdW := hdv.stay hb
  obtain ⟨da, dc, rfl⟩ := hdv.shape
  clear hdv hkv
  go_enter Tryd.func26, Tryd.ntmps26
  go_upto_region 3 with fail
  generalize w.alloc (.cells (cells5 k n s kv (.slice da kids.length dc)).toArray 25) = W at *
  go_loopw [3, 4] (fun a i wr => ∃ q : Nat, q ≤ kids.length ∧ i = .int .i64 (q : Int) ∧ a = .int .i64 ((1 + ((kids.take q).map (cntN d)).sum : Nat) : Int) ∧ Below W.heap.size W wr) (fun _ i _ => kids.length - (intOf i).toNat)
  case atStart => exact ⟨0, by omega, rfl, rfl, Below.refl _ _⟩
  case round =>
    obtain ⟨q, hq, rfl, rfl, hbr⟩ := hrel
    have b4 := Rw.cell (rA.stay hbr) 4
    change _ = some (Value.slice da kids.length dc) at b4
    have hbw := hb.trans (hbr.mono hb.size)
    by_cases g1 : q < kids.length
    · obtain ⟨kid, hkid⟩ : ∃ x, kids[q]? = some x := ⟨_, List.getElem?_eq_getElem g1⟩
      obtain ⟨g, o, ck, rfl, hk5, hkcell, hkJ⟩ := (hdW.stay hbr).kid hkid
      have i1 : (q : Int) < (kids.length : Int) := by omega
      have i0 : ¬ (q : Int) < 0 := by omega
      have hsn := sum_next (cntN d) kids q kid hkid
      have hst := sum_take (cntN d) kids (q + 1)
      have hzk := hk3 kid (List.mem_of_getElem? hkid)
      have hA : (1 + ((kids.take q).map (cntN d)).sum) + cntN d kid ≤ 1000000 := by omega
      have K := Lib.hid (HB _ ck kid wr hkJ hzk (by omega))
      have HS : Unit → 1 + ((kids.take (q + 1)).map (cntN d)).sum = (1 + ((kids.take q).map (cntN d)).sum) + cntN d kid := fun _ => by omega
      clear hkid hkJ hsn hst
      generalize 1 + ((kids.take q).map (cntN d)).sum = A at *
      generalize cntN d kid = B at *
      go_wp2_with (refine load_doc_at g (o + q * 5) ck hk5 hkcell _ rfl rfl rfl ?_)
      refine K.out.mono ?_
      rintro e w1 ⟨rfl, hb1⟩
      replace hbr := hbr.trans (hb1.mono hbr.size)
      clear K b4 hkcell
      go_wp2_with fail
      go_roundw
      case rel => exact ⟨q + 1, by omega, by go_num, by rw [HS ()]; go_num, hbr⟩
      case measure => simp [intOf]; omega
    · obtain rfl : q = kids.length := by omega
      rw [List.take_length]
      go_wp2_with fail
      go_ret
      exact ⟨rfl, hbw⟩
theorem count_any (D : Nat) : NCt D := by
  induction D with
  | zero => exact count_step 0 (fun d e => by omega)
  | succ D ih => exact count_step (D + 1) (fun d e => by
      obtain rfl : D = d := by omega
      exact ih)
/-- The contract of fits. -/
def RCt (D : Nat) : Prop := ∀ (P : Nat → Prop) (cs : List Value) (j : J) (deep : Int) (w : World), JAt P w D cs j → Env w → Siz D j → 0 ≤ deep → deep ≤ 100 →
  Calls Tryd.prog 27 #[.agg cs.toArray, .int .i64 deep] w fun e w' => e = .returned (.bool (rfitN D j deep)) ∧ Below w.heap.size w w'
theorem ky_at {keys : List Bs} {q : Nat} {y : Bs} (h : keys[q]? = some y) : kyN (keys.take q) (keys.drop q) = (textOk y && !(keys.take q).contains y && kyN (keys.take (q + 1)) (keys.drop (q + 1))) := by
  obtain ⟨hl, he⟩ := List.getElem?_eq_some_iff.1 h
  rw [List.drop_eq_getElem_cons hl, he, kyN, List.take_add_one, h]
  rfl
theorem all_at {f : J → Bool} {kids : List J} {q : Nat} {y : J} (h : kids[q]? = some y) : (kids.drop q).all f = (f y && (kids.drop (q + 1)).all f) := by
  obtain ⟨hl, he⟩ := List.getElem?_eq_some_iff.1 h
  rw [List.drop_eq_getElem_cons hl, he, List.all_cons]
set_option maxHeartbeats 6400000 in
set_option maxRecDepth 100000 in
theorem rfits_step (D : Nat) (HB : ∀ d, D = d + 1 → RCt d) : RCt D := by
  intro P cs j deep w hJ hE hZ hd0 hd1
  obtain ⟨k, n, s, keys, kids⟩ := j
  obtain ⟨d, kv, dv0, rfl, rfl, hkv, hdv⟩ := hJ.open
  obtain ⟨hs1, hk1, hkl, hk2, hk3⟩ := hZ
  have hbig := hE.big
  replace HB := HB d rfl
  have hr : rfitN (d + 1) (.mk k n s keys kids) deep = (rformB k n s keys.length kids.length deep && kyN [] keys && kids.all (fun kid => rfitN d kid (deep + 1))) := rfl
  have HR : Unit → _ := fun _ => hr
  clear hJ hr
  generalize rfitN (d + 1) (.mk k n s keys kids) deep = R at *
  have rA := Rw.new w 25 (cells5 k n s kv dv0)
  have hb : Below w.heap.size w (w.alloc (.cells (cells5 k n s kv dv0).toArray 25)) := (Below.refl _ _).alloc (Nat.le_refl _) _
  have hdW := hdv.stay hb
  have hkW := hkv.keepN (S := fun _ => False) (Asd.of_below hb) (fun _ _ _ h => h)
  obtain ⟨da, dc, rfl⟩ := hdv.shape
  obtain ⟨ka, kc, rfl⟩ := hkv.shape
  clear hdv hkv
  go_enter Tryd.func27, Tryd.ntmps27
  go_upto_region 1 with fail
  generalize w.alloc (.cells (cells5 k n s (.slice ka keys.length kc) (.slice da kids.length dc)).toArray 25) = W at *
  have hEW := hE.keep (hb.mono hbig)
  have c0 := Rw.cell rA 0
  have c1 := Rw.cell rA 1
  have c2 := Rw.cell rA 2
  have c3 := Rw.cell rA 3
  have c4 := Rw.cell rA 4
  change _ = some (Value.int .i64 k) at c0
  change _ = some (Value.int .i64 n) at c1
  change _ = some (Value.string ⟨s.toArray⟩) at c2
  change _ = some (Value.slice ka keys.length kc) at c3
  change _ = some (Value.slice da kids.length dc) at c4
  have hse : (⟨s.toArray⟩ : ByteArray).toList.isEmpty = decide (s = []) := by rw [text_list]; cases s <;> rfl
  have K := Lib.hid (rtext_any s W hEW hs1)
  have HX : Unit → s = [] → textOk s = true := fun _ e => by rw [e]; rfl
  generalize (⟨s.toArray⟩ : ByteArray) = X at *
  by_cases hbad : k < 0 ∨ k > 6 ∨ (k ≠ 3 ∧ n ≠ 0) ∨ (k ≠ 4 ∧ s ≠ []) ∨ (k ≠ 6 ∧ keys.length > 0) ∨ (k < 5 ∧ kids.length > 0)
  · have hRF : R = false := by
      rw [HR ()]
      have : rformB k n s keys.length kids.length deep = false := by
        unfold rformB
        rcases hbad with h | h | ⟨h, h2⟩ | ⟨h, h2⟩ | ⟨h, h2⟩ | ⟨h, h2⟩
        · simp [h]
        · simp [h]
        · simp [h, h2]
        · simp [h, h2]
        · simp [h, h2]
        · simp [h, h2]
      rw [this]; rfl
    subst hRF
    clear HR HX HB hk3 hkl hdW hkW rA
    generalize keys.length = a at *
    generalize kids.length = b at *
    by_cases h0 : s = []
    · rw [decide_eq_true h0] at hse
      have hbad2 : k < 0 ∨ k > 6 ∨ (k ≠ 3 ∧ n ≠ 0) ∨ (k ≠ 6 ∧ a > 0) ∨ (k < 5 ∧ b > 0) := by
        rcases hbad with h | h | h | h | h | h
        · exact .inl h
        · exact .inr (.inl h)
        · exact .inr (.inr (.inl h))
        · exact absurd h0 h.2
        · exact .inr (.inr (.inr (.inl h)))
        · exact .inr (.inr (.inr (.inr h)))
      clear hbad K
      go_wp2_with fail
      all_goals first
        | (exfalso; omega)
        | (go_ret
           exact ⟨rfl, hb⟩)
    · rw [decide_eq_false h0] at hse
      have hbad2 : k < 0 ∨ k > 6 ∨ (k ≠ 3 ∧ n ≠ 0) ∨ k ≠ 4 ∨ (k ≠ 6 ∧ a > 0) ∨ (k < 5 ∧ b > 0) := by
        rcases hbad with h | h | h | h | h | h
        · exact .inl h
        · exact .inr (.inl h)
        · exact .inr (.inr (.inl h))
        · exact .inr (.inr (.inr (.inl h.1)))
        · exact .inr (.inr (.inr (.inr (.inl h))))
        · exact .inr (.inr (.inr (.inr (.inr h))))
      clear hbad K
      go_wp2_with fail
      all_goals first
        | (exfalso; omega)
        | (go_ret
           exact ⟨rfl, hb⟩)
  · have hk06 : 0 ≤ k ∧ k ≤ 6 := by omega
    have hn0 : k = 3 ∨ n = 0 := by omega
    have hs0 : k = 4 ∨ s = [] := by
      by_cases h4 : k = 4
      · exact .inl h4
      · refine .inr (Classical.byContradiction fun h => hbad ?_)
        exact .inr (.inr (.inr (.inl ⟨h4, h⟩)))
    have hky : k = 6 ∨ keys.length = 0 := by omega
    have hki : ¬ k < 5 ∨ kids.length = 0 := by omega
    clear hbad
    by_cases hk5 : k < 5
    · have hkl0 : keys = [] := List.eq_nil_of_length_eq_zero (by omega)
      have hkd0 : kids = [] := List.eq_nil_of_length_eq_zero (by omega)
      subst hkl0 hkd0
      have hRT : R = textOk s := by
        rw [HR (), rform_leaf (by omega)]
        have : formB k n s 0 0 = true := by
          unfold formB
          rw [if_neg (by omega), if_neg (by omega)]
          simp only [Bool.and_eq_true, decide_eq_true_eq]
          refine ⟨⟨⟨hk06, hn0⟩, hs0⟩, ?_⟩
          simp
        simp [this, ky_nil]
      clear HR HB hk3 hkl hdW hkW hki hky
      rw [List.length_nil] at c3 c4
      -- <<leaves
      by_cases h4 : k = 4
      · subst h4
        obtain rfl : n = 0 := by omega
        cases ht : textOk s with
        | false =>
          have hRF := hRT.trans ht
          subst hRF
          rw [ht] at K
          clear HX hs0 hRT ht
          go_wp2_with fail
          refine K.out.mono ?_
          rintro e w1 ⟨rfl, hb1⟩
          clear K
          go_wp2_with fail
          go_ret
          exact ⟨rfl, hb.trans (hb1.mono hb.size)⟩
        | true =>
          have hRF := hRT.trans ht
          subst hRF
          rw [ht] at K
          clear HX hs0 hRT ht
          go_wp2_with fail
          refine K.out.mono ?_
          rintro e w1 ⟨rfl, hb1⟩
          replace rA := rA.stay hb1
          replace hb := hb.trans (hb1.mono hb.size)
          have c0 := Rw.cell rA 0
          have c3 := Rw.cell rA 3
          have c4 := Rw.cell rA 4
          change _ = some (Value.int .i64 4) at c0
          change _ = some (Value.slice ka 0 kc) at c3
          change _ = some (Value.slice da 0 dc) at c4
          clear hb1 K
          go_upto_region 6 with fail
          go_loopw [5] (fun i wr => i = .int .i64 0 ∧ wr = w1) (fun _ _ => 0)
          case atStart => exact ⟨rfl, rfl⟩
          case round =>
            obtain ⟨rfl, rfl⟩ := hrel
            go_upto_region 16 with fail
            go_loopw [7] (fun i wr2 => i = .int .i64 0 ∧ wr2 = wr) (fun _ _ => 0)
            case atStart => exact ⟨rfl, rfl⟩
            case round =>
              obtain ⟨rfl, rfl⟩ := hrel
              go_wp2_with fail
              go_ret
              exact ⟨rfl, hb⟩
      · have hs0' : s = [] := by
          rcases hs0 with h | h
          · exact absurd h h4
          · exact h
        have hRF := hRT.trans (HX () hs0')
        rw [HX () hs0'] at K
        subst hRF hs0'
        rw [decide_eq_true rfl] at hse
        clear HX hs0 hRT
        by_cases h3 : k = 3
        · subst h3
          clear h4
          go_wp2_with fail
          refine K.out.mono ?_
          rintro e w1 ⟨rfl, hb1⟩
          replace rA := rA.stay hb1
          replace hb := hb.trans (hb1.mono hb.size)
          have c0 := Rw.cell rA 0
          have c3 := Rw.cell rA 3
          have c4 := Rw.cell rA 4
          change _ = some (Value.int .i64 3) at c0
          change _ = some (Value.slice ka 0 kc) at c3
          change _ = some (Value.slice da 0 dc) at c4
          clear hb1 K
          go_upto_region 6 with fail
          go_loopw [5] (fun i wr => i = .int .i64 0 ∧ wr = w1) (fun _ _ => 0)
          case atStart => exact ⟨rfl, rfl⟩
          case round =>
            obtain ⟨rfl, rfl⟩ := hrel
            go_upto_region 16 with fail
            go_loopw [7] (fun i wr2 => i = .int .i64 0 ∧ wr2 = wr) (fun _ _ => 0)
            case atStart => exact ⟨rfl, rfl⟩
            case round =>
              obtain ⟨rfl, rfl⟩ := hrel
              go_wp2_with fail
              go_ret
              exact ⟨rfl, hb⟩
        · obtain rfl : n = 0 := by omega
          have hk5s : k = 0 ∨ k = 1 ∨ k = 2 := by omega
          clear h3 h4
          rcases hk5s with rfl | rfl | rfl
          · skip
            go_wp2_with fail
            refine K.out.mono ?_
            rintro e w1 ⟨rfl, hb1⟩
            replace rA := rA.stay hb1
            replace hb := hb.trans (hb1.mono hb.size)
            have c0 := Rw.cell rA 0
            have c3 := Rw.cell rA 3
            have c4 := Rw.cell rA 4
            change _ = some (Value.int .i64 0) at c0
            change _ = some (Value.slice ka 0 kc) at c3
            change _ = some (Value.slice da 0 dc) at c4
            clear hb1 K
            go_upto_region 6 with fail
            go_loopw [5] (fun i wr => i = .int .i64 0 ∧ wr = w1) (fun _ _ => 0)
            case atStart => exact ⟨rfl, rfl⟩
            case round =>
              obtain ⟨rfl, rfl⟩ := hrel
              go_upto_region 16 with fail
              go_loopw [7] (fun i wr2 => i = .int .i64 0 ∧ wr2 = wr) (fun _ _ => 0)
              case atStart => exact ⟨rfl, rfl⟩
              case round =>
                obtain ⟨rfl, rfl⟩ := hrel
                go_wp2_with fail
                go_ret
                exact ⟨rfl, hb⟩
          · skip
            go_wp2_with fail
            refine K.out.mono ?_
            rintro e w1 ⟨rfl, hb1⟩
            replace rA := rA.stay hb1
            replace hb := hb.trans (hb1.mono hb.size)
            have c0 := Rw.cell rA 0
            have c3 := Rw.cell rA 3
            have c4 := Rw.cell rA 4
            change _ = some (Value.int .i64 1) at c0
            change _ = some (Value.slice ka 0 kc) at c3
            change _ = some (Value.slice da 0 dc) at c4
            clear hb1 K
            go_upto_region 6 with fail
            go_loopw [5] (fun i wr => i = .int .i64 0 ∧ wr = w1) (fun _ _ => 0)
            case atStart => exact ⟨rfl, rfl⟩
            case round =>
              obtain ⟨rfl, rfl⟩ := hrel
              go_upto_region 16 with fail
              go_loopw [7] (fun i wr2 => i = .int .i64 0 ∧ wr2 = wr) (fun _ _ => 0)
              case atStart => exact ⟨rfl, rfl⟩
              case round =>
                obtain ⟨rfl, rfl⟩ := hrel
                go_wp2_with fail
                go_ret
                exact ⟨rfl, hb⟩
          · skip
            go_wp2_with fail
            refine K.out.mono ?_
            rintro e w1 ⟨rfl, hb1⟩
            replace rA := rA.stay hb1
            replace hb := hb.trans (hb1.mono hb.size)
            have c0 := Rw.cell rA 0
            have c3 := Rw.cell rA 3
            have c4 := Rw.cell rA 4
            change _ = some (Value.int .i64 2) at c0
            change _ = some (Value.slice ka 0 kc) at c3
            change _ = some (Value.slice da 0 dc) at c4
            clear hb1 K
            go_upto_region 6 with fail
            go_loopw [5] (fun i wr => i = .int .i64 0 ∧ wr = w1) (fun _ _ => 0)
            case atStart => exact ⟨rfl, rfl⟩
            case round =>
              obtain ⟨rfl, rfl⟩ := hrel
              go_upto_region 16 with fail
              go_loopw [7] (fun i wr2 => i = .int .i64 0 ∧ wr2 = wr) (fun _ _ => 0)
              case atStart => exact ⟨rfl, rfl⟩
              case round =>
                obtain ⟨rfl, rfl⟩ := hrel
                go_wp2_with fail
                go_ret
                exact ⟨rfl, hb⟩
      -- >>leaves
    -- <<lists
    · skip
      have hs0' : s = [] := by
        rcases hs0 with h | h
        · omega
        · exact h
      obtain rfl : n = 0 := by omega
      subst hs0'
      rw [decide_eq_true rfl] at hse
      rw [HX () rfl] at K
      have hk56 : k = 5 ∨ k = 6 := by omega
      clear HX hs0 hn0 hki hk06 hk5
      rcases hk56 with rfl | rfl
      · have hA : keys.length = 0 := by omega
        rw [hA] at rA hkW c3
        by_cases hdp : deep ≥ 6
        · have hRF : R = false := by
            rw [HR (), rform_list (.inl rfl), decide_eq_false (by omega)]; simp
          subst hRF
          clear HR HB hk3 hkl hky
          go_wp2_with fail
          refine K.out.mono ?_
          rintro e w1 ⟨rfl, hb1⟩
          replace rA := rA.stay hb1
          replace hb := hb.trans (hb1.mono hb.size)
          replace hkW := hkW.keepN (S := fun _ => False) (Asd.of_below hb1) (fun _ _ _ h => h)
          replace hdW := hdW.stay hb1
          have c0 := Rw.cell rA 0
          have c3 := Rw.cell rA 3
          have c4 := Rw.cell rA 4
          change _ = some (Value.int .i64 5) at c0
          change _ = some (Value.slice ka 0 kc) at c3
          change _ = some (Value.slice da kids.length dc) at c4
          clear hb1 K

          go_wp2_with fail
          all_goals first
            | (exfalso; omega)
            | (go_ret
               exact ⟨rfl, hb⟩)
        · have hF : formB 5 0 [] keys.length kids.length = true := by
            unfold formB
            simp [hA]
          replace HR : Unit → R = (kyN [] keys && kids.all (fun kid => rfitN d kid (deep + 1))) := fun _ => by
            rw [HR (), rform_list (.inl rfl), decide_eq_true (by omega), hF]; simp
          clear hF hky
          go_wp2_with fail
          refine K.out.mono ?_
          rintro e w1 ⟨rfl, hb1⟩
          replace rA := rA.stay hb1
          replace hb := hb.trans (hb1.mono hb.size)
          replace hkW := hkW.keepN (S := fun _ => False) (Asd.of_below hb1) (fun _ _ _ h => h)
          replace hdW := hdW.stay hb1
          have c0 := Rw.cell rA 0
          have c3 := Rw.cell rA 3
          have c4 := Rw.cell rA 4
          change _ = some (Value.int .i64 5) at c0
          change _ = some (Value.slice ka 0 kc) at c3
          change _ = some (Value.slice da kids.length dc) at c4
          clear hb1 K

          go_upto_region 6 with fail
          go_loopw [5] (fun i wr => ∃ q : Nat, q ≤ keys.length ∧ i = .int .i64 (q : Int) ∧ kyN [] keys = kyN (keys.take q) (keys.drop q) ∧ Below w1.heap.size w1 wr) (fun i _ => keys.length - (intOf i).toNat)
          case atStart => exact ⟨0, by omega, rfl, rfl, Below.refl _ _⟩
          case round =>
            obtain ⟨q, hq, rfl, hky', hbr⟩ := hrel
            have c3 := Rw.cell (rA.stay hbr) 3
            change _ = some (Value.slice ka 0 kc) at c3
            have hbw := hb.trans (hbr.mono hb.size)
            by_cases g1 : q < keys.length
            · exfalso; omega
            · obtain rfl : q = keys.length := by omega
              have hkt : kyN [] keys = true := by rw [hky', List.drop_eq_nil_of_le (Nat.le_refl _)]; rfl
              have HRA : Unit → R = kids.all (fun kid => rfitN d kid (deep + 1)) := fun _ => by rw [HR (), hkt]; rfl
              rw [hA] at hq ⊢
              clear HR hkt hky' hkl hkW
              replace rA := rA.stay hbr
              replace hdW := hdW.stay hbr
              have i1 : ¬ ((0 : Nat) : Int) < ((0 : Nat) : Int) := by omega
              clear hb hbr
              go_upto_region 16 with fail
              go_loopw [7] (fun i wr2 => ∃ q : Nat, q ≤ kids.length ∧ i = .int .i64 (q : Int) ∧ kids.all (fun kid => rfitN d kid (deep + 1)) = (kids.drop q).all (fun kid => rfitN d kid (deep + 1)) ∧ Below wr.heap.size wr wr2) (fun i _ => kids.length - (intOf i).toNat)
              case atStart => exact ⟨0, by omega, rfl, rfl, Below.refl _ _⟩
              case round =>
                obtain ⟨q, hq, rfl, hall, hbr⟩ := hrel
                have c4 := Rw.cell (rA.stay hbr) 4
                change _ = some (Value.slice da kids.length dc) at c4
                replace hbw := hbw.trans (hbr.mono hbw.size)
                by_cases g1 : q < kids.length
                · obtain ⟨kid, hkid⟩ : ∃ x, kids[q]? = some x := ⟨_, List.getElem?_eq_getElem g1⟩
                  obtain ⟨g, o, ck, rfl, hk5, hkcell, hkJ⟩ := (hdW.stay hbr).kid hkid
                  have i1 : (q : Int) < (kids.length : Int) := by omega
                  have i0 : ¬ (q : Int) < 0 := by omega
                  have hat := all_at (f := fun kid => rfitN d kid (deep + 1)) hkid
                  have hzk := hk3 kid (List.mem_of_getElem? hkid)
                  have K := Lib.hid (HB _ ck kid (deep + 1) wr hkJ (hE.keep (hbw.mono hbig)) hzk (by omega) (by omega))
                  cases hkr : rfitN d kid (deep + 1) with
                  | false =>
                    have hRF : R = false := by rw [HRA (), hall, hat]; simp only [hkr]; rfl
                    subst hRF
                    rw [hkr] at K
                    clear HRA hall hat hkid hkr
                    go_wp2_with (refine load_doc_at g (o + q * 5) ck hk5 hkcell _ rfl rfl rfl ?_)
                    refine K.out.mono ?_
                    rintro e w2 ⟨rfl, hb2⟩
                    have hbx := hbw.trans (hb2.mono hbw.size)
                    clear K hb2
                    go_wp2_with fail
                    go_ret
                    exact ⟨rfl, hbx⟩
                  | true =>
                    have HAL : Unit → kids.all (fun kid => rfitN d kid (deep + 1)) = (kids.drop (q + 1)).all (fun kid => rfitN d kid (deep + 1)) := fun _ => by rw [hall, hat]; simp only [hkr]; rfl
                    rw [hkr] at K
                    clear HRA hall hat hkid hkr
                    go_wp2_with (refine load_doc_at g (o + q * 5) ck hk5 hkcell _ rfl rfl rfl ?_)
                    refine K.out.mono ?_
                    rintro e w2 ⟨rfl, hb2⟩
                    have hbx := hbr.trans (hb2.mono hbr.size)
                    clear K hb2
                    go_wp2_with fail
                    go_roundw
                    case rel => exact ⟨q + 1, by omega, by go_num, HAL (), hbx⟩
                    case measure => simp [intOf]; omega
                · obtain rfl : q = kids.length := by omega
                  have hRT : R = true := by rw [HRA (), hall, List.drop_eq_nil_of_le (Nat.le_refl _)]; rfl
                  subst hRT
                  clear HRA hall
                  go_wp2_with fail
                  go_ret
                  exact ⟨rfl, hbw⟩
      · by_cases hlen : keys.length = kids.length
        · have hA := hlen
          rw [hA] at rA hkW c3
          by_cases hdp : deep ≥ 6
          · have hRF : R = false := by
              rw [HR (), rform_list (.inr rfl), decide_eq_false (by omega)]; simp
            subst hRF
            clear HR HB hk3 hkl hky
            go_wp2_with fail
            refine K.out.mono ?_
            rintro e w1 ⟨rfl, hb1⟩
            replace rA := rA.stay hb1
            replace hb := hb.trans (hb1.mono hb.size)
            replace hkW := hkW.keepN (S := fun _ => False) (Asd.of_below hb1) (fun _ _ _ h => h)
            replace hdW := hdW.stay hb1
            have c0 := Rw.cell rA 0
            have c3 := Rw.cell rA 3
            have c4 := Rw.cell rA 4
            change _ = some (Value.int .i64 6) at c0
            change _ = some (Value.slice ka kids.length kc) at c3
            change _ = some (Value.slice da kids.length dc) at c4
            clear hb1 K

            go_wp2_with fail
            all_goals first
              | (exfalso; omega)
              | (go_ret
                 exact ⟨rfl, hb⟩)
          · have hF : formB 6 0 [] keys.length kids.length = true := by
              unfold formB
              simp [hA]
            replace HR : Unit → R = (kyN [] keys && kids.all (fun kid => rfitN d kid (deep + 1))) := fun _ => by
              rw [HR (), rform_list (.inr rfl), decide_eq_true (by omega), hF]; simp
            clear hF hky
            go_wp2_with fail
            refine K.out.mono ?_
            rintro e w1 ⟨rfl, hb1⟩
            replace rA := rA.stay hb1
            replace hb := hb.trans (hb1.mono hb.size)
            replace hkW := hkW.keepN (S := fun _ => False) (Asd.of_below hb1) (fun _ _ _ h => h)
            replace hdW := hdW.stay hb1
            have c0 := Rw.cell rA 0
            have c3 := Rw.cell rA 3
            have c4 := Rw.cell rA 4
            change _ = some (Value.int .i64 6) at c0
            change _ = some (Value.slice ka kids.length kc) at c3
            change _ = some (Value.slice da kids.length dc) at c4
            clear hb1 K

            go_upto_region 6 with fail
            go_loopw [5] (fun i wr => ∃ q : Nat, q ≤ keys.length ∧ i = .int .i64 (q : Int) ∧ kyN [] keys = kyN (keys.take q) (keys.drop q) ∧ Below w1.heap.size w1 wr) (fun i _ => keys.length - (intOf i).toNat)
            case atStart => exact ⟨0, by omega, rfl, rfl, Below.refl _ _⟩
            case round =>
              obtain ⟨q, hq, rfl, hky', hbr⟩ := hrel
              have c3 := Rw.cell (rA.stay hbr) 3
              change _ = some (Value.slice ka kids.length kc) at c3
              have hbw := hb.trans (hbr.mono hb.size)
              by_cases g1 : q < keys.length
              · skip
                obtain ⟨y, hy⟩ : ∃ s, keys[q]? = some s := ⟨_, List.getElem?_eq_getElem g1⟩
                obtain ⟨gk, ok, rfl, hgk, hck⟩ := (hkW.keepN (S := fun _ => False) (Asd.of_below hbr) (fun _ _ _ h => h)).text hy
                have hst := ky_at hy
                have hyl := hkl y (List.mem_of_getElem? hy)
                have KT : Hid (∀ w', Below wr.heap.size wr w' → Calls Tryd.prog 44 #[.string ⟨y.toArray⟩] w' fun e w'' => e = .returned (.bool (textOk y)) ∧ Below w'.heap.size w' w'') := fun w' h => rtext_any y w' (hE.keep ((hbw.trans (h.mono hbw.size)).mono hbig)) hyl
                have HST : Unit → _ := fun _ => hst
                clear hst
                have i1 : (q : Int) < (kids.length : Int) := by omega
                have i0 : ¬ (q : Int) < 0 := by omega
                have hXl := Rw.lt (rA.stay hbr)
                have hcells : ∀ (t : Nat) (z : Bs), keys[t]? = some z → wr.cell? ⟨gk, ok + t, none⟩ = some (.string ⟨z.toArray⟩) := fun t z hz => by
                  obtain ⟨g2, o2, e2, _, hz2⟩ := (hkW.keepN (S := fun _ => False) (Asd.of_below hbr) (fun _ _ _ h => h)).text hz
                  injection e2 with e2
                  injection e2 with e2 e3 e4
                  subst e2 e3
                  exact hz2
                obtain ⟨wa, hwa⟩ : ∃ wa, wa = wr := ⟨_, rfl⟩
                go_upto_region 9 with fail
                rw [← hwa] at KT hcells hck hgk hXl c3 hbr hbw
                have hba : Below wa.heap.size wa wr := by rw [hwa]; exact Below.refl _ _
                clear hwa
                go_loopw [6] (fun i wr2 => ∃ t : Nat, t ≤ q ∧ i = .int .i64 (t : Int) ∧ (∀ x ∈ keys.take t, x ≠ y) ∧ Below wa.heap.size wa wr2) (fun i _ => q - (intOf i).toNat)
                case atStart => exact ⟨0, by omega, rfl, by simp, hba⟩
                case round =>
                  clear hba
                  obtain ⟨t, ht, rfl, hne, hbt⟩ := hrel
                  by_cases g2 : t < q
                  · obtain ⟨z, hz⟩ : ∃ s, keys[t]? = some s := ⟨_, List.getElem?_eq_getElem (by omega)⟩
                    have hcz := hcells t z hz
                    have j1 : (t : Int) < (kids.length : Int) := by omega
                    have j2 : (t : Int) < (q : Int) := by omega
                    have j0 : ¬ (t : Int) < 0 := by omega
                    have hcmp := same_text z y
                    obtain ⟨B, hB⟩ : ∃ B, B = (z == y) := ⟨_, rfl⟩
                    rw [← hB] at hcmp
                    have HBe : Unit → B = (z == y) := fun _ => hB
                    have HB1 : Unit → B = true → R = false := fun _ e => by
                      rw [e] at hB
                      have hzy : z = y := by simpa using hB.symm
                      rw [HR (), hky', HST ()]
                      have : (keys.take q).contains y = true := by
                        rw [List.contains_iff_mem, ← hzy]
                        exact List.mem_of_getElem? (i := t) (by rw [List.getElem?_take_of_lt g2]; exact hz)
                      rw [this]
                      simp
                    have HB2 : Unit → B = false → ∀ x ∈ keys.take (t + 1), x ≠ y := fun _ e => by
                      rw [e] at hB
                      have hzy : ¬ z = y := by simpa using hB.symm
                      rw [List.take_add_one, hz]
                      intro x hx
                      rcases List.mem_append.1 hx with hx | hx
                      · exact hne x hx
                      · simp at hx; subst hx; exact hzy
                    clear HR HST HB hcells hne hky' hz hy hB
                    go_upto_region 11 with fail
                    refine wp_region_held (S := fun w' => Below wa.heap.size wa w') (by kernel_rfl) ?_
                    have hS : Below wa.heap.size wa { wr with drawn := wr.drawn + 1 } := hbt.drew
                    generalize { wr with drawn := wr.drawn + 1 } = D1 at *
                    refine held_val 0 rfl (by kernel_rfl) (by kernel_rfl) (by kernel_rfl) (fun _ _ _ _ h => h) (by rfl) hS ?_
                    apply Exists.intro
                    refine ⟨fun w' hw' => ?_, ?_⟩
                    · skip
                      go_simp
                      first | done | rfl | exact ⟨rfl, rfl⟩
                    simp only [Act.put, List.setIfInBounds_toArray, List.set_cons_zero, List.set_cons_succ]
                    refine held_val 1 rfl (by kernel_rfl) (by kernel_rfl) (by kernel_rfl) (fun _ _ _ _ h => h) (by rfl) hS ?_
                    apply Exists.intro
                    refine ⟨fun w' hw' => ?_, ?_⟩
                    · have e1 : w'.cell? ⟨w.heap.size, 3, none⟩ = some (.slice (some ⟨gk, ok, none⟩) kids.length kc) := by rw [hw'.cell hXl]; exact c3
                      go_simp
                      first | done | rfl | exact ⟨rfl, rfl⟩
                    simp only [Act.put, List.setIfInBounds_toArray, List.set_cons_zero, List.set_cons_succ]
                    refine held_val 2 rfl (by kernel_rfl) (by kernel_rfl) (by kernel_rfl) (fun _ _ _ _ h => h) (by rfl) hS ?_
                    apply Exists.intro
                    refine ⟨fun w' hw' => ?_, ?_⟩
                    · skip
                      go_simp
                      first | done | rfl | exact ⟨rfl, rfl⟩
                    simp only [Act.put, List.setIfInBounds_toArray, List.set_cons_zero, List.set_cons_succ]
                    refine held_val 3 rfl (by kernel_rfl) (by kernel_rfl) (by kernel_rfl) (fun _ _ _ _ h => h) (by rfl) hS ?_
                    apply Exists.intro
                    refine ⟨fun w' hw' => ?_, ?_⟩
                    · skip
                      go_simp
                      first | done | rfl | exact ⟨rfl, rfl⟩
                    simp only [Act.put, List.setIfInBounds_toArray, List.set_cons_zero, List.set_cons_succ]
                    refine held_val 4 rfl (by kernel_rfl) (by kernel_rfl) (by kernel_rfl) (fun _ _ _ _ h => h) (by rfl) hS ?_
                    apply Exists.intro
                    refine ⟨fun w' hw' => ?_, ?_⟩
                    · have e1 : w'.cell? ⟨gk, ok + t, none⟩ = some (.string ⟨z.toArray⟩) := by rw [hw'.cell hgk]; exact hcz
                      go_simp
                      first | done | rfl | exact ⟨rfl, rfl⟩
                    simp only [Act.put, List.setIfInBounds_toArray, List.set_cons_zero, List.set_cons_succ]
                    refine held_val 5 rfl (by kernel_rfl) (by kernel_rfl) (by kernel_rfl) (fun _ _ _ _ h => h) (by rfl) hS ?_
                    apply Exists.intro
                    refine ⟨fun w' hw' => ?_, ?_⟩
                    · skip
                      go_simp
                      first | done | rfl | exact ⟨rfl, rfl⟩
                    simp only [Act.put, List.setIfInBounds_toArray, List.set_cons_zero, List.set_cons_succ]
                    refine held_val 6 rfl (by kernel_rfl) (by kernel_rfl) (by kernel_rfl) (fun _ _ _ _ h => h) (by rfl) hS ?_
                    apply Exists.intro
                    refine ⟨fun w' hw' => ?_, ?_⟩
                    · have e1 : w'.cell? ⟨w.heap.size, 3, none⟩ = some (.slice (some ⟨gk, ok, none⟩) kids.length kc) := by rw [hw'.cell hXl]; exact c3
                      go_simp
                      first | done | rfl | exact ⟨rfl, rfl⟩
                    simp only [Act.put, List.setIfInBounds_toArray, List.set_cons_zero, List.set_cons_succ]
                    refine held_val 7 rfl (by kernel_rfl) (by kernel_rfl) (by kernel_rfl) (fun _ _ _ _ h => h) (by rfl) hS ?_
                    apply Exists.intro
                    refine ⟨fun w' hw' => ?_, ?_⟩
                    · skip
                      go_simp
                      first | done | rfl | exact ⟨rfl, rfl⟩
                    simp only [Act.put, List.setIfInBounds_toArray, List.set_cons_zero, List.set_cons_succ]
                    refine held_val 8 rfl (by kernel_rfl) (by kernel_rfl) (by kernel_rfl) (fun _ _ _ _ h => h) (by rfl) hS ?_
                    apply Exists.intro
                    refine ⟨fun w' hw' => ?_, ?_⟩
                    · skip
                      go_simp
                      first | done | rfl | exact ⟨rfl, rfl⟩
                    simp only [Act.put, List.setIfInBounds_toArray, List.set_cons_zero, List.set_cons_succ]
                    refine held_val 9 rfl (by kernel_rfl) (by kernel_rfl) (by kernel_rfl) (fun _ _ _ _ h => h) (by rfl) hS ?_
                    apply Exists.intro
                    refine ⟨fun w' hw' => ?_, ?_⟩
                    · have e1 : w'.cell? ⟨gk, ok + q, none⟩ = some (.string ⟨y.toArray⟩) := by rw [hw'.cell hgk]; exact hck
                      go_simp
                      first | done | rfl | exact ⟨rfl, rfl⟩
                    simp only [Act.put, List.setIfInBounds_toArray, List.set_cons_zero, List.set_cons_succ]
                    refine held_val 10 rfl (by kernel_rfl) (by kernel_rfl) (by kernel_rfl) (fun _ _ _ _ h => h) (by rfl) hS ⟨.bool B, fun w' hw' => ?_, ?_⟩
                    · go_simp
                      exact (HBe ()).symm
                    simp only [Act.put, List.setIfInBounds_toArray, List.set_cons_zero, List.set_cons_succ]
                    refine wpAnyH_done (by kernel_rfl) ?_ _
                    clear hbt
                    have hbx := hbw.trans (hS.mono hbw.size)
                    cases hB : B with
                    | true =>
                      have hRF := HB1 () hB
                      subst hRF
                      clear HB1 HB2
                      go_wp2_with fail
                      go_ret
                      exact ⟨rfl, hbx⟩
                    | false =>
                      have HNE : Unit → _ := fun _ => HB2 () hB
                      clear HB1 HB2
                      go_wp2_with fail
                      go_roundw
                      case rel => exact ⟨t + 1, by omega, by go_num, HNE (), hS⟩
                      case measure => simp [intOf]; omega
                  · obtain rfl : t = q := by omega
                    have hnc : (keys.take t).contains y = false := by
                      rw [← Bool.not_eq_true, List.contains_iff_mem]
                      exact fun h => hne y h rfl
                    have j2 : ¬ (t : Int) < (t : Int) := by omega
                    have KU := Lib.hid (KT.out wr hbt)
                    replace c3 : wr.cell? ⟨w.heap.size, 3, none⟩ = some (.slice (some ⟨gk, ok, none⟩) kids.length kc) := by rw [hbt.cell hXl]; exact c3
                    replace hck : wr.cell? ⟨gk, ok + t, none⟩ = some (.string ⟨y.toArray⟩) := by rw [hbt.cell hgk]; exact hck
                    replace hbw := hbw.trans (hbt.mono hbw.size)
                    replace hbr := hbr.trans (hbt.mono hbr.size)
                    clear KT
                    cases hty : textOk y with
                    | false =>
                      have hRF : R = false := by
                        rw [HR (), hky', HST (), hty]
                        simp
                      subst hRF
                      rw [hty] at KU
                      clear HR HST HB hcells hne hky' hy
                      go_wp2_with fail
                      refine KU.out.mono ?_
                      rintro e w2 ⟨rfl, hb2⟩
                      have hbx := hbw.trans (hb2.mono hbw.size)
                      clear KU hb2
                      go_wp2_with fail
                      go_ret
                      exact ⟨rfl, hbx⟩
                    | true =>
                      have HKY : Unit → kyN [] keys = kyN (keys.take (t + 1)) (keys.drop (t + 1)) := fun _ => by rw [hky', HST (), hty, hnc]; simp
                      rw [hty] at KU
                      clear HR HST HB hcells hne hky' hy
                      go_wp2_with fail
                      refine KU.out.mono ?_
                      rintro e w2 ⟨rfl, hb2⟩
                      have hbx := hbr.trans (hb2.mono hbr.size)
                      clear KU hb2
                      go_wp2_with fail
                      go_roundw
                      case rel => exact ⟨t + 1, by omega, by go_num, HKY (), hbx⟩
                      case measure => simp [intOf]; omega
              · obtain rfl : q = keys.length := by omega
                have hkt : kyN [] keys = true := by rw [hky', List.drop_eq_nil_of_le (Nat.le_refl _)]; rfl
                have HRA : Unit → R = kids.all (fun kid => rfitN d kid (deep + 1)) := fun _ => by rw [HR (), hkt]; rfl
                rw [hA] at hq ⊢
                clear HR hkt hky' hkl hkW
                replace rA := rA.stay hbr
                replace hdW := hdW.stay hbr
                have i1 : ¬ ((kids.length : Nat) : Int) < ((kids.length : Nat) : Int) := by omega
                clear hb hbr
                go_upto_region 16 with fail
                go_loopw [7] (fun i wr2 => ∃ q : Nat, q ≤ kids.length ∧ i = .int .i64 (q : Int) ∧ kids.all (fun kid => rfitN d kid (deep + 1)) = (kids.drop q).all (fun kid => rfitN d kid (deep + 1)) ∧ Below wr.heap.size wr wr2) (fun i _ => kids.length - (intOf i).toNat)
                case atStart => exact ⟨0, by omega, rfl, rfl, Below.refl _ _⟩
                case round =>
                  obtain ⟨q, hq, rfl, hall, hbr⟩ := hrel
                  have c4 := Rw.cell (rA.stay hbr) 4
                  change _ = some (Value.slice da kids.length dc) at c4
                  replace hbw := hbw.trans (hbr.mono hbw.size)
                  by_cases g1 : q < kids.length
                  · obtain ⟨kid, hkid⟩ : ∃ x, kids[q]? = some x := ⟨_, List.getElem?_eq_getElem g1⟩
                    obtain ⟨g, o, ck, rfl, hk5, hkcell, hkJ⟩ := (hdW.stay hbr).kid hkid
                    have i1 : (q : Int) < (kids.length : Int) := by omega
                    have i0 : ¬ (q : Int) < 0 := by omega
                    have hat := all_at (f := fun kid => rfitN d kid (deep + 1)) hkid
                    have hzk := hk3 kid (List.mem_of_getElem? hkid)
                    have K := Lib.hid (HB _ ck kid (deep + 1) wr hkJ (hE.keep (hbw.mono hbig)) hzk (by omega) (by omega))
                    cases hkr : rfitN d kid (deep + 1) with
                    | false =>
                      have hRF : R = false := by rw [HRA (), hall, hat]; simp only [hkr]; rfl
                      subst hRF
                      rw [hkr] at K
                      clear HRA hall hat hkid hkr
                      go_wp2_with (refine load_doc_at g (o + q * 5) ck hk5 hkcell _ rfl rfl rfl ?_)
                      refine K.out.mono ?_
                      rintro e w2 ⟨rfl, hb2⟩
                      have hbx := hbw.trans (hb2.mono hbw.size)
                      clear K hb2
                      go_wp2_with fail
                      go_ret
                      exact ⟨rfl, hbx⟩
                    | true =>
                      have HAL : Unit → kids.all (fun kid => rfitN d kid (deep + 1)) = (kids.drop (q + 1)).all (fun kid => rfitN d kid (deep + 1)) := fun _ => by rw [hall, hat]; simp only [hkr]; rfl
                      rw [hkr] at K
                      clear HRA hall hat hkid hkr
                      go_wp2_with (refine load_doc_at g (o + q * 5) ck hk5 hkcell _ rfl rfl rfl ?_)
                      refine K.out.mono ?_
                      rintro e w2 ⟨rfl, hb2⟩
                      have hbx := hbr.trans (hb2.mono hbr.size)
                      clear K hb2
                      go_wp2_with fail
                      go_roundw
                      case rel => exact ⟨q + 1, by omega, by go_num, HAL (), hbx⟩
                      case measure => simp [intOf]; omega
                  · obtain rfl : q = kids.length := by omega
                    have hRT : R = true := by rw [HRA (), hall, List.drop_eq_nil_of_le (Nat.le_refl _)]; rfl
                    subst hRT
                    clear HRA hall
                    go_wp2_with fail
                    go_ret
                    exact ⟨rfl, hbw⟩
        · have hRF : R = false := by
            have hF : formB 6 0 [] keys.length kids.length = false := by
              unfold formB
              simp [hlen]
            rw [HR (), rform_list (.inr rfl), hF]; simp
          subst hRF
          clear HR HB hk3 hkl hky hkW hdW hk1 hk2
          have hlen2 : ¬ (keys.length : Int) = (kids.length : Int) := by omega
          generalize keys.length = a at *
          generalize kids.length = b at *
          have hlen3 : ((a : Int) != (b : Int)) = true := by rw [bne_iff_ne]; omega
          by_cases hdp : deep ≥ 6
          · skip
            go_wp2_with fail
            refine K.out.mono ?_
            rintro e w1 ⟨rfl, hb1⟩
            replace rA := rA.stay hb1
            replace hb := hb.trans (hb1.mono hb.size)
            have c0 := Rw.cell rA 0
            have c3 := Rw.cell rA 3
            have c4 := Rw.cell rA 4
            change _ = some (Value.int .i64 6) at c0
            change _ = some (Value.slice ka a kc) at c3
            change _ = some (Value.slice da b dc) at c4
            clear hb1 K

            go_wp2_with fail
            all_goals first
              | (exfalso; omega)
              | (go_ret
                 exact ⟨rfl, hb⟩)
          · skip
            go_wp2_with fail
            refine K.out.mono ?_
            rintro e w1 ⟨rfl, hb1⟩
            replace rA := rA.stay hb1
            replace hb := hb.trans (hb1.mono hb.size)
            have c0 := Rw.cell rA 0
            have c3 := Rw.cell rA 3
            have c4 := Rw.cell rA 4
            change _ = some (Value.int .i64 6) at c0
            change _ = some (Value.slice ka a kc) at c3
            change _ = some (Value.slice da b dc) at c4
            clear hb1 K

            go_wp2_with fail
            all_goals first
              | (exfalso; omega)
              | (go_ret
                 exact ⟨rfl, hb⟩)
    -- >>lists
theorem rfits_any (D : Nat) : RCt D := by
  induction D with
  | zero => exact rfits_step 0 (fun d e => by omega)
  | succ D ih => exact rfits_step (D + 1) (fun d e => by
      obtain rfl : D = d := by omega
      exact ih)
end Go.Proofs.YtbkkcojfgdjbhaaDoor

namespace Go.Proofs.YtbkkcojfgdjbhaaDoor
open Go.ChangeShapes Go.WideShapes Go.RowKit

theorem slice_string_lh {P : Program} (w : World) (t : TypeId) (s : ByteArray) (ht : P.underlying t = some .string) (kl kh : IntKind) (l h : Int) (h0 : 0 ≤ l) (h1 : l ≤ h) (h2 : h ≤ s.size) :
    (Instr.slice t (.string s) (some (.int kl l)) (some (.int kh h)) none).run P w = .ok (.string (s.extract l.toNat h.toNat)) w := by
  have eh : (h.toNat : Int) = h := Int.toNat_of_nonneg (by omega)
  simp [Instr.slice, run_underlying ht, Instr.sliceBounds, run_sliceBound, *, (by omega : 0 ≤ h)]
theorem digit_at : ∀ d : Fin 10, (⟨#[48, 49, 50, 51, 52, 53, 54, 55, 56, 57]⟩ : ByteArray).extract d.val (d.val + 1) = ⟨#[UInt8.ofNat (48 + d.val)]⟩ := by decide +kernel
theorem digit_slice (q : Nat) (hq : q < 10) (i : Int) (hi : i = (q : Int)) (w : World) : (Instr.slice 9 (.string ⟨#[48, 49, 50, 51, 52, 53, 54, 55, 56, 57]⟩) (some (.int .i64 i)) (some (.int .i64 (i + 1))) none).run Tryd.prog w = .ok (.string ⟨#[UInt8.ofNat (48 + q)]⟩) w := by
  subst hi
  rw [slice_string_lh w _ _ Tryd.underlying9 _ _ _ _ (by omega) (by omega) (by show (q : Int) + 1 ≤ 10; omega), ← digit_at ⟨q, hq⟩]
  rfl
theorem hex_at : ∀ d : Fin 16, (⟨#[48, 49, 50, 51, 52, 53, 54, 55, 56, 57, 97, 98, 99, 100, 101, 102]⟩ : ByteArray).extract d.val (d.val + 1) = ⟨#[hexD d.val]⟩ := by decide +kernel
theorem hex_slice (q : Nat) (hq : q < 16) (i : Int) (hi : i = (q : Int)) (w : World) : (Instr.slice 9 (.string ⟨#[48, 49, 50, 51, 52, 53, 54, 55, 56, 57, 97, 98, 99, 100, 101, 102]⟩) (some (.int .u8 i)) (some (.int .u8 (i + 1))) none).run Tryd.prog w = .ok (.string ⟨#[hexD q]⟩) w := by
  subst hi
  rw [slice_string_lh w _ _ Tryd.underlying9 _ _ _ _ (by omega) (by omega) (by show (q : Int) + 1 ≤ 16; omega), ← hex_at ⟨q, hq⟩]
  rfl
theorem ret_str {a b : ByteArray} (h : a = b) : Ending.returned (.string a) = .returned (.string b) := by rw [h]
theorem dec_len (n : Nat) (h : n ≤ 9223372036854775807) : (Lib.decDigits n).length ≤ 21 := by
  have := Lib.itoa_length_le (n : Int) (by omega) (by omega)
  rwa [Lib.itoa_nonneg] at this
/-- m is what is left of n, t the digits behind it. -/
def DigL (n m : Nat) (t : Bs) : Prop := Lib.decDigits n = if m = 0 then t else Lib.decDigits m ++ t
theorem DigL.start (n : Nat) : DigL n (n / 10) [UInt8.ofNat (48 + n % 10)] := by
  unfold DigL
  rw [Lib.decDigits]
  by_cases h : n < 10
  · rw [dif_pos h, if_pos (by omega), show n % 10 = n by omega]
  · rw [dif_neg h, if_neg (by omega)]
theorem DigL.next {n m : Nat} {t : Bs} (h : DigL n m t) (hm : 0 < m) : DigL n (m / 10) (UInt8.ofNat (48 + m % 10) :: t) := by
  unfold DigL at *
  rw [h, if_neg (by omega), Lib.decDigits]
  by_cases h1 : m < 10
  · rw [dif_pos h1, if_pos (by omega), show m % 10 = m by omega]; rfl
  · rw [dif_neg h1, if_neg (by omega)]; simp
theorem DigL.len {n m : Nat} {t : Bs} (h : DigL n m t) (hn : n ≤ 9223372036854775807) : t.length ≤ 21 := by
  have := dec_len n hn
  rw [h] at this
  split at this
  · exact this
  · rw [List.length_append] at this; omega
set_option maxHeartbeats 800000 in
set_option maxRecDepth 100000 in
theorem digits_any (n : Nat) (hn : n ≤ 9223372036854775807) (w : World) :
    Calls Tryd.prog 59 #[.int .i64 (n : Int)] w fun e w' => e = .returned (.string ⟨(Lib.decDigits n).toArray⟩) ∧ w' = w := by
  obtain ⟨L, hL⟩ : ∃ L, Lib.decDigits n = L := ⟨_, rfl⟩
  have Hs : Unit → _ := fun _ => DigL.start n
  have e1 : (n : Int) % 10 = ((n % 10 : Nat) : Int) := by omega
  have e2 : (n : Int) / 10 = ((n / 10 : Nat) : Int) := by omega
  have e3 : Int.tmod (n : Int) 10 = ((n % 10 : Nat) : Int) := by rw [Int.tmod_eq_emod_of_nonneg (by omega)]; omega
  have e4 : Int.tdiv (n : Int) 10 = ((n / 10 : Nat) : Int) := by rw [Int.tdiv_eq_ediv_of_nonneg (by omega)]; omega
  have hs := digit_slice (n % 10) (by omega) _ rfl
  have hq10 : n % 10 < 10 := by omega
  have hd10 : n / 10 ≤ 922337203685477580 := by omega
  rw [hL]
  have HL : Unit → _ := fun _ => hL
  clear hL
  generalize n % 10 = q at *
  generalize n / 10 = p at *
  generalize UInt8.ofNat (48 + q) = bq at *
  go_enter Tryd.func59, Tryd.ntmps59
  go_wp2
  go_loop [0, 3] (fun nv s => ∃ (m : Nat) (t : Bs), nv = .int .i64 (m : Int) ∧ s = .string ⟨t.toArray⟩ ∧ m ≤ 922337203685477580 ∧ DigL n m t) (fun nv _ => (intOf nv).toNat)
  case atStart => exact ⟨p, [bq], by go_num, rfl, hd10, Hs ()⟩
  case round =>
    clear e1 e2 e3 e4 hs
    obtain ⟨m, t, rfl, rfl, hm, hD⟩ := hrel
    have hlen := hD.len hn
    by_cases hm0 : 0 < m
    · have hD2 := hD.next hm0
      have e1 : (m : Int) % 10 = ((m % 10 : Nat) : Int) := by omega
      have e2 : (m : Int) / 10 = ((m / 10 : Nat) : Int) := by omega
      have e3 : Int.tmod (m : Int) 10 = ((m % 10 : Nat) : Int) := by rw [Int.tmod_eq_emod_of_nonneg (by omega)]; omega
      have e4 : Int.tdiv (m : Int) 10 = ((m / 10 : Nat) : Int) := by rw [Int.tdiv_eq_ediv_of_nonneg (by omega)]; omega
      have hs := digit_slice (m % 10) (by omega) _ rfl
      have hq10 : m % 10 < 10 := by omega
      have hp10 : m / 10 < m := by omega
      have hca : (⟨#[UInt8.ofNat (48 + m % 10)]⟩ : ByteArray) ++ ⟨t.toArray⟩ = ⟨(UInt8.ofNat (48 + m % 10) :: t).toArray⟩ := cat_text [UInt8.ofNat (48 + m % 10)] t
      have hm0' : 0 < (m : Int) := by omega
      have hts : (⟨t.toArray⟩ : ByteArray).size = t.length := by simp [ByteArray.size]
      have hls : t.length + 1 ≤ 9223372036854775807 := by omega
      generalize m % 10 = q2 at *
      generalize m / 10 = p2 at *
      generalize UInt8.ofNat (48 + q2) = bq2 at *
      go_wp2
      go_round
      case rel => exact ⟨p2, _, by go_num, by rw [← hca], by omega, hD2⟩
      case measure => simp [intOf]; omega
    · obtain rfl : m = 0 := by omega
      go_wp2
      go_ret
      exact ⟨ret_str (by rw [← HL (), hD, if_pos rfl]), rfl⟩
/-- k digits of r, with noughts ahead. -/
def padN : Nat → Nat → Bs
  | 0, _ => []
  | k + 1, r => padN k (r / 10) ++ [UInt8.ofNat (48 + r % 10)]
theorem dec_pad : ∀ (k a r : Nat), 0 < a → r < 10 ^ k → Lib.decDigits (a * 10 ^ k + r) = Lib.decDigits a ++ padN k r := by
  intro k
  induction k with
  | zero => intro a r _ hr; simp at hr; subst hr; simp [padN]
  | succ k ih =>
    intro a r ha hr
    have hp : 0 < 10 ^ k := Nat.pow_pos (by omega)
    have h10 : 10 ^ (k + 1) = 10 * 10 ^ k := by rw [Nat.pow_succ]; omega
    have hbig : 10 ≤ a * 10 ^ (k + 1) + r := by
      have : 1 * 1 ≤ a * 10 ^ k := Nat.mul_le_mul ha hp
      rw [h10, Nat.mul_left_comm]; omega
    rw [Lib.decDigits, dif_neg (by omega), padN]
    have h1 : (a * 10 ^ (k + 1) + r) / 10 = a * 10 ^ k + r / 10 := by
      rw [h10, Nat.mul_left_comm]; omega
    have h2 : (a * 10 ^ (k + 1) + r) % 10 = r % 10 := by
      rw [h10, Nat.mul_left_comm]; omega
    rw [h1, h2, ih a (r / 10) ha (by omega)]
    simp
theorem dec_low (r : Nat) (hr : r < 1000000) : Lib.decDigits (1000000 + r) = 49 :: padN 6 r := by
  have := dec_pad 6 1 r (by omega) (by simpa using hr)
  rw [show 1 * 10 ^ 6 + r = 1000000 + r by omega] at this
  rw [this, Lib.decDigits_one (by omega)]
  rfl
theorem dec_cut (m : Nat) (hm : 1000000 ≤ m) : Lib.decDigits m = Lib.decDigits (m / 1000000) ++ padN 6 (m % 1000000) := by
  have := dec_pad 6 (m / 1000000) (m % 1000000) (by omega) (by simp; omega)
  rw [← this]
  congr 1
  omega
theorem pad_len : ∀ (k r : Nat), (padN k r).length = k := by
  intro k
  induction k with
  | zero => intro r; rfl
  | succ k ih => intro r; rw [padN, List.length_append, ih]; rfl
set_option maxHeartbeats 800000 in
set_option maxRecDepth 100000 in
theorem number_up (n : Nat) (hn : n ≤ 9223372036854775807) (w : World) :
    Calls Tryd.prog 39 #[.int .i64 (n : Int)] w fun e w' => e = .returned (.string ⟨(Lib.decDigits n).toArray⟩) ∧ w' = w := by
  obtain ⟨L, hL⟩ : ∃ L, Lib.decDigits n = L := ⟨_, rfl⟩
  have hlen := dec_len n hn
  rw [hL] at hlen ⊢
  have hn0 : (0 : Int) ≤ (n : Int) := by omega
  go_enter Tryd.func39, Tryd.ntmps39
  go_upto_region 3 with fail
  go_loopw [0, 3] (fun nv s wr => ∃ (m : Nat) (t : Bs), nv = .int .i64 (m : Int) ∧ s = .string ⟨t.toArray⟩ ∧ m ≤ n ∧ L = Lib.decDigits m ++ t ∧ wr = w) (fun nv _ _ => (intOf nv).toNat)
  case atStart => exact ⟨n, [], rfl, rfl, Nat.le_refl _, by rw [← hL]; simp, rfl⟩
  case round =>
    clear hn0
    obtain ⟨m, t, rfl, rfl, hm, hD, rfl⟩ := hrel
    have htl : t.length ≤ 21 := by rw [hD, List.length_append] at hlen; omega
    have HD : Unit → _ := fun _ => hD
    clear hD hL
    by_cases hm0 : 1000000 ≤ m
    · have hc := dec_cut m hm0
      have hr6 : m % 1000000 < 1000000 := by omega
      have hd6 : m / 1000000 < m := by omega
      have e3 : (m : Int) % 1000000 = ((m % 1000000 : Nat) : Int) := by omega
      have e4 : (m : Int) / 1000000 = ((m / 1000000 : Nat) : Int) := by omega
      have e5 : Int.tmod (m : Int) 1000000 = ((m % 1000000 : Nat) : Int) := by rw [Int.tmod_eq_emod_of_nonneg (by omega)]; omega
      have e6 : Int.tdiv (m : Int) 1000000 = ((m / 1000000 : Nat) : Int) := by rw [Int.tdiv_eq_ediv_of_nonneg (by omega)]; omega
      have HC : Unit → _ := fun _ => hc
      clear hc
      have hmi : (1000000 : Int) ≤ (m : Int) := by omega
      generalize m % 1000000 = r at *
      generalize m / 1000000 = p at *
      have K : Hid (Calls Tryd.prog 59 #[.int .i64 (1000000 + (r : Int))] wr fun e w' => e = .returned (.string ⟨(49 :: padN 6 r).toArray⟩) ∧ w' = wr) := by
        have := digits_any (1000000 + r) (by omega) wr
        rw [dec_low r hr6] at this
        exact this
      have hpl := pad_len 6 r
      generalize padN 6 r = z at *
      go_wp2_with fail
      refine K.out.mono ?_
      rintro e w1 ⟨rfl, rfl⟩
      clear K
      have hcu := cut_text (49 :: z) 1 (by simp) 1 rfl
      rw [List.drop_one, List.tail_cons] at hcu
      have hca : (⟨z.toArray⟩ : ByteArray) ++ ⟨t.toArray⟩ = ⟨(z ++ t).toArray⟩ := cat_text z t
      have hzs : (⟨z.toArray⟩ : ByteArray).size = z.length := by simp [ByteArray.size]
      have hts : (⟨t.toArray⟩ : ByteArray).size = t.length := by simp [ByteArray.size]
      have hls : z.length + t.length ≤ 9223372036854775807 := by omega
      go_wp2_with fail
      go_roundw
      case rel => exact ⟨p, z ++ t, by go_num, by rw [← hca], by omega, by rw [HD (), HC ()]; simp, by first | rfl | trivial⟩
      case measure => simp [intOf]; omega
    · have K := Lib.hid (digits_any m (by omega) wr)
      have hmi : ¬ (1000000 : Int) ≤ (m : Int) := by omega
      have hdl := dec_len m (by omega)
      generalize Lib.decDigits m = z at *
      have hca : (⟨z.toArray⟩ : ByteArray) ++ ⟨t.toArray⟩ = ⟨(z ++ t).toArray⟩ := cat_text z t
      have hzs : (⟨z.toArray⟩ : ByteArray).size = z.length := by simp [ByteArray.size]
      have hts : (⟨t.toArray⟩ : ByteArray).size = t.length := by simp [ByteArray.size]
      have hls : z.length + t.length ≤ 9223372036854775807 := by omega
      go_wp2_with fail
      refine K.out.mono ?_
      rintro e w1 ⟨rfl, rfl⟩
      clear K
      go_wp2_with fail
      go_ret
      exact ⟨ret_str (by rw [HD (), ← hca]), rfl⟩
set_option maxHeartbeats 800000 in
theorem number_any (n : Int) (h0 : -9223372036854775808 ≤ n) (h1 : n ≤ 9223372036854775807) (w : World) :
    Calls Tryd.prog 39 #[.int .i64 n] w fun e w' => e = .returned (.string ⟨(Lib.itoa n).toArray⟩) ∧ w' = w := by
  by_cases hn : 0 ≤ n
  · obtain ⟨m, rfl⟩ : ∃ m : Nat, n = m := ⟨n.toNat, by omega⟩
    rw [Lib.itoa_nonneg]
    exact number_up m (by omega) w
  · by_cases hl : n < -9223372036854775807
    · obtain rfl : n = -9223372036854775808 := by omega
      have hx : Lib.itoa (-9223372036854775808) = [45, 57, 50, 50, 51, 51, 55, 50, 48, 51, 54, 56, 53, 52, 55, 55, 53, 56, 48, 56] := by decide +kernel
      go_enter Tryd.func39, Tryd.ntmps39
      go_wp2_with fail
      go_ret
      exact ⟨ret_str (by first | rfl | rw [hx]), rfl⟩
    · obtain ⟨m, hm, rfl⟩ : ∃ m : Nat, 1 ≤ m ∧ n = -(m : Int) := ⟨n.natAbs, by omega, by omega⟩
      have K := Lib.hid (number_up m (by omega) w)
      have hx := Lib.itoa_neg m hm
      have hdl := dec_len m (by omega)
      have hneg : - -(m : Int) = (m : Int) := by omega
      generalize Lib.decDigits m = z at *
      have hca : (⟨#[45]⟩ : ByteArray) ++ ⟨z.toArray⟩ = ⟨(45 :: z).toArray⟩ := cat_text [45] z
      have hzs : (⟨z.toArray⟩ : ByteArray).size = z.length := by simp [ByteArray.size]
      have hls : 1 + z.length ≤ 9223372036854775807 := by omega
      have HX : Unit → _ := fun _ => hx
      clear hx
      go_enter Tryd.func39, Tryd.ntmps39
      go_wp2_with fail
      refine K.out.mono ?_
      rintro e w1 ⟨rfl, rfl⟩
      clear K
      go_wp2_with fail
      go_ret
      exact ⟨ret_str (by rw [HX (), ← hca]), rfl⟩
theorem slice_at (l : Bs) (k : Nat) (c : UInt8) (h : l[k]? = some c) (i j : Int) (hi : i = (k : Int)) (hj : j = (k : Int) + 1) (w : World) : (Instr.slice 9 (.string ⟨l.toArray⟩) (some (.int .i64 i)) (some (.int .i64 j)) none).run Tryd.prog w = .ok (.string ⟨#[c]⟩) w := by
  have hlt : k < l.length := (List.getElem?_eq_some_iff.1 h).1
  have hs : (⟨l.toArray⟩ : ByteArray).size = l.length := by simp [ByteArray.size]
  subst hi hj
  rw [slice_string_lh w _ _ Tryd.underlying9 _ _ _ _ (by omega) (by omega) (by rw [hs]; omega), extract_text, show ((k : Int) + 1).toNat = k + 1 by omega, show (k : Int).toNat = k by omega, List.take_add_one, h]
  have : (l.take k).length = k := by rw [List.length_take]; omega
  rw [List.drop_append_of_le_length (by omega), List.drop_eq_nil_of_le (by omega)]
  rfl
set_option maxHeartbeats 1600000 in
set_option maxRecDepth 100000 in
theorem quote_any (s : Bs) (w : World) (hs : s.length ≤ 1000000) :
    Calls Tryd.prog 40 #[.string ⟨s.toArray⟩] w fun e w' => e = .returned (.string ⟨(quoteN s).toArray⟩) ∧ Below w.heap.size w w' := by
  have hsz : (⟨s.toArray⟩ : ByteArray).size = s.length := by simp [ByteArray.size]
  have HT : Unit → ∀ (k : Nat) (c : UInt8), s[k]? = some c → ∀ w', (Instr.index 9 (.string ⟨s.toArray⟩) (.int .i64 (k : Int))).run Tryd.prog w' = .ok (.int .u8 (c.toNat : Int)) w' := fun _ k c h w' => at_text s k c h _ rfl w'
  have HS : Unit → ∀ (k : Nat) (c : UInt8), s[k]? = some c → ∀ w', (Instr.slice 9 (.string ⟨s.toArray⟩) (some (.int .i64 (k : Int))) (some (.int .i64 ((k : Int) + 1))) none).run Tryd.prog w' = .ok (.string ⟨#[c]⟩) w' := fun _ k c h w' => slice_at s k c h _ _ rfl rfl w'
  have Hq : Unit → quoteN s = [34] ++ s.flatMap escW ++ [34] := fun _ => rfl
  generalize (⟨s.toArray⟩ : ByteArray) = X at *
  go_enter Tryd.func40, Tryd.ntmps40
  go_upto_region 3 with fail
  go_loopw [3, 4] (fun o i wr => ∃ k : Nat, k ≤ s.length ∧ i = .int .i64 (k : Int) ∧ o = .string ⟨([34] ++ (s.take k).flatMap escW).toArray⟩ ∧ Below w.heap.size w wr) (fun _ i _ => s.length - (intOf i).toNat)
  case atStart => exact ⟨0, by omega, rfl, rfl, Below.refl _ _⟩
  case round =>
    obtain ⟨k, hk, rfl, rfl, hbr⟩ := hrel
    have hfl := flat_len (s.take k)
    have hAl : ([34] ++ (s.take k).flatMap escW).length ≤ 6000001 := by
      rw [List.length_append]
      have : (s.take k).length ≤ 1000000 := by rw [List.length_take]; omega
      simp only [List.length_cons, List.length_nil]
      omega
    by_cases hlt : k < s.length
    · obtain ⟨c, hc⟩ : ∃ c, s[k]? = some c := ⟨_, List.getElem?_eq_getElem hlt⟩
      have ht := HT () k c hc
      have hsl := HS () k c hc
      have Hn : Unit → [34] ++ (s.take (k + 1)).flatMap escW = ([34] ++ (s.take k).flatMap escW) ++ escW c := fun _ => by rw [flat_snoc s k c hc]; simp only [List.append_assoc]
      have hki : (k : Int) < (s.length : Int) := by omega
      have hc8 := c.toNat_lt
      clear HT HS hc hfl
      generalize [34] ++ (s.take k).flatMap escW = A at *
      have hAs : (⟨A.toArray⟩ : ByteArray).size = A.length := by simp [ByteArray.size]
      by_cases h1 : c.toNat = 34 ∨ c.toNat = 92
      · have He : Unit → escW c = [92, c] := fun _ => by unfold escW; rw [if_pos h1]
        have hd : ((c.toNat : Int) == 34) = true ∨ (((c.toNat : Int) == 34) = false ∧ ((c.toNat : Int) == 92) = true) := by
          rcases h1 with h | h
          · left; rw [h]; rfl
          · right; rw [h]; exact ⟨rfl, rfl⟩
        have h2i : ¬ (c.toNat : Int) < 32 := by omega
        have hca : (⟨A.toArray⟩ : ByteArray) ++ ⟨#[92]⟩ = ⟨(A ++ [92]).toArray⟩ := cat_text A [92]
        have hca2 : (⟨(A ++ [92]).toArray⟩ : ByteArray) ++ ⟨#[c]⟩ = ⟨((A ++ [92]) ++ [c]).toArray⟩ := cat_text (A ++ [92]) [c]
        have hBs : (⟨(A ++ [92]).toArray⟩ : ByteArray).size = A.length + 1 := by simp [ByteArray.size]
        have hls : A.length + 1 + 1 ≤ 9223372036854775807 := by omega
        have hls2 : A.length + 1 ≤ 9223372036854775807 := by omega
        clear h1
        rcases hd with hd | ⟨hd, hd2⟩
        all_goals
          go_wp2_with fail
          go_roundw
          case rel => exact ⟨k + 1, by omega, by go_num, by rw [Hn (), He ()] <;> first | (simp only [hca, hca2]; done) | (simp only [hca, hca2]; simp), hbr⟩
          case measure => simp [intOf]; omega
      · have hd : ((c.toNat : Int) == 34) = false := by rw [beq_eq_false_iff_ne]; omega
        have hd2 : ((c.toNat : Int) == 92) = false := by rw [beq_eq_false_iff_ne]; omega
        by_cases h2 : c.toNat < 32
        · have He : Unit → escW c = [92, 117, 48, 48, hexD (c.toNat / 16), hexD (c.toNat % 16)] := fun _ => by unfold escW; rw [if_neg h1, if_pos h2]
          have e1 : (c.toNat : Int) / 16 = ((c.toNat / 16 : Nat) : Int) := by omega
          have e2 : (c.toNat : Int) % 16 = ((c.toNat % 16 : Nat) : Int) := by omega
          have e3 : Int.tmod (c.toNat : Int) 16 = ((c.toNat % 16 : Nat) : Int) := by rw [Int.tmod_eq_emod_of_nonneg (by omega)]; omega
          have e4 : Int.tdiv (c.toNat : Int) 16 = ((c.toNat / 16 : Nat) : Int) := by rw [Int.tdiv_eq_ediv_of_nonneg (by omega)]; omega
          have hx1 := hex_slice (c.toNat / 16) (by omega) _ rfl
          have hx2 := hex_slice (c.toNat % 16) (by omega) _ rfl
          have h2i : (c.toNat : Int) < 32 := by omega
          have hm1 : c.toNat / 16 < 16 := by omega
          have hm2 : c.toNat % 16 < 16 := by omega
          clear h1
          generalize c.toNat / 16 = p at *
          generalize c.toNat % 16 = r at *
          generalize hexD p = z at *
          generalize hexD r = z2 at *
          have hw1 : IntKind.u8.wrap (p : Int) = (p : Int) := by simp only [IntKind.wrap, IntKind.signed, IntKind.bits]; simp; omega
          have hw2 : IntKind.u8.wrap ((p : Int) + 1) = (p : Int) + 1 := by simp only [IntKind.wrap, IntKind.signed, IntKind.bits]; simp; omega
          have hw3 : IntKind.u8.wrap (r : Int) = (r : Int) := by simp only [IntKind.wrap, IntKind.signed, IntKind.bits]; simp; omega
          have hw4 : IntKind.u8.wrap ((r : Int) + 1) = (r : Int) + 1 := by simp only [IntKind.wrap, IntKind.signed, IntKind.bits]; simp; omega
          have hca : (⟨A.toArray⟩ : ByteArray) ++ ⟨#[92, 117, 48, 48, z, z2]⟩ = ⟨(A ++ [92, 117, 48, 48, z, z2]).toArray⟩ := cat_text A [92, 117, 48, 48, z, z2]
          have hcb : (⟨#[92, 117, 48, 48]⟩ : ByteArray) ++ ⟨#[z]⟩ = ⟨#[92, 117, 48, 48, z]⟩ := cat_text [92, 117, 48, 48] [z]
          have hcc : (⟨#[92, 117, 48, 48, z]⟩ : ByteArray) ++ ⟨#[z2]⟩ = ⟨#[92, 117, 48, 48, z, z2]⟩ := cat_text [92, 117, 48, 48, z] [z2]
          have hls : ¬ 9223372036854775807 < A.length + 6 := by omega
          go_upto_region 9 with fail
          refine wp_region_held (S := fun w' => Below wr.heap.size wr w') (by kernel_rfl) ?_
          have hS : Below wr.heap.size wr { wr with drawn := wr.drawn + 1 } := (Below.refl _ wr).drew
          generalize { wr with drawn := wr.drawn + 1 } = D1 at *
          refine held_val 0 rfl (by kernel_rfl) (by kernel_rfl) (by kernel_rfl) (fun _ _ _ _ h => h) (by rfl) hS ?_
          apply Exists.intro
          refine ⟨fun w' hw' => ?_, ?_⟩
          · skip
            go_simp
            first | done | rfl | exact ⟨rfl, rfl⟩
          simp only [Act.put, List.setIfInBounds_toArray, List.set_cons_zero, List.set_cons_succ]
          refine held_val 1 rfl (by kernel_rfl) (by kernel_rfl) (by kernel_rfl) (fun _ _ _ _ h => h) (by rfl) hS ?_
          apply Exists.intro
          refine ⟨fun w' hw' => ?_, ?_⟩
          · skip
            go_simp
            first | done | rfl | exact ⟨rfl, rfl⟩
          simp only [Act.put, List.setIfInBounds_toArray, List.set_cons_zero, List.set_cons_succ]
          refine held_val 2 rfl (by kernel_rfl) (by kernel_rfl) (by kernel_rfl) (fun _ _ _ _ h => h) (by rfl) hS ?_
          apply Exists.intro
          refine ⟨fun w' hw' => ?_, ?_⟩
          · skip
            go_simp
            first | done | rfl | exact ⟨rfl, rfl⟩
          simp only [Act.put, List.setIfInBounds_toArray, List.set_cons_zero, List.set_cons_succ]
          refine held_val 3 rfl (by kernel_rfl) (by kernel_rfl) (by kernel_rfl) (fun _ _ _ _ h => h) (by rfl) hS ?_
          apply Exists.intro
          refine ⟨fun w' hw' => ?_, ?_⟩
          · skip
            go_simp
            first | done | rfl | exact ⟨rfl, rfl⟩
          simp only [Act.put, List.setIfInBounds_toArray, List.set_cons_zero, List.set_cons_succ]
          refine held_val 4 rfl (by kernel_rfl) (by kernel_rfl) (by kernel_rfl) (fun _ _ _ _ h => h) (by rfl) hS ?_
          apply Exists.intro
          refine ⟨fun w' hw' => ?_, ?_⟩
          · skip
            go_simp
            first | done | rfl | exact ⟨rfl, rfl⟩
          simp only [Act.put, List.setIfInBounds_toArray, List.set_cons_zero, List.set_cons_succ]
          refine held_val 5 rfl (by kernel_rfl) (by kernel_rfl) (by kernel_rfl) (fun _ _ _ _ h => h) (by rfl) hS ?_
          apply Exists.intro
          refine ⟨fun w' hw' => ?_, ?_⟩
          · skip
            go_simp
            first | done | rfl | exact ⟨rfl, rfl⟩
          simp only [Act.put, List.setIfInBounds_toArray, List.set_cons_zero, List.set_cons_succ]
          refine held_val 6 rfl (by kernel_rfl) (by kernel_rfl) (by kernel_rfl) (fun _ _ _ _ h => h) (by rfl) hS ?_
          apply Exists.intro
          refine ⟨fun w' hw' => ?_, ?_⟩
          · skip
            go_simp
            first | done | rfl | exact ⟨rfl, rfl⟩
          simp only [Act.put, List.setIfInBounds_toArray, List.set_cons_zero, List.set_cons_succ]
          refine held_val 7 rfl (by kernel_rfl) (by kernel_rfl) (by kernel_rfl) (fun _ _ _ _ h => h) (by rfl) hS ?_
          apply Exists.intro
          refine ⟨fun w' hw' => ?_, ?_⟩
          · skip
            go_simp
            first | done | rfl | exact ⟨rfl, rfl⟩
          simp only [Act.put, List.setIfInBounds_toArray, List.set_cons_zero, List.set_cons_succ]
          refine held_val 8 rfl (by kernel_rfl) (by kernel_rfl) (by kernel_rfl) (fun _ _ _ _ h => h) (by rfl) hS ?_
          apply Exists.intro
          refine ⟨fun w' hw' => ?_, ?_⟩
          · skip
            go_simp
            first | done | rfl | exact ⟨rfl, rfl⟩
          simp only [Act.put, List.setIfInBounds_toArray, List.set_cons_zero, List.set_cons_succ]
          refine held_val 9 rfl (by kernel_rfl) (by kernel_rfl) (by kernel_rfl) (fun _ _ _ _ h => h) (by rfl) hS ?_
          apply Exists.intro
          refine ⟨fun w' hw' => ?_, ?_⟩
          · skip
            go_simp
            first | done | rfl | exact ⟨rfl, rfl⟩
          simp only [Act.put, List.setIfInBounds_toArray, List.set_cons_zero, List.set_cons_succ]
          refine held_val 10 rfl (by kernel_rfl) (by kernel_rfl) (by kernel_rfl) (fun _ _ _ _ h => h) (by rfl) hS ?_
          apply Exists.intro
          refine ⟨fun w' hw' => ?_, ?_⟩
          · skip
            go_simp
            first | done | rfl | exact ⟨rfl, rfl⟩
          simp only [Act.put, List.setIfInBounds_toArray, List.set_cons_zero, List.set_cons_succ]
          refine held_val 11 rfl (by kernel_rfl) (by kernel_rfl) (by kernel_rfl) (fun _ _ _ _ h => h) (by rfl) hS ?_
          apply Exists.intro
          refine ⟨fun w' hw' => ?_, ?_⟩
          · skip
            go_simp
            first | done | rfl | exact ⟨rfl, rfl⟩
          simp only [Act.put, List.setIfInBounds_toArray, List.set_cons_zero, List.set_cons_succ]
          refine held_val 12 rfl (by kernel_rfl) (by kernel_rfl) (by kernel_rfl) (fun _ _ _ _ h => h) (by rfl) hS ?_
          apply Exists.intro
          refine ⟨fun w' hw' => ?_, ?_⟩
          · skip
            go_simp
            first | done | rfl | exact ⟨rfl, rfl⟩
          simp only [Act.put, List.setIfInBounds_toArray, List.set_cons_zero, List.set_cons_succ]
          refine held_val 13 rfl (by kernel_rfl) (by kernel_rfl) (by kernel_rfl) (fun _ _ _ _ h => h) (by rfl) hS ?_
          apply Exists.intro
          refine ⟨fun w' hw' => ?_, ?_⟩
          · skip
            go_simp
            first | done | rfl | exact ⟨rfl, rfl⟩
          simp only [Act.put, List.setIfInBounds_toArray, List.set_cons_zero, List.set_cons_succ]
          refine held_val 14 rfl (by kernel_rfl) (by kernel_rfl) (by kernel_rfl) (fun _ _ _ _ h => h) (by rfl) hS ?_
          apply Exists.intro
          refine ⟨fun w' hw' => ?_, ?_⟩
          · skip
            go_simp
            first | done | rfl | exact ⟨rfl, rfl⟩
          simp only [Act.put, List.setIfInBounds_toArray, List.set_cons_zero, List.set_cons_succ]
          refine held_val 15 rfl (by kernel_rfl) (by kernel_rfl) (by kernel_rfl) (fun _ _ _ _ h => h) (by rfl) hS ?_
          apply Exists.intro
          refine ⟨fun w' hw' => ?_, ?_⟩
          · skip
            go_simp
            first | done | rfl | exact ⟨rfl, rfl⟩
          simp only [Act.put, List.setIfInBounds_toArray, List.set_cons_zero, List.set_cons_succ]
          refine held_val 16 rfl (by kernel_rfl) (by kernel_rfl) (by kernel_rfl) (fun _ _ _ _ h => h) (by rfl) hS ?_
          apply Exists.intro
          refine ⟨fun w' hw' => ?_, ?_⟩
          · skip
            go_simp
            first | done | rfl | exact ⟨rfl, rfl⟩
          simp only [Act.put, List.setIfInBounds_toArray, List.set_cons_zero, List.set_cons_succ]
          refine wpAnyH_done (by kernel_rfl) ?_ _
          replace hbr := hbr.trans (hS.mono hbr.size)
          go_wp2_with fail
          go_roundw
          case rel => exact ⟨k + 1, by omega, by go_num, by rw [Hn (), He ()] <;> simp only [hcb, hcc, hca], hbr⟩
          case measure => simp [intOf]; omega
        · have He : Unit → escW c = [c] := fun _ => by unfold escW; rw [if_neg h1, if_neg h2]
          have h2i : ¬ (c.toNat : Int) < 32 := by omega
          have hca : (⟨A.toArray⟩ : ByteArray) ++ ⟨#[c]⟩ = ⟨(A ++ [c]).toArray⟩ := cat_text A [c]
          have hls : A.length + 1 ≤ 9223372036854775807 := by omega
          clear h1
          go_wp2_with fail
          go_roundw
          case rel => exact ⟨k + 1, by omega, by go_num, by rw [Hn (), He ()] <;> simp only [hca], hbr⟩
          case measure => simp [intOf]; omega
    · obtain rfl : k = s.length := by omega
      rw [List.take_length] at hAl ⊢
      generalize [34] ++ s.flatMap escW = A at *
      have hAs : (⟨A.toArray⟩ : ByteArray).size = A.length := by simp [ByteArray.size]
      have hca : (⟨A.toArray⟩ : ByteArray) ++ ⟨#[34]⟩ = ⟨(A ++ [34]).toArray⟩ := cat_text A [34]
      have hls : A.length + 1 ≤ 9223372036854775807 := by omega
      go_wp2_with fail
      go_ret
      exact ⟨ret_str (by rw [Hq ()] <;> simp only [hca]), hbr⟩
end Go.Proofs.YtbkkcojfgdjbhaaDoor

namespace Go.Proofs.YtbkkcojfgdjbhaaDoor
open Go.ChangeShapes Go.WideShapes Go.RowKit

/-- The contract of write: of a value that may be, so deep. -/
def RwCt (D : Nat) : Prop := ∀ (P : Nat → Prop) (cs : List Value) (j : J) (d : Nat) (l l2 : Int) (w : World), JAt P w D cs j → Siz D j → Rg d j → l ≤ 400 → fitN d j l = some l2 →
  Calls Tryd.prog 24 #[.agg cs.toArray] w fun e w' => e = .returned (.string ⟨(wrN d j).toArray⟩) ∧ Below w.heap.size w w'
/-- What is left to be written, from the q-th kid on. -/
def restW (W : J → Bs) (k : Int) (keys : List Bs) (kids : List J) (q : Nat) : Bs := kidsW W k (decide (q = 0)) (keys.drop q) (kids.drop q)
theorem rest_end (W : J → Bs) (k : Int) (keys : List Bs) (kids : List J) : restW W k keys kids kids.length = [] := by
  unfold restW
  rw [List.drop_eq_nil_of_le (Nat.le_refl _)]
  rfl
theorem rest_step (W : J → Bs) (k : Int) (keys : List Bs) (kids : List J) (q : Nat) (kid : J) (h : kids[q]? = some kid) : restW W k keys kids q = ((if q = 0 then [] else [44]) ++ (if k = 6 then quoteN ((keys[q]?).getD []) ++ [58] else [])) ++ W kid ++ restW W k keys kids (q + 1) := by
  obtain ⟨hl, he⟩ := List.getElem?_eq_some_iff.1 h
  unfold restW
  rw [List.drop_eq_getElem_cons hl, he, kidsW]
  have h1 : (if decide (q = 0) = true then ([] : Bs) else [44]) = if q = 0 then [] else [44] := by by_cases hq : q = 0 <;> simp [hq]
  have h2 : (keys.drop q).headD [] = (keys[q]?).getD [] := by
    rw [List.headD_eq_head?_getD, List.head?_drop]
  have h3 : (keys.drop q).tail = keys.drop (q + 1) := by rw [List.tail_drop]
  have h4 : decide (q + 1 = 0) = false := by simp
  rw [h1, h2, h3, h4]
theorem each_fit {d : Nat} {kids : List J} {l l2 : Int} (h : kids.foldl (fun o kid => o.bind (fun x => fitN d kid x)) (some l) = some l2) (hl : l ≤ 400) : ∀ kid ∈ kids, ∃ a b, a ≤ 400 ∧ fitN d kid a = some b :=
  fold_each (f := fun j x => fitN d j x) (Q := fun j => ∃ a b, a ≤ 400 ∧ fitN d j a = some b) (fun j a b ha hx => ⟨by have := fitN_le d j a b hx; omega, a, b, ha, hx⟩) kids l l2 hl h
theorem leaf_of (k n : Int) (s : Bs) : (k = 3 → leafW k n s = Lib.itoa n) ∧ (k = 4 → leafW k n s = quoteN s) := by
  refine ⟨fun h => ?_, fun h => ?_⟩ <;> (subst h; simp [leafW])
-- <<walk
set_option maxHeartbeats 6400000 in
set_option maxRecDepth 100000 in
theorem rwrite_step (D : Nat) (HB : ∀ d, D = d + 1 → RwCt d) : RwCt D := by
  intro P cs j d l l2 w hJ hZ hR hl hf
  obtain ⟨k, n, s, keys, kids⟩ := j
  obtain ⟨D', kv, dv0, rfl, rfl, hkv, hdv⟩ := hJ.open
  obtain ⟨hs1, hk1, hkl, hk2, hk3⟩ := hZ
  replace HB := HB D' rfl
  have hn := hR.num
  have hTl : (wrN d (.mk k n s keys kids)).length ≤ 1000000 := by
    have := wr_len2 d _ l l2 hR hf
    have := fitN_le d _ l l2 hf
    omega
  obtain ⟨RES, hRES⟩ : ∃ r, r = wrN d (.mk k n s keys kids) := ⟨_, rfl⟩
  rw [← hRES] at hTl ⊢
  obtain ⟨hfl, hform, hcase⟩ := fit_form hf
  obtain ⟨hk0, hk6, hk66⟩ := form_kind hform
  have rA := Rw.new w 25 (cells5 k n s kv dv0)
  have hb : Below w.heap.size w (w.alloc (.cells (cells5 k n s kv dv0).toArray 25)) := (Below.refl _ _).alloc (Nat.le_refl _) _
  have hdW := hdv.stay hb
  have hkW := hkv.keepN (S := fun _ => False) (Asd.of_below hb) (fun _ _ _ h => h)
  obtain ⟨da, dc, rfl⟩ := hdv.shape
  obtain ⟨ka, kc, rfl⟩ := hkv.shape
  clear hdv hkv hJ hf
  go_enter Tryd.func24, Tryd.ntmps24
  go_upto_region 1 with fail
  generalize w.alloc (.cells (cells5 k n s (.slice ka keys.length kc) (.slice da kids.length dc)).toArray 25) = W at *
  have c0 := Rw.cell rA 0
  have c1 := Rw.cell rA 1
  have c2 := Rw.cell rA 2
  change _ = some (Value.int .i64 k) at c0
  change _ = some (Value.int .i64 n) at c1
  change _ = some (Value.string ⟨s.toArray⟩) at c2
  rcases hcase with ⟨h5, h6, ht, _⟩ | ⟨h56, d', rfl, hky, hfold⟩
  · have hwr : wrN d (.mk k n s keys kids) = leafW k n s := by
      cases d with
      | zero => rfl
      | succ d => rw [wrN, if_neg (by omega)]
    have hR0 := hRES.trans hwr
    clear HB hdW hkW hk3 hkl hwr hfl hR hRES
    have hks : k = 3 ∨ k = 4 ∨ k = 0 ∨ k = 1 ∨ k = 2 := by omega
    rcases hks with rfl | rfl | hks
    · have K := Lib.hid (number_any n hn.1 hn.2 W)
      have HR2 : Unit → RES = Lib.itoa n := fun _ => hR0.trans ((leaf_of 3 n s).1 rfl)
      clear hTl hR0
      go_wp2_with fail
      refine K.out.mono ?_
      rintro e w1 ⟨rfl, rfl⟩
      clear K
      go_wp2_with fail
      go_ret
      exact ⟨ret_str (by rw [HR2 ()]), hb⟩
    · have K := Lib.hid (quote_any s W (by have := textOk_len ht; omega))
      have HR2 : Unit → RES = quoteN s := fun _ => hR0.trans ((leaf_of 4 n s).2 rfl)
      clear hTl hR0
      go_wp2_with fail
      refine K.out.mono ?_
      rintro e w1 ⟨rfl, hb1⟩
      clear K
      have hbx := hb.trans (hb1.mono hb.size)
      go_wp2_with fail
      go_ret
      exact ⟨ret_str (by rw [HR2 ()]), hbx⟩
    · have hsz : W.heap.size = W.heap.size := rfl
      have rT := Rw.new W 9 [.string ⟨#[110, 117, 108, 108]⟩, .string ⟨#[102, 97, 108, 115, 101]⟩, .string ⟨#[116, 114, 117, 101]⟩]
      have hbl : Below W.heap.size W (W.alloc (.cells [Value.string ⟨#[110, 117, 108, 108]⟩, .string ⟨#[102, 97, 108, 115, 101]⟩, .string ⟨#[116, 114, 117, 101]⟩].toArray 9)) := (Below.refl _ _).alloc (Nat.le_refl _) _
      have d0 := Rw.cell (rA.stay hbl) 0
      change _ = some (Value.int .i64 k) at d0
      have t0 := Rw.cell rT 0
      have t1 := Rw.cell rT 1
      have t2 := Rw.cell rT 2
      change _ = some (Value.string ⟨#[110, 117, 108, 108]⟩) at t0
      change _ = some (Value.string ⟨#[102, 97, 108, 115, 101]⟩) at t1
      change _ = some (Value.string ⟨#[116, 114, 117, 101]⟩) at t2
      have hbx := hb.trans (hbl.mono hb.size)
      obtain ⟨i0, hi, hz0, hz1, _⟩ := info_parts info_str
      have HR2 : Unit → RES = leafW k n s := fun _ => hR0
      clear hsz hTl hR0
      rcases hks with rfl | rfl | rfl
      all_goals
        go_wp2_with (refine wpList_buildSlice rfl 22 9 3 _ rfl #[.string ⟨#[110, 117, 108, 108]⟩, .string ⟨#[102, 97, 108, 115, 101]⟩, .string ⟨#[116, 114, 117, 101]⟩] i0 _ Tryd.underlying22 hi hz0 (by rw [hz1]; decide) (by rw [hz1]; decide) (by rw [hz1]; rfl) ?_)
        go_ret
        exact ⟨ret_str (by rw [HR2 ()]; rfl), hbx⟩
  · have hek := each_fit hfold (by omega)
    have hRk : ∀ kid ∈ kids, Rg d' kid := hR.2
    clear hR hfold
    rcases h56 with rfl | rfl
    · skip
      have hwr : wrN (d' + 1) (.mk 5 n s keys kids) = [91] ++ kidsW (wrN d') 5 true keys kids ++ [93] := rfl
      have hlen := hTl
      rw [hRES, hwr] at hlen
      have hR1 := hRES.trans hwr
      have hrest : kidsW (wrN d') 5 true keys kids = restW (wrN d') 5 keys kids 0 := rfl
      obtain ⟨T, hT⟩ : ∃ T, T = kidsW (wrN d') 5 true keys kids := ⟨_, rfl⟩
      rw [← hT] at hlen hrest hR1
      have HR1 : Unit → _ := fun _ => hR1
      clear hT hwr hTl hR1 hRES
      have hTT : T.length ≤ 1000000 := by simp at hlen; omega
      clear hlen
      go_upto_region 9 with fail
      go_loopw [3, 4] (fun sv i wr => ∃ (q : Nat) (A : Bs), q ≤ kids.length ∧ i = .int .i64 (q : Int) ∧ sv = .string ⟨A.toArray⟩ ∧ T = A ++ restW (wrN d') 5 keys kids q ∧ Below W.heap.size W wr) (fun _ i _ => kids.length - (intOf i).toNat)
      case atStart => exact ⟨0, [], by omega, rfl, rfl, by rw [hrest]; rfl, Below.refl _ _⟩
      case round =>
        clear hrest
        obtain ⟨q, A, hq, rfl, rfl, hTA, hbr⟩ := hrel
        have hAl : A.length ≤ 1000000 := by rw [hTA, List.length_append] at hTT; omega
        have hAs : (⟨A.toArray⟩ : ByteArray).size = A.length := by simp [ByteArray.size]
        have rA2 := rA.stay hbr
        have hXl := Rw.lt rA2
        have c0 := Rw.cell rA2 0
        change _ = some (Value.int .i64 5) at c0
        have c3 := Rw.cell rA2 3
        change _ = some (Value.slice ka keys.length kc) at c3
        have c4 := Rw.cell rA2 4
        change _ = some (Value.slice da kids.length dc) at c4
        have hbw := hb.trans (hbr.mono hb.size)
        by_cases g1 : q < kids.length
        · obtain ⟨kid, hkid⟩ : ∃ x, kids[q]? = some x := ⟨_, List.getElem?_eq_getElem g1⟩
          obtain ⟨g, o, ck, rfl, hk5, hkcell, hkJ⟩ := (hdW.stay hbr).kid hkid
          have hgl : g < wr.heap.size := by
            cases hx : ck[0]? with
            | none => rw [List.getElem?_eq_none_iff, hk5] at hx; omega
            | some u => exact World.block_lt_of_cell? wr _ (hkcell 0 u hx)
          have i1 : (q : Int) < (kids.length : Int) := by omega
          have i0 : ¬ (q : Int) < 0 := by omega
          have hmem := List.mem_of_getElem? hkid
          have hzk := hk3 kid hmem
          obtain ⟨fa, fb, hfa, hfk⟩ := hek kid hmem
          have hrk := hRk kid hmem
          have hwl : (wrN d' kid).length ≤ 1000000 := by
            have := wr_len2 d' kid fa fb hrk hfk
            have := fitN_le d' kid fa fb hfk
            omega
          have HK : Hid (∀ w', Below W.heap.size W w' → Calls Tryd.prog 24 #[.agg ck.toArray] w' fun e w'' => e = .returned (.string ⟨(wrN d' kid).toArray⟩) ∧ Below w'.heap.size w' w'') := fun w' h => by
            obtain ⟨g2, o2, ck2, e2, hk52, hkc2, hkJ2⟩ := (hdW.stay h).kid hkid
            obtain ⟨g3, o3, ck3, e3, hk53, hkc3, hkJ3⟩ := hdW.kid hkid
            have : ck2 = ck := by
              injection e2 with e2
              injection e2 with e2 e4 e5
              subst e2 e4
              apply List.ext_getElem?
              intro i
              by_cases hi : i < 5
              · have h1 := hkc2 i _ (List.getElem?_eq_getElem (by omega : i < ck2.length))
                have h2 := hkcell i _ (List.getElem?_eq_getElem (by omega : i < ck.length))
                have hg3 : g < W.heap.size := by
                  injection e3 with e3
                  injection e3 with e3 e6 e7
                  subst e3
                  cases hx : ck3[0]? with
                  | none => rw [List.getElem?_eq_none_iff, hk53] at hx; omega
                  | some u => exact World.block_lt_of_cell? W _ (hkc3 0 u hx)
                rw [h.cell hg3, ← hbr.cell hg3, h2] at h1
                rw [List.getElem?_eq_getElem (by omega : i < ck2.length), List.getElem?_eq_getElem (by omega : i < ck.length)]
                exact h1.symm
              · rw [List.getElem?_eq_none (by omega), List.getElem?_eq_none (by omega)]
            rw [← this]
            exact HB _ ck2 kid d' fa fb w' hkJ2 hzk hrk hfa hfk
          have hst := rest_step (wrN d') 5 keys kids q kid hkid
          have hws : (⟨(wrN d' kid).toArray⟩ : ByteArray).size = (wrN d' kid).length := by simp [ByteArray.size]
          have HT : Unit → _ := fun _ => hTA
          have HS : Unit → _ := fun _ => hst
          clear hst hTA
          clear hkid hkJ hek hRk hk3 hfk hrk hzk hmem
          obtain ⟨Wk, hWk⟩ : ∃ B, B = wrN d' kid := ⟨_, rfl⟩
          rw [← hWk] at HK hwl HS hws
          clear hWk
          by_cases hq0 : q = 0
          · rw [if_pos hq0] at HS
            have i3 : ¬ (q : Int) > 0 := by omega
            have i4 : ¬ 0 < (q : Int) := by omega
            have i5 : ¬ 0 < q := by omega
            clear hq0
            rw [if_neg (by decide)] at HS
            have KW := Lib.hid (HK.out wr hbr)

            have hcw : (⟨A.toArray⟩ : ByteArray) ++ ⟨Wk.toArray⟩ = ⟨(A ++ Wk).toArray⟩ := cat_text A Wk
            have hls3 : ¬ 9223372036854775807 < A.length + Wk.length := by omega
            have HEQ : Unit → T = (A ++ Wk) ++ restW (wrN d') 5 keys kids (q + 1) := fun _ => by
              rw [HT (), HS ()]
              skip
              simp
            obtain ⟨A3, hA3⟩ : ∃ B, B = A ++ Wk := ⟨_, rfl⟩
            rw [← hA3] at hcw HEQ
            clear HS HT hA3
            go_wp2_with (refine load_doc_at g (o + q * 5) ck hk5 hkcell _ rfl rfl rfl ?_)
            refine KW.out.mono ?_
            rintro e w2 ⟨rfl, hb2⟩
            replace hbr := hbr.trans (hb2.mono hbr.size)
            clear KW hb2
            go_wp2_with fail
            go_roundw
            case rel => exact ⟨q + 1, A3, by omega, by go_num, rfl, HEQ (), hbr⟩
            case measure => simp [intOf]; omega
          · rw [if_neg hq0] at HS
            have i3 : (q : Int) > 0 := by omega
            have i4 : 0 < (q : Int) := by omega
            have i5 : 0 < q := by omega
            clear hq0
            rw [if_neg (by decide)] at HS
            have hca : (⟨A.toArray⟩ : ByteArray) ++ ⟨#[44]⟩ = ⟨(A ++ [44]).toArray⟩ := cat_text A [44]
            have hls1 : ¬ 9223372036854775807 < A.length + 1 := by omega
            obtain ⟨A1, hA1⟩ : ∃ B, B = A ++ [44] := ⟨_, rfl⟩
            rw [← hA1] at hca
            have hl1 : A1.length ≤ 1000001 := by rw [hA1]; simp; omega
            have hs1 : (⟨A1.toArray⟩ : ByteArray).size = A1.length := by simp [ByteArray.size]
            have HA1 : Unit → _ := fun _ => hA1
            clear hA1

            have KW := Lib.hid (HK.out wr hbr)

            have hcw : (⟨A1.toArray⟩ : ByteArray) ++ ⟨Wk.toArray⟩ = ⟨(A1 ++ Wk).toArray⟩ := cat_text A1 Wk
            have hls3 : ¬ 9223372036854775807 < A1.length + Wk.length := by omega
            have HEQ : Unit → T = (A1 ++ Wk) ++ restW (wrN d') 5 keys kids (q + 1) := fun _ => by
              rw [HT (), HS ()]
              rw [HA1 ()]
              simp
            obtain ⟨A3, hA3⟩ : ∃ B, B = A1 ++ Wk := ⟨_, rfl⟩
            rw [← hA3] at hcw HEQ
            clear HS HT hA3
            go_wp2_with (refine load_doc_at g (o + q * 5) ck hk5 hkcell _ rfl rfl rfl ?_)
            refine KW.out.mono ?_
            rintro e w2 ⟨rfl, hb2⟩
            replace hbr := hbr.trans (hb2.mono hbr.size)
            clear KW hb2
            go_wp2_with fail
            go_roundw
            case rel => exact ⟨q + 1, A3, by omega, by go_num, rfl, HEQ (), hbr⟩
            case measure => simp [intOf]; omega
        · obtain rfl : q = kids.length := by omega
          rw [rest_end, List.append_nil] at hTA
          subst hTA
          have i1 : ¬ (kids.length : Int) < (kids.length : Int) := by omega
          have hca : (⟨#[91]⟩ : ByteArray) ++ ⟨T.toArray⟩ = ⟨([91] ++ T).toArray⟩ := cat_text [91] T
          have hls1 : ¬ 9223372036854775807 < 1 + T.length := by omega
          obtain ⟨U, hU⟩ : ∃ B, B = [91] ++ T := ⟨_, rfl⟩
          rw [← hU] at hca HR1
          have hul : U.length ≤ 1000001 := by rw [hU]; simp; omega
          have hus : (⟨U.toArray⟩ : ByteArray).size = U.length := by simp [ByteArray.size]
          have hcb : (⟨U.toArray⟩ : ByteArray) ++ ⟨#[93]⟩ = ⟨(U ++ [93]).toArray⟩ := cat_text U [93]
          have hls2 : ¬ 9223372036854775807 < U.length + 1 := by omega
          clear hU
          go_wp2_with fail
          go_ret
          exact ⟨ret_str (by rw [HR1 (), ← hcb]), hbw⟩
    · have hk66 := hk66 rfl
      have hwr : wrN (d' + 1) (.mk 6 n s keys kids) = [123] ++ kidsW (wrN d') 6 true keys kids ++ [125] := rfl
      have hlen := hTl
      rw [hRES, hwr] at hlen
      have hR1 := hRES.trans hwr
      have hrest : kidsW (wrN d') 6 true keys kids = restW (wrN d') 6 keys kids 0 := rfl
      obtain ⟨T, hT⟩ : ∃ T, T = kidsW (wrN d') 6 true keys kids := ⟨_, rfl⟩
      rw [← hT] at hlen hrest hR1
      have HR1 : Unit → _ := fun _ => hR1
      clear hT hwr hTl hR1 hRES
      have hTT : T.length ≤ 1000000 := by simp at hlen; omega
      clear hlen
      go_upto_region 9 with fail
      go_loopw [3, 4] (fun sv i wr => ∃ (q : Nat) (A : Bs), q ≤ kids.length ∧ i = .int .i64 (q : Int) ∧ sv = .string ⟨A.toArray⟩ ∧ T = A ++ restW (wrN d') 6 keys kids q ∧ Below W.heap.size W wr) (fun _ i _ => kids.length - (intOf i).toNat)
      case atStart => exact ⟨0, [], by omega, rfl, rfl, by rw [hrest]; rfl, Below.refl _ _⟩
      case round =>
        clear hrest
        obtain ⟨q, A, hq, rfl, rfl, hTA, hbr⟩ := hrel
        have hAl : A.length ≤ 1000000 := by rw [hTA, List.length_append] at hTT; omega
        have hAs : (⟨A.toArray⟩ : ByteArray).size = A.length := by simp [ByteArray.size]
        have rA2 := rA.stay hbr
        have hXl := Rw.lt rA2
        have c0 := Rw.cell rA2 0
        change _ = some (Value.int .i64 6) at c0
        have c3 := Rw.cell rA2 3
        change _ = some (Value.slice ka keys.length kc) at c3
        have c4 := Rw.cell rA2 4
        change _ = some (Value.slice da kids.length dc) at c4
        have hbw := hb.trans (hbr.mono hb.size)
        by_cases g1 : q < kids.length
        · obtain ⟨kid, hkid⟩ : ∃ x, kids[q]? = some x := ⟨_, List.getElem?_eq_getElem g1⟩
          obtain ⟨g, o, ck, rfl, hk5, hkcell, hkJ⟩ := (hdW.stay hbr).kid hkid
          have hgl : g < wr.heap.size := by
            cases hx : ck[0]? with
            | none => rw [List.getElem?_eq_none_iff, hk5] at hx; omega
            | some u => exact World.block_lt_of_cell? wr _ (hkcell 0 u hx)
          have i1 : (q : Int) < (kids.length : Int) := by omega
          have i0 : ¬ (q : Int) < 0 := by omega
          have hmem := List.mem_of_getElem? hkid
          have hzk := hk3 kid hmem
          obtain ⟨fa, fb, hfa, hfk⟩ := hek kid hmem
          have hrk := hRk kid hmem
          have hwl : (wrN d' kid).length ≤ 1000000 := by
            have := wr_len2 d' kid fa fb hrk hfk
            have := fitN_le d' kid fa fb hfk
            omega
          have HK : Hid (∀ w', Below W.heap.size W w' → Calls Tryd.prog 24 #[.agg ck.toArray] w' fun e w'' => e = .returned (.string ⟨(wrN d' kid).toArray⟩) ∧ Below w'.heap.size w' w'') := fun w' h => by
            obtain ⟨g2, o2, ck2, e2, hk52, hkc2, hkJ2⟩ := (hdW.stay h).kid hkid
            obtain ⟨g3, o3, ck3, e3, hk53, hkc3, hkJ3⟩ := hdW.kid hkid
            have : ck2 = ck := by
              injection e2 with e2
              injection e2 with e2 e4 e5
              subst e2 e4
              apply List.ext_getElem?
              intro i
              by_cases hi : i < 5
              · have h1 := hkc2 i _ (List.getElem?_eq_getElem (by omega : i < ck2.length))
                have h2 := hkcell i _ (List.getElem?_eq_getElem (by omega : i < ck.length))
                have hg3 : g < W.heap.size := by
                  injection e3 with e3
                  injection e3 with e3 e6 e7
                  subst e3
                  cases hx : ck3[0]? with
                  | none => rw [List.getElem?_eq_none_iff, hk53] at hx; omega
                  | some u => exact World.block_lt_of_cell? W _ (hkc3 0 u hx)
                rw [h.cell hg3, ← hbr.cell hg3, h2] at h1
                rw [List.getElem?_eq_getElem (by omega : i < ck2.length), List.getElem?_eq_getElem (by omega : i < ck.length)]
                exact h1.symm
              · rw [List.getElem?_eq_none (by omega), List.getElem?_eq_none (by omega)]
            rw [← this]
            exact HB _ ck2 kid d' fa fb w' hkJ2 hzk hrk hfa hfk
          have hst := rest_step (wrN d') 6 keys kids q kid hkid
          have hws : (⟨(wrN d' kid).toArray⟩ : ByteArray).size = (wrN d' kid).length := by simp [ByteArray.size]
          have HT : Unit → _ := fun _ => hTA
          have HS : Unit → _ := fun _ => hst
          clear hst hTA
          obtain ⟨y, hy⟩ : ∃ s, keys[q]? = some s := ⟨_, List.getElem?_eq_getElem (by omega)⟩
          obtain ⟨gk, ok, rfl, hgk, hck⟩ := (hkW.keepN (S := fun _ => False) (Asd.of_below hbr) (fun _ _ _ h => h)).text hy
          have hyl := textOk_len (ky_each hky y (List.mem_of_getElem? hy))
          have KQ := Lib.hid (quote_any y wr (by omega))
          have hql := quote_len y
          rw [hy] at HS
          simp only [Option.getD_some] at HS
          have i2 : (q : Int) < (keys.length : Int) := by omega
          clear hy
          obtain ⟨Qy, hQy⟩ : ∃ B, B = quoteN y := ⟨_, rfl⟩
          rw [← hQy] at KQ hql HS
          clear hQy
          clear hkid hkJ hek hRk hk3 hfk hrk hzk hmem
          obtain ⟨Wk, hWk⟩ : ∃ B, B = wrN d' kid := ⟨_, rfl⟩
          rw [← hWk] at HK hwl HS hws
          clear hWk
          by_cases hq0 : q = 0
          · rw [if_pos hq0] at HS
            have i3 : ¬ (q : Int) > 0 := by omega
            have i4 : ¬ 0 < (q : Int) := by omega
            have i5 : ¬ 0 < q := by omega
            clear hq0
            rw [if_pos trivial] at HS
            have hcq : (⟨Qy.toArray⟩ : ByteArray) ++ ⟨#[58]⟩ = ⟨(Qy ++ [58]).toArray⟩ := cat_text Qy [58]
            have hsq : (⟨Qy.toArray⟩ : ByteArray).size = Qy.length := by simp [ByteArray.size]
            have hlsq : ¬ 9223372036854775807 < Qy.length + 1 := by omega
            obtain ⟨Q1, hQ1⟩ : ∃ B, B = Qy ++ [58] := ⟨_, rfl⟩
            rw [← hQ1] at hcq
            have hlq1 : Q1.length ≤ 1203 := by rw [hQ1]; simp; omega
            have hsq1 : (⟨Q1.toArray⟩ : ByteArray).size = Q1.length := by simp [ByteArray.size]
            have HQ1 : Unit → _ := fun _ => hQ1
            clear hQ1
            have hcb : (⟨A.toArray⟩ : ByteArray) ++ ⟨Q1.toArray⟩ = ⟨(A ++ Q1).toArray⟩ := cat_text A Q1
            have hls2 : ¬ 9223372036854775807 < A.length + Q1.length := by omega
            obtain ⟨A2, hA2⟩ : ∃ B, B = A ++ Q1 := ⟨_, rfl⟩
            rw [← hA2] at hcb
            have hl2 : A2.length ≤ 1003000 := by rw [hA2]; simp; omega
            have hs2 : (⟨A2.toArray⟩ : ByteArray).size = A2.length := by simp [ByteArray.size]
            have HA2 : Unit → _ := fun _ => hA2
            clear hA2
            go_upto_region 14 with fail
            go_wp2_with fail
            refine KQ.out.mono ?_
            rintro e w1 ⟨rfl, hb1⟩
            have KW := Lib.hid (HK.out w1 (hbr.trans (hb1.mono hbr.size)))
            have c4 : w1.cell? ⟨w.heap.size, 4, none⟩ = some (.slice (some ⟨g, o, none⟩) kids.length dc) := by rw [hb1.cell hXl]; exact c4
            replace hkcell : ∀ (j : Nat) u, ck[j]? = some u → w1.cell? ⟨g, o + q * 5 + j, none⟩ = some u := fun j u hu => by rw [hb1.cell hgl]; exact hkcell j u hu
            replace hbr := hbr.trans (hb1.mono hbr.size)
            clear KQ

            have hcw : (⟨A2.toArray⟩ : ByteArray) ++ ⟨Wk.toArray⟩ = ⟨(A2 ++ Wk).toArray⟩ := cat_text A2 Wk
            have hls3 : ¬ 9223372036854775807 < A2.length + Wk.length := by omega
            have HEQ : Unit → T = (A2 ++ Wk) ++ restW (wrN d') 6 keys kids (q + 1) := fun _ => by
              rw [HT (), HS ()]
              rw [HA2 (), HQ1 ()]
              simp
            obtain ⟨A3, hA3⟩ : ∃ B, B = A2 ++ Wk := ⟨_, rfl⟩
            rw [← hA3] at hcw HEQ
            clear HS HT hA3
            go_wp2_with (refine load_doc_at g (o + q * 5) ck hk5 hkcell _ rfl rfl rfl ?_)
            refine KW.out.mono ?_
            rintro e w2 ⟨rfl, hb2⟩
            replace hbr := hbr.trans (hb2.mono hbr.size)
            clear KW hb2
            go_wp2_with fail
            go_roundw
            case rel => exact ⟨q + 1, A3, by omega, by go_num, rfl, HEQ (), hbr⟩
            case measure => simp [intOf]; omega
          · rw [if_neg hq0] at HS
            have i3 : (q : Int) > 0 := by omega
            have i4 : 0 < (q : Int) := by omega
            have i5 : 0 < q := by omega
            clear hq0
            rw [if_pos trivial] at HS
            have hca : (⟨A.toArray⟩ : ByteArray) ++ ⟨#[44]⟩ = ⟨(A ++ [44]).toArray⟩ := cat_text A [44]
            have hls1 : ¬ 9223372036854775807 < A.length + 1 := by omega
            obtain ⟨A1, hA1⟩ : ∃ B, B = A ++ [44] := ⟨_, rfl⟩
            rw [← hA1] at hca
            have hl1 : A1.length ≤ 1000001 := by rw [hA1]; simp; omega
            have hs1 : (⟨A1.toArray⟩ : ByteArray).size = A1.length := by simp [ByteArray.size]
            have HA1 : Unit → _ := fun _ => hA1
            clear hA1

            have hcq : (⟨Qy.toArray⟩ : ByteArray) ++ ⟨#[58]⟩ = ⟨(Qy ++ [58]).toArray⟩ := cat_text Qy [58]
            have hsq : (⟨Qy.toArray⟩ : ByteArray).size = Qy.length := by simp [ByteArray.size]
            have hlsq : ¬ 9223372036854775807 < Qy.length + 1 := by omega
            obtain ⟨Q1, hQ1⟩ : ∃ B, B = Qy ++ [58] := ⟨_, rfl⟩
            rw [← hQ1] at hcq
            have hlq1 : Q1.length ≤ 1203 := by rw [hQ1]; simp; omega
            have hsq1 : (⟨Q1.toArray⟩ : ByteArray).size = Q1.length := by simp [ByteArray.size]
            have HQ1 : Unit → _ := fun _ => hQ1
            clear hQ1
            have hcb : (⟨A1.toArray⟩ : ByteArray) ++ ⟨Q1.toArray⟩ = ⟨(A1 ++ Q1).toArray⟩ := cat_text A1 Q1
            have hls2 : ¬ 9223372036854775807 < A1.length + Q1.length := by omega
            obtain ⟨A2, hA2⟩ : ∃ B, B = A1 ++ Q1 := ⟨_, rfl⟩
            rw [← hA2] at hcb
            have hl2 : A2.length ≤ 1003000 := by rw [hA2]; simp; omega
            have hs2 : (⟨A2.toArray⟩ : ByteArray).size = A2.length := by simp [ByteArray.size]
            have HA2 : Unit → _ := fun _ => hA2
            clear hA2
            go_upto_region 14 with fail
            go_wp2_with fail
            refine KQ.out.mono ?_
            rintro e w1 ⟨rfl, hb1⟩
            have KW := Lib.hid (HK.out w1 (hbr.trans (hb1.mono hbr.size)))
            have c4 : w1.cell? ⟨w.heap.size, 4, none⟩ = some (.slice (some ⟨g, o, none⟩) kids.length dc) := by rw [hb1.cell hXl]; exact c4
            replace hkcell : ∀ (j : Nat) u, ck[j]? = some u → w1.cell? ⟨g, o + q * 5 + j, none⟩ = some u := fun j u hu => by rw [hb1.cell hgl]; exact hkcell j u hu
            replace hbr := hbr.trans (hb1.mono hbr.size)
            clear KQ

            have hcw : (⟨A2.toArray⟩ : ByteArray) ++ ⟨Wk.toArray⟩ = ⟨(A2 ++ Wk).toArray⟩ := cat_text A2 Wk
            have hls3 : ¬ 9223372036854775807 < A2.length + Wk.length := by omega
            have HEQ : Unit → T = (A2 ++ Wk) ++ restW (wrN d') 6 keys kids (q + 1) := fun _ => by
              rw [HT (), HS ()]
              rw [HA2 (), HQ1 (), HA1 ()]
              simp
            obtain ⟨A3, hA3⟩ : ∃ B, B = A2 ++ Wk := ⟨_, rfl⟩
            rw [← hA3] at hcw HEQ
            clear HS HT hA3
            go_wp2_with (refine load_doc_at g (o + q * 5) ck hk5 hkcell _ rfl rfl rfl ?_)
            refine KW.out.mono ?_
            rintro e w2 ⟨rfl, hb2⟩
            replace hbr := hbr.trans (hb2.mono hbr.size)
            clear KW hb2
            go_wp2_with fail
            go_roundw
            case rel => exact ⟨q + 1, A3, by omega, by go_num, rfl, HEQ (), hbr⟩
            case measure => simp [intOf]; omega
        · obtain rfl : q = kids.length := by omega
          rw [rest_end, List.append_nil] at hTA
          subst hTA
          have i1 : ¬ (kids.length : Int) < (kids.length : Int) := by omega
          have hca : (⟨#[123]⟩ : ByteArray) ++ ⟨T.toArray⟩ = ⟨([123] ++ T).toArray⟩ := cat_text [123] T
          have hls1 : ¬ 9223372036854775807 < 1 + T.length := by omega
          obtain ⟨U, hU⟩ : ∃ B, B = [123] ++ T := ⟨_, rfl⟩
          rw [← hU] at hca HR1
          have hul : U.length ≤ 1000001 := by rw [hU]; simp; omega
          have hus : (⟨U.toArray⟩ : ByteArray).size = U.length := by simp [ByteArray.size]
          have hcb : (⟨U.toArray⟩ : ByteArray) ++ ⟨#[125]⟩ = ⟨(U ++ [125]).toArray⟩ := cat_text U [125]
          have hls2 : ¬ 9223372036854775807 < U.length + 1 := by omega
          clear hU
          go_wp2_with fail
          go_ret
          exact ⟨ret_str (by rw [HR1 (), ← hcb]), hbw⟩
theorem rwrite_any (D : Nat) : RwCt D := by
  induction D with
  | zero => exact rwrite_step 0 (fun d e => by omega)
  | succ D ih => exact rwrite_step (D + 1) (fun d e => by
      obtain rfl : D = d := by omega
      exact ih)
-- >>walk
end Go.Proofs.YtbkkcojfgdjbhaaDoor
