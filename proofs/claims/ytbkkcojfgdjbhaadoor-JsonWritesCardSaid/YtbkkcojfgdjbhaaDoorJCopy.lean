/- A value is copied: its keys, its kids. -/
import Derived.Test.YtbkkcojfgdjbhaaDoorJSame
import Derived.Laws.Cover3
namespace Go.Proofs.YtbkkcojfgdjbhaaDoor
open Go.ChangeShapes Go.WideShapes Go.RowKit

theorem clone_keys (P : Nat → Prop) (kv : Value) (keys : List Bs) (w : World) (h : StrsAt P w kv keys) (hl : keys.length ≤ 1000000) :
    Calls Tryd.prog 56 #[kv] w fun e w' => ∃ v', e = .returned v' ∧ StrsAt (fun k => w.heap.size ≤ k) w' v' keys ∧ Below w.heap.size w w' := by
  rcases h with ⟨rfl, a, c, rfl⟩ | ⟨g, o, c, rfl, _, _, _, hc⟩
  · cases a with
    | none =>
      refine (Tryd.slices_Clone_string_nil 0 c w).mono fun e w' h => ?_
      obtain ⟨rfl, rfl⟩ := h
      exact ⟨_, rfl, .inl ⟨rfl, none, 0, rfl⟩, Below.refl _ _⟩
    | some ad =>
      refine (Tryd.slices_Clone_string_zero ad c w).mono fun e w' h => ?_
      obtain ⟨v', rfl, hown, _, hb⟩ := h
      obtain ⟨a', c', rfl, _⟩ := own_slice hown
      exact ⟨_, rfl, .inl ⟨rfl, a', c', rfl⟩, hb⟩
  · refine (Tryd.slices_Clone_string g o keys.length c (keys.map fun s => (⟨s.toArray⟩ : ByteArray)) w (by simp) (by omega) (fun j hj => ?_)).mono fun e w' h => ?_
    · have hj' : j < keys.length := by simpa using hj
      rw [hc j _ (List.getElem?_eq_getElem hj')]
      simp [hj']
    · obtain ⟨v', rfl, hown, _, hb⟩ := h
      rw [List.take_of_length_le (by simp), List.map_map] at hown
      have hs := own_strs hown
      exact ⟨v', rfl, hs.mono (fun i e _ => (hown.lt i e).1), hb⟩
theorem flat_len5 (css : List (List Value)) (h : ∀ cs ∈ css, cs.length = 5) : css.flatten.length = css.length * 5 := by
  induction css with
  | nil => rfl
  | cons a css ih => rw [List.flatten_cons, List.length_append, h a (by simp), ih (fun c hc => h c (by simp [hc])), List.length_cons]; omega
/-- The cells of all kids. -/
theorem kids_cells {P : Nat → Prop} {w : World} {D g o : Nat} : ∀ (kids : List J) (i0 : Nat), (∀ (i : Nat) kid, kids[i]? = some kid → ∃ cs', cs'.length = 5 ∧ (∀ (j : Nat) u, cs'[j]? = some u → w.cell? ⟨g, o + 5 * (i0 + i) + j, none⟩ = some u) ∧ JAt P w D cs' kid) →
    ∃ css : List (List Value), css.length = kids.length ∧ (∀ cs ∈ css, cs.length = 5 ∧ ∀ v ∈ cs, v.oneCell' = true) ∧ (∀ (i j : Nat) cs u, css[i]? = some cs → cs[j]? = some u → w.cell? ⟨g, o + 5 * (i0 + i) + j, none⟩ = some u) ∧ ∀ (i : Nat) cs kid, css[i]? = some cs → kids[i]? = some kid → JAt P w D cs kid := by
  intro kids
  induction kids with
  | nil => intro i0 _; exact ⟨[], rfl, by simp, by simp, by simp⟩
  | cons a kids ih =>
    intro i0 h
    obtain ⟨c0, h5, h6, h7⟩ := h 0 a rfl
    obtain ⟨css, g1, g2, g3, g4⟩ := ih (i0 + 1) (fun i kid hi => by
      obtain ⟨cs', q1, q2, q3⟩ := h (i + 1) kid (by simpa using hi)
      exact ⟨cs', q1, fun j u hu => by rw [show i0 + 1 + i = i0 + (i + 1) by omega]; exact q2 j u hu, q3⟩)
    refine ⟨c0 :: css, by simp [g1], ?_, ?_, ?_⟩
    · intro cs hm
      rcases List.mem_cons.1 hm with rfl | hm
      · exact h7.five
      · exact g2 cs hm
    · intro i j cs u hi hj
      cases i with
      | zero => simp at hi; subst hi; exact h6 j u hj
      | succ i => rw [show i0 + (i + 1) = i0 + 1 + i by omega]; exact g3 i j cs u (by simpa using hi) hj
    · intro i cs kid hi hk
      cases i with
      | zero => simp at hi hk; subst hi hk; exact h7
      | succ i => exact g4 i cs kid (by simpa using hi) (by simpa using hk)
theorem flat_get (css : List (List Value)) (h : ∀ cs ∈ css, cs.length = 5) (x : Nat) (u : Value) (hx : css.flatten[x]? = some u) : ∃ i j cs, x = 5 * i + j ∧ css[i]? = some cs ∧ cs[j]? = some u := by
  induction css generalizing x with
  | nil => simp at hx
  | cons a css ih =>
    have ha := h a (by simp)
    rw [List.flatten_cons] at hx
    by_cases hlt : x < 5
    · rw [List.getElem?_append_left (by omega)] at hx
      exact ⟨0, x, a, by omega, rfl, hx⟩
    · rw [List.getElem?_append_right (by omega), ha] at hx
      obtain ⟨i, j, cs, e, h1, h2⟩ := ih (fun c hc => h c (by simp [hc])) (x - 5) hx
      exact ⟨i + 1, j, cs, by omega, by simpa using h1, h2⟩
/-- What a copy of kids is: its own row, or none. -/
def CloneP (P : Nat → Prop) (D : Nat) (kids : List J) (w : World) (e : Ending) (w' : World) : Prop := ∃ (v' : Value) (css : List (List Value)), e = .returned v' ∧ Below w.heap.size w w' ∧ css.length = kids.length ∧ (∀ cs ∈ css, cs.length = 5 ∧ ∀ v ∈ cs, v.oneCell' = true) ∧ (kids = [] → ∃ a c, v' = .slice a 0 c) ∧ (kids ≠ [] → w'.ownsRow w.heap.size 29 5 v' kids.length css.flatten) ∧ ∀ (i : Nat) cs kid, css[i]? = some cs → kids[i]? = some kid → JAt P w D cs kid
set_option maxHeartbeats 1600000 in
set_option maxRecDepth 100000 in
theorem clone_vals (P : Nat → Prop) (D : Nat) (dv : Value) (kids : List J) (w : World) (h : KidsAt P w D dv kids) (hl : kids.length ≤ 1000000) :
    Calls Tryd.prog 57 #[dv] w (CloneP P D kids w) := by
  obtain ⟨i0, hi, hz0, hz1, hz2⟩ := info_parts info_jval
  have hnil : ∀ (a : Option Addr) (l c : Nat) (w : World), (binOp .eql 27 (.slice a l c) (.slice none 0 0)).run Tryd.prog w = .ok (.bool a.isNone) w := fun a l c w => by
    simp only [binOp]
    simp [run_equal_slice_nil w 27 29 a l c Tryd.underlying27]
  have hown0 : ∀ w : World, (w.alloc (.cells #[] 29)).ownsRow w.heap.size 29 5 (.slice (some ⟨w.heap.size, 0, none⟩) 0 0) 0 [] := fun w => ⟨rfl, .inr ⟨w.heap.size, 0, #[], rfl, Nat.le_refl _, heap_alloc_last w _, Nat.le_refl _, by simp, rfl, rfl⟩⟩
  rcases h with ⟨rfl, a, c, rfl⟩ | ⟨g, o, c, rfl, hp, hlt, hc⟩
  · cases a with
    | none =>
      go_enter Tryd.func57, Tryd.ntmps57
      go_wp2_with fail
      go_ret
      exact ⟨_, [], rfl, Below.refl _ _, rfl, by simp, fun _ => ⟨none, 0, rfl⟩, fun h => absurd rfl h, by simp⟩
    | some ad =>
      go_enter Tryd.func57, Tryd.ntmps57
      go_wp2_with (at_builtin; refine wpList_append_own_at _ rfl _ _ 27 rfl w.heap.size 29 i0 (.agg zero5.toArray) 5 80 Tryd.underlying27 hi hz0 hz1 hz2 rfl (by decide) _ 0 [] rfl (hown0 w) ad 0 c [] rfl rfl (by simp) (by simp) (by unfold maxLen; omega) (by omega) (by simp) ?_)
      intro v' w' h1 h2 _ _
      obtain ⟨a', c', rfl, _⟩ := own_slice h1
      go_wp2_with fail
      go_ret
      refine ⟨_, [], rfl, ?_, rfl, by simp, fun _ => ⟨a', c', rfl⟩, fun h => absurd rfl h, by simp⟩
      exact ((Below.refl _ _).alloc (Nat.le_refl _) _).grown h2 (by simp) (fun k e => by
        have := ((hown0 w).lt k e).1
        exact this)
  · obtain ⟨css, g1, g2, g3, g4⟩ := kids_cells (P := P) (w := w) (D := D) (g := g) (o := o) kids 0 (fun i kid hi => by
      obtain ⟨cs', q1, q2, q3⟩ := hc i kid hi
      exact ⟨cs', q1, fun j u hu => by rw [Nat.zero_add]; exact q2 j u hu, q3⟩)
    have hfl := flat_len5 css (fun c hc => (g2 c hc).1)
    have HG1 : Unit → css.length = kids.length := fun _ => g1
    have hnews : ∀ j u, css.flatten[j]? = some u → (w.alloc (.cells #[] 29)).cell? ((⟨g, o, none⟩ : Addr).add j) = some u := fun x u hx => by
      obtain ⟨i, j, cs, e, h1, h2⟩ := flat_get css (fun c hc => (g2 c hc).1) x u hx
      have := g3 i j cs u h1 h2
      rw [show (⟨g, o, none⟩ : Addr).add x = ⟨g, o + x, none⟩ by unfold Addr.add; split <;> simp_all, show o + x = o + 5 * (0 + i) + j by omega]
      rw [((Below.refl w.heap.size w).alloc (Nat.le_refl _) (.cells #[] 29)).cell hlt]
      exact this
    have hone : ∀ u ∈ css.flatten, u.oneCell' = true := fun u hu => by
      obtain ⟨cs, hcs, hu⟩ := List.mem_flatten.1 hu
      exact (g2 cs hcs).2 u hu
    rw [g1] at hfl
    clear g1
    go_enter Tryd.func57, Tryd.ntmps57
    go_wp2_with (at_builtin; refine wpList_append_own_at _ rfl _ _ 27 rfl w.heap.size 29 i0 (.agg zero5.toArray) 5 80 Tryd.underlying27 hi hz0 hz1 hz2 rfl (by decide) _ 0 [] rfl (hown0 w) ⟨g, o, none⟩ kids.length c css.flatten rfl hfl hnews hone (by unfold maxLen; omega) (by omega) (by simp) ?_)
    intro v' w' h1 h2 _ _
    have hbb : Below w.heap.size w w' := ((Below.refl _ _).alloc (Nat.le_refl _) _).grown h2 (by simp) (fun k e => ((hown0 w).lt k e).1)
    go_wp2_with fail
    go_ret
    refine ⟨_, css, rfl, hbb, HG1 (), g2, fun h0 => ?_, fun _ => h1, g4⟩
    subst h0
    obtain ⟨a', c', e, _⟩ := own_slice h1
    exact ⟨a', c', e⟩
/-- A struct is written into the middle of a row that one owns. -/
theorem own_set {w : World} {base g n cap q : Nat} {css : List (List Value)} {cs : List Value} (h : w.ownsRow base 29 5 (.slice (some ⟨g, 0, none⟩) n cap) n css.flatten) (hl : css.length = n) (hall : ∀ c ∈ css, c.length = 5) (hq : q < n) (hc : cs.length = 5) (h1 : ∀ v ∈ cs, v.oneCell' = true) :
    ∃ w', (storeVar 29 ⟨g, q * 5, none⟩ (.agg cs.toArray)).run Tryd.prog w = .ok () w' ∧ w'.ownsRow base 29 5 (.slice (some ⟨g, 0, none⟩) n cap) n (css.set q cs).flatten ∧ w.grownBy w' (some g) := by
  have hfl := flat_len5 css hall
  have hall2 : ∀ c ∈ css.set q cs, c.length = 5 := fun c hm => by
    rcases List.mem_or_eq_of_mem_set hm with hm | rfl
    · exact hall c hm
    · exact hc
  have hfl2 := flat_len5 (css.set q cs) hall2
  rw [List.length_set] at hfl2
  rcases h.2 with ⟨e, _⟩ | ⟨g', cap', cur, e, hb, hg, hn, hm, hsz, htk⟩
  · cases e
  · injection e with e1 e2 e3
    injection e1 with e1
    injection e1 with e1
    subst e1 e3
    have hrow : q * 5 + cs.length ≤ cur.size := by rw [hsz, hc]; omega
    have hst := run_storeCells_at (P := Tryd.prog) g (q * 5) 29 cs 0 cur w hg (by simpa using hrow) h1
    obtain ⟨i0, hi, _, hz1, _⟩ := info_parts info_jval
    simp only [Nat.add_zero] at hst
    have hlen : (cur.toList.take (q * 5) ++ cs ++ cur.toList.drop (q * 5 + cs.length)).length = cur.size := by
      simp only [List.length_append, List.length_take, List.length_drop, Array.length_toList]; omega
    have htk2 : (cur.toList.take (q * 5) ++ cs ++ cur.toList.drop (q * 5 + cs.length)).take (n * 5) = (css.set q cs).flatten := by
      apply List.ext_getElem?
      intro x
      by_cases hx : x < n * 5
      · rw [List.getElem?_take_of_lt hx]
        have hold : cur.toList[x]? = css.flatten[x]? := by rw [← htk, List.getElem?_take_of_lt hx]
        have hxl : x < (css.set q cs).flatten.length := by rw [hfl2, hl]; exact hx
        obtain ⟨u, hu⟩ : ∃ u, (css.set q cs).flatten[x]? = some u := ⟨_, List.getElem?_eq_getElem hxl⟩
        obtain ⟨i, j, c, e, hci, hcj⟩ := flat_get _ hall2 x u hu
        have hj5 : j < 5 := by
          have := (List.getElem?_eq_some_iff.1 hcj).1
          have := hall2 c (List.mem_of_getElem? hci)
          omega
        rw [hu]
        by_cases hiq : i = q
        · subst hiq
          rw [List.getElem?_set_self (by omega)] at hci
          obtain rfl := Option.some.inj hci
          have hl1 : (cur.toList.take (i * 5)).length = i * 5 := by simp only [List.length_take, Array.length_toList]; omega
          rw [List.append_assoc, List.getElem?_append_right (by omega), List.getElem?_append_left (by omega)]
          have e2 : x - (cur.toList.take (i * 5)).length = j := by simp only [List.length_take, Array.length_toList]; omega
          rw [e2]
          exact hcj
        · rw [List.getElem?_set_ne (by omega)] at hci
          have hcu : css.flatten[x]? = some u := by rw [e]; exact flat_at css hall i j c u hci hcj
          by_cases hlt : i < q
          · rw [List.append_assoc, List.getElem?_append_left (by simp only [List.length_take, Array.length_toList]; omega), List.getElem?_take_of_lt (by omega), hold, hcu]
          · rw [List.getElem?_append_right (by simp only [List.length_append, List.length_take, Array.length_toList]; omega), List.getElem?_drop]
            have e2 : q * 5 + cs.length + (x - (cur.toList.take (q * 5) ++ cs).length) = x := by simp only [List.length_append, List.length_take, Array.length_toList]; omega
            rw [e2, hold, hcu]
      · rw [List.getElem?_eq_none (by simp only [List.length_take]; omega), List.getElem?_eq_none (by rw [hfl2, hl]; omega)]
    generalize cur.toList.take (q * 5) ++ cs ++ cur.toList.drop (q * 5 + cs.length) = F at *
    refine ⟨_, by simpa [storeVar, sizeOf, typeInfo, hi, hz1, Value.cells, hc] using hst, ⟨by rw [hfl2, hl], .inr ⟨g, cap, _, rfl, hb, setRow_heap w g _ _ _ _ hg, hn, hm, by rw [List.size_toArray, hlen]; exact hsz, htk2⟩⟩, ?_⟩
    exact ⟨rfl, rfl, rfl, by rw [setRow_size]; exact Nat.le_refl _, fun k _ hne => setRow_other w g k _ (fun e => hne (by rw [e]))⟩
end Go.Proofs.YtbkkcojfgdjbhaaDoor
