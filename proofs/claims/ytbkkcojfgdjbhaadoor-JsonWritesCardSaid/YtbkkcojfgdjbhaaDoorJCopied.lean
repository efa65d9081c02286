/- A value is copied. -/
import Derived.Test.YtbkkcojfgdjbhaaDoorJCopy
import Derived.Test.YtbkkcojfgdjbhaaDoorJCall
namespace Go.Proofs.YtbkkcojfgdjbhaaDoor
open Go.ChangeShapes Go.WideShapes Go.RowKit

theorem results_cell {fn : Func} {p : Tmp} {ty : TypeId} (h : fn.results = #[.cell p ty]) (tmps : Array Value) (P : Program) (w : World) :
    (results fn tmps).run P w = (do let a ← asAddr (tmps.getD p undef); loadVar ty a : Sem Value).run P w := by
  unfold results
  rw [h]
  simp [Sem.run_bind]
theorem ret_one {fn : Func} {p : Tmp} {a : Act} {w : World} {R : Ending → World → Prop} (g : Nat) (t : TypeId) (cs : List Value) (hr : Rw w g t cs) (hn : cs.length = 5)
    (hf : fn.results = #[.cell p 29]) (hd : a.defers = []) (hp : a.tmps.getD p undef = .pointer (some ⟨g, 0, none⟩)) (h : R (.returned (.agg cs.toArray)) w) : bodyPost Tryd.prog fn R .ret a w := by
  refine bodyPost_ret (v := .agg cs.toArray) ?_ hd h
  rw [results_cell hf, hp]
  have := run_loadVar_row (P := Tryd.prog) w g t 29 cs.toArray (0, 0) _ hr Tryd.underlying29 rfl (by rw [show cs.toArray.size = 5 by simp [hn]]; kernel_rfl)
  simp [asAddr, this]
theorem run_load_val {o : Oper} {a : Act} {w : World} (x : Operand) (ho : o.op = .load 29 x) (g : Nat) (t : TypeId) (cs : List Value) (hr : Rw w g t cs) (hn : cs.length = 5) (hx : a.eval x = .pointer (some ⟨g, 0, none⟩)) : (execOp a.eval o).run Tryd.prog w = .ok (.value (.agg cs.toArray)) w := by
  have := run_loadVar_row (P := Tryd.prog) w g t 29 cs.toArray (0, 0) _ hr Tryd.underlying29 rfl (by rw [show cs.toArray.size = 5 by simp [hn]]; kernel_rfl)
  unfold execOp
  simp only [ho, hx, Instr.loadAt, Instr.sureAddr, Sem.run_bind, Sem.run_pure, Result.andThen_ok, this]
/-- The contract of copied, of values at most D deep. -/
def CCt (D : Nat) : Prop := ∀ (P : Nat → Prop) (cs : List Value) (j : J) (w : World), JAt P w D cs j → Siz D j →
  Calls Tryd.prog 35 #[.agg cs.toArray] w fun e w' => ∃ cs' : List Value, e = .returned (.agg cs'.toArray) ∧ JAt (fun k => w.heap.size ≤ k) w' D cs' j ∧ Below w.heap.size w w'
/-- What lies in memory while kids are copied: the first q are. -/
def CI (d V : Nat) (k n : Int) (s : Bs) (kv dv : Value) (keys : List Bs) (kids : List J) (w : World) (q : Nat) (wr : World) : Prop :=
  ∃ css : List (List Value), css.length = kids.length ∧ (∀ cs ∈ css, cs.length = 5 ∧ ∀ v ∈ cs, v.oneCell' = true) ∧ (kids ≠ [] → wr.ownsRow (V + 2) 29 5 dv kids.length css.flatten) ∧
    (∀ (i : Nat) cs kid, i < q → css[i]? = some cs → kids[i]? = some kid → JAt (fun k => V + 1 < k ∧ (kids ≠ [] → dv.ownBlock ≠ some k)) wr d cs kid) ∧ (∀ (i : Nat) cs kid, q ≤ i → css[i]? = some cs → kids[i]? = some kid → JAt (fun k => k < V) wr d cs kid) ∧
    Rw wr V 29 (cells5 k n s kv dv) ∧ Rw wr (V + 1) 29 zero5 ∧ StrsAt (fun k => V + 1 < k ∧ (kids ≠ [] → dv.ownBlock ≠ some k)) wr kv keys ∧ Below V w wr
theorem CI.done {d V : Nat} {k n : Int} {s : Bs} {kv dv : Value} {keys : List Bs} {kids : List J} {w wr : World} (h : CI d V k n s kv dv keys kids w kids.length wr) (h0 : kids = [] → ∃ a c, dv = .slice a 0 c) : JAt (fun k => V + 1 < k) wr (d + 1) (cells5 k n s kv dv) (.mk k n s keys kids) := by
  obtain ⟨css, h1, h2, h3, h4, _, _, _, h8, _⟩ := h
  refine ⟨kv, dv, rfl, h8.mono (fun i hi _ => hi.1), ?_⟩
  by_cases hk : kids = []
  · exact .inl ⟨hk, h0 hk⟩
  · have hown := h3 hk
    have hc := hown
    rcases hown.2 with ⟨rfl, e0⟩ | ⟨g, cap, cur, rfl, hb, hg, hn, _⟩
    · exact absurd (List.eq_nil_of_length_eq_zero e0) hk
    · refine .inr ⟨g, 0, cap, rfl, by show V + 1 < g; omega, (Array.getElem?_eq_some_iff.1 hg).1, fun i kid hi => ?_⟩
      have hlt : i < css.length := by rw [h1]; exact (List.getElem?_eq_some_iff.1 hi).1
      have hJ := h4 i _ kid (by rw [← h1]; exact hlt) (List.getElem?_eq_getElem hlt) hi
      refine ⟨css[i], hJ.five.1, fun j u hu => ?_, hJ.mono (fun k hk _ => hk.1)⟩
      have hx := hc.cells (g := g) rfl (5 * i + j) u (flat_at css (fun c hc => (h2 c hc).1) i j _ u (List.getElem?_eq_getElem hlt) hu)
      rw [show (⟨g, 0 + 5 * i + j, none⟩ : Addr) = (⟨g, 0, none⟩ : Addr).add (5 * i + j) by unfold Addr.add; split <;> simp_all]
      exact hx
theorem CI.step {d V q g cap : Nat} {k n : Int} {s : Bs} {kv : Value} {keys : List Bs} {kids : List J} {w wr w2 w3 : World} {css : List (List Value)} {cs2 : List Value} {kid : J} {B : Nat}
    (h1 : css.length = kids.length) (h2 : ∀ cs ∈ css, cs.length = 5 ∧ ∀ v ∈ cs, v.oneCell' = true)
    (h4 : ∀ (i : Nat) cs kid, i < q → css[i]? = some cs → kids[i]? = some kid → JAt (fun k => V + 1 < k ∧ (kids ≠ [] → (Value.slice (some ⟨g, 0, none⟩) kids.length cap).ownBlock ≠ some k)) wr d cs kid) (h5 : ∀ (i : Nat) cs kid, q ≤ i → css[i]? = some cs → kids[i]? = some kid → JAt (fun k => k < V) wr d cs kid)
    (h6 : Rw wr V 29 (cells5 k n s kv (.slice (some ⟨g, 0, none⟩) kids.length cap))) (h7 : Rw wr (V + 1) 29 zero5) (h8 : StrsAt (fun k => V + 1 < k ∧ (kids ≠ [] → (Value.slice (some ⟨g, 0, none⟩) kids.length cap).ownBlock ≠ some k)) wr kv keys) (h9 : Below V w wr)
    (hkid : kids[q]? = some kid) (hg : V + 2 ≤ g) (hgl : g < wr.heap.size) (hb2 : Below wr.heap.size wr w2) (hJ2 : JAt (fun k => B ≤ k) w2 d cs2 kid) (hB : wr.heap.size ≤ B) (hown : w3.ownsRow (V + 2) 29 5 (.slice (some ⟨g, 0, none⟩) kids.length cap) kids.length (css.set q cs2).flatten) (hgr : w2.grownBy w3 (some g)) : CI d V k n s kv (.slice (some ⟨g, 0, none⟩) kids.length cap) keys kids w (q + 1) w3 := by
  have hq : q < css.length := by rw [h1]; exact (List.getElem?_eq_some_iff.1 hkid).1
  have hob : (Value.slice (some ⟨g, 0, none⟩) kids.length cap).ownBlock = some g := rfl
  have A2 : Asd (· = g) w2 w3 := (Asd.refl _ _).grown hgr (fun k e => .inl (by injection e with e; exact e.symm))
  have A : Asd (· = g) wr w3 := (Asd.of_below hb2).andThen A2
  have hne : kids ≠ [] := fun e => by rw [e] at hkid; simp at hkid
  have hJ3 := (hJ2.mono (P' := fun k => V + 1 < k ∧ (kids ≠ [] → (Value.slice (some ⟨g, 0, none⟩) kids.length cap).ownBlock ≠ some k)) (fun k hk _ => ⟨by have hk : B ≤ k := hk; omega, fun _ e => by
    have hk : B ≤ k := hk
    rw [hob] at e
    injection e with e
    omega⟩)).keep A2 (fun i hi _ e => hi.2 hne (by rw [hob]; exact congrArg some e.symm))
  refine ⟨css.set q cs2, by rw [List.length_set, h1], ?_, fun _ => hown, ?_, ?_, h6.keep A (by omega), h7.keep A (by omega), h8.keepN A (fun i hi _ e => hi.2 hne (by rw [hob]; exact congrArg some e.symm)), ?_⟩
  · intro cs hm
    rcases List.mem_or_eq_of_mem_set hm with hm | rfl
    · exact h2 cs hm
    · exact hJ2.five
  · intro i cs kd hi hc hk
    by_cases e : i = q
    · subst e
      rw [List.getElem?_set_self hq] at hc
      obtain rfl := Option.some.inj hc
      rw [hkid] at hk
      obtain rfl := Option.some.inj hk
      exact hJ3
    · rw [List.getElem?_set_ne (fun e' => e e'.symm)] at hc
      exact (h4 i cs kd (by omega) hc hk).keep A (fun x hx _ e => hx.2 hne (by rw [hob]; exact congrArg some e.symm))
  · intro i cs kd hi hc hk
    rw [List.getElem?_set_ne (by omega)] at hc
    exact (h5 i cs kd (by omega) hc hk).keep A (fun x hx _ e => by have hx : x < V := hx; omega)
  · have hVs : V ≤ wr.heap.size := by omega
    exact h9.trans (A.toBelow hVs (fun x e => by omega))
set_option maxHeartbeats 3200000 in
set_option maxRecDepth 100000 in
theorem copied_step (D : Nat) (HC : ∀ d, D = d + 1 → CCt d) : CCt D := by
  intro P cs j w hJ hS
  obtain ⟨k, n, s, keys, kids⟩ := j
  replace hJ := hJ.mono (P' := fun k => k < w.heap.size) (fun _ _ h => h)
  obtain ⟨d, kv, dv, rfl, rfl, hkv, hdv⟩ := hJ.open
  obtain ⟨_, hk1, _, hk2, hk3⟩ := hS
  have hz := zero_val
  have rA := Rw.new w 29 (cells5 k n s kv dv)
  have hb1 : Below w.heap.size w (w.alloc (.cells (cells5 k n s kv dv).toArray 29)) := (Below.refl _ _).alloc (Nat.le_refl _) _
  have hsz : (w.alloc (.cells (cells5 k n s kv dv).toArray 29)).heap.size = w.heap.size + 1 := by simp
  have rB := Rw.new (w.alloc (.cells (cells5 k n s kv dv).toArray 29)) 29 zero5
  have hb2 : Below (w.alloc (.cells (cells5 k n s kv dv).toArray 29)).heap.size (w.alloc (.cells (cells5 k n s kv dv).toArray 29)) ((w.alloc (.cells (cells5 k n s kv dv).toArray 29)).alloc (.cells zero5.toArray 29)) := (Below.refl _ _).alloc (Nat.le_refl _) _
  replace rA := rA.stay hb2
  rw [hsz] at rB
  have hb := hb1.trans (hb2.mono hb1.size)
  have hs2 : ((w.alloc (.cells (cells5 k n s kv dv).toArray 29)).alloc (.cells zero5.toArray 29)).heap.size = w.heap.size + 2 := by simp
  clear hb1 hb2 hsz hJ
  go_enter Tryd.func35, Tryd.ntmps35
  go_upto_region 1 with fail
  have HS2 : Unit → _ := fun _ => hs2
  clear hs2
  generalize (w.alloc (.cells (cells5 k n s kv dv).toArray 29)).alloc (.cells zero5.toArray 29) = W at *
  have a3 := Rw.cell rA 3
  change _ = some kv at a3
  have K1 := Lib.hid (clone_keys _ kv keys W (hkv.keepN (S := fun _ => False) (Asd.of_below hb) (fun _ _ _ h => h)) hk1)
  go_wp2_with fail
  refine K1.out.mono ?_
  rintro e w2 ⟨kv2, rfl, hkv2, hb2⟩
  obtain ⟨ka, kc, rfl⟩ : ∃ a c, kv2 = .slice a keys.length c := by
    rcases hkv2 with ⟨rfl, a, c, rfl⟩ | ⟨g, o, c, rfl, _⟩
    · exact ⟨a, c, rfl⟩
    · exact ⟨_, c, rfl⟩
  clear K1 a3
  replace rA := rA.stay hb2
  replace rB := rB.stay hb2
  have a3 := Rw.cell rA 3
  have f3 := Rw.frozen rA 3
  change _ = some kv at a3
  go_upto_region 2 with fail
  clear a3 f3
  have hsz2 := hb2.size
  have hW2 := HS2 ()
  have rA3 := rA.setCell 3 (.slice ka keys.length kc)
  have rB3 := rB.other (k := w.heap.size) (by omega) 3 (.slice ka keys.length kc)
  change Rw _ _ _ (cells5 k n s (.slice ka keys.length kc) dv) at rA3
  have A3 : Asd (fun k => w.heap.size = k) w2 (w2.setCell ⟨w.heap.size, 3, none⟩ (.slice ka keys.length kc)) := (Asd.refl _ _).setCell (p := ⟨w.heap.size, 3, none⟩) (.inl rfl) _
  have hkv3 := hkv2.keepN A3 (fun i hi _ e => by have hi : W.heap.size ≤ i := hi; omega)
  have hbw2 := hb.trans (hb2.mono hb.size)
  have hbw3 := hbw2.trans (A3.toBelow (by omega) (fun k e => by omega))
  have hs3 : w.heap.size + 2 ≤ (w2.setCell ⟨w.heap.size, 3, none⟩ (.slice ka keys.length kc)).heap.size := Nat.le_trans (by omega) A3.size
  have hdv3 := (hdv.stay hbw3)
  clear rA rB A3 hkv2 hbw2 hb2 hdv hkv hb
  generalize w2.setCell ⟨w.heap.size, 3, none⟩ (.slice ka keys.length kc) = w3 at *
  have a4 := Rw.cell rA3 4
  change _ = some dv at a4
  have K2 := Lib.hid (clone_vals _ d dv kids w3 hdv3 hk2)
  clear hdv3 hsz2 hW2
  go_wp2_with fail
  refine K2.out.mono ?_
  rintro e w4 ⟨dv2, css, rfl, hb4, hc1, hc2, hc3, hc4, hc5⟩
  clear K2 a4
  obtain ⟨da, dc, rfl⟩ : ∃ a c, dv2 = .slice a kids.length c := by
    by_cases h0 : kids = []
    · obtain ⟨a, c, rfl⟩ := hc3 h0
      exact ⟨a, c, by rw [h0]; rfl⟩
    · obtain ⟨a, c, rfl, _⟩ := own_slice (hc4 h0)
      exact ⟨a, c, rfl⟩
  replace rA3 := rA3.stay hb4
  replace rB3 := rB3.stay hb4
  have a4 := Rw.cell rA3 4
  have f4 := Rw.frozen rA3 4
  change _ = some dv at a4
  go_upto_region 3 with fail
  clear a4 f4
  have hk4 : CI d w.heap.size k n s (.slice ka keys.length kc) (.slice da kids.length dc) keys kids w 0 (w4.setCell ⟨w.heap.size, 4, none⟩ (.slice da kids.length dc)) := by
    have A4 : Asd (fun k => w.heap.size = k) w4 (w4.setCell ⟨w.heap.size, 4, none⟩ (.slice da kids.length dc)) := (Asd.refl _ _).setCell (p := ⟨w.heap.size, 4, none⟩) (.inl rfl) _
    have hown : ∀ g, kids ≠ [] → (Value.slice da kids.length dc).ownBlock = some g → w3.heap.size ≤ g := fun g h0 e => ((hc4 h0).lt g e).1
    refine ⟨css, hc1, hc2, fun h0 => ?_, fun i cs kid hi => by omega, fun i cs kid _ hc hk => ?_, rA3.setCell 4 _, rB3.other (by omega) 4 _, ?_, ?_⟩
    · have h := hc4 h0
      refine own_asdS (S := fun k => w.heap.size = k) (base := w.heap.size + 2) ?_ A4 (fun i e h => by have := hown i h0 e; omega)
      rcases h with ⟨q1, q2⟩
      refine ⟨q1, ?_⟩
      rcases q2 with q2 | ⟨g, cap, cur, e, q3, q4⟩
      · exact .inl q2
      · exact .inr ⟨g, cap, cur, e, by omega, q4⟩
    · exact ((hc5 i cs kid hc hk).keep (S := fun _ => False) (Asd.of_below hb4) (fun _ _ _ h => h)).keep A4 (fun i hi _ e => by have hi : i < w.heap.size := hi; omega)
    · have h1 := hkv3.mono (P' := fun k => w.heap.size + 1 < k ∧ (kids ≠ [] → (Value.slice da kids.length dc).ownBlock ≠ some k)) (fun i hi hlt => ⟨by have hi : W.heap.size ≤ i := hi; have := HS2 (); omega, fun h0 e => by have := hown i h0 e; omega⟩)
      exact (h1.keepN (S := fun _ => False) (Asd.of_below hb4) (fun _ _ _ h => h)).keepN A4 (fun i hi _ e => by have := hi.1; omega)
    · have hbw4 := hbw3.trans (hb4.mono hbw3.size)
      exact hbw4.trans (A4.toBelow hbw4.size (fun k e => by omega))
  clear hc1 hc2 hc4 hc5 rA3 rB3 hkv3 hb4 hbw3
  generalize w4.setCell ⟨w.heap.size, 4, none⟩ (.slice da kids.length dc) = w5 at *
  have HN : Unit → CI d w.heap.size k n s (.slice ka keys.length kc) (.slice da kids.length dc) keys kids w 0 w5 := fun _ => hk4
  obtain ⟨_, _, _, _, _, _, rV, _⟩ := hk4
  have a4 := Rw.cell rV 4
  change _ = some (Value.slice da kids.length dc) at a4
  clear rV
  go_upto_region 4 with fail
  clear a4
  have HC3 := Lib.hid hc3
  clear hc3
  go_loopw [16] (fun i wr => ∃ q : Nat, q ≤ kids.length ∧ i = .int .i64 (q : Int) ∧ CI d w.heap.size k n s (.slice ka keys.length kc) (.slice da kids.length dc) keys kids w q wr) (fun i _ => kids.length - (intOf i).toNat)
  case atStart => exact ⟨0, by omega, rfl, HN ()⟩
  case round =>
    clear HN
    obtain ⟨q, hq, rfl, hCI⟩ := hrel
    by_cases hlt : q < kids.length
    · obtain ⟨css, h1, h2, h3, h4, h5, h6, h7, h8, h9⟩ := hCI
      have hne : kids ≠ [] := fun e => by rw [e] at hlt; simp at hlt
      have hown := h3 hne
      obtain ⟨g, rfl, hgb, hgl⟩ : ∃ g, da = some ⟨g, 0, none⟩ ∧ w.heap.size + 2 ≤ g ∧ g < wr.heap.size := by
        rcases hown.2 with ⟨e, e0⟩ | ⟨g, cap, cur, e, hb, hg, _⟩
        · exact absurd (List.eq_nil_of_length_eq_zero e0) hne
        · injection e with e1 _ _
          exact ⟨g, e1, hb, (Array.getElem?_eq_some_iff.1 hg).1⟩
      obtain ⟨kid, hkid⟩ : ∃ s, kids[q]? = some s := ⟨_, List.getElem?_eq_getElem hlt⟩
      obtain ⟨cs, hcs⟩ : ∃ s, css[q]? = some s := ⟨_, List.getElem?_eq_getElem (by rw [h1]; exact hlt)⟩
      obtain ⟨hl5, ho5⟩ := h2 cs (List.mem_of_getElem? hcs)
      have hJ := h5 q cs kid (Nat.le_refl _) hcs hkid
      have hcell : ∀ (j : Nat) u, cs[j]? = some u → wr.cell? ⟨g, q * 5 + j, none⟩ = some u := fun j u hu => by
        have hx := hown.cells (g := g) rfl (5 * q + j) u (flat_at css (fun c hc => (h2 c hc).1) q j cs u hcs hu)
        rw [show (⟨g, q * 5 + j, none⟩ : Addr) = (⟨g, 0, none⟩ : Addr).add (5 * q + j) by unfold Addr.add; split <;> simp_all [Nat.mul_comm]]
        exact hx
      have hqi : (q : Int) < (kids.length : Int) := by omega
      have hzk := hk3 kid (List.mem_of_getElem? hkid)
      have HST : Unit → ∀ (w2 w3 : World) (cs2 : List Value) (B : Nat), Below wr.heap.size wr w2 → JAt (fun k => B ≤ k) w2 d cs2 kid → wr.heap.size ≤ B → w3.ownsRow (w.heap.size + 2) 29 5 (.slice (some ⟨g, 0, none⟩) kids.length dc) kids.length (css.set q cs2).flatten → w2.grownBy w3 (some g) → CI d w.heap.size k n s (.slice ka keys.length kc) (.slice (some ⟨g, 0, none⟩) kids.length dc) keys kids w (q + 1) w3 :=
        fun _ w2 w3 cs2 B q1 q2 q3 q4 q5 => CI.step h1 h2 h4 h5 h6 h7 h8 h9 hkid hgb hgl q1 q2 q3 q4 q5
      have HH1 : Unit → css.length = kids.length ∧ ∀ c ∈ css, c.length = 5 := fun _ => ⟨h1, fun c hc => (h2 c hc).1⟩
      have rN := Rw.new wr 29 zero5
      clear hcs hkid h1 h2 h3 h4 h5 h7 h8 h9 hne
      go_upto_region 6 with (first
        | (refine load5_at g (q * 5) cs hl5 hcell _ rfl rfl rfl ?_)
        | (refine store_arr wr.heap.size 29 zero5 rN 5 rfl 29 (by kernel_rfl) cs hl5 ho5 _ _ rfl rfl rfl rfl ?_))
      rw [World.setRow_alloc_new]
      clear rN hcell
      have rT := Rw.new wr 29 cs
      have hbl : Below wr.heap.size wr (wr.alloc (.cells cs.toArray 29)) := (Below.refl _ _).alloc (Nat.le_refl _) _
      replace hown := own_stay hown hbl
      replace h6 := h6.stay hbl
      replace hJ := hJ.keep (S := fun _ => False) (Asd.of_below hbl) (fun _ _ _ h => h)
      have hVl := Rw.lt h6
      have hTl := Rw.lt rT
      have hwq := hbl.size
      have a4 := Rw.cell h6 4
      change _ = some (Value.slice (some ⟨g, 0, none⟩) kids.length dc) at a4
      generalize wr.alloc (.cells cs.toArray 29) = wq at *
      obtain ⟨T, hT⟩ : ∃ T, T = wr.heap.size := ⟨_, rfl⟩
      have hTg : ¬ T = g := by omega
      rw [← hT] at rT hTl ⊢
      clear hT
      refine wp_region_held (S := fun w' => Asd (fun k => k = g) wq w') (by kernel_rfl) ?_
      have hS0 : Below wq.heap.size wq { wq with drawn := wq.drawn + 1 } := (Below.refl _ wq).drew
      have hS : Asd (fun k => k = g) wq { wq with drawn := wq.drawn + 1 } := Asd.of_below hS0
      generalize { wq with drawn := wq.drawn + 1 } = W5 at *
      refine held_val 0 rfl (by kernel_rfl) (by kernel_rfl) (by kernel_rfl) (fun _ _ _ _ h => h) (by rfl) hS ?_
      apply Exists.intro
      refine ⟨fun w' hw' => ?_, ?_⟩
      · skip
        go_simp
        first | done | rfl | exact ⟨rfl, rfl⟩
      simp only [Act.put, List.setIfInBounds_toArray, List.set_cons_zero, List.set_cons_succ]
      refine held_val 1 rfl (by kernel_rfl) (by kernel_rfl) (by kernel_rfl) (fun _ _ _ _ h => h) (by rfl) hS ?_
      apply Exists.intro
      refine ⟨fun w' hw' => ?_, ?_⟩
      · have e1 : w'.cell? ⟨w.heap.size, 4, none⟩ = some (.slice (some ⟨g, 0, none⟩) kids.length dc) := cell_asd hw' (by omega) a4
        go_simp
        first | done | rfl | exact ⟨rfl, rfl⟩
      simp only [Act.put, List.setIfInBounds_toArray, List.set_cons_zero, List.set_cons_succ]
      refine held_val 2 rfl (by kernel_rfl) (by kernel_rfl) (by kernel_rfl) (fun _ _ _ _ h => h) (by rfl) hS ?_
      apply Exists.intro
      refine ⟨fun w' hw' => ?_, ?_⟩
      · skip
        go_simp
        first | done | rfl | exact ⟨rfl, rfl⟩
      simp only [Act.put, List.setIfInBounds_toArray, List.set_cons_zero, List.set_cons_succ]
      refine held_val 3 rfl (by kernel_rfl) (by kernel_rfl) (by kernel_rfl) (fun _ _ _ _ h => h) (by rfl) hS ⟨.agg cs.toArray, fun w' hw' => ?_, ?_⟩
      · exact run_load_val _ rfl T 29 cs (rT.keep hw' hTg) hl5 rfl
      simp only [Act.put, List.setIfInBounds_toArray, List.set_cons_zero, List.set_cons_succ]
      have hJ5 := hJ.keep (S := fun _ => False) (Asd.of_below hS0) (fun _ _ _ h => h)
      refine held_one 4 (by kernel_rfl) rfl (by rfl) ?_
      refine wp_call2 ?_
      apply Exists.intro
      apply Exists.intro
      refine ⟨?_, ?_⟩
      · go_simp
        first | done | rfl | exact ⟨rfl, rfl⟩
      refine (HC d rfl _ cs kid W5 hJ5 hzk).mono ?_
      rintro e w6 ⟨cs2, rfl, hJ6, hb6⟩
      have hW5 := hS0.size
      replace hown := own_stay (own_stay hown hS0) hb6
      replace hS := hS.below hb6
      replace hS0 := hS0.trans (hb6.mono hS0.size)
      refine ⟨_, rfl, hS, ?_⟩
      simp only [Act.put, List.setIfInBounds_toArray, List.set_cons_zero, List.set_cons_succ]
      clear hJ5 hJ rT a4 h6
      refine held_now 5 (by kernel_rfl) rfl (by rfl) hS ?_
      apply Exists.intro
      refine ⟨?_, ?_⟩
      · skip
        go_simp
        first | done | rfl | exact ⟨rfl, rfl⟩
      simp only [Act.put, List.setIfInBounds_toArray, List.set_cons_zero, List.set_cons_succ]
      obtain ⟨h52, ho2⟩ := hJ6.five
      obtain ⟨hh1, hh2⟩ := HH1 ()
      obtain ⟨w7, hst, hown7, hg7⟩ := own_set hown hh1 hh2 hlt h52 ho2
      have hCI7 := HST () w6 w7 cs2 W5.heap.size (hbl.trans (hS0.mono hbl.size)) hJ6 (by omega) hown7 hg7
      refine held_one 6 (by kernel_rfl) rfl (by rfl) ?_
      refine wp_store_val _ _ rfl _ _ rfl rfl hst ?_
      refine ⟨?_, ?_⟩
      · exact hS.grown hg7 (fun x e => .inl (by injection e with e; exact e.symm))
      simp only [Act.put]
      refine wpAnyH_done (by kernel_rfl) ?_ _
      clear hh1 hh2 HST HH1 hst hown7 hg7 hown hS hS0 hb6 hJ6 hbl
      go_wp2_with fail
      go_roundw
      case rel => exact ⟨q + 1, by omega, by go_num, hCI7⟩
      case measure => simp [intOf]; omega
    · obtain rfl : q = kids.length := by omega
      have hD := hCI.done HC3.out
      obtain ⟨_, _, _, _, _, _, rV, rR, _, hbr⟩ := hCI
      have A9 : Asd (fun k => w.heap.size + 1 = k) wr (wr.setRow (w.heap.size + 1) (cells5 k n s (.slice ka keys.length kc) (.slice da kids.length dc)).toArray) := (Asd.refl _ _).setRow (.inl rfl) _
      have hD9 : JAt (fun k => w.heap.size ≤ k) (wr.setRow (w.heap.size + 1) (cells5 k n s (.slice ka keys.length kc) (.slice da kids.length dc)).toArray) (d + 1) (cells5 k n s (.slice ka keys.length kc) (.slice da kids.length dc)) (.mk k n s keys kids) := (hD.keep A9 (fun i hi _ e => by have hi : w.heap.size + 1 < i := hi; omega)).mono (fun i hi _ => by have hi : w.heap.size + 1 < i := hi; show w.heap.size ≤ i; omega)
      go_wp2_with (first
        | (refine load_val w.heap.size 29 _ rV rfl _ rfl rfl rfl ?_)
        | (refine store_arr (w.heap.size + 1) 29 zero5 rR 5 rfl 29 (by kernel_rfl) (cells5 k n s (.slice ka keys.length kc) (.slice da kids.length dc)) rfl (one5 _ _ _ rfl rfl) _ _ rfl rfl rfl rfl ?_))
      refine ret_one (w.heap.size + 1) 29 _ (rR.row _) rfl rfl rfl rfl ?_
      exact ⟨_, rfl, hD9, hbr.trans (A9.toBelow hbr.size (fun k e => by omega))⟩
theorem copied_any (D : Nat) : CCt D := by
  induction D with
  | zero => exact copied_step 0 (fun d e => by omega)
  | succ D ih => exact copied_step (D + 1) (fun d e => by obtain rfl : D = d := by omega
                                                          exact ih)
end Go.Proofs.YtbkkcojfgdjbhaaDoor
