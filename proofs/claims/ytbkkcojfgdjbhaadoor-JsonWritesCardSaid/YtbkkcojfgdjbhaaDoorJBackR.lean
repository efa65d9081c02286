/- back: the walk. -/
import Derived.Test.YtbkkcojfgdjbhaaDoorJOpen
import Derived.Test.YtbkkcojfgdjbhaaDoorJCall
import Derived.Test.YtbkkcojfgdjbhaaDoorJCopied
import Derived.Great.BuildSlice
namespace Go.Proofs.YtbkkcojfgdjbhaaDoor
open Go.ChangeShapes Go.WideShapes Go.RowKit

/-- What is left of the kids at the q-th, c begun. -/
def bkR (m : Nat) (kids : List J) (q c : Nat) : List J × Nat := match m with
  | 0 => ([], c)
  | m + 1 => bkids (backN m) ((kids.take 20).drop q) c
theorem bkR_all (m : Nat) (k n : Int) (s : Bs) (keys : List Bs) (kids : List J) (c : Nat) : backN m (.mk k n s keys kids) c = (.mk k n (s.take 300) (keys.take 20) (bkR m kids 0 c).1, (bkR m kids 0 c).2) := by
  cases m <;> rfl
theorem bkR_end (m : Nat) (kids : List J) (q c : Nat) (h : ¬ q < kids.length ∨ ¬ q < 20 ∨ m = 0 ∨ ¬ c < 450) : bkR m kids q c = ([], c) := by
  cases m with
  | zero => rfl
  | succ m =>
    unfold bkR
    simp only
    by_cases h2 : q < kids.length ∧ q < 20
    · have hc : ¬ c < 450 := by omega
      cases hd : (kids.take 20).drop q with
      | nil => rfl
      | cons a r => unfold bkids; rw [if_neg hc]
    · rw [List.drop_eq_nil_of_le (by rw [List.length_take]; omega)]
      rfl
theorem bkR_step (m : Nat) (kids : List J) (q c : Nat) (kid : J) (hk : kids[q]? = some kid) (h20 : q < 20) (hc : c < 450) :
    bkR (m + 1) kids q c = ((backN m kid (c + 1)).1 :: (bkR (m + 1) kids (q + 1) (backN m kid (c + 1)).2).1, (bkR (m + 1) kids (q + 1) (backN m kid (c + 1)).2).2) := by
  unfold bkR
  simp only
  have hq := (List.getElem?_eq_some_iff.1 hk)
  obtain ⟨hl, he⟩ := hq
  rw [List.drop_eq_getElem_cons (by rw [List.length_take]; omega)]
  have e2 : (kids.take 20)[q]'(by rw [List.length_take]; omega) = kid := by rw [List.getElem_take]; exact he
  rw [e2]
  conv => lhs; unfold bkids
  rw [if_pos hc]
/-- s[:min(len(s), 20)] of keys: the memory is shared. -/
theorem cut_strs {P : Nat → Prop} {w : World} {kv : Value} {keys : List Bs} (h : StrsAt P w kv keys) : ∃ a c, kv = .slice a keys.length c ∧ keys.length ≤ c ∧ StrsAt P w (.slice a (min (keys.length : Int) 20).toNat c) (keys.take 20) := by
  have hm : (min (keys.length : Int) 20).toNat = (keys.take 20).length := by rw [List.length_take]; omega
  rcases h with ⟨rfl, a, c, rfl⟩ | ⟨g, o, c, rfl, hle, hp, hlt, hc⟩
  · exact ⟨a, c, rfl, Nat.zero_le _, .inl ⟨rfl, a, c, by rw [hm]; rfl⟩⟩
  · refine ⟨some ⟨g, o, none⟩, c, rfl, hle, .inr ⟨g, o, c, by rw [hm], by rw [List.length_take]; omega, hp, hlt, fun j s hs => ?_⟩⟩
    refine hc j s ?_
    rw [List.getElem?_take] at hs
    split at hs
    · exact hs
    · simp at hs
theorem info_doc : (Tryd.prog.info? 25).map (fun i => (i.zero, i.size, i.bytes)) = some (some (.agg zero5.toArray), 5, 80) := by kernel_rfl
theorem run_load5d (w : World) (g k : Nat) (cs : List Value) (h5 : cs.length = 5) (hc : ∀ (j : Nat) u, cs[j]? = some u → w.cell? ⟨g, k + j, none⟩ = some u) : (loadVar 25 ⟨g, k, none⟩).run Tryd.prog w = .ok (.agg cs.toArray) w := by
  have hl := run_loadCells_list (P := Tryd.prog) w ⟨g, k, none⟩ cs (fun j v hv => by
    rw [show (⟨g, k, none⟩ : Addr).add j = ⟨g, k + j, none⟩ by unfold Addr.add; split <;> simp_all]; exact hc j v hv)
  obtain ⟨i, hi, _, hs, _⟩ := info_parts info_doc
  have hagg : (isAgg 25).run Tryd.prog w = .ok true w := by
    unfold isAgg
    rw [Sem.run_bind, run_underlying Tryd.underlying25 w]
    simp
  rw [h5] at hl
  simp [loadVar, Sem.run_bind, hagg, sizeOf, typeInfo, hi, hs, hl]
theorem run_load_doc {o : Oper} {a : Act} {w : World} (x : Operand) (ho : o.op = .load 25 x) (g k : Nat) (cs : List Value) (h5 : cs.length = 5) (hc : ∀ (j : Nat) u, cs[j]? = some u → w.cell? ⟨g, k + j, none⟩ = some u) (hx : a.eval x = .pointer (some ⟨g, k, none⟩)) : (execOp a.eval o).run Tryd.prog w = .ok (.value (.agg cs.toArray)) w := by
  unfold execOp
  simp only [ho, hx, Instr.loadAt, Instr.sureAddr, Sem.run_bind, Sem.run_pure, Result.andThen_ok, run_load5d w g k cs h5 hc]

/-- Which blocks the kids that are built may lie in. -/
def BQ (P : Nat → Prop) (V : Nat) (dv : Value) (k : Nat) : Prop := (P k ∧ k < V) ∨ (V + 2 < k ∧ dv.ownBlock ≠ some k)
/-- What lies in memory while kids are built: out, c begun. -/
def BI (P : Nat → Prop) (d V N : Nat) (k n : Int) (s : Bs) (kv dv0 kv2 : Value) (w : World) (c : Nat) (out : List J) (wr : World) : Prop :=
  ∃ (css : List (List Value)) (dv : Value), Rw wr (V + 2) 29 (cells5 k n (s.take 300) kv2 dv) ∧ wr.ownsRow (V + 3) 29 5 dv out.length css.flatten ∧ css.length = out.length ∧
    (∀ (i : Nat) cs kid, css[i]? = some cs → out[i]? = some kid → JAt (BQ P V dv) wr d cs kid) ∧ Rw wr N 3 [.int .i64 (c : Int)] ∧ Rw wr V 25 (cells5 k n s kv dv0) ∧ Rw wr (V + 1) 29 zero5 ∧ Asd (· = N) w wr
theorem KidsAt.keepA {P S : Nat → Prop} {w w' : World} {D : Nat} {dv : Value} {kids : List J} (h : KidsAt P w D dv kids) (k : Asd S w w') (hd : ∀ i, P i → ¬ S i) : KidsAt P w' D dv kids := by
  rcases h with h | ⟨g, o, c, e2, hp, hlt, hc⟩
  · exact .inl h
  · refine .inr ⟨g, o, c, e2, hp, Nat.lt_of_lt_of_le hlt k.size, fun i kid hi => ?_⟩
    obtain ⟨cs', h5, h6, h7⟩ := hc i kid hi
    exact ⟨cs', h5, fun j u hu => cell_asd k (hd g hp) (h6 j u hu), h7.keep k (fun i hi _ => hd i hi)⟩
/-- The value at the end. -/
theorem BI.done {P : Nat → Prop} {d V N : Nat} {k n : Int} {s : Bs} {kv dv0 kv2 : Value} {w wr : World} {c : Nat} {out : List J} {ks : List Bs} (h : BI P d V N k n s kv dv0 kv2 w c out wr) (hV : V = w.heap.size) (hk : StrsAt (fun k => P k ∧ k < V) w kv2 ks) (hPN : ∀ i, P i → i ≠ N) (hN : N < V) :
    ∃ dv, dv.oneCell' = true ∧ Rw wr (V + 2) 29 (cells5 k n (s.take 300) kv2 dv) ∧ Rw wr (V + 1) 29 zero5 ∧ Asd (· = N) w (wr.setRow (V + 1) (cells5 k n (s.take 300) kv2 dv).toArray) ∧
      Rw (wr.setRow (V + 1) (cells5 k n (s.take 300) kv2 dv).toArray) N 3 [.int .i64 (c : Int)] ∧ JAt (fun k => P k ∨ V ≤ k) (wr.setRow (V + 1) (cells5 k n (s.take 300) kv2 dv).toArray) (d + 1) (cells5 k n (s.take 300) kv2 dv) (.mk k n (s.take 300) ks out) := by
  obtain ⟨css, dv, h1, h2, h3, h4, h5, h6, h7, h8⟩ := h
  have A9 : Asd (fun k => V + 1 = k) wr (wr.setRow (V + 1) (cells5 k n (s.take 300) kv2 dv).toArray) := (Asd.refl _ _).setRow (.inl rfl) _
  refine ⟨dv, ?_, h1, h7, h8.trans A9 (fun i e hi => by omega), h5.keep A9 (by omega), ?_⟩
  · obtain ⟨a, cp, rfl, _⟩ := own_slice h2
    rfl
  · have hJ : JAt (fun k => (P k ∧ k < V) ∨ V + 2 < k) wr (d + 1) (cells5 k n (s.take 300) kv2 dv) (.mk k n (s.take 300) ks out) := by
      refine ⟨kv2, dv, rfl, (hk.keepN h8 (fun i hi _ => hPN i hi.1)).mono (fun i hi _ => .inl hi), ?_⟩
      have hc := h2
      rcases h2.2 with ⟨rfl, e0⟩ | ⟨g, cap, cur, rfl, hb, hg, hn, _⟩
      · exact .inl ⟨List.eq_nil_of_length_eq_zero e0, none, 0, rfl⟩
      · refine .inr ⟨g, 0, cap, rfl, .inr (by omega), (Array.getElem?_eq_some_iff.1 hg).1, fun i kid hi => ?_⟩
        have hlt : i < css.length := by rw [h3]; exact (List.getElem?_eq_some_iff.1 hi).1
        have hJ := h4 i _ kid (List.getElem?_eq_getElem hlt) hi
        refine ⟨css[i], hJ.five.1, fun j u hu => ?_, hJ.mono (fun k hk _ => hk.elim .inl (fun h => .inr h.1))⟩
        have hx := hc.cells (g := g) rfl (5 * i + j) u (flat_at css (Kst.fives h3 h4) i j _ u (List.getElem?_eq_getElem hlt) hu)
        rw [show (⟨g, 0 + 5 * i + j, none⟩ : Addr) = (⟨g, 0, none⟩ : Addr).add (5 * i + j) by unfold Addr.add; split <;> simp_all]
        exact hx
    exact (hJ.keep A9 (fun i hi _ e => by rcases hi with hi | hi <;> omega)).mono (fun i hi _ => hi.elim (fun h => .inl h.1) (fun h => .inr (by omega)))
/-- One kid more. -/
theorem BI.next {P : Nat → Prop} {d V N : Nat} {k n : Int} {s : Bs} {kv dv0 kv2 dv dv2 : Value} {w wr w1 w2 w3 w4 : World} {c2 : Nat} {out : List J} {css : List (List Value)} {cs2 : List Value} {kid : J} (hPN : ∀ i, P i → i ≠ N) (hN : N < V)
    (h1 : Rw wr (V + 2) 29 (cells5 k n (s.take 300) kv2 dv)) (h2 : wr.ownsRow (V + 3) 29 5 dv out.length css.flatten) (h3 : css.length = out.length)
    (h4 : ∀ (i : Nat) cs kid, css[i]? = some cs → out[i]? = some kid → JAt (BQ P V dv) wr d cs kid) (h6 : Rw wr V 25 (cells5 k n s kv dv0)) (h7 : Rw wr (V + 1) 29 zero5) (h8 : Asd (· = N) w wr) (hw : w.heap.size = V)
    (A1 : Asd (· = N) wr w1) (A2 : Asd (· = N) w1 w2) (hJ : JAt (fun k => (P k ∧ k < V) ∨ w1.heap.size ≤ k) w2 d cs2 kid) (hn : Rw w2 N 3 [.int .i64 (c2 : Int)]) (hb3 : Below w2.heap.size w2 w3)
    (ho : w4.ownsRow (V + 3) 29 5 dv2 (out.length + 1) (css.flatten ++ cs2)) (hg : w3.grownBy w4 dv.ownBlock) (hloc : dv2.ownBlock = dv.ownBlock ∨ dv2.ownBlock = some w3.heap.size) :
    BI P d V N k n s kv dv0 kv2 w c2 (out ++ [kid]) (w4.setCell ⟨V + 2, 4, none⟩ dv2) := by
  have hob : ∀ i, dv.ownBlock = some i → V + 3 ≤ i ∧ i < wr.heap.size := fun i e => h2.lt i e
  have hsz1 := A1.size
  have hsz2 := A2.size
  have hsz3 := hb3.size
  have A4 : Asd (fun k => dv.ownBlock = some k) w2 w4 := (Asd.of_below hb3).grown hg (fun k e => .inl e)
  have A5 : Asd (fun k => dv.ownBlock = some k ∨ k = V + 2) w2 (w4.setCell ⟨V + 2, 4, none⟩ dv2) := (A4.any (fun i e => .inl e)).setCell (p := ⟨V + 2, 4, none⟩) (.inl (.inr rfl)) _
  have A : Asd (fun k => k = N ∨ dv.ownBlock = some k ∨ k = V + 2) wr (w4.setCell ⟨V + 2, 4, none⟩ dv2) := ((A1.andThen A2).any (S' := fun k => k = N ∨ dv.ownBlock = some k ∨ k = V + 2) (fun i e => .inl e)).trans A5 (fun i e _ => .inr e)
  have r4 : Rw w4 (V + 2) 29 (cells5 k n (s.take 300) kv2 dv) := ((h1.keep A1 (by omega)).keep A2 (by omega)).keep A4 (fun e => by have := hob _ e; omega)
  refine ⟨css ++ [cs2], dv2, r4.setCell 4 dv2, ?_, by simp [h3], fun i cs kd hi hk => ?_, hn.keep A5 ?_, h6.keep A ?_, h7.keep A ?_, ?_⟩
  · have h := ownsRow_setCell_below ho (a := ⟨V + 2, 4, none⟩) (Nat.lt_succ_self (V + 2)) dv2
    simpa using h
  · by_cases hlt : i < out.length
    · rw [List.getElem?_append_left (by omega)] at hi hk
      refine ((h4 i cs kd hi hk).mono (P' := fun k => BQ P V dv k ∧ BQ P V dv2 k) (fun x hx hxl => ⟨hx, ?_⟩)).keep A (fun x hx _ e => ?_) |>.mono (fun x hx _ => hx.2)
      · rcases hx with hx | hx
        · exact .inl hx
        · refine .inr ⟨hx.1, fun e => ?_⟩
          rcases hloc with hl | hl
          · exact hx.2 (hl ▸ e)
          · rw [hl] at e; injection e with e; omega
      · rcases hx.1 with hx | hx
        · rcases e with e | e | e
          · exact hPN x hx.1 e
          · have := hob x e; omega
          · omega
        · rcases e with e | e | e
          · omega
          · exact hx.2 e
          · omega
    · rw [List.getElem?_append_right (by omega)] at hi hk
      have h0 : i - css.length = 0 := by
        have := (List.getElem?_eq_some_iff.1 hi).1
        simp at this; omega
      rw [h0] at hi
      rw [← h3, h0] at hk
      simp at hi hk
      subst hi hk
      refine (hJ.mono (P' := fun k => (BQ P V dv2 k) ∧ ((P k ∧ k < V) ∨ w1.heap.size ≤ k)) (fun x hx hxl => ⟨?_, hx⟩)).keep A5 (fun x hx _ e => ?_) |>.mono (fun x hx _ => hx.1)
      · rcases hx with hx | hx
        · exact .inl hx
        · refine .inr ⟨by have := Rw.lt h1; omega, fun e => ?_⟩
          rcases hloc with hl | hl
          · have := hob x (hl ▸ e); omega
          · rw [hl] at e; injection e with e; omega
      · have := Rw.lt h1
        rcases hx.2 with hx | hx
        · rcases e with e | e
          · have := hob x e; omega
          · omega
        · rcases e with e | e
          · have := hob x e; omega
          · omega
  · rintro (e | e)
    · have := hob _ e; omega
    · omega
  · rintro (e | e | e)
    · omega
    · have := hob _ e; omega
    · omega
  · rintro (e | e | e)
    · omega
    · have := hob _ e; omega
    · omega
  · exact h8.trans A (fun i e hi => by
      rcases e with e | e | e
      · exact e
      · have := hob _ e; omega
      · omega)
theorem wp_look {o : Oper} {a : Act} {w : World} {K : Act → World → Prop} {Q : Exit → Act → World → Prop} (v : Value) (h1 : (execOp a.eval o).run Tryd.prog w = .ok (.value v) w) (h : K (a.put o.dst v) w) : o.wp Tryd.prog a w K Q := by
  unfold Oper.wp
  rw [h1]
  exact h
theorem wp_one_val {o : Oper} {a : Act} {w : World} {K : Act → World → Prop} {Q : Exit → Act → World → Prop} (x : Operand) (ho : o.op = .buildSlice 27 1 #[(0, x)]) (cs : List Value) (h5 : cs.length = 5) (hx : a.eval x = .agg cs.toArray)
    (h : K (a.put o.dst (.slice (some ⟨w.heap.size, 0, none⟩) 1 1)) (w.alloc (.cells cs.toArray 29))) : o.wp Tryd.prog a w K Q := by
  obtain ⟨i0, hi, hz0, hz1, _⟩ := info_parts info_jval
  refine wp_buildSlice 27 29 1 _ ho cs.toArray i0 _ Tryd.underlying27 hi hz0 (by rw [hz1]; decide) (by rw [hz1]; decide) ?_ h
  rw [hz1]
  simp only [List.map_toArray, List.map_cons, List.map_nil, hx]
  rw [show Array.range (1 * 5) = #[0, 1, 2, 3, 4] by kernel_rfl]
  match cs, h5 with
  | [a, b, c, d, e], _ => simp [Instr.fill, Value.cells, zero5, cells5]
theorem wp_own_at {o : Oper} {a : Act} {w : World} {K : Act → World → Prop} {Q : Exit → Act → World → Prop} (s x : Operand) (ho : o.op = .call { callee := .builtin .append, args := #[s, x], argTypes := #[27, 27] })
    (base : Nat) (v : Value) (n : Nat) (xs : List Value) (hs : a.eval s = v) (hown : w.ownsRow base 29 5 v n xs) (g : Nat) (news : List Value) (hx : a.eval x = .slice (some ⟨g, 0, none⟩) 1 1) (hl : news.length = 5) (hr : Rw w g 29 news) (h1 : ∀ u ∈ news, u.oneCell' = true) (hn : n ≤ 1000) (hbase : base ≤ w.heap.size)
    (h : ∀ v' w', w'.ownsRow base 29 5 v' (n + 1) (xs ++ news) → w.grownBy w' v.ownBlock → (v'.ownBlock = v.ownBlock ∨ v'.ownBlock = some w.heap.size) → K (a.put o.dst v') w') : o.wp Tryd.prog a w K Q := by
  obtain ⟨i0, hi, hz0, hz1, hz2⟩ := info_parts info_jval
  obtain ⟨v', w', hr, h2, h3, _, h5⟩ := run_append_own_at (P := Tryd.prog) w base 27 o.type 29 i0 _ 5 80 Tryd.underlying27 hi hz0 hz1 hz2 rfl (by decide) v n xs hown ⟨g, 0, none⟩ 1 1 news hl (fun j u hu => by
      rw [show (⟨g, 0, none⟩ : Addr).add j = ⟨g, j, none⟩ by unfold Addr.add; split <;> simp_all, Rw.cell hr j]
      exact hu) h1 (by unfold maxLen; omega) (by omega) hbase
  unfold Oper.wp execOp
  simp only [ho, resolve, invoke, builtin, Sem.run_bind, Sem.run_pure, Result.andThen_ok, List.map_toArray, List.map_cons, List.map_nil, hs, hx, hr]
  exact h v' w' h2 h3 h5
/-- The contract: m: how many lists and objects more may be within one another; c: how many values were begun. -/
def BCt (m : Nat) : Prop := ∀ (P : Nat → Prop) (D : Nat) (cs : List Value) (j : J) (c N : Nat) (w : World), JAt P w D cs j → (∀ i, P i → i ≠ N) → c ≤ 450 → Rw w N 3 [.int .i64 (c : Int)] →
  Calls Tryd.prog 12 #[.agg cs.toArray, .int .i64 (9 - (m : Int)), .pointer (some ⟨N, 0, none⟩)] w fun e w' => ∃ cs' : List Value, e = .returned (.agg cs'.toArray) ∧ JAt (fun k => P k ∨ w.heap.size ≤ k) w' (m + 1) cs' (backN m j c).1 ∧ Rw w' N 3 [.int .i64 ((backN m j c).2 : Int)] ∧ Asd (· = N) w w'
set_option maxHeartbeats 3200000 in
set_option maxRecDepth 100000 in
theorem back_step (m : Nat) (hm9 : m ≤ 9) (HB : ∀ d, m = d + 1 → BCt d) : BCt m := by
  intro P D cs j c N w hJ hPN hc hN
  obtain ⟨k, n, s, keys, kids⟩ := j
  obtain ⟨z, hz9⟩ : ∃ z : Int, z = 9 - (m : Int) := ⟨_, rfl⟩
  rw [← hz9]
  have HZ : Unit → z = 9 - (m : Int) := fun _ => hz9
  clear hz9
  have hJ0 := hJ.mono (P' := fun k => P k ∧ k < w.heap.size) (fun _ h h2 => ⟨h, h2⟩)
  clear hJ
  obtain ⟨d, kv, dv0, rfl, rfl, hkv, hdv⟩ := hJ0.open
  obtain ⟨ka, kc, rfl, hkc, hcut⟩ := cut_strs hkv
  have hz := zero_val
  have rA := Rw.new w 25 (cells5 k n s (.slice ka keys.length kc) dv0)
  have hb1 : Below w.heap.size w (w.alloc (.cells (cells5 k n s (.slice ka keys.length kc) dv0).toArray 25)) := (Below.refl _ _).alloc (Nat.le_refl _) _
  have hsz : (w.alloc (.cells (cells5 k n s (.slice ka keys.length kc) dv0).toArray 25)).heap.size = w.heap.size + 1 := by simp
  have rB := Rw.new (w.alloc (.cells (cells5 k n s (.slice ka keys.length kc) dv0).toArray 25)) 29 zero5
  have hb2 : Below (w.alloc (.cells (cells5 k n s (.slice ka keys.length kc) dv0).toArray 25)).heap.size (w.alloc (.cells (cells5 k n s (.slice ka keys.length kc) dv0).toArray 25)) ((w.alloc (.cells (cells5 k n s (.slice ka keys.length kc) dv0).toArray 25)).alloc (.cells zero5.toArray 29)) := (Below.refl _ _).alloc (Nat.le_refl _) _
  replace rA := rA.stay hb2
  rw [hsz] at rB
  have hb := hb1.trans (hb2.mono hb1.size)
  have hs2 : ((w.alloc (.cells (cells5 k n s (.slice ka keys.length kc) dv0).toArray 25)).alloc (.cells zero5.toArray 29)).heap.size = w.heap.size + 2 := by simp
  clear hb1 hb2 hsz hJ0
  have hs0 : (⟨s.toArray⟩ : ByteArray).size = s.length := by simp [ByteArray.size]
  have hx := take_early2 s 300 300 rfl
  go_enter Tryd.func12, Tryd.ntmps12
  go_upto_region 1 with fail
  generalize (w.alloc (.cells (cells5 k n s (.slice ka keys.length kc) dv0).toArray 25)).alloc (.cells zero5.toArray 29) = W at *
  have a0 := Rw.cell rA 0
  change _ = some (Value.int .i64 k) at a0
  have a1 := Rw.cell rA 1
  change _ = some (Value.int .i64 n) at a1
  have a2 := Rw.cell rA 2
  change _ = some (Value.string ⟨s.toArray⟩) at a2
  have a3 := Rw.cell rA 3
  change _ = some (Value.slice ka keys.length kc) at a3
  have hV := Rw.lt rA
  have HS2 : Unit → _ := fun _ => hs2
  clear hs2
  refine wp_region_held (S := fun w' => Below W.heap.size W w') (by kernel_rfl) ?_
  have hS : Below W.heap.size W { W with drawn := W.drawn + 1 } := (Below.refl _ W).drew
  have HW1 : Unit → { W with drawn := W.drawn + 1 }.heap.size = w.heap.size + 2 := fun _ => HS2 ()
  generalize { W with drawn := W.drawn + 1 } = W1 at *
  refine held_val 0 rfl (by kernel_rfl) (by kernel_rfl) (by kernel_rfl) (fun _ _ _ _ h => h) (by rfl) hS ?_
  apply Exists.intro
  refine ⟨fun w' hw' => ?_, ?_⟩
  · skip
    go_simp
    first | done | rfl | exact ⟨rfl, rfl⟩
  simp only [Act.put, List.setIfInBounds_toArray, List.set_cons_zero, List.set_cons_succ]
  refine held_val 1 rfl (by kernel_rfl) (by kernel_rfl) (by kernel_rfl) (fun _ _ _ _ h => h) (by rfl) hS ?_
  apply Exists.intro
  refine ⟨fun w' hw' => ?_, ?_⟩
  · have e0 : w'.cell? ⟨w.heap.size, 0, none⟩ = some (.int .i64 k) := (hw'.cell hV).trans a0
    go_simp
    first | done | rfl | exact ⟨rfl, rfl⟩
  simp only [Act.put, List.setIfInBounds_toArray, List.set_cons_zero, List.set_cons_succ]
  refine held_val 2 rfl (by kernel_rfl) (by kernel_rfl) (by kernel_rfl) (fun _ _ _ _ h => h) (by rfl) hS ?_
  apply Exists.intro
  refine ⟨fun w' hw' => ?_, ?_⟩
  · skip
    go_simp
    first | done | rfl | exact ⟨rfl, rfl⟩
  simp only [Act.put, List.setIfInBounds_toArray, List.set_cons_zero, List.set_cons_succ]
  refine held_val 3 rfl (by kernel_rfl) (by kernel_rfl) (by kernel_rfl) (fun _ _ _ _ h => h) (by rfl) hS ?_
  apply Exists.intro
  refine ⟨fun w' hw' => ?_, ?_⟩
  · have e0 : w'.cell? ⟨w.heap.size, 1, none⟩ = some (.int .i64 n) := (hw'.cell hV).trans a1
    go_simp
    first | done | rfl | exact ⟨rfl, rfl⟩
  simp only [Act.put, List.setIfInBounds_toArray, List.set_cons_zero, List.set_cons_succ]
  refine held_val 4 rfl (by kernel_rfl) (by kernel_rfl) (by kernel_rfl) (fun _ _ _ _ h => h) (by rfl) hS ?_
  apply Exists.intro
  refine ⟨fun w' hw' => ?_, ?_⟩
  · skip
    go_simp
    first | done | rfl | exact ⟨rfl, rfl⟩
  simp only [Act.put, List.setIfInBounds_toArray, List.set_cons_zero, List.set_cons_succ]
  refine held_val 5 rfl (by kernel_rfl) (by kernel_rfl) (by kernel_rfl) (fun _ _ _ _ h => h) (by rfl) hS ?_
  apply Exists.intro
  refine ⟨fun w' hw' => ?_, ?_⟩
  · have e0 : w'.cell? ⟨w.heap.size, 2, none⟩ = some (.string ⟨s.toArray⟩) := (hw'.cell hV).trans a2
    go_simp
    first | done | rfl | exact ⟨rfl, rfl⟩
  simp only [Act.put, List.setIfInBounds_toArray, List.set_cons_zero, List.set_cons_succ]
  refine held_val 6 rfl (by kernel_rfl) (by kernel_rfl) (by kernel_rfl) (fun _ _ _ _ h => h) (by rfl) hS ?_
  apply Exists.intro
  refine ⟨fun w' hw' => ?_, ?_⟩
  · skip
    go_simp
    first | done | rfl | exact ⟨rfl, rfl⟩
  simp only [Act.put, List.setIfInBounds_toArray, List.set_cons_zero, List.set_cons_succ]
  refine held_val 7 rfl (by kernel_rfl) (by kernel_rfl) (by kernel_rfl) (fun _ _ _ _ h => h) (by rfl) hS ?_
  apply Exists.intro
  refine ⟨fun w' hw' => ?_, ?_⟩
  · have e0 : w'.cell? ⟨w.heap.size, 2, none⟩ = some (.string ⟨s.toArray⟩) := (hw'.cell hV).trans a2
    go_simp
    first | done | rfl | exact ⟨rfl, rfl⟩
  simp only [Act.put, List.setIfInBounds_toArray, List.set_cons_zero, List.set_cons_succ]
  refine held_val 8 rfl (by kernel_rfl) (by kernel_rfl) (by kernel_rfl) (fun _ _ _ _ h => h) (by rfl) hS ?_
  apply Exists.intro
  refine ⟨fun w' hw' => ?_, ?_⟩
  · skip
    go_simp
    first | done | rfl | exact ⟨rfl, rfl⟩
  simp only [Act.put, List.setIfInBounds_toArray, List.set_cons_zero, List.set_cons_succ]
  refine held_val 9 rfl (by kernel_rfl) (by kernel_rfl) (by kernel_rfl) (fun _ _ _ _ h => h) (by rfl) hS ?_
  apply Exists.intro
  refine ⟨fun w' hw' => ?_, ?_⟩
  · skip
    go_simp
    first | done | rfl | exact ⟨rfl, rfl⟩
  simp only [Act.put, List.setIfInBounds_toArray, List.set_cons_zero, List.set_cons_succ]
  have hm0 : (0 : Int) ≤ min (s.length : Int) 300 := by omega
  have hm1 : min (s.length : Int) 300 ≤ (s.length : Int) := by omega
  refine held_val 10 rfl (by kernel_rfl) (by kernel_rfl) (by kernel_rfl) (fun _ _ _ _ h => h) (by rfl) hS ⟨.string ⟨(s.take 300).toArray⟩, fun w' hw' => ?_, ?_⟩
  · go_simp
  simp only [Act.put, List.setIfInBounds_toArray, List.set_cons_zero, List.set_cons_succ]
  clear hm0 hm1 hx hs0
  refine held_val 11 rfl (by kernel_rfl) (by kernel_rfl) (by kernel_rfl) (fun _ _ _ _ h => h) (by rfl) hS ?_
  apply Exists.intro
  refine ⟨fun w' hw' => ?_, ?_⟩
  · skip
    go_simp
    first | done | rfl | exact ⟨rfl, rfl⟩
  simp only [Act.put, List.setIfInBounds_toArray, List.set_cons_zero, List.set_cons_succ]
  refine held_val 12 rfl (by kernel_rfl) (by kernel_rfl) (by kernel_rfl) (fun _ _ _ _ h => h) (by rfl) hS ?_
  apply Exists.intro
  refine ⟨fun w' hw' => ?_, ?_⟩
  · have e0 : w'.cell? ⟨w.heap.size, 3, none⟩ = some (.slice ka keys.length kc) := (hw'.cell hV).trans a3
    go_simp
    first | done | rfl | exact ⟨rfl, rfl⟩
  simp only [Act.put, List.setIfInBounds_toArray, List.set_cons_zero, List.set_cons_succ]
  refine held_val 13 rfl (by kernel_rfl) (by kernel_rfl) (by kernel_rfl) (fun _ _ _ _ h => h) (by rfl) hS ?_
  apply Exists.intro
  refine ⟨fun w' hw' => ?_, ?_⟩
  · skip
    go_simp
    first | done | rfl | exact ⟨rfl, rfl⟩
  simp only [Act.put, List.setIfInBounds_toArray, List.set_cons_zero, List.set_cons_succ]
  refine held_val 14 rfl (by kernel_rfl) (by kernel_rfl) (by kernel_rfl) (fun _ _ _ _ h => h) (by rfl) hS ?_
  apply Exists.intro
  refine ⟨fun w' hw' => ?_, ?_⟩
  · have e0 : w'.cell? ⟨w.heap.size, 3, none⟩ = some (.slice ka keys.length kc) := (hw'.cell hV).trans a3
    go_simp
    first | done | rfl | exact ⟨rfl, rfl⟩
  simp only [Act.put, List.setIfInBounds_toArray, List.set_cons_zero, List.set_cons_succ]
  refine held_val 15 rfl (by kernel_rfl) (by kernel_rfl) (by kernel_rfl) (fun _ _ _ _ h => h) (by rfl) hS ?_
  apply Exists.intro
  refine ⟨fun w' hw' => ?_, ?_⟩
  · skip
    go_simp
    first | done | rfl | exact ⟨rfl, rfl⟩
  simp only [Act.put, List.setIfInBounds_toArray, List.set_cons_zero, List.set_cons_succ]
  refine held_val 16 rfl (by kernel_rfl) (by kernel_rfl) (by kernel_rfl) (fun _ _ _ _ h => h) (by rfl) hS ?_
  apply Exists.intro
  refine ⟨fun w' hw' => ?_, ?_⟩
  · skip
    go_simp
    first | done | rfl | exact ⟨rfl, rfl⟩
  simp only [Act.put, List.setIfInBounds_toArray, List.set_cons_zero, List.set_cons_succ]
  have hm0 : (0 : Int) ≤ min (keys.length : Int) 20 := by omega
  have hm1 : min (keys.length : Int) 20 ≤ (kc : Int) := by omega
  refine held_val 17 rfl (by kernel_rfl) (by kernel_rfl) (by kernel_rfl) (fun _ _ _ _ h => h) (by rfl) hS ⟨.slice ka (min (keys.length : Int) 20).toNat kc, fun w' hw' => ?_, ?_⟩
  · go_simp
  simp only [Act.put, List.setIfInBounds_toArray, List.set_cons_zero, List.set_cons_succ]
  clear hm0 hm1
  refine held_val 18 rfl (by kernel_rfl) (by kernel_rfl) (by kernel_rfl) (fun _ _ _ _ h => h) (by rfl) hS ⟨.agg (cells5 k n (s.take 300) (.slice ka (min (keys.length : Int) 20).toNat kc) (.slice none 0 0)).toArray, fun w' hw' => ?_, ?_⟩
  · go_simp
    rfl
  simp only [Act.put, List.setIfInBounds_toArray, List.set_cons_zero, List.set_cons_succ]
  clear a0 a1 a2 a3
  refine held_one 19 (by kernel_rfl) rfl (by rfl) ?_
  unfold Oper.wp
  go_simp
  have rN := Rw.new W1 29 zero5
  have hS2 : Below W.heap.size W (W1.alloc (.cells zero5.toArray 29)) := hS.alloc hS.size _
  refine ⟨hS2, ?_⟩
  refine held_one 20 (by kernel_rfl) rfl (by rfl) ?_
  refine wp_store_val _ _ rfl _ _ rfl rfl (run_storeVar_row _ _ 29 _ _ _ rN (by kernel_rfl) rfl (by rw [Array.all_eq_true_iff_forall_mem]; intro v hv; exact one5 _ _ _ rfl rfl v (by simpa using hv))) ?_
  rw [World.setRow_alloc_new]
  have hS3 : Below W.heap.size W (W1.alloc (.cells (cells5 k n (s.take 300) (.slice ka (min (keys.length : Int) 20).toNat kc) (.slice none 0 0)).toArray 29)) := hS.alloc hS.size _
  have rO := Rw.new W1 29 (cells5 k n (s.take 300) (.slice ka (min (keys.length : Int) 20).toNat kc) (.slice none 0 0))
  refine ⟨hS3, ?_⟩
  simp only [Act.put]
  refine wpAnyH_done (by kernel_rfl) ?_ _
  clear hS hS2 rN
  rw [HW1 ()] at rO ⊢
  generalize W1.alloc (.cells (cells5 k n (s.take 300) (.slice ka (min (keys.length : Int) 20).toNat kc) (.slice none 0 0)).toArray 29) = W2 at *
  clear HW1
  have hV0 := HS2 ()
  have hbW : Below w.heap.size w W2 := hb.trans (hS3.mono hb.size)
  have hNl := Rw.lt hN
  have hBI : BI P m w.heap.size N k n s (.slice ka keys.length kc) dv0 (.slice ka (min (keys.length : Int) 20).toNat kc) w c [] W2 :=
    ⟨[], _, rO, ⟨rfl, .inl ⟨rfl, rfl⟩⟩, rfl, fun i cs kid h => by simp at h, hN.stay hbW, rA.stay hS3, rB.stay hS3, Asd.of_below hbW⟩
  have HBI : Unit → _ := fun _ => hBI
  have HK : Unit → _ := fun _ => And.intro hcut hdv
  clear rO rA rB hS3 hb hV hBI hcut hdv HS2 hV0 hkv hbW hN
  have hall := Lib.hid (bkR_all m k n s keys kids c)
  go_upto_region 3 with fail
  go_loopw [8] (fun i wr => ∃ (q : Nat) (out : List J) (c' : Nat), q ≤ 20 ∧ i = .int .i64 (q : Int) ∧ out.length = q ∧ q ≤ kids.length ∧ c' ≤ 450 ∧ bkR m kids 0 c = (out ++ (bkR m kids q c').1, (bkR m kids q c').2) ∧ BI P m w.heap.size N k n s (.slice ka keys.length kc) dv0 (.slice ka (min (keys.length : Int) 20).toNat kc) w c' out wr) (fun i _ => 20 - (intOf i).toNat)
  case atStart => exact ⟨0, [], c, by omega, rfl, rfl, by omega, hc, by simp, HBI ()⟩
  case round =>
    clear HBI
    obtain ⟨q, out, c', hq20, rfl, hout, hqk, hc', heq, hBI⟩ := hrel
    have HBI : Unit → _ := fun _ => hBI
    obtain ⟨css, dv, h1, h2, h3, h4, h5, h6, h7, h8⟩ := hBI
    have b4 := Rw.cell h6 4
    change _ = some dv0 at b4
    have n0 := Rw.cell h5 0
    have nf := Rw.frozen h5 0
    change _ = some (Value.int .i64 (c' : Int)) at n0
    have hKr := (HK ()).2.keepA h8 (fun i hi => hPN i hi.1)
    by_cases hgo : q < kids.length ∧ q < 20 ∧ m ≠ 0 ∧ c' < 450
    · obtain ⟨g1, g2, g3, g4⟩ := hgo
      obtain ⟨m', rfl⟩ : ∃ m', m = m' + 1 := ⟨m - 1, by omega⟩
      rcases hKr with ⟨e, _⟩ | ⟨g, o, cD, rfl, hpg, hgl, hkc'⟩
      · subst e; simp at g1
      obtain ⟨kid, hkid⟩ : ∃ x, kids[q]? = some x := ⟨_, List.getElem?_eq_getElem g1⟩
      obtain ⟨ck, hk5, hkcell, hkJ⟩ := hkc' q kid hkid
      have i1 : (q : Int) < (kids.length : Int) := by omega
      have i2 : (q : Int) < 20 := by omega
      have i3 : z < 9 := by have := HZ (); omega
      have i4 : (c' : Int) < 450 := by omega
      have HO : Unit → out.length = q := fun _ => hout
      clear hout
      have HX : Unit → _ := fun _ => And.intro h1 (And.intro h2 (And.intro h3 (And.intro h4 (And.intro h6 (And.intro h7 h8)))))
      have HY : Unit → _ := fun _ => And.intro hk5 (And.intro hkcell hkJ)
      clear h1 h2 h3 h4 h6 h7 h8 hkc' hk5 hkcell hkJ
      go_upto_region 6 with fail
      have A1 : Asd (· = N) wr (wr.setCell ⟨N, 0, none⟩ (.int .i64 ((c' : Int) + 1))) := Asd.one wr N 0 _
      have n1 := h5.setCell 0 (.int .i64 ((c' : Int) + 1))
      change Rw _ N 3 [.int .i64 ((c' + 1 : Nat) : Int)] at n1
      clear n0 nf b4 h5
      generalize wr.setCell ⟨N, 0, none⟩ (.int .i64 ((c' : Int) + 1)) = wq at *
      obtain ⟨h1, h2, h3, h4, h6, h7, h8⟩ := HX ()
      obtain ⟨hk5, hkcell, hkJ⟩ := HY ()
      have hgV : g < w.heap.size ∧ g ≠ N := ⟨hpg.2, hPN g hpg.1⟩
      have hob : ∀ i, dv.ownBlock = some i → w.heap.size + 3 ≤ i := fun i e => (h2.lt i e).1
      have b4 := Rw.cell (h6.keep A1 (by omega)) 4
      change _ = some (Value.slice (some ⟨g, o, none⟩) kids.length cD) at b4
      have hkq : ∀ (j : Nat) u, ck[j]? = some u → wq.cell? ⟨g, o + q * 5 + j, none⟩ = some u := fun j u hu => by
        rw [Nat.mul_comm]
        exact cell_asd A1 hgV.2 (hkcell j u hu)
      have hJq := hkJ.keep A1 (fun i hi _ => hPN i hi.1)
      have hOq := h1.keep A1 (by omega)
      have hNX := fun (_ : Unit) (w2 w3 w4 : World) (cs2 : List Value) (dv2 : Value) => BI.next (w2 := w2) (w3 := w3) (w4 := w4) (cs2 := cs2) (dv2 := dv2) (d := m' + 1) (c2 := (backN m' kid (c' + 1)).2) (kid := (backN m' kid (c' + 1)).1) (kv := .slice ka keys.length kc) (w1 := { wq with drawn := wq.drawn + 1 }) hPN hNl h1 h2 h3 h4 h6 h7 h8 rfl (A1.below (Below.refl _ _).drew)
      have h2q := own_asdS h2 A1 (fun i e e2 => by have := hob i e; omega)
      have hl20 : out.length ≤ 1000 := by have := HO (); omega
      obtain ⟨ad, cap, rfl, hcap⟩ := own_slice h2
      clear h1 h2 h3 h4 h6 h7 h8 hkcell hkJ A1 HX HY
      refine wp_region_held (S := fun w' => Asd (fun k => k = N ∨ (Value.slice ad out.length cap).ownBlock = some k ∨ k = w.heap.size + 2) wq w') (by kernel_rfl) ?_
      have hS0 : Below wq.heap.size wq { wq with drawn := wq.drawn + 1 } := (Below.refl _ wq).drew
      have hS : Asd (fun k => k = N ∨ (Value.slice ad out.length cap).ownBlock = some k ∨ k = w.heap.size + 2) wq { wq with drawn := wq.drawn + 1 } := Asd.of_below hS0
      generalize { wq with drawn := wq.drawn + 1 } = w1 at *
      have hnV : ∀ x, x < w.heap.size + 1 → x ≠ N → ¬ (x = N ∨ (Value.slice ad out.length cap).ownBlock = some x ∨ x = w.heap.size + 2) := fun x hx hn e => by
        rcases e with e | e | e
        · exact hn e
        · have := hob x e; omega
        · omega
      refine held_val 0 rfl (by kernel_rfl) (by kernel_rfl) (by kernel_rfl) (fun _ _ _ _ h => h) (by rfl) hS ?_
      apply Exists.intro
      refine ⟨fun w' hw' => ?_, ?_⟩
      · skip
        go_simp
        first | done | rfl | exact ⟨rfl, rfl⟩
      simp only [Act.put, List.setIfInBounds_toArray, List.set_cons_zero, List.set_cons_succ]
      refine held_val 2 rfl (by kernel_rfl) (by kernel_rfl) (by kernel_rfl) (fun _ _ _ _ h => h) (by rfl) hS ?_
      apply Exists.intro
      refine ⟨fun w' hw' => ?_, ?_⟩
      · skip
        go_simp
        first | done | rfl | exact ⟨rfl, rfl⟩
      simp only [Act.put, List.setIfInBounds_toArray, List.set_cons_zero, List.set_cons_succ]
      refine held_val 3 rfl (by kernel_rfl) (by kernel_rfl) (by kernel_rfl) (fun _ _ _ _ h => h) (by rfl) hS ?_
      apply Exists.intro
      refine ⟨fun w' hw' => ?_, ?_⟩
      · have e1 : w'.cell? ⟨w.heap.size, 4, none⟩ = some (.slice (some ⟨g, o, none⟩) kids.length cD) := cell_asd hw' (hnV _ (by omega) (by omega)) b4
        go_simp
        first | done | rfl | exact ⟨rfl, rfl⟩
      simp only [Act.put, List.setIfInBounds_toArray, List.set_cons_zero, List.set_cons_succ]
      refine held_val 4 rfl (by kernel_rfl) (by kernel_rfl) (by kernel_rfl) (fun _ _ _ _ h => h) (by rfl) hS ?_
      apply Exists.intro
      refine ⟨fun w' hw' => ?_, ?_⟩
      · skip
        go_simp
        first | done | rfl | exact ⟨rfl, rfl⟩
      simp only [Act.put, List.setIfInBounds_toArray, List.set_cons_zero, List.set_cons_succ]
      refine held_val 5 rfl (by kernel_rfl) (by kernel_rfl) (by kernel_rfl) (fun _ _ _ _ h => h) (by rfl) hS ?_
      apply Exists.intro
      refine ⟨fun w' hw' => ?_, ?_⟩
      · skip
        go_simp
        first | done | rfl | exact ⟨rfl, rfl⟩
      simp only [Act.put, List.setIfInBounds_toArray, List.set_cons_zero, List.set_cons_succ]
      refine held_val 6 rfl (by kernel_rfl) (by kernel_rfl) (by kernel_rfl) (fun _ _ _ _ h => h) (by rfl) hS ⟨.agg ck.toArray, fun w' hw' => ?_, ?_⟩
      · exact run_load_doc _ rfl g (o + q * 5) ck hk5 (fun j u hu => cell_asd hw' (hnV _ (by omega) hgV.2) (hkq j u hu)) rfl
      simp only [Act.put, List.setIfInBounds_toArray, List.set_cons_zero, List.set_cons_succ]
      refine held_val 7 rfl (by kernel_rfl) (by kernel_rfl) (by kernel_rfl) (fun _ _ _ _ h => h) (by rfl) hS ?_
      apply Exists.intro
      refine ⟨fun w' hw' => ?_, ?_⟩
      · skip
        go_simp
        first | done | rfl | exact ⟨rfl, rfl⟩
      simp only [Act.put, List.setIfInBounds_toArray, List.set_cons_zero, List.set_cons_succ]
      refine held_val 8 rfl (by kernel_rfl) (by kernel_rfl) (by kernel_rfl) (fun _ _ _ _ h => h) (by rfl) hS ⟨.int .i64 (9 - (m' : Int)), fun w' hw' => ?_, ?_⟩
      · go_simp
        have hz9 := HZ ()
        simp only [IntKind.wrap, IntKind.signed, IntKind.bits]
        simp
        omega
      simp only [Act.put, List.setIfInBounds_toArray, List.set_cons_zero, List.set_cons_succ]
      refine held_val 9 rfl (by kernel_rfl) (by kernel_rfl) (by kernel_rfl) (fun _ _ _ _ h => h) (by rfl) hS ?_
      apply Exists.intro
      refine ⟨fun w' hw' => ?_, ?_⟩
      · skip
        go_simp
        first | done | rfl | exact ⟨rfl, rfl⟩
      simp only [Act.put, List.setIfInBounds_toArray, List.set_cons_zero, List.set_cons_succ]
      have hJ1 := hJq.keep (S := fun _ => False) (Asd.of_below hS0) (fun _ _ _ h => h)
      have n1' := n1.stay hS0
      have hO1 := hOq.stay hS0
      have c4 := Rw.cell hO1 4
      change _ = some (Value.slice ad out.length cap) at c4
      have h21 := own_stay h2q hS0
      clear hJq n1 hOq b4 hkq h2q
      have HEQ : Unit → bkR (m' + 1) kids 0 c = (out ++ [(backN m' kid (c' + 1)).1] ++ (bkR (m' + 1) kids (q + 1) (backN m' kid (c' + 1)).2).1, (bkR (m' + 1) kids (q + 1) (backN m' kid (c' + 1)).2).2) := fun _ => by
        rw [heq, bkR_step m' kids q c' kid hkid g2 g4]
        simp
      clear heq
      -- <<
      refine held_two 1 10 (by kernel_rfl) rfl rfl (by rfl) (by rfl) ?_ ?_
      · refine wp_look (.slice ad out.length cap) ?_ ⟨hS, ?_⟩
        · go_simp
        simp only [Act.put, List.setIfInBounds_toArray, List.set_cons_zero, List.set_cons_succ]
        refine held_one 10 (by kernel_rfl) rfl (by rfl) ?_
        refine wp_call2 ?_
        apply Exists.intro
        apply Exists.intro
        refine ⟨?_, ?_⟩
        · go_simp
          first | done | rfl | exact ⟨rfl, rfl⟩
        refine (HB m' rfl _ _ ck kid (c' + 1) N w1 hJ1 (fun i hi => hPN i hi.1) (by omega) n1').mono ?_
        rintro e w2 ⟨cs2, rfl, hJ2, hn2, A2⟩
        replace hS := hS.trans (A2.any (S' := fun k => k = N ∨ (Value.slice ad out.length cap).ownBlock = some k ∨ k = w.heap.size + 2) (fun i e => .inl e)) (fun i e _ => e)
        refine ⟨_, rfl, hS, ?_⟩
        simp only [Act.put, List.setIfInBounds_toArray, List.set_cons_zero, List.set_cons_succ]
        obtain ⟨h52, ho2⟩ := hJ2.five
        have h22 := own_asdS h21 A2 (fun i e e2 => by have := hob i e; omega)
        have hO2 := hO1.keep A2 (by omega)
        have d4 := Rw.cell hO2 4
        change _ = some (Value.slice ad out.length cap) at d4
        have hsz2 := A2.size
        refine held_one 11 (by kernel_rfl) rfl (by rfl) ?_
        refine wp_one_val _ rfl cs2 h52 rfl ?_
        have hb3 : Below w2.heap.size w2 (w2.alloc (.cells cs2.toArray 29)) := (Below.refl _ _).alloc (Nat.le_refl _) _
        have rT := Rw.new w2 29 cs2
        have h23 := own_stay h22 hb3
        have hO3 := hO2.stay hb3
        have d4' := Rw.cell hO3 4
        change _ = some (Value.slice ad out.length cap) at d4'
        replace hS := hS.alloc (.cells cs2.toArray 29)
        refine ⟨hS, ?_⟩
        have hsz3 := hb3.size
        clear d4
        generalize w2.alloc (.cells cs2.toArray 29) = w3 at *
        simp only [Act.put, List.setIfInBounds_toArray, List.set_cons_zero, List.set_cons_succ]
        refine held_one 12 (by kernel_rfl) rfl (by rfl) ?_
        refine wp_own_at _ _ rfl (w.heap.size + 3) _ out.length css.flatten rfl h23 w2.heap.size cs2 rfl h52 rT ho2 hl20 (by have := Rw.lt hO1; omega) ?_
        intro v' w4 hO hg hloc
        obtain ⟨g', cap', rfl⟩ := own_succ hO
        have hBI' := hNX () w2 w3 w4 cs2 _ A2 hJ2 hn2 hb3 hO hg hloc
        replace hS := hS.grown hg (fun k e => .inl (.inr (.inl e)))
        have hO4 : Rw w4 (w.heap.size + 2) 29 (cells5 k n (s.take 300) (.slice ka (min (keys.length : Int) 20).toNat kc) (.slice ad out.length cap)) := hO3.keep (S := fun k => (Value.slice ad out.length cap).ownBlock = some k) ((Asd.refl _ _).grown hg (fun k e => .inl e)) (fun e => by have := hob _ e; omega)
        refine ⟨hS, ?_⟩
        simp only [Act.put, List.setIfInBounds_toArray, List.set_cons_zero, List.set_cons_succ]
        clear hO hg hloc hO3 hO2 h22 h23 rT hJ2 hn2 hb3 A2 d4' hO1 c4 h21 hJ1 n1' hNX HB
        refine held_now 13 (by kernel_rfl) rfl (by rfl) hS ?_
        apply Exists.intro
        refine ⟨?_, ?_⟩
        · skip
          go_simp
          first | done | rfl | exact ⟨rfl, rfl⟩
        simp only [Act.put, List.setIfInBounds_toArray, List.set_cons_zero, List.set_cons_succ]
        have f4 := Rw.cell hO4 4
        have f5 := Rw.frozen hO4 4
        change _ = some (Value.slice ad out.length cap) at f4
        refine held_one 14 (by kernel_rfl) rfl (by rfl) ?_
        unfold Oper.wp
        go_simp
        replace hS := hS.setCell (p := ⟨w.heap.size + 2, 4, none⟩) (.inl (.inr (.inr rfl))) (.slice (some ⟨g', 0, none⟩) (out.length + 1) cap')
        refine ⟨hS, ?_⟩
        refine wpAnyH_done (by kernel_rfl) ?_ _
        clear hS f4 f5 hO4 hS0
        generalize w4.setCell ⟨w.heap.size + 2, 4, none⟩ (.slice (some ⟨g', 0, none⟩) (out.length + 1) cap') = w5 at *
        go_wp2_with fail
        go_roundw
        case rel => exact ⟨q + 1, _, _, by omega, by go_num, by simp [HO ()], by omega, (back_cnt m' kid (c' + 1) (by omega)).2, HEQ (), hBI'⟩
        case measure => simp [intOf]; omega
      · refine wp_call2 ?_
        apply Exists.intro
        apply Exists.intro
        refine ⟨?_, ?_⟩
        · go_simp
          first | done | rfl | exact ⟨rfl, rfl⟩
        refine (HB m' rfl _ _ ck kid (c' + 1) N w1 hJ1 (fun i hi => hPN i hi.1) (by omega) n1').mono ?_
        rintro e w2 ⟨cs2, rfl, hJ2, hn2, A2⟩
        replace hS := hS.trans (A2.any (S' := fun k => k = N ∨ (Value.slice ad out.length cap).ownBlock = some k ∨ k = w.heap.size + 2) (fun i e => .inl e)) (fun i e _ => e)
        refine ⟨_, rfl, hS, ?_⟩
        simp only [Act.put, List.setIfInBounds_toArray, List.set_cons_zero, List.set_cons_succ]
        obtain ⟨h52, ho2⟩ := hJ2.five
        have h22 := own_asdS h21 A2 (fun i e e2 => by have := hob i e; omega)
        have hO2 := hO1.keep A2 (by omega)
        have d4 := Rw.cell hO2 4
        change _ = some (Value.slice ad out.length cap) at d4
        have hsz2 := A2.size
        refine held_two 1 11 (by kernel_rfl) rfl rfl (by rfl) (by rfl) ?_ ?_
        · refine wp_look (.slice ad out.length cap) ?_ ⟨hS, ?_⟩
          · go_simp
          simp only [Act.put, List.setIfInBounds_toArray, List.set_cons_zero, List.set_cons_succ]
          refine held_one 11 (by kernel_rfl) rfl (by rfl) ?_
          refine wp_one_val _ rfl cs2 h52 rfl ?_
          have hb3 : Below w2.heap.size w2 (w2.alloc (.cells cs2.toArray 29)) := (Below.refl _ _).alloc (Nat.le_refl _) _
          have rT := Rw.new w2 29 cs2
          have h23 := own_stay h22 hb3
          have hO3 := hO2.stay hb3
          have d4' := Rw.cell hO3 4
          change _ = some (Value.slice ad out.length cap) at d4'
          replace hS := hS.alloc (.cells cs2.toArray 29)
          refine ⟨hS, ?_⟩
          have hsz3 := hb3.size
          clear d4
          generalize w2.alloc (.cells cs2.toArray 29) = w3 at *
          simp only [Act.put, List.setIfInBounds_toArray, List.set_cons_zero, List.set_cons_succ]
          refine held_one 12 (by kernel_rfl) rfl (by rfl) ?_
          refine wp_own_at _ _ rfl (w.heap.size + 3) _ out.length css.flatten rfl h23 w2.heap.size cs2 rfl h52 rT ho2 hl20 (by have := Rw.lt hO1; omega) ?_
          intro v' w4 hO hg hloc
          obtain ⟨g', cap', rfl⟩ := own_succ hO
          have hBI' := hNX () w2 w3 w4 cs2 _ A2 hJ2 hn2 hb3 hO hg hloc
          replace hS := hS.grown hg (fun k e => .inl (.inr (.inl e)))
          have hO4 : Rw w4 (w.heap.size + 2) 29 (cells5 k n (s.take 300) (.slice ka (min (keys.length : Int) 20).toNat kc) (.slice ad out.length cap)) := hO3.keep (S := fun k => (Value.slice ad out.length cap).ownBlock = some k) ((Asd.refl _ _).grown hg (fun k e => .inl e)) (fun e => by have := hob _ e; omega)
          refine ⟨hS, ?_⟩
          simp only [Act.put, List.setIfInBounds_toArray, List.set_cons_zero, List.set_cons_succ]
          clear hO hg hloc hO3 hO2 h22 h23 rT hJ2 hn2 hb3 A2 d4' hO1 c4 h21 hJ1 n1' hNX HB
          refine held_now 13 (by kernel_rfl) rfl (by rfl) hS ?_
          apply Exists.intro
          refine ⟨?_, ?_⟩
          · skip
            go_simp
            first | done | rfl | exact ⟨rfl, rfl⟩
          simp only [Act.put, List.setIfInBounds_toArray, List.set_cons_zero, List.set_cons_succ]
          have f4 := Rw.cell hO4 4
          have f5 := Rw.frozen hO4 4
          change _ = some (Value.slice ad out.length cap) at f4
          refine held_one 14 (by kernel_rfl) rfl (by rfl) ?_
          unfold Oper.wp
          go_simp
          replace hS := hS.setCell (p := ⟨w.heap.size + 2, 4, none⟩) (.inl (.inr (.inr rfl))) (.slice (some ⟨g', 0, none⟩) (out.length + 1) cap')
          refine ⟨hS, ?_⟩
          refine wpAnyH_done (by kernel_rfl) ?_ _
          clear hS f4 f5 hO4 hS0
          generalize w4.setCell ⟨w.heap.size + 2, 4, none⟩ (.slice (some ⟨g', 0, none⟩) (out.length + 1) cap') = w5 at *
          go_wp2_with fail
          go_roundw
          case rel => exact ⟨q + 1, _, _, by omega, by go_num, by simp [HO ()], by omega, (back_cnt m' kid (c' + 1) (by omega)).2, HEQ (), hBI'⟩
          case measure => simp [intOf]; omega
        · refine wp_one_val _ rfl cs2 h52 rfl ?_
          have hb3 : Below w2.heap.size w2 (w2.alloc (.cells cs2.toArray 29)) := (Below.refl _ _).alloc (Nat.le_refl _) _
          have rT := Rw.new w2 29 cs2
          have h23 := own_stay h22 hb3
          have hO3 := hO2.stay hb3
          have d4' := Rw.cell hO3 4
          change _ = some (Value.slice ad out.length cap) at d4'
          replace hS := hS.alloc (.cells cs2.toArray 29)
          refine ⟨hS, ?_⟩
          have hsz3 := hb3.size
          clear d4
          generalize w2.alloc (.cells cs2.toArray 29) = w3 at *
          simp only [Act.put, List.setIfInBounds_toArray, List.set_cons_zero, List.set_cons_succ]
          refine held_one 1 (by kernel_rfl) rfl (by rfl) ?_
          refine wp_look (.slice ad out.length cap) ?_ ⟨hS, ?_⟩
          · go_simp
          simp only [Act.put, List.setIfInBounds_toArray, List.set_cons_zero, List.set_cons_succ]
          refine held_one 12 (by kernel_rfl) rfl (by rfl) ?_
          refine wp_own_at _ _ rfl (w.heap.size + 3) _ out.length css.flatten rfl h23 w2.heap.size cs2 rfl h52 rT ho2 hl20 (by have := Rw.lt hO1; omega) ?_
          intro v' w4 hO hg hloc
          obtain ⟨g', cap', rfl⟩ := own_succ hO
          have hBI' := hNX () w2 w3 w4 cs2 _ A2 hJ2 hn2 hb3 hO hg hloc
          replace hS := hS.grown hg (fun k e => .inl (.inr (.inl e)))
          have hO4 : Rw w4 (w.heap.size + 2) 29 (cells5 k n (s.take 300) (.slice ka (min (keys.length : Int) 20).toNat kc) (.slice ad out.length cap)) := hO3.keep (S := fun k => (Value.slice ad out.length cap).ownBlock = some k) ((Asd.refl _ _).grown hg (fun k e => .inl e)) (fun e => by have := hob _ e; omega)
          refine ⟨hS, ?_⟩
          simp only [Act.put, List.setIfInBounds_toArray, List.set_cons_zero, List.set_cons_succ]
          clear hO hg hloc hO3 hO2 h22 h23 rT hJ2 hn2 hb3 A2 d4' hO1 c4 h21 hJ1 n1' hNX HB
          refine held_now 13 (by kernel_rfl) rfl (by rfl) hS ?_
          apply Exists.intro
          refine ⟨?_, ?_⟩
          · skip
            go_simp
            first | done | rfl | exact ⟨rfl, rfl⟩
          simp only [Act.put, List.setIfInBounds_toArray, List.set_cons_zero, List.set_cons_succ]
          have f4 := Rw.cell hO4 4
          have f5 := Rw.frozen hO4 4
          change _ = some (Value.slice ad out.length cap) at f4
          refine held_one 14 (by kernel_rfl) rfl (by rfl) ?_
          unfold Oper.wp
          go_simp
          replace hS := hS.setCell (p := ⟨w.heap.size + 2, 4, none⟩) (.inl (.inr (.inr rfl))) (.slice (some ⟨g', 0, none⟩) (out.length + 1) cap')
          refine ⟨hS, ?_⟩
          refine wpAnyH_done (by kernel_rfl) ?_ _
          clear hS f4 f5 hO4 hS0
          generalize w4.setCell ⟨w.heap.size + 2, 4, none⟩ (.slice (some ⟨g', 0, none⟩) (out.length + 1) cap') = w5 at *
          go_wp2_with fail
          go_roundw
          case rel => exact ⟨q + 1, _, _, by omega, by go_num, by simp [HO ()], by omega, (back_cnt m' kid (c' + 1) (by omega)).2, HEQ (), hBI'⟩
          case measure => simp [intOf]; omega
      -- >>
    · have hcs : ¬ q < kids.length ∨ ¬ q < 20 ∨ m = 0 ∨ ¬ c' < 450 := by omega
      have hen := bkR_end m kids q c' hcs
      obtain ⟨dv', ho1, rO, rR, A9, rN9, hJ9⟩ := BI.done (HBI ()) rfl (HK ()).1 hPN hNl
      have hfin : backN m (.mk k n s keys kids) c = (.mk k n (s.take 300) (keys.take 20) out, c') := by
        rw [hall.out, heq, hen]
        simp
      have HF : Unit → _ := fun _ => hfin
      clear hfin
      obtain ⟨da, dc, rfl⟩ := hKr.shape
      have hway : ¬ (q : Int) < (kids.length : Int) ∨ ((q : Int) < (kids.length : Int) ∧ ¬ (q : Int) < 20) ∨ ((q : Int) < (kids.length : Int) ∧ (q : Int) < 20 ∧ ¬ z < 9) ∨ ((q : Int) < (kids.length : Int) ∧ (q : Int) < 20 ∧ z < 9 ∧ ¬ (c' : Int) < 450) := by have := HZ (); omega
      clear hen hcs hgo heq hall h1 h2 h3 h4 h5 h6 h7 h8 hKr HK HBI
      rcases hway with i1 | ⟨i1, i2⟩ | ⟨i1, i2, i3⟩ | ⟨i1, i2, i3, i4⟩
      all_goals
        go_wp2_with (first
          | (refine load_val (w.heap.size + 2) 29 _ rO rfl _ rfl rfl rfl ?_)
          | (refine store_arr (w.heap.size + 1) 29 zero5 rR 5 rfl 29 (by kernel_rfl) (cells5 k n (s.take 300) (.slice ka (min (keys.length : Int) 20).toNat kc) dv') rfl (one5 _ _ _ rfl ho1) _ _ rfl rfl rfl rfl ?_))
        refine ret_one (w.heap.size + 1) 29 _ (rR.row _) rfl rfl rfl rfl ?_
        exact ⟨_, rfl, by rw [HF ()]; exact hJ9, by rw [HF ()]; exact rN9, A9⟩
theorem back_any (m : Nat) (hm : m ≤ 9) : BCt m := by
  induction m with
  | zero => exact back_step 0 hm (fun d e => by omega)
  | succ m ih => exact back_step (m + 1) hm (fun d e => by
      obtain rfl : m = d := by omega
      exact ih (by omega))
end Go.Proofs.YtbkkcojfgdjbhaaDoor
