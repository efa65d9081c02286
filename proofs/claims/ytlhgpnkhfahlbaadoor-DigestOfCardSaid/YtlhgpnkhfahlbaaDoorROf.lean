/- The document's own digest: what it returns. -/
import Derived.Test.YtlhgpnkhfahlbaaDoorRPlain
import Derived.Deep.AppendLies
import Derived.Test.YtlhgpnkhfahlbaaDoorRBytes
import Derived.Test.YtlhgpnkhfahlbaaDoorPieces
namespace Go.Proofs.YtlhgpnkhfahlbaaDoor
open Go.ChangeShapes Go.WideShapes Go.RowKit

theorem run_append_nil (t e ty : TypeId) (c : Nat) (ht : Tryd.prog.underlying t = some (.slice e)) (w : World) (he : (Tryd.prog.info? e).map (·.size) = some 1) :
    (Builtin.append_ #[t, t] ty #[.slice none 0 0, .slice none 0 c]).run Tryd.prog w = .ok (.slice none 0 0) w := by
  cases hq : Tryd.prog.info? e with
  | none => rw [hq] at he; cases he
  | some i =>
    rw [hq] at he
    simp at he
    simp [Builtin.append_, run_underlying ht, sizeOf, typeInfo, hq, Builtin.lenOf, Builtin.firstCells]
/-- Bytes are appended to a slice of one's own. -/
theorem app_bytes {ops : Array Oper} {rest : List Oper} {o : Oper} {a : Act} {w : World} {Q : Exit → Act → World → Prop} (base : Nat) (v u : Value) (xs ys : List Nat) (hown : w.ownsRow base 5 1 v xs.length (xs.map v8)) (hu : BytesAt w u ys) (hl : xs.length + ys.length ≤ 100000) (hb : base ≤ w.heap.size)
    (hnil : (∃ c, u = .slice none 0 c) → v = .slice none 0 0) (s x : Operand) (hgd : o.guard = none) (ho : o.op = .call { callee := .builtin .append, args := #[s, x], argTypes := #[22, 22] }) (hs : a.eval s = v) (hx : a.eval x = u)
    (h : ∀ v' w', w'.ownsRow base 5 1 v' (xs ++ ys).length ((xs ++ ys).map v8) → w.grownBy w' v.ownBlock → wpList Tryd.prog ops Q rest (a.put o.dst v') w') : wpList Tryd.prog ops Q (o :: rest) a w := by
  obtain ⟨i0, hi, hz0, hz1, hz2⟩ := info_parts info_u8
  obtain ⟨aa, cap, rfl, hc, hk⟩ := hu
  cases aa with
  | none =>
    have hys : ys = [] := by
      rcases ys with _ | ⟨y, ys⟩
      · rfl
      · obtain ⟨g, o, e, _⟩ := hk (by simp); cases e
    subst hys
    have hv := hnil ⟨cap, rfl⟩
    subst hv
    have hx0 : xs = [] := by
      rcases hown.2 with ⟨_, h0⟩ | ⟨g, _, _, e, _⟩
      · exact List.eq_nil_of_length_eq_zero h0
      · cases e
    subst hx0
    refine wpList_plain hgd fun K hK => ?_
    have hrun := run_append_nil 22 5 o.type cap (by kernel_rfl) w (by kernel_rfl)
    unfold Oper.wp
    simp only [execOp, ho, resolve, invoke, builtin, List.map_toArray, List.map_cons, List.map_nil, hs, hx, List.length_nil]
    simp [hrun, Result.andThen]
    exact hK _ _ (h _ _ hown ⟨rfl, rfl, rfl, Nat.le_refl _, fun _ _ _ => rfl⟩)
  | some ad =>
    refine wpList_append_own w hgd s x 22 ho base 5 i0 (.int .u8 0) 1 1 Tryd.underlying22 hi hz0 hz1 hz2 rfl (by decide) v xs.length (xs.map v8) hs hown ad ys.length cap (ys.map v8) hx (by simp) (fun j u' hu' => ?_) (one8 ys) (by unfold maxLen; omega) (by omega) hb (fun v' w' h1 h2 _ => ?_)
    · have hne : ys ≠ [] := by intro e; subst e; simp at hu'
      obtain ⟨g, o', e, hcl⟩ := hk hne
      injection e with e
      subst e
      rw [add_any]; exact hcl j u' hu'
    · rw [← List.map_append, ← List.length_append] at h1
      exact h v' w' h1 h2
theorem rw_grown {w w' : World} {g : Nat} {t : TypeId} {cs : List Value} {row : Option Nat} (h : Rw w g t cs) (hg : w.grownBy w' row) (hne : some g ≠ row) : Rw w' g t cs := by
  unfold Rw at *
  rw [hg.block g (Rw.lt h) hne]; exact h
/-- What lies in memory: the result, the words, the keys, the bytes of one's own. -/
def Os (w : World) (N g : Nat) (Z : List Value) (hs : List Nat) (v : Value) (xs : List Nat) (wr : World) : Prop :=
  Rw wr N 25 Z ∧ Rw wr g 46 (hs.map v32) ∧ Rw wr (g + 1) 48 (keyL.map v32) ∧ wr.ownsRow (g + 2) 5 1 v xs.length (xs.map v8) ∧ Below N w wr ∧ g + 2 ≤ wr.heap.size ∧ N < g
/-- An append, where new memory was made before it. -/
theorem Os.app {w wr wr' w' : World} {N g : Nat} {Z : List Value} {hs : List Nat} {v v' : Value} {xs ys : List Nat} (h : Os w N g Z hs v xs wr) (hb : Below wr.heap.size wr wr') (h1 : w'.ownsRow (g + 2) 5 1 v' ys.length (ys.map v8)) (hg : wr'.grownBy w' v.ownBlock) : Os w N g Z hs v' ys w' := by
  obtain ⟨q0, q1, q2, q3, q4, q5, q6⟩ := h
  have hlt := q3.lt
  have hne : ∀ k, k < g + 2 → some k ≠ v.ownBlock := fun k hk e => by have := (hlt k e.symm).1; omega
  refine ⟨rw_grown (q0.keep hb) hg (hne _ (by omega)), rw_grown (q1.keep hb) hg (hne _ (by omega)), rw_grown (q2.keep hb) hg (hne _ (by omega)), h1, ?_, Nat.le_trans q5 (Nat.le_trans hb.size hg.size), q6⟩
  exact (q4.trans (hb.mono (Nat.le_of_lt q0.lt))).grown hg (Nat.le_trans (Nat.le_of_lt q0.lt) hb.size) (fun j e => by have := (hlt j e).1; omega)
/-- One byte is appended: a slice of it was made just before. -/
theorem app_byte {ops : Array Oper} {rest : List Oper} {o : Oper} {a : Act} {w wr : World} {Q : Exit → Act → World → Prop} {N g : Nat} {Z : List Value} {hs : List Nat} {v : Value} {xs : List Nat} (q : Os w N g Z hs v xs wr) (x : Nat) (X : Int) (hX : X = (x : Int)) (hl : xs.length ≤ 50000)
    (s y : Operand) (hgd : o.guard = none) (ho : o.op = .call { callee := .builtin .append, args := #[s, y], argTypes := #[22, 22] }) (hs' : a.eval s = v) (hy : a.eval y = .slice (some ⟨wr.heap.size, 0, none⟩) 1 1)
    (h : ∀ v' w', Os w N g Z hs v' (xs ++ [x]) w' → wpList Tryd.prog ops Q rest (a.put o.dst v') w') : wpList Tryd.prog ops Q (o :: rest) a (wr.alloc (.cells #[.int .u8 X] 5)) := by
  subst hX
  have hb : Below wr.heap.size wr (wr.alloc (.cells #[.int .u8 (x : Int)] 5)) := (Below.refl _ _).alloc (Nat.le_refl _) _
  refine app_bytes (g + 2) v (.slice (some ⟨wr.heap.size, 0, none⟩) 1 1) xs [x] (World.ownsRow.alloc q.2.2.2.1 _) (Rw.bytes (xs := [x]) (Rw.new wr 5 ([x].map v8)) 1 (Nat.le_refl _)) (by simp; omega) (by have := q.2.2.2.2.2.1; have := hb.size; omega) (by rintro ⟨_, e⟩; injection e with e; cases e) s y hgd ho hs' hy fun v' w' h1 h2 => h v' w' (q.app hb h1 h2)
/-- The same when nothing is appended any more: the bytes lie in a block of their own. -/
def Ot (w : World) (N g : Nat) (Z : List Value) (hs : List Nat) (gm : Nat) (m : List Nat) (wr : World) : Prop :=
  Rw wr N 25 Z ∧ Rw wr g 46 (hs.map v32) ∧ Rw wr (g + 1) 48 (keyL.map v32) ∧ Cls wr gm 0 (m.map v8) ∧ Below N w wr ∧ N < g ∧ g + 1 < gm
theorem Os.ot {w wr : World} {N g : Nat} {Z : List Value} {hs : List Nat} {v : Value} {xs : List Nat} (h : Os w N g Z hs v xs wr) (hne : 0 < xs.length) : ∃ gm cap, v = .slice (some ⟨gm, 0, none⟩) xs.length cap ∧ xs.length ≤ cap ∧ Ot w N g Z hs gm xs wr := by
  obtain ⟨q0, q1, q2, q3, q4, q5, q6⟩ := h
  have hc := q3
  rcases q3.2 with ⟨rfl, h0⟩ | ⟨gm, cap, cur, rfl, hb, hg, hn, _⟩
  · omega
  · refine ⟨gm, cap, rfl, hn, q0, q1, q2, fun j u hu => ?_, q4, q6, by omega⟩
    have h1 := hc.cells (g := gm) rfl j u hu
    rw [add_off] at h1
    rw [Nat.zero_add]; exact h1
theorem Ot.row {w wr w5 : World} {N g : Nat} {Z : List Value} {hs : List Nat} {gm : Nat} {m : List Nat} (h : Ot w N g Z hs gm m wr) (hb : Below wr.heap.size wr w5) (hs' : List Nat) : Ot w N g Z hs' gm m (w5.setRow g (hs'.map v32).toArray) := by
  obtain ⟨q0, q1, q2, q3, q4, q5, q6⟩ := h
  have hlt := q0.lt
  exact ⟨(q0.keep hb).rowOther (by omega) _, (q1.keep hb).row _, (q2.keep hb).rowOther (by omega) _, (q3.keep hb).row (by omega) _, below_setRow (q4.trans (hb.mono (by omega))) (by omega) _, q5, q6⟩
/-- A part of a slice, in a region that draws its order. -/
theorem loose_slice {P : Program} {ops : Array Oper} {C : Marks → World → Prop} {q i : Nat} {a : Act} {L : Marks} {o : Oper} {rest : List Oper} {E : Act → Marks → Prop} (t e : TypeId) (ht : P.underlying t = some (.slice e)) (al : Option Addr) (ln cp : Nat) (u lo hi : Value)
    (hc : ∀ w, (Instr.slice t (.slice al ln cp) (some lo) (some hi) none).run P w = .ok u w) (x y z : Operand) (hq : i < q) (hg : o.guard = none) (ho : o.op = .slice t x (some y) (some z) none) (hx : a.eval x = .slice al ln cp) (hy : a.eval y = lo) (hz : a.eval z = hi) (h : wpLoose P ops C q E rest (i + 1) (a.put o.dst u) L) : wpLoose P ops C q E (o :: rest) i a L := by
  refine loose_val hq hg ⟨u, fun L w hw => ?_, h⟩
  unfold execOp
  simp [ho, hx, hy, hz, Instr.sliceAt, run_underlying ht, hc]
def two (w : World) : World := (w.alloc (.cells ((zs 8).map v32).toArray 46)).alloc (.cells ((zs 64).map v32).toArray 48)
theorem two_a (w : World) : Rw (two w) w.heap.size 46 ((zs 8).map v32) := (Rw.new w _ _).past _
theorem two_b (w : World) : Rw (two w) (w.heap.size + 1) 48 ((zs 64).map v32) := by
  have := Rw.new (w.alloc (.cells ((zs 8).map v32).toArray 46)) 48 ((zs 64).map v32)
  have e : (w.alloc (.cells ((zs 8).map v32).toArray 46)).heap.size = w.heap.size + 1 := by simp
  rw [e] at this
  exact this
theorem two_below (w : World) : Below w.heap.size w (two w) := ((Below.refl _ w).alloc (Nat.le_refl _) _).alloc (by simp) _
theorem two_size (w : World) : (two w).heap.size = w.heap.size + 2 := by simp [two]

set_option maxRecDepth 100000 in
set_option maxHeartbeats 1600000 in
theorem rof_any (u : Value) (c : List Nat) (w : World) (hu : BytesAt w u c) (uc : ∀ x ∈ c, U8 x) (hl : c.length ≤ 1000) :
    Calls Tryd.prog 12 #[u] w fun e w' => e = .returned (.agg ((shaN c).map v8).toArray) ∧ Below w.heap.size w w' := by
  obtain ⟨au, cu, hue, _, _⟩ := id hu
  subst hue
  go_enter Tryd.func12, Tryd.ntmps12
  go_upto_region 1 with fail
  have r0 := Rw.new w 25 ((zs 32).map v8)
  have hB := (Below.refl _ w).alloc (Nat.le_refl _) (.cells ((zs 32).map v8).toArray 25)
  change Code.wp _ _ _ _ (w.alloc (.cells ((zs 32).map v8).toArray 25))
  generalize w.alloc (.cells ((zs 32).map v8).toArray 25) = W at *
  generalize hZ : (zs 32).map v8 = Z at r0
  have HZ : Unit → Z.length = 32 := fun _ => by rw [← hZ]; rfl
  clear hZ
  go_wp2_with fail
  refine (rstart_any _).mono ?_
  rintro e w1 ⟨rfl, hb1⟩
  replace r0 := r0.keep hb1
  replace hB := hB.trans (hb1.mono hB.size)
  clear hb1
  generalize hSt : (startL.map v32).toArray = ST
  go_wp2_with fail
  refine (rkeys_any _).mono ?_
  rintro e w2 ⟨rfl, hb2⟩
  replace r0 := r0.keep hb2
  replace hB := hB.trans (hb2.mono hB.size)
  clear hb2
  rw [← hSt]
  clear hSt ST
  go_upto_region 2 with (first
    | (change wpList _ _ _ _ _ (two w2); refine store_arr w2.heap.size 46 ((zs 8).map v32) (two_a w2) 8 rfl 46 (by kernel_rfl) (startL.map v32) rfl (one32 _) _ _ rfl rfl rfl rfl ?_)
    | (refine store_arr (w2.heap.size + 1) 48 ((zs 64).map v32) ((two_b w2).rowOther (by omega) _) 64 rfl 48 (by kernel_rfl) (keyL.map v32) rfl (one32 _) _ _ rfl rfl rfl rfl ?_))
  have q0 : Os w w.heap.size w2.heap.size Z startL (.slice none 0 0) [] (((two w2).setRow w2.heap.size (startL.map v32).toArray).setRow (w2.heap.size + 1) (keyL.map v32).toArray) := by
    have hlt := r0.lt
    have hs := two_size w2
    refine ⟨((r0.keep (two_below w2)).rowOther (by omega) _).rowOther (by omega) _, ((two_a w2).row _).rowOther (by omega) _, ((two_b w2).rowOther (by omega) _).row _, World.ownsRow_nil _ _ _ _, ?_, by simp only [setRow_size]; omega, hlt⟩
    exact below_setRow (below_setRow (hB.trans ((two_below w2).mono (by omega))) (by omega) _) (by omega) _
  replace hu : BytesAt (((two w2).setRow w2.heap.size (startL.map v32).toArray).setRow (w2.heap.size + 1) (keyL.map v32).toArray) (.slice au c.length cu) c := hu.keep q0.2.2.2.2.1
  generalize ((two w2).setRow w2.heap.size (startL.map v32).toArray).setRow (w2.heap.size + 1) (keyL.map v32).toArray = W3 at *
  generalize w2.heap.size = g at *
  clear r0 hB
  simp only [Act.put]
  generalize (startL.map v32).toArray = ST
  generalize (keyL.map v32).toArray = KT
  go_wp2_with (at_builtin; refine app_bytes (g + 2) (.slice none 0 0) _ [] c (World.ownsRow_nil _ _ _ _) hu (by simp; omega) q0.2.2.2.2.2.1 (fun _ => rfl) _ _ rfl rfl rfl rfl ?_)
  intro v1 w4 h1 h2
  replace q0 : Os w w.heap.size g Z startL v1 c w4 := q0.app (ys := c) (Below.refl _ _) h1 h2
  clear h1 h2 hu
  go_wp2_with (at_builtin; refine app_byte q0 128 _ rfl (by omega) _ _ rfl rfl rfl rfl ?_)
  clear q0
  intro v2 w5 q0
  go_upto_region 3 with fail
  have htl : tlN c.length = 64 - (c.length + 8) % 64 := rfl
  generalize htd : tlN c.length = tl at *
  go_loopw [5] (fun v wr => ∃ t : Nat, t + 1 ≤ tl ∧ Os w w.heap.size g Z startL v (c ++ 128 :: zs t) wr) (fun v _ => 5000 - slen v)
  case atStart => exact ⟨0, by omega, q0⟩
  case round =>
    clear q0
    obtain ⟨t, ht, q0⟩ := hrel
    obtain ⟨a5, cap5, rfl, hc5, _⟩ := bytes_of_own q0.2.2.2.1
    have hlen : (c ++ 128 :: zs t).length = c.length + 1 + t := by simp [zs]; omega
    obtain ⟨n, hn⟩ : ∃ n, n = c.length + 1 + t := ⟨_, rfl⟩
    rw [← hn] at hlen
    have Hx : Unit → (c ++ 128 :: zs t) ++ [0] = c ++ 128 :: zs (t + 1) := fun _ => by simp [zs, List.replicate_succ']
    have Hpad : Unit → t + 1 = tl → ∀ ys, (c ++ 128 :: zs t) ++ ys = c ++ (128 :: zs (tl - 1) ++ ys) := fun _ e ys => by rw [← e, Nat.add_sub_cancel, List.append_assoc]
    generalize c ++ 128 :: zs t = xs at *
    rw [hlen] at q0 ⊢
    have Hn : Unit → n = c.length + 1 + t := fun _ => hn
    have hnb : n ≤ 2000 := by omega
    by_cases hlt : t + 1 < tl
    · have hne : ((n : Int) % 64 == 56) = false := by rw [beq_eq_false_iff_ne]; omega
      have hne' : ((n : Int) % 64 != 56) = true := by rw [bne, hne]; rfl
      have Hr : Unit → t + 1 + 1 ≤ tl := fun _ => hlt
      have hlx : xs.length ≤ 50000 := by omega
      clear hn hlt Hpad
      go_upto_region 4 with fail
      go_wp2_with (at_builtin; refine app_byte q0 0 _ rfl hlx _ _ rfl rfl rfl rfl ?_)
      intro v6 w6 q1
      clear q0
      obtain ⟨a6, cap6, rfl, _, _⟩ := bytes_of_own q1.2.2.2.1
      have hl6 : (xs ++ [0]).length = xs.length + 1 := by simp
      generalize (xs ++ [0]).length = n6 at *
      go_wp2_with fail
      go_roundw
      case rel => exact ⟨t + 1, Hr (), by rw [← Hx ()]; exact q1⟩
      case measure => simp [slen]; omega
    · have hne : ((n : Int) % 64 == 56) = true := by rw [beq_iff_eq]; omega
      have hne' : ((n : Int) % 64 != 56) = false := by rw [bne, hne]; rfl
      have e := Hpad () (by omega)
      have He : Unit → ∀ ys, xs ++ ys = c ++ (128 :: zs (tl - 1) ++ ys) := fun _ => e
      clear Hpad Hx e hn hlt
      clear hc5 Hn
      go_upto_region 7 with fail
      rw [show (c.length : Int) * 8 = ((c.length * 8 : Nat) : Int) by omega]
      obtain ⟨T8, hT8⟩ : ∃ T8, c.length * 8 = T8 := ⟨_, rfl⟩
      rw [hT8]
      have hTb : T8 ≤ 8000 := by omega
      generalize wr = wo at *
      have qs : Os w w.heap.size g Z startL (.slice a5 n cap5) (xs ++ ln8 T8 0) wo := by rw [ln8, List.append_nil]; exact q0
      clear q0 hne hne'
      go_loopw [5, 7] (fun v i wr => ∃ k : Nat, k ≤ 8 ∧ i = .int .i64 (7 - (k : Int)) ∧ Os w w.heap.size g Z startL v (xs ++ ln8 T8 k) wr) (fun _ i _ => (intOf i + 1).toNat)
      case atStart => exact ⟨0, by omega, rfl, qs⟩
      case round =>
        clear qs
        obtain ⟨k, hk, rfl, qs⟩ := hrel
        by_cases hlt : k < 8
        · have hge : (0 : Int) ≤ 7 - (k : Int) := by omega
          go_upto_region 11 with fail
          generalize wr = wo at *
          go_loopw [8, 9] (fun x j wi => ∃ t : Nat, t + k ≤ 7 ∧ x = .int .u64 (dv T8 t : Int) ∧ j = .int .i64 (t : Int) ∧ wi = wo) (fun _ j _ => 8 - (intOf j).toNat)
          case atStart => exact ⟨0, by omega, rfl, rfl, rfl⟩
          case round =>
            obtain ⟨t, ht, rfl, rfl, rfl⟩ := hrel
            have hdl := dv_le T8 t
            by_cases hlt2 : t + k < 7
            · have hlj : (t : Int) < 7 - (k : Int) := by omega
              have Hdv : Unit → dv T8 (t + 1) = dv T8 t / 256 := fun _ => rfl
              generalize dv T8 t = D at *
              go_wp2_with fail
              exact ⟨⟨t + 1, by omega, by rw [Hdv ()]; simp, by simp, trivial⟩, by simp [intOf]; omega⟩
            · obtain rfl : t = 7 - k := by omega
              have Hln : Unit → ln8 T8 (k + 1) = ln8 T8 k ++ [dv T8 (7 - k) % 256] := fun _ => rfl
              have hll := ln8_len T8 k
              have hlx : (xs ++ ln8 T8 k).length ≤ 50000 := by rw [List.length_append]; omega
              have hnl : ¬ ((7 - k : Nat) : Int) < 7 - (k : Int) := by omega
              generalize dv T8 (7 - k) = D at *
              generalize ln8 T8 k = L at *
              go_upto_region 14 with fail
              go_wp2_with (at_builtin; refine app_byte qs (D % 256) _ (by first | rfl | omega | simp) hlx _ _ rfl rfl rfl rfl ?_)
              clear qs
              intro v6 w6 qs
              rw [← Hln ()] at qs
              go_wp2_with fail
              go_roundw
              case rel => exact ⟨k + 1, by omega, by simp; omega, qs⟩
              case measure => simp [intOf]; omega
        · obtain rfl : k = 8 := by omega
          have hm : xs ++ ln8 T8 8 = c ++ padL c.length := by rw [He (), pad_eq _ (by omega), htd, hT8]
          have hml := padL_len c.length
          have hdv64 : (c ++ padL c.length).length = 64 * ((c ++ padL c.length).length / 64) := by rw [List.length_append, hml, htd]; omega
          have hmb : (c ++ padL c.length).length ≤ 2000 ∧ 0 < (c ++ padL c.length).length := by rw [List.length_append, hml, htd]; omega
          have um : ∀ x ∈ c ++ padL c.length, U8 x := fun x hx => by
            rcases List.mem_append.1 hx with h | h
            · exact uc x h
            · exact padL_u _ (by omega) x h
          have Hsha : Unit → shaN c = dg (hsN (c ++ padL c.length) ((c ++ padL c.length).length / 64)) 8 := fun _ => rfl
          rw [hm] at qs
          generalize c ++ padL c.length = m at *
          generalize m.length / 64 = nb at *
          have Hdv64 : Unit → m.length = 64 * nb := fun _ => hdv64
          clear hdv64 He hm hml htl htd hlen hnb hT8 hTb hk hlt
          obtain ⟨gm, cap7, rfl, hcap, q0⟩ := qs.ot hmb.2
          clear qs
          replace q0 : Ot w w.heap.size g Z (hsN m 0) gm m wr := q0
          go_upto_region 16 with fail
          generalize wr = wo at *
          try simp only [Int.cast_ofNat_Int, Int.reduceSub]
          go_loopw [10] (fun i wr => ∃ k : Nat, k ≤ nb ∧ i = .int .i64 (64 * (k : Int)) ∧ Ot w w.heap.size g Z (hsN m k) gm m wr) (fun i _ => 3000 - (intOf i).toNat)
          case atStart => exact ⟨0, by omega, rfl, q0⟩
          case round =>
            clear q0
            obtain ⟨k, hk, rfl, q0⟩ := hrel
            by_cases hlt : k < nb
            · have hd64 := Hdv64 ()
              have hli : 64 * (k : Int) < (m.length : Int) := by omega
              obtain ⟨us, hcut, hus⟩ := BytesAt.part (w := wr) (v := .slice (some ⟨gm, 0, none⟩) m.length cap7) (b := m) ⟨_, _, rfl, hcap, fun _ => ⟨gm, 0, rfl, q0.2.2.2.1⟩⟩ (64 * k) 64 (by omega) (64 * (k : Int)) (64 * (k : Int) + 64) (by omega) (by omega)
              have hbl : ((m.drop (64 * k)).take 64).length = 64 := by rw [List.length_take, List.length_drop]; omega
              obtain ⟨ga, cp, rfl, hcp, hk2⟩ := hus
              obtain ⟨gs, os, rfl, hcs⟩ := hk2 (by intro e; rw [e] at hbl; simp at hbl)
              have Kr := Lib.hid (fun w' (h : Cls w' gs os _) => round_any (hsN m k) ((m.drop (64 * k)).take 64) (hsN_len m k) hbl (hsN_u m k) (fun x hx => um x (List.mem_of_mem_drop (List.mem_of_mem_take hx))) gs os cp w' h)
              have Hnx : Unit → hsN m (k + 1) = mixN (hsN m k) ((m.drop (64 * k)).take 64) := fun _ => rfl
              rw [hbl] at hcut
              have hhl := hsN_len m k
              have hml : (mixN (hsN m k) ((m.drop (64 * k)).take 64)).length = 8 := mixN_len hhl
              clear hcp hk2 hbl hd64
              generalize (m.drop (64 * k)).take 64 = bl at *
              generalize hsN m k = ws at *
              have hl1 : (ws.map v32).length = 8 := by rw [List.length_map, hhl]
              have hl2 : (keyL.map v32).length = 64 := rfl
              have hcw : ∀ (L : Marks) w', (fun (_ : Marks) w' => Below wr.heap.size wr w') L w' → Cls w' g 0 (ws.map v32) := fun _ w' h => (q0.2.1.keep h).cls 0 _ (fun j v hv => by rw [Nat.zero_add]; exact hv)
              have hck : ∀ (L : Marks) w', (fun (_ : Marks) w' => Below wr.heap.size wr w') L w' → Cls w' (g + 1) 0 (keyL.map v32) := fun _ w' h => (q0.2.2.1.keep h).cls 0 _ (fun j v hv => by rw [Nat.zero_add]; exact hv)
              have hx1 : IntKind.i64.wrap (64 * (k : Int) + 64) = 64 * (k : Int) + 64 := by simp [IntKind.wrap, IntKind.bits, IntKind.signed]; omega
              generalize keyL.map v32 = KL at *
              go_upto_region 18 with fail
              refine region_loose (fun _ w' => Below wr.heap.size wr w') 8 8 1 #[true, true, true, true, true, true, true, true, false] rfl (by kernel_rfl) (by kernel_rfl) (by kernel_rfl) ((Below.refl _ _).drew) ?_
              simp only [List.take_succ_cons, List.take_zero]
              repeat
                first
                | (refine loose_load g 0 _ 8 hl1 46 45 (by kernel_rfl) (by kernel_rfl) hcw _ (by decide) rfl rfl rfl ?_
                   simp only [Act.put, List.setIfInBounds_toArray, List.set_cons_zero, List.set_cons_succ])
                | (refine loose_load (g + 1) 0 _ 64 hl2 48 45 (by kernel_rfl) (by kernel_rfl) hck _ (by decide) rfl rfl rfl ?_
                   simp only [Act.put, List.setIfInBounds_toArray, List.set_cons_zero, List.set_cons_succ])
                | (refine loose_slice _ 5 (by kernel_rfl) _ _ _ _ _ _ hcut _ _ _ (by decide) rfl rfl rfl rfl rfl ?_
                   simp only [Act.put, List.setIfInBounds_toArray, List.set_cons_zero, List.set_cons_succ])
                | (refine loose_val (by decide) rfl ?_
                   apply Exists.intro
                   refine ⟨fun L' w' hw' => ?_, ?_⟩
                   · obtain hhh := hw'
                     go_simp
                     first | done | rfl | exact ⟨rfl, rfl⟩
                   simp only [Act.put, List.setIfInBounds_toArray, List.set_cons_zero, List.set_cons_succ])
                | (refine loose_call (by decide) rfl ?_
                   apply Exists.intro
                   apply Exists.intro
                   refine ⟨fun w' => ?_, ?_⟩
                   · go_simp
                     first | done | rfl | exact ⟨rfl, rfl⟩
                   apply Exists.intro
                   refine ⟨fun L' w' hw' => ?_, ?_⟩
                   · first
                     | (with_reducible refine (Kr.out _ (hcs.keep hw')).mono ?_); (rintro e w2 ⟨rfl, hdd⟩; exact ⟨rfl, hw'.trans (hdd.mono hw'.size)⟩)
                   simp only [Act.put, List.setIfInBounds_toArray, List.set_cons_zero, List.set_cons_succ])
                | (refine loose_new (by decide) rfl (fun L' w' hw' => ?_) (fun v => ?_)
                   · fail
                   simp only [Act.put, List.setIfInBounds_toArray, List.set_cons_zero, List.set_cons_succ])
              intro w5 hw5
              have q1 := q0.row hw5 (mixN ws bl)
              have h1 := q0.2.1.keep hw5
              refine wpAny_ready (rs := [8]) (by kernel_rfl) (by simp) ?_
              refine AllReady.cons rfl (fun K hK => ?_) AllReady.nil
              refine step_store g 0 _ _ h1 46 8 (by kernel_rfl) ((mixN ws bl).map v32) (by rw [List.length_map, hml]) (by rw [hl1]; omega) (one32 _) _ _ rfl rfl rfl rfl ?_
              refine hK _ _ ?_
              clear hK K
              refine wpAny_done (by kernel_rfl) ?_ _
              rw [splice_all _ _ (by rw [hl1, List.length_map, hml])]
              generalize w5.setRow g ((mixN ws bl).map v32).toArray = w8 at *
              clear h1 hw5 q0 hcw hck hl1 hl2 hcut hcs Kr
              generalize ((mixN ws bl).map v32).toArray = MA
              go_wp2_with fail
              go_roundw
              case rel => exact ⟨k + 1, by omega, by rw [show 64 * (k : Int) + 64 = 64 * ((k + 1 : Nat) : Int) by omega], by rw [Hnx ()]; exact q1⟩
              case measure => simp [intOf]; omega
            · obtain rfl : k = nb := by omega
              have hni : ¬ 64 * (k : Int) < (m.length : Int) := by have := Hdv64 (); omega
              have uws := hsN_u m k
              have hwl := hsN_len m k
              have Hsh : Unit → shaN c = dgo (hsN m k) 32 := fun _ => by rw [Hsha (), ← dgo_four _ uws 8]
              generalize hsN m k = ws at *
              go_upto_region 19 with fail
              go_upto_region 20 with fail
              have r5 := Rw.new wr 25 ((dgo ws 0).map v8)
              have hb5 : Below wr.heap.size wr (wr.alloc (.cells ((dgo ws 0).map v8).toArray 25)) := (Below.refl _ _).alloc (Nat.le_refl _) _
              change Code.wp _ _ _ _ (wr.alloc (.cells ((dgo ws 0).map v8).toArray 25))
              obtain ⟨q1, q2, q3, q4, q5, q6, q7⟩ := q0
              have hgo := q2.lt
              replace q1 := q1.keep hb5
              replace q2 := q2.keep hb5
              replace q5 := q5.trans (hb5.mono (Nat.le_of_lt (by omega)))
              generalize wr.alloc (.cells ((dgo ws 0).map v8).toArray 25) = w9 at *
              generalize wr.heap.size = O at *
              clear q3 q4 hb5 Hsha
              go_upto_region 21 with fail
              have hn1 : w.heap.size < O := by omega
              clear hni uc hl
              go_loopw [12] (fun i wr => ∃ k : Nat, k ≤ 32 ∧ i = .int .i64 (k : Int) ∧ Rw wr w.heap.size 25 Z ∧ Rw wr g 46 (ws.map v32) ∧ Rw wr O 25 ((dgo ws k).map v8) ∧ Below w.heap.size w wr) (fun i _ => 32 - (intOf i).toNat)
              case atStart => exact ⟨0, by omega, rfl, q1, q2, r5, q5⟩
              case round =>
                clear q1 q2 r5 q5
                obtain ⟨k, hk, rfl, q1, q2, r5, q5⟩ := hrel
                by_cases hlt : k < 32
                · obtain ⟨j, hj⟩ : ∃ j, j = k / 4 := ⟨_, rfl⟩
                  obtain ⟨r, hr⟩ : ∃ r, r = k % 4 := ⟨_, rfl⟩
                  have hj1 : (k : Int) / 4 = (j : Int) := by omega
                  have hr1 : (k : Int) % 4 = (r : Int) := by omega
                  have hj8 : (j : Int) < 8 := by omega
                  have hj8' : j < 8 := by omega
                  have hr4 : r < 4 := by omega
                  obtain ⟨x, hx⟩ : ∃ x, ws[j]? = some x := ⟨_, List.getElem?_eq_getElem (by omega)⟩
                  have ux : x < 4294967296 := uws x (List.mem_of_getElem? hx)
                  obtain ⟨y, hy⟩ : ∃ y, (dgo ws k)[k]? = some y := ⟨_, List.getElem?_eq_getElem (by rw [dgo_len]; omega)⟩
                  have Hnx : Unit → dgo ws (k + 1) = (dgo ws k).set k (dv x (3 - r) % 256) := fun _ => by rw [dgo, ← hj, hx, ← hr]; rfl
                  have z0 := (q2.cell j).trans (at32 hx)
                  have z1 := (r5.cell k).trans (at8 hy)
                  have y1 := r5.frozen k
                  have hki : (k : Int) < 32 := by omega
                  clear hj hr hx hy
                  go_upto_region 25 with fail
                  generalize wr = wo at *
                  go_loopw [13, 14] (fun n i wr => ∃ t : Nat, t + r ≤ 3 ∧ n = .int .u32 (dv x t : Int) ∧ i = .int .i64 (3 - (t : Int)) ∧ wr = wo) (fun _ i _ => (intOf i).toNat)
                  case atStart => exact ⟨0, by omega, rfl, rfl, rfl⟩
                  case round =>
                    obtain ⟨t, ht, rfl, rfl, rfl⟩ := hrel
                    have hdl := dv_le x t
                    by_cases hlt2 : t + r < 3
                    · have hgt : (r : Int) < 3 - (t : Int) := by omega
                      have Hdv : Unit → dv x (t + 1) = dv x t / 256 := fun _ => rfl
                      generalize dv x t = D at *
                      go_wp2_with fail
                      exact ⟨⟨t + 1, by omega, by rw [Hdv ()]; simp, by simp; omega, trivial⟩, by simp [intOf]; omega⟩
                    · obtain rfl : t = 3 - r := by omega
                      have hng : ¬ (r : Int) < 3 - ((3 - r : Nat) : Int) := by omega
                      generalize dv x (3 - r) = D at *
                      go_upto_region 28 with fail
                      go_wp2_with fail
                      refine ⟨⟨k + 1, by omega, by simp, q1.other (by omega) _ _, q2.other (by omega) _ _, ?_, q5.setCell (p := ⟨O, k, none⟩) (by simp; omega) _⟩, by simp [intOf]; omega⟩
                      have h7 := r5.setCell k (v8 (D % 256))
                      rw [← List.map_set, ← Hnx ()] at h7
                      exact h7
                · obtain rfl : k = 32 := by omega
                  have hs : ((dgo ws 32).map v8).length = 32 := by rw [List.length_map, dgo_len]
                  have h1 := one8 (dgo ws 32)
                  have hzl := HZ ()
                  have Hcs : Unit → (shaN c).map v8 = (dgo ws 32).map v8 := fun _ => by rw [Hsh ()]
                  generalize (dgo ws 32).map v8 = cs at *
                  clear hk hlt Hsh
                  go_wp2_with (first
                    | (refine load_arr _ _ _ r5 32 hs 25 5 (by kernel_rfl) (by kernel_rfl) _ rfl rfl rfl ?_)
                    | (refine store_arr _ _ _ q1 32 hzl 25 (by kernel_rfl) cs hs h1 _ _ rfl rfl rfl rfl ?_))
                  refine ret_arr w.heap.size 25 cs (q1.row cs) 32 hs 5 (by kernel_rfl) (by kernel_rfl) (by rfl) rfl rfl ?_
                  exact ⟨by rw [Hcs ()], below_setRow q5 (Nat.le_refl _) _⟩
end Go.Proofs.YtlhgpnkhfahlbaaDoor
