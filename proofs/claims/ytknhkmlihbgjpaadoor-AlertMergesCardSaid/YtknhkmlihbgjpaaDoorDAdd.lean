/- Add: the bytes are appended, whole blocks are mixed in. -/
import Derived.Test.YtknhkmlihbgjpaaDoorDState
import Derived.Deep.DeepCutAuto
namespace Go.Proofs.YtknhkmlihbgjpaaDoor.Dg
open Go.ChangeShapes Go.WideShapes Go.RowKit

/-- A Sum in memory: the eight words, the block, and how many bytes were added. -/
def sumV (ws bf : List Nat) (n : Nat) : List Value := ws.map v32 ++ (bf.map v8 ++ [.int .i64 (n : Int)])
def SumAt (w : World) (s : Nat) (ws bf : List Nat) (n : Nat) : Prop := Rw w s 150 (sumV ws bf n)
theorem sumV_len {ws bf : List Nat} (h : ws.length = 8) (k : bf.length = 64) (n : Nat) : (sumV ws bf n).length = 73 := by simp [sumV, h, k]
theorem sumV_total {ws bf : List Nat} (h : ws.length = 8) (k : bf.length = 64) (n : Nat) : (sumV ws bf n)[72]? = some (.int .i64 (n : Int)) := by
  unfold sumV
  rw [List.getElem?_append_right (by simp [h]), List.getElem?_append_right (by simp [h, k])]
  simp [h, k]
theorem sumV_set {ws bf : List Nat} (h : ws.length = 8) (k : bf.length = 64) (n m : Nat) : (sumV ws bf n).set 72 (.int .i64 (m : Int)) = sumV ws bf m := by
  unfold sumV
  rw [List.set_append_right _ _ (by simp [h]), List.set_append_right _ _ (by simp [h, k])]
  simp [h, k]
theorem sumV_words {ws bf ws' : List Nat} (h : ws.length = 8) (h' : ws'.length = 8) (n : Nat) : splice (sumV ws bf n) 0 (ws'.map v32) = sumV ws' bf n := by
  unfold sumV splice
  rw [List.drop_append]
  simp [h, h']
theorem sumV_block {ws bf c : List Nat} (h : ws.length = 8) (k : bf.length = 64) (m : Nat) (hm : m + c.length ≤ 64) (n : Nat) : splice (sumV ws bf n) (8 + m) (c.map v8) = sumV ws (splice bf m c) n := by
  unfold sumV splice
  have e1 : List.take (8 + m) (ws.map v32 ++ (bf.map v8 ++ [Value.int .i64 (n : Int)])) = ws.map v32 ++ (bf.map v8).take m := by
    rw [List.take_append, List.take_of_length_le (by simp [h])]
    congr 1
    rw [show 8 + m - (ws.map v32).length = m by simp [h], List.take_append_of_le_length (by simp [k]; omega)]
  have e2 : List.drop (8 + m + (c.map v8).length) (ws.map v32 ++ (bf.map v8 ++ [Value.int .i64 (n : Int)])) = (bf.map v8).drop (m + c.length) ++ [Value.int .i64 (n : Int)] := by
    rw [List.drop_append, List.drop_eq_nil_of_le (by simp [h]; omega), List.nil_append]
    rw [show 8 + m + (c.map v8).length - (ws.map v32).length = m + c.length by simp [h]; omega, List.drop_append_of_le_length (by simp [k]; omega)]
  rw [e1, e2]
  simp
theorem SumAt.words {w : World} {s n : Nat} {ws bf : List Nat} (h : SumAt w s ws bf n) : Cls w s 0 (ws.map v32) := fun j v hv => by
  rw [Rw.cell h]
  have : j < (ws.map v32).length := (List.getElem?_eq_some_iff.1 hv).1
  unfold sumV
  rw [Nat.zero_add, List.getElem?_append_left this]; exact hv
theorem SumAt.block {w : World} {s n : Nat} {ws bf : List Nat} (h : SumAt w s ws bf n) (hl : ws.length = 8) : Cls w s 8 (bf.map v8) := fun j v hv => by
  rw [Rw.cell h]
  have : j < (bf.map v8).length := (List.getElem?_eq_some_iff.1 hv).1
  unfold sumV
  rw [List.getElem?_append_right (by simp [hl]), show 8 + j - (ws.map v32).length = j by simp [hl], List.getElem?_append_left this]; exact hv
/-- The part of an array that lies anywhere, from place k on. -/
theorem cut_mid {P : Program} (t e : TypeId) (n g b k : Nat) (hk : k < n) (ht : P.underlying t = some (.array n e)) (he : (P.info? e).map (·.size) = some 1) (w : World) :
    (Instr.sliceAt t (.pointer (some ⟨g, b, none⟩)) (some (.int .i64 (k : Int))) none none).run P w = .ok (.slice (some ⟨g, b + k, none⟩) (n - k) (n - k)) w := by
  have hz : ∀ w, (sizeOf e).run P w = .ok 1 w := fun w => by
    cases hq : P.info? e with
    | none => simp [hq] at he
    | some i => simp [hq] at he; simp [sizeOf, typeInfo, hq, he]
  have hne : ¬ n = k := by omega
  simp [Instr.sliceAt, Instr.sureAddr, run_underlying ht, Instr.sliceBounds, run_sliceBound, hz, hne, add_any, show (k : Int) ≤ (n : Int) by omega]

/-- Cells are copied into a row, as a step of a region that draws its order. -/
theorem step_copy {P : Program} {ops : Array Oper} {o : Oper} {a : Act} {w : World} {K : Act → World → Prop} {Q : Exit → Act → World → Prop} {E : Prop} (hgd : o.guard = none) (d s : Operand) (dT sT : TypeId)
    (ho : o.op = .call { callee := .builtin .copy, args := #[d, s], argTypes := #[dT, sT] }) (elem : TypeId) (hu : P.underlying dT = some (.slice elem)) (hsz : (P.info? elem).map (·.size) = some 1)
    (g off h p dLen dCap sLen sCap : Nat) (hd : a.eval d = .slice (some ⟨g, off, none⟩) dLen dCap) (hs : a.eval s = .slice (some ⟨h, p, none⟩) sLen sCap)
    (cur : List Value) (t : TypeId) (hg : Rw w g t cur) (cs : List Value) (n : Nat) (hcn : cs.length = n) (hn : n = Nat.min sLen dLen) (hsrc : Cls w h p cs)
    (hfit : off + n ≤ cur.length) (h1 : ∀ v ∈ cs, v.oneCell' = true)
    (hk : K (a.put o.dst (.int .i64 (n : Int))) (w.setRow g (splice cur off cs).toArray)) :
    if Region.wanted o (yielded ops a.tmps) = true then Oper.wp P o a w K Q else E := by
  subst hcn
  have hw : Region.wanted o (yielded ops a.tmps) = true := by simp [Region.wanted, hgd]
  rw [if_pos hw]
  have hrun := run_copy_row (P := P) w dT sT o.type elem g off dLen dCap ⟨h, p, none⟩ sLen sCap cur.toArray t cs hu hsz hg hn (fun j v hv => by rw [add_any]; exact hsrc j v hv) (by simpa using hfit) h1
  unfold Oper.wp
  simp only [execOp, ho, resolve, invoke, builtin, List.map_toArray, List.map_cons, List.map_nil, hd, hs]
  simp [hrun, Result.andThen]
  unfold splice at hk
  exact hk
/-- A whole array is written, as a step of a region that draws its order. -/
theorem step_store {P : Program} {ops : Array Oper} {o : Oper} {a : Act} {w : World} {K : Act → World → Prop} {Q : Exit → Act → World → Prop} {E : Prop} (g k : Nat) (t : TypeId) (cur : List Value) (hr : Rw w g t cur) (ty : TypeId) (n : Nat) (hi : (P.info? ty).map (·.size) = some n) (cs : List Value) (hn : cs.length = n) (hk : k + n ≤ cur.length) (h1 : ∀ v ∈ cs, v.oneCell' = true) (x y : Operand) (hgd : o.guard = none) (ho : o.op = .store ty x y)
    (hx : a.eval x = .pointer (some ⟨g, k, none⟩)) (hy : a.eval y = .agg cs.toArray) (h : K (a.put o.dst undef) (w.setRow g (splice cur k cs).toArray)) :
    if Region.wanted o (yielded ops a.tmps) = true then Oper.wp P o a w K Q else E := by
  have hw : Region.wanted o (yielded ops a.tmps) = true := by simp [Region.wanted, hgd]
  rw [if_pos hw]
  unfold Oper.wp execOp
  simp only [ho, hx, hy, Instr.storeAt, Instr.sureAddr, Sem.run_bind, Sem.run_pure, Result.andThen_ok, run_store_at w g k t ty cur cs hr (by rw [hi, hn]) (by rw [hn]; exact hk) h1]
  exact h
/-- A whole array is read, as a step of a region that draws its order. -/
theorem loose_load {P : Program} {ops : Array Oper} {C : Marks → World → Prop} {q i : Nat} {a : Act} {L : Marks} {o : Oper} {rest : List Oper} {E : Act → Marks → Prop} (g k : Nat) (cs : List Value) (n : Nat) (hn : cs.length = n) (ty e : TypeId) (hu : P.underlying ty = some (.array n e)) (hi : (P.info? ty).map (·.size) = some n)
    (hc : ∀ L w, C L w → Cls w g k cs) (x : Operand) (hq : i < q) (hg : o.guard = none) (ho : o.op = .load ty x) (hx : a.eval x = .pointer (some ⟨g, k, none⟩)) (h : wpLoose P ops C q E rest (i + 1) (a.put o.dst (.agg cs.toArray)) L) : wpLoose P ops C q E (o :: rest) i a L := by
  refine loose_val hq hg ⟨.agg cs.toArray, fun L w hw => ?_, h⟩
  unfold execOp
  simp only [ho, hx, Instr.loadAt, Instr.sureAddr, Sem.run_bind, Sem.run_pure, Result.andThen_ok, run_load_cells w g k ty cs (.array n e) (hc L w hw) hu rfl (by rw [hi, hn])]
/-- What is left of a slice. -/
theorem rest_of {P : Program} (t e : TypeId) (g o len cap n : Nat) (ht : P.underlying t = some (.slice e)) (he : (P.info? e).map (·.size) = some 1) (hn : n ≤ len) (hc : len ≤ cap) :
    ∃ a, (∀ w, (Instr.slice t (.slice (some ⟨g, o, none⟩) len cap) (some (.int .i64 (n : Int))) none none).run P w = .ok (.slice a (len - n) (cap - n)) w) ∧ (n < len → a = some ⟨g, o + n, none⟩) := by
  have hz : ∀ w, (sizeOf e).run P w = .ok 1 w := fun w => by
    cases hq : P.info? e with
    | none => simp [hq] at he
    | some i => simp [hq] at he; simp [sizeOf, typeInfo, hq, he]
  refine ⟨if cap = n then some ⟨g, o, none⟩ else some ⟨g, o + n, none⟩, fun w => ?_, fun h => by rw [if_neg (by omega)]⟩
  simp [Instr.slice, run_underlying ht, Instr.sliceBounds, run_sliceBound, hz, add_any, show (n : Int) ≤ (len : Int) by omega]
theorem Cls.take {w : World} {g o : Nat} {xs : List Value} (h : Cls w g o xs) (n : Nat) : Cls w g o (xs.take n) := fun j v hv => h j v (by rw [List.getElem?_take] at hv; split at hv; exact hv; cases hv)
theorem Cls.drop {w : World} {g o : Nat} {xs : List Value} (h : Cls w g o xs) (n : Nat) : Cls w g (o + n) (xs.drop n) := fun j v hv => by
  rw [List.getElem?_drop] at hv
  rw [Nat.add_assoc]; exact h _ v hv
theorem Cls.row {w : World} {g o s : Nat} {xs : List Value} (h : Cls w g o xs) (hs : g ≠ s) (cs : Array Value) : Cls (w.setRow s cs) g o xs := fun j v hv => by
  rw [cell_setRow_other w s cs _ hs]; exact h j v hv
/-- A row is written in both worlds. -/
theorem below_both {N s : Nat} {a b : World} (h : Below N a b) (X : Array Value) : Below N (a.setRow s X) (b.setRow s X) := by
  refine ⟨h.os, h.tape, h.output, by rw [setRow_size, setRow_size]; exact h.size, fun k hk => ?_⟩
  by_cases e : k = s
  · subst e
    simp only [World.setRow, Array.getElem?_modify, h.block k hk]
  · rw [setRow_other _ _ _ _ e, setRow_other _ _ _ _ e]; exact h.block k hk
theorem below_again {N s : Nat} {w b : World} {cs : Array Value} (h : Below N (w.setRow s cs) b) (X : Array Value) : Below N (w.setRow s X) (b.setRow s X) := by
  have := below_both (s := s) h X
  rw [setRow_setRow] at this
  exact this
/-- How many elements a slice has. -/
def slen : Value → Nat
  | .slice _ n _ => n
  | _ => 0
theorem u8_splice {bf c : List Nat} (h : ∀ x ∈ bf, U8 x) (k : ∀ x ∈ c, U8 x) (m : Nat) : ∀ x ∈ splice bf m c, U8 x := by
  intro x hx
  unfold splice at hx
  rcases List.mem_append.1 hx with h1 | h1
  · exact h x (List.mem_of_mem_take h1)
  · rcases List.mem_append.1 h1 with h2 | h2
    · exact k x h2
    · exact h x (List.mem_of_mem_drop h2)

/-- What holds in the loop: some bytes were added, others are left. -/
def AddRel (w : World) (s : Nat) (l b : List Nat) (vb : Value) (wr : World) : Prop :=
  ∃ dn rs ws bf a cap cs, b = dn ++ rs ∧ vb = .slice a rs.length cap ∧ rs.length ≤ cap ∧ (rs ≠ [] → ∃ g o, a = some ⟨g, o, none⟩ ∧ g ≠ s ∧ Cls wr g o (rs.map v8)) ∧
    SumAt wr s ws bf (l ++ dn).length ∧ St ws bf (l ++ dn) ∧ (∀ x ∈ bf, U8 x) ∧ Below w.heap.size (w.setRow s cs) wr

set_option maxHeartbeats 1600000 in
set_option maxRecDepth 100000 in
theorem add_bytes (s : Nat) (ws bf l b : List Nat) (a : Option Addr) (cap : Nat) (w : World) (ht : Tabs w) (hs0 : s ≠ 0) (hs1 : s ≠ 1)
    (hr : SumAt w s ws bf l.length) (hz : ws.length = 8) (hbf : bf.length = 64) (hst : l ≠ [] → St ws bf l) (hub : ∀ x ∈ bf, U8 x) (ub : ∀ x ∈ b, U8 x)
    (hcap : b.length ≤ cap) (hlen : l.length + b.length < 4611686018427387904) (hb : b ≠ [] → ∃ g o, a = some ⟨g, o, none⟩ ∧ g ≠ s ∧ Cls w g o (b.map v8)) :
    Calls Tryd.prog 81 #[.pointer (some ⟨s, 0, none⟩), .slice a b.length cap] w fun e w' => e = .returned (.int .i64 ((l ++ b).length : Int)) ∧
      ∃ ws' bf' cs, SumAt w' s ws' bf' (l ++ b).length ∧ St ws' bf' (l ++ b) ∧ (∀ x ∈ bf', U8 x) ∧ Below w.heap.size (w.setRow s cs) w' := by
  have c72 := (Rw.cell hr 72).trans (sumV_total hz hbf _)
  have f72 := Rw.frozen hr 72
  go_enter Tryd.func81, Tryd.ntmps81
  go_upto_if 12 with fail
  go_cut [4] (fun s4 wx => s4 = .int .i64 0 ∧ ∃ ws cs, SumAt wx s ws bf l.length ∧ St ws bf l ∧ Below w.heap.size (w.setRow s cs) wx)
  case first =>
    by_cases h0 : l = []
    · subst h0
      have hss : startL.length = 8 := rfl
      go_wp2_with (first
        | (refine load_at _ 0 _ ht.1 8 rfl 115 (.array 8 23) (by kernel_rfl) rfl (by kernel_rfl) _ rfl rfl rfl ?_)
        | (refine store_at s 0 _ _ hr 115 8 (by kernel_rfl) (startL.map v32) rfl (by rw [sumV_len hz hbf]; omega) (one32 _) _ _ rfl rfl rfl rfl ?_))
      go_meet
      refine ⟨rfl, startL, _, ?_, St.nil bf hbf, Below.refl _ _⟩
      have := Rw.row hr (splice (sumV ws bf 0) 0 (startL.map v32))
      rw [sumV_words hz hss] at this ⊢
      exact this
    · have hne : ((l.length : Int) == 0) = false := by
        have : l.length ≠ 0 := fun e => h0 (List.eq_nil_of_length_eq_zero e)
        rw [beq_eq_false_iff_ne]; omega
      go_wp2_with fail
      go_meet
      exact ⟨rfl, ws, _, hr, hst h0, by rw [setRow_self w s _ _ _ hr]; exact Below.refl _ _⟩
  case rest =>
    obtain ⟨rfl, ws0, cs, h1, h2, h3⟩ := hcut
    clear hr hz hst c72 f72
    go_upto_region 5 with fail
    go_loopw [1] (fun vb wr => AddRel w s l b vb wr) (fun vb _ => slen vb)
    case atStart =>
      refine ⟨[], b, ws0, bf, a, cap, cs, rfl, rfl, hcap, fun hne => ?_, by rw [List.append_nil]; exact h1, by rw [List.append_nil]; exact h2, hub, h3⟩
      obtain ⟨g, o, e, hgs, hc⟩ := hb hne
      refine ⟨g, o, e, hgs, fun j v hv => ?_⟩
      have h4 := hc j v hv
      have h5 := World.block_lt_of_cell? w _ h4
      rw [h3.cell h5, cell_setRow_other w s cs _ hgs]
      exact h4
    case round =>
      clear hb hcap h1 h2 h3
      obtain ⟨dn, rs, ws1, bf1, a1, cap1, cs1, rfl, rfl, hcap, hb, h1, h2, hub1, h3⟩ := hrel
      by_cases hrs : rs = []
      · subst hrs
        have c72 := (Rw.cell h1 72).trans (sumV_total h2.ulen h2.len _)
        have hlz : ([] : List Nat).length = 0 := rfl
        rw [hlz]
        have Hnil := Lib.hid (List.append_nil dn)
        clear hb
        go_wp2_with fail
        go_ret
        rw [Hnil.out]
        exact ⟨by rw [List.length_append]; rfl, ws1, bf1, cs1, h1, h2, hub1, h3⟩
      · obtain ⟨g, o, rfl, hgs, hc⟩ := hb hrs
        have hrl : 0 < rs.length := by rcases rs with _ | _; exact absurd rfl hrs; simp
        obtain ⟨T, hT⟩ : ∃ T, T = (l ++ dn).length := ⟨_, rfl⟩
        obtain ⟨m, hm⟩ : ∃ m, m = T % 64 := ⟨_, rfl⟩
        obtain ⟨n, hn⟩ : ∃ n, n = Nat.min rs.length (64 - m) := ⟨_, rfl⟩
        have hm64 : m < 64 := by omega
        have hcut := cut_mid (P := Tryd.prog) 148 5 64 s 8 m hm64 (by kernel_rfl) (by kernel_rfl)
        have c72 := (Rw.cell h1 72).trans (sumV_total h2.ulen h2.len _)
        rw [← hT] at c72
        have htm : (T : Int).tmod 64 = (m : Int) := by rw [hm]; rfl
        have hnr : n ≤ rs.length := by rw [hn]; exact Nat.min_le_left _ _
        have hn64 : n ≤ 64 - m := by rw [hn]; exact Nat.min_le_right _ _
        have hn0 : 0 < n := by rw [hn]; exact Nat.lt_min.2 ⟨hrl, by omega⟩
        have hTn : T + n < 4611686018427387904 := by rw [List.length_append] at hlen hT; omega
        have hcl : ((rs.take n).map v8).length = n := by simp; omega
        have hcl' : (rs.take n).length = n := by simp; omega
        have HT := Lib.hid hT
        have Hm := Lib.hid hm
        have Hn := Lib.hid hn
        clear hT hm hn
        go_upto_region 6 with fail
        refine region_loose (fun _ w' => Drew wr w' ∧ w'.cell? ⟨s, 72, none⟩ = some (.int .i64 (T : Int))) 10 10 2 #[true, true, true, true, true, true, true, true, true, true, false, false] rfl (by kernel_rfl) (by kernel_rfl) (by kernel_rfl) (⟨⟨_, rfl⟩, c72⟩) ?_
        simp only [List.take_succ_cons, List.take_zero]
        repeat
          first
          | (refine loose_val (by decide) rfl ?_
             apply Exists.intro
             refine ⟨fun L' w' hw' => ?_, ?_⟩
             · obtain ⟨_, e0⟩ := hw'
               go_simp
               first | done | rfl | exact ⟨rfl, rfl⟩
             simp only [Act.put, List.setIfInBounds_toArray, List.set_cons_zero, List.set_cons_succ])
          | (refine loose_call (by decide) rfl ?_
             apply Exists.intro
             apply Exists.intro
             refine ⟨fun w' => ?_, ?_⟩
             · go_simp
               first | done | rfl | exact ⟨rfl, rfl⟩
             apply Exists.intro
             refine ⟨fun L' w' hw' => ?_, ?_⟩
             · first
               | fail
             simp only [Act.put, List.setIfInBounds_toArray, List.set_cons_zero, List.set_cons_succ])
          | (refine loose_new (by decide) rfl (fun L' w' hw' => ?_) (fun v => ?_)
             · fail
             simp only [Act.put, List.setIfInBounds_toArray, List.set_cons_zero, List.set_cons_succ])
        intro w5 hw5
        obtain ⟨hdr, _⟩ := hw5
        replace h1 : SumAt w5 s ws1 bf1 (l ++ dn).length := Rw.drew h1 hdr
        replace h3 := h3.trans (hdr.below.mono (by have := h3.size; rw [setRow_size] at this; exact this))
        replace hc : Cls w5 g o (rs.map v8) := fun j v hv => by rw [hdr.cell]; exact hc j v hv
        clear hdr c72 hcut htm
        refine wpAny_ready (rs := [10]) (by kernel_rfl) (by simp) ?_
        refine AllReady.cons rfl (fun K hK => ?_) AllReady.nil
        refine step_copy rfl (.tmp 28) (.tmp 29) 88 88 rfl 5 (by kernel_rfl) (by kernel_rfl) s (8 + m) g o (64 - m) (64 - m) rs.length cap1 rfl rfl _ _ h1 ((rs.take n).map v8) n hcl Hn.out (by rw [List.map_take]; exact hc.take n) (by rw [sumV_len h2.ulen h2.len]; omega) (one8 _) ?_
        refine hK _ _ ?_
        clear hK K
        have h1' : SumAt (w5.setRow s (splice (sumV ws1 bf1 (l ++ dn).length) (8 + m) ((rs.take n).map v8)).toArray) s ws1 (splice bf1 m (rs.take n)) (l ++ dn).length := by
          have := Rw.row h1 (splice (sumV ws1 bf1 (l ++ dn).length) (8 + m) ((rs.take n).map v8))
          rw [sumV_block h2.ulen h2.len m (by omega)] at this ⊢
          exact this
        replace hc := hc.row hgs (splice (sumV ws1 bf1 (l ++ dn).length) (8 + m) ((rs.take n).map v8)).toArray
        replace h3 := below_again h3 (splice (sumV ws1 bf1 (l ++ dn).length) (8 + m) ((rs.take n).map v8)).toArray
        generalize (splice (sumV ws1 bf1 (l ++ dn).length) (8 + m) ((rs.take n).map v8)).toArray = X at *
        generalize w5.setRow s X = w6 at *
        clear h1
        refine wpAny_ready (rs := [11]) (by kernel_rfl) (by simp) ?_
        refine AllReady.cons rfl (fun K hK => ?_) AllReady.nil
        go_simp
        refine hK _ _ ?_
        clear hK K
        refine wpAny_done (by kernel_rfl) ?_ _
        obtain ⟨a2, hsl, ha2⟩ := rest_of (P := Tryd.prog) 88 5 g o rs.length cap1 n (by kernel_rfl) (by kernel_rfl) hnr hcap
        have hbl : (splice bf1 m (rs.take n)).length = 64 := by rw [length_splice _ _ _ (by rw [h2.len, hcl']; omega)]; exact h2.len
        have c72 := (Rw.cell h1' 72).trans (sumV_total h2.ulen hbl _)
        rw [← HT.out] at c72
        have f72 := Rw.frozen h1' 72
        obtain ⟨m2, hm2⟩ : ∃ m2, m2 = (T + n) % 64 := ⟨_, rfl⟩
        have htm : ((T : Int) + (n : Int)).tmod 64 = (m2 : Int) := by rw [hm2]; rfl
        have Hm2 := Lib.hid hm2
        clear hm2
        go_upto_if 47 with fail
        clear c72 f72 hsl htm
        have Hbs := Lib.hid (show dn ++ rs = (dn ++ rs.take n) ++ rs.drop n by rw [List.append_assoc, List.take_append_drop])
        have Hdl := Lib.hid (show (rs.drop n).length = rs.length - n by simp)
        have Hl2 := Lib.hid (show (l ++ (dn ++ rs.take n)).length = T + n by rw [← List.append_assoc, List.length_append, hcl', HT.out])
        have ub2 : ∀ x ∈ splice bf1 m (rs.take n), U8 x := u8_splice hub1 (fun x hx => ub x (List.mem_append_right _ (List.mem_of_mem_take hx))) m
        rw [show w6.setCell ⟨s, 72, none⟩ (.int .i64 ((T : Int) + (n : Int))) = w6.setRow s (sumV ws1 (splice bf1 m (rs.take n)) (T + n)).toArray by
          rw [setCell_eq_setRow w6 s 72 _ _ _ _ h1', ← sumV_set h2.ulen hbl (l ++ dn).length (T + n)]; simp]
        have h1 : SumAt (w6.setRow s (sumV ws1 (splice bf1 m (rs.take n)) (T + n)).toArray) s ws1 (splice bf1 m (rs.take n)) (T + n) := Rw.row h1' _
        replace hc := hc.row hgs (sumV ws1 (splice bf1 m (rs.take n)) (T + n)).toArray
        replace h3 := below_again h3 (sumV ws1 (splice bf1 m (rs.take n)) (T + n)).toArray
        have hc2 : rs.drop n ≠ [] → ∃ g' o', a2 = some ⟨g', o', none⟩ ∧ g' ≠ s ∧ Cls (w6.setRow s (sumV ws1 (splice bf1 m (rs.take n)) (T + n)).toArray) g' o' ((rs.drop n).map v8) := fun hne => by
          refine ⟨g, o + n, ha2 ?_, hgs, by rw [List.map_drop]; exact hc.drop n⟩
          rcases Nat.lt_or_ge n rs.length with h | h
          · exact h
          · exact absurd (List.drop_eq_nil_of_le h) hne
        clear h1' ha2 hc
        generalize (sumV ws1 (splice bf1 m (rs.take n)) (T + n)).toArray = X2 at *
        generalize w6.setRow s X2 = w7 at *
        have hm' : (l ++ dn).length % 64 = m := by rw [← HT.out]; exact Hm.out.symm
        by_cases hfull : m2 = 0
        · have hmn : m + n = 64 := by have h5 := Hm2.out; have h6 := Hm.out; omega
          have hst := h2.full (c := rs.take n) (by rw [hm', hcl']; exact hmn)
          rw [hm', List.append_assoc] at hst
          have hlw := h2.ulen
          have Kmix := Lib.hid (fun w ht => mix_any ws1 (splice bf1 m (rs.take n)) h2.ulen hbl h2.u ub2 w ht)
          generalize splice bf1 m (rs.take n) = bf2 at *
          have hTab : Tabs w7 := by
            have h7 := h3.size
            rw [setRow_size] at h7
            exact (show Tabs (w.setRow s X2) from ⟨ht.1.row (Ne.symm hs0) X2, ht.2.row (Ne.symm hs1) X2⟩).keep ⟨h3.os, h3.tape, h3.output, h3.size, fun k hk => h3.block k (by rw [setRow_size] at hk; exact hk)⟩
          have hl1 : (ws1.map v32).length = 8 := by rw [List.length_map, hlw]
          have hl2 : (bf2.map v8).length = 64 := by rw [List.length_map, hbl]
          subst hfull
          go_upto_region 10 with fail
          have hcw : ∀ (L : Marks) w', (fun (_ : Marks) w' => Below w7.heap.size w7 w') L w' → Cls w' s 0 (ws1.map v32) := fun _ w' h => (SumAt.words h1).keep h
          have hcb : ∀ (L : Marks) w', (fun (_ : Marks) w' => Below w7.heap.size w7 w') L w' → Cls w' s 8 (bf2.map v8) := fun _ w' h => (SumAt.block h1 hlw).keep h
          refine region_loose (fun _ w' => Below w7.heap.size w7 w') 12 12 1 #[true, true, true, true, true, true, true, true, true, true, true, true, false] rfl (by kernel_rfl) (by kernel_rfl) (by kernel_rfl) ((Below.refl _ _).drew) ?_
          simp only [List.take_succ_cons, List.take_zero]
          repeat
            first
            | (refine loose_load s 0 _ 8 hl1 115 23 (by kernel_rfl) (by kernel_rfl) hcw _ (by decide) rfl rfl rfl ?_
               simp only [Act.put, List.setIfInBounds_toArray, List.set_cons_zero, List.set_cons_succ])
            | (refine loose_load s 8 _ 64 hl2 148 5 (by kernel_rfl) (by kernel_rfl) hcb _ (by decide) rfl rfl rfl ?_
               simp only [Act.put, List.setIfInBounds_toArray, List.set_cons_zero, List.set_cons_succ])
            | (refine loose_val (by decide) rfl ?_
               apply Exists.intro
               refine ⟨fun L' w' hw' => ?_, ?_⟩
               · obtain hhh := hw'
                 go_simp
                 first | done | rfl | exact ⟨rfl, rfl⟩
               simp only [Act.put, List.setIfInBounds_toArray, List.set_cons_zero, List.set_cons_succ])
            | (refine loose_call (by decide) rfl ?_
               apply Exists.intro
               apply Exists.intro
               refine ⟨fun w' => ?_, ?_⟩
               · go_simp
                 first | done | rfl | exact ⟨rfl, rfl⟩
               apply Exists.intro
               refine ⟨fun L' w' hw' => ?_, ?_⟩
               · first
                 | (with_reducible refine (Kmix.out _ (hTab.keep hw')).mono ?_); (rintro e w2 ⟨rfl, hdd⟩; exact ⟨rfl, hw'.trans (hdd.mono hw'.size)⟩)
               simp only [Act.put, List.setIfInBounds_toArray, List.set_cons_zero, List.set_cons_succ])
            | (refine loose_new (by decide) rfl (fun L' w' hw' => ?_) (fun v => ?_)
               · fail
               simp only [Act.put, List.setIfInBounds_toArray, List.set_cons_zero, List.set_cons_succ])
          intro w5 hw5
          replace h1 : SumAt w5 s ws1 bf2 (T + n) := Rw.keep h1 hw5
          replace h3 := h3.trans (hw5.mono (by have := h3.size; rw [setRow_size] at this; exact this))
          have hlm : (mixN ws1 bf2).length = 8 := mixN_len hlw
          replace h3 := below_again h3 (splice (sumV ws1 bf2 (T + n)) 0 ((mixN ws1 bf2).map v32)).toArray
          replace hc2 : rs.drop n ≠ [] → ∃ g' o', a2 = some ⟨g', o', none⟩ ∧ g' ≠ s ∧ Cls (w5.setRow s (splice (sumV ws1 bf2 (T + n)) 0 ((mixN ws1 bf2).map v32)).toArray) g' o' ((rs.drop n).map v8) := fun hne => by
            obtain ⟨g', o', e1, e2, e3⟩ := hc2 hne
            exact ⟨g', o', e1, e2, (e3.keep hw5).row e2 _⟩
          have h1' := Rw.row h1 (splice (sumV ws1 bf2 (T + n)) 0 ((mixN ws1 bf2).map v32))
          refine wpAny_ready (rs := [12]) (by kernel_rfl) (by simp) ?_
          refine AllReady.cons rfl (fun K hK => ?_) AllReady.nil
          refine step_store s 0 _ _ h1 115 8 (by kernel_rfl) ((mixN ws1 bf2).map v32) (by rw [List.length_map, hlm]) (by rw [sumV_len hlw hbl]; omega) (one32 _) _ _ rfl rfl rfl rfl ?_
          refine hK _ _ ?_
          clear hK K
          refine wpAny_done (by kernel_rfl) ?_ _
          rw [sumV_words hlw hlm] at *
          generalize (sumV (mixN ws1 bf2) bf2 (T + n)).toArray = X3 at *
          generalize w5.setRow s X3 = w8 at *
          clear h1 hw5
          go_wp2_with fail
          go_roundw
          case rel => exact ⟨dn ++ rs.take n, rs.drop n, mixN ws1 bf2, bf2, a2, cap1 - n, X3, Hbs.out, by rw [Hdl.out], by rw [Hdl.out]; omega, hc2, by rw [Hl2.out]; exact h1', hst, ub2, h3⟩
          case measure => simp [slen]; omega
        · have hm20 : ((m2 : Int) == 0) = false := by rw [beq_eq_false_iff_ne]; omega
          have hmn : m + n < 64 := by have h5 := Hm2.out; have h6 := Hm.out; omega
          have hst := h2.less (c := rs.take n) (by rw [hm', hcl']; exact hmn)
          rw [hm', List.append_assoc] at hst
          generalize splice bf1 m (rs.take n) = bf2 at *
          go_wp2_with fail
          go_roundw
          case rel => exact ⟨dn ++ rs.take n, rs.drop n, ws1, bf2, a2, cap1 - n, X2, Hbs.out, by rw [Hdl.out], by rw [Hdl.out]; omega, hc2, by rw [Hl2.out]; exact h1, hst, ub2, h3⟩
          case measure => simp [slen]; omega
end Go.Proofs.YtknhkmlihbgjpaaDoor.Dg
