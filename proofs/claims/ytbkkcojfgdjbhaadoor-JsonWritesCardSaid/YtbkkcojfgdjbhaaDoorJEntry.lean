/- One entry of a list or an object. -/
import Derived.Test.YtbkkcojfgdjbhaaDoorJMem
import Derived.Test.YtbkkcojfgdjbhaaDoorHeld
import Derived.Maps.AppendAt
import Derived.OwnWalk
namespace Go.Proofs.YtbkkcojfgdjbhaaDoor
open Go.ChangeShapes Go.WideShapes Go.RowKit

/-- What a call that reads a value hands back. -/
def ValQ (R mb : Nat) (w : World) (d : Nat) (o : Rs (J × Nat)) (e : Ending) (w' : World) : Prop :=
  (match o with
    | .ok (j, n') r => (∃ cs : List Value, e = .returned (.tuple #[.agg cs.toArray, .int .i64 0]) ∧ JAt (fun k => w.heap.size ≤ k) w' (d + 1) cs j) ∧ Rq w' R r n' (.map (some mb))
    | .err er => (∃ cs : List Value, e = .returned (.tuple #[.agg cs.toArray, .int .i64 er]) ∧ cs.length = 5 ∧ (∀ v ∈ cs, v.oneCell' = true) ∧ (er == 0) = false) ∧ ∃ r n', Rq w' R r n' (.map (some mb))) ∧ Asd (· = R) w w'
/-- The contract of value, d lists and objects more. -/
def VCt (d : Nat) : Prop := ∀ (R mb : Nat) (l : Bs) (n : Nat) (w : World), Rq w R l n (.map (some mb)) → Env w → Wm w mb → 10 ≤ R → mb ≠ R → l.length ≤ 1000000 → n ≤ 400 →
  Calls Tryd.prog 31 #[.pointer (some ⟨R, 0, none⟩), .int .i64 (6 - (d : Int))] w (ValQ R mb w d (valN d l n))
def entN (V : Bs → Nat → Rs (J × Nat)) (k : Int) (keys : List Bs) (l : Bs) (n : Nat) : Rs (Bs × J × Nat) :=
  match (if k = 6 then keyN keys l else .ok [] l) with
  | .err e => .err e
  | .ok s r =>
    match V r n with
    | .err e => .err e
    | .ok (j, n2) r2 => .ok (s, j, n2) r2
def EntQ (R V mb : Nat) (w : World) (d : Nat) (kind : Int) (keys : List Bs) (kids : List J) (o : Rs (Bs × J × Nat)) (e : Ending) (w' : World) : Prop :=
  (match o with
    | .ok (s, j, n2) r => e = .returned (.int .i64 0) ∧ Kst R V (.map (some mb)) kind (d + 1) (if kind = 6 then keys ++ [s] else keys) (kids ++ [j]) r n2 w'
    | .err er => e = .returned (.int .i64 er) ∧ (er == 0) = false ∧ ∃ r n', Rq w' R r n' (.map (some mb))) ∧ Asd (fun k => k = R ∨ V ≤ k) w w'
theorem info_str : (Tryd.prog.info? 9).map (fun i => (i.zero, i.size, i.bytes)) = some (some (.string ⟨#[]⟩), 1, 16) := by kernel_rfl
theorem info_jval : (Tryd.prog.info? 29).map (fun i => (i.zero, i.size, i.bytes)) = some (some (.agg zero5.toArray), 5, 80) := by kernel_rfl
theorem info_parts {e : TypeId} {z : Value} {s b : Nat} (h : (Tryd.prog.info? e).map (fun i => (i.zero, i.size, i.bytes)) = some (some z, s, b)) : ∃ i, Tryd.prog.info? e = some i ∧ i.zero = some z ∧ i.size = s ∧ i.bytes = b := by
  cases hq : Tryd.prog.info? e with
  | none => rw [hq] at h; cases h
  | some i =>
    rw [hq] at h
    simp only [Option.map_some, Option.some.injEq, Prod.mk.injEq] at h
    exact ⟨i, rfl, h.1, h.2.1, h.2.2⟩
/-- A struct is written into a row that one owns. -/
theorem own_store {w : World} {base g n cap : Nat} {xs z cs : List Value} (h : w.ownsRow base 29 5 (.slice (some ⟨g, 0, none⟩) (n + 1) cap) (n + 1) (xs ++ z)) (hx : xs.length = n * 5) (hc : cs.length = 5) (h1 : ∀ v ∈ cs, v.oneCell' = true) :
    ∃ w', (storeVar 29 ⟨g, n * 5, none⟩ (.agg cs.toArray)).run Tryd.prog w = .ok () w' ∧ w'.ownsRow base 29 5 (.slice (some ⟨g, 0, none⟩) (n + 1) cap) (n + 1) (xs ++ cs) ∧ w.grownBy w' (some g) := by
  rcases h.2 with ⟨e, _⟩ | ⟨g', cap', cur, e, hb, hg, hn, hm, hsz, htk⟩
  · cases e
  · injection e with e1 e2 e3
    injection e1 with e1
    injection e1 with e1
    subst e1 e3
    have hrow : n * 5 + cs.length ≤ cur.size := by rw [hsz, hc]; omega
    have hst := run_storeCells_at (P := Tryd.prog) g (n * 5) 29 cs 0 cur w hg (by simpa using hrow) h1
    obtain ⟨i0, hi, _, hz1, _⟩ := info_parts info_jval
    simp only [Nat.add_zero] at hst
    have hlen : (cur.toList.take (n * 5) ++ cs ++ cur.toList.drop (n * 5 + cs.length)).length = cur.size := by
      simp only [List.length_append, List.length_take, List.length_drop, Array.length_toList]; omega
    have e3 : xs.take (n * 5) = xs := List.take_of_length_le (by omega)
    have hpre : cur.toList.take (n * 5) = xs := by
      have e2 := congrArg (List.take (n * 5)) htk
      rw [List.take_take, show min (n * 5) ((n + 1) * 5) = n * 5 by omega, List.take_append_of_le_length (show n * 5 ≤ xs.length by omega), e3] at e2
      exact e2
    have htk2 : (cur.toList.take (n * 5) ++ cs ++ cur.toList.drop (n * 5 + cs.length)).take ((n + 1) * 5) = xs ++ cs := by
      rw [hpre, List.take_append_of_le_length (by rw [List.length_append]; omega), List.take_of_length_le (by rw [List.length_append]; omega)]
    generalize cur.toList.take (n * 5) ++ cs ++ cur.toList.drop (n * 5 + cs.length) = F at *
    refine ⟨_, by simpa [storeVar, sizeOf, typeInfo, hi, hz1, Value.cells, hc] using hst, ⟨by rw [List.length_append]; omega, .inr ⟨g, cap, _, rfl, hb, setRow_heap w g _ _ _ _ hg, hn, hm, by rw [List.size_toArray, hlen]; exact hsz, htk2⟩⟩, ?_⟩
    exact ⟨rfl, rfl, rfl, by rw [setRow_size]; exact Nat.le_refl _, fun k _ hne => setRow_other w g k _ (fun e => hne (by rw [e]))⟩

section
variable {ops : Array Oper} {C : Marks → World → Prop} {q i : Nat} {a : Act} {L : Marks} {o : Oper} {rest : List Oper} {E : Act → Marks → Prop}
/-- A whole value is read, in a region that draws its order. -/
theorem loose_loadv (g : Nat) (t : TypeId) (cs : List Value) (hn : cs.length = 5) (hc : ∀ L w, C L w → Rw w g t cs) (x : Operand) (hq : i < q) (hg : o.guard = none) (ho : o.op = .load 29 x) (hx : a.eval x = .pointer (some ⟨g, 0, none⟩))
    (h : wpLoose Tryd.prog ops C q E rest (i + 1) (a.put o.dst (.agg cs.toArray)) L) : wpLoose Tryd.prog ops C q E (o :: rest) i a L := by
  refine loose_val hq hg ⟨.agg cs.toArray, fun L w hw => ?_, h⟩
  have := run_loadVar_row (P := Tryd.prog) w g t 29 cs.toArray (0, 0) _ (hc L w hw) Tryd.underlying29 rfl (by rw [show cs.toArray.size = 5 by simp [hn]]; kernel_rfl)
  unfold execOp
  simp only [ho, hx, Instr.loadAt, Instr.sureAddr, Sem.run_bind, Sem.run_pure, Result.andThen_ok, this]
end
/-- Elements are appended to a row that one owns, as a step of a region that draws its order. -/
theorem step_own_at {P : Program} {ops : Array Oper} {o : Oper} {a : Act} {w : World} {K : Act → World → Prop} {Q : Exit → Act → World → Prop} {E : Prop} (hgd : o.guard = none) (s x : Operand) (t : TypeId) (ho : o.op = .call { callee := .builtin .append, args := #[s, x], argTypes := #[t, t] })
    (base : Nat) (e : TypeId) (i : TypeInfo) (z : Value) (size bytes : Nat) (ht : P.underlying t = some (.slice e)) (hi : P.info? e = some i) (hz : i.zero = some z) (hsize : i.size = size) (hby : i.bytes = bytes) (hzs : z.cells.size = size) (hsz : 0 < size)
    (v : Value) (n : Nat) (xs : List Value) (hs : a.eval s = v) (hown : w.ownsRow base e size v n xs) (ad : Addr) (m c : Nat) (news : List Value) (hx : a.eval x = .slice (some ad) m c) (hl : news.length = m * size) (hnews : ∀ j u, news[j]? = some u → w.cell? (ad.add j) = some u) (h1 : ∀ u ∈ news, u.oneCell' = true)
    (h63 : n + m ≤ maxLen) (hbytes : (n + m) * bytes ≤ 140737488355328) (hbase : base ≤ w.heap.size)
    (h : ∀ v' w', w'.ownsRow base e size v' (n + m) (xs ++ news) → w.grownBy w' v.ownBlock → (v'.ownBlock = v.ownBlock ∨ v'.ownBlock = some w.heap.size) → K (a.put o.dst v') w') :
    if Region.wanted o (yielded ops a.tmps) = true then Oper.wp P o a w K Q else E := by
  have hw : Region.wanted o (yielded ops a.tmps) = true := by simp [Region.wanted, hgd]
  rw [if_pos hw]
  obtain ⟨v', w', hr, h2, h3, _, h5⟩ := run_append_own_at (P := P) w base t o.type e i z size bytes ht hi hz hsize hby hzs hsz v n xs hown ad m c news hl hnews h1 h63 hbytes hbase
  unfold Oper.wp execOp
  simp only [ho, resolve, invoke, builtin, Sem.run_bind, Sem.run_pure, Result.andThen_ok, List.map_toArray, List.map_cons, List.map_nil, hs, hx, hr]
  exact h v' w' h2 h3 h5
/-- Two that may come up, in either order. -/
theorem held_two {P : Program} {md : Region.Mode} {l tl tl2 : List Oper} {Q : Exit → Act → World → Prop} {S : World → Prop} {fuel : Nat} {listed : Array Bool} {a : Act} {w : World} (i j : Nat) {o o2 : Oper} (hr : Region.ready md l.toArray listed = [i, j]) (hi : l.drop i = o :: tl) (hj : l.drop j = o2 :: tl2) (hw : Region.wanted o (yielded l.toArray a.tmps) = true) (hw2 : Region.wanted o2 (yielded l.toArray a.tmps) = true)
    (h : o.wp P a w (fun a' w' => S w' ∧ wpAnyH P md l.toArray Q S fuel (listed.setIfInBounds i true) a' w') Q) (h2 : o2.wp P a w (fun a' w' => S w' ∧ wpAnyH P md l.toArray Q S fuel (listed.setIfInBounds j true) a' w') Q) : wpAnyH P md l.toArray Q S (fuel + 1) listed a w := by
  refine wpAnyH_all hr (by simp) fun k hk => ?_
  simp at hk
  rcases hk with rfl | rfl
  · unfold wpOp
    simp only [at_drop hi, hw, if_true]
    exact .inl h
  · unfold wpOp
    simp only [at_drop hj, hw2, if_true]
    exact .inl h2
/-- The worlds of an append's first steps: op 6 lays a new value. -/
def CE (W : World) (L : Marks) (w' : World) : Prop := Below W.heap.size W w' ∧ ∀ v, L 6 = some v → ∃ g, W.heap.size ≤ g ∧ v = .slice (some ⟨g, 0, none⟩) 1 1 ∧ ∀ (j : Nat) u, zero5[j]? = some u → w'.cell? ⟨g, j, none⟩ = some u
theorem CE.new {W w : World} {L : Marks} (h : CE W L w) : CE W (upd L 6 (.slice (some ⟨w.heap.size, 0, none⟩) 1 1)) (w.alloc (.cells zero5.toArray 29)) := by
  refine ⟨h.1.alloc h.1.size _, fun v hv => ?_⟩
  simp [upd] at hv
  subst hv
  exact ⟨_, h.1.size, rfl, fun j u hu => by rw [Rw.cell (Rw.new w 29 zero5)]; exact hu⟩
end Go.Proofs.YtbkkcojfgdjbhaaDoor
