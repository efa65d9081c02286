/- alert.Apart of the one alert of lives: two labels. -/
import Derived.Test.YtknhkmlihbgjpaaDoorAAdd
import Derived.Test.YtknhkmlihbgjpaaDoorAId
namespace Go.Proofs.YtknhkmlihbgjpaaDoor
open Go.ChangeShapes Go.WideShapes Go.RowKit
open Go.ChangeMaps (setBlock)

def hostB : Bs := [104, 111, 115, 116]
def teamB : Bs := [116, 101, 97, 109]
def promB : Bs := [112, 114, 111, 109]
def fldsL : List (Bs × Bs) := [(hostB, [104]), (teamB, [116])]
def raisesL : List Nd := [⟨hostB, 4, 0⟩]
theorem raised_host : raisedL raisesL hostB 2 = 4 ∧ raisedC raisesL hostB 2 0 = 0 := by decide
theorem raised_team : raisedL raisesL teamB 2 = 2 ∧ raisedC raisesL teamB 2 0 = 0 := by decide
theorem right_lives : arB promB fldsL 2 5 0 = true := by decide
theorem raises_u : ∀ m ∈ raisesL, U32 m.c := by
  intro m hm
  rw [List.mem_singleton.1 hm]
  exact ⟨by decide, by decide⟩
theorem names_le : ∀ f ∈ fldsL, f.1.length ≤ 9223372036854775807 ∧ f.2.length ≤ 9223372036854775807 := by decide
theorem own_ne_rw {w : World} {base n s b : Nat} {e t : TypeId} {v : Value} {xs cs : List Value} (h : w.ownsRow base e s v n xs) (r : Rw w b t cs) (ht : t ≠ e) : ∀ i, v.ownBlock = some i → i ≠ b := fun i hi e0 => by
  subst e0
  rcases h.2 with ⟨rfl, _⟩ | ⟨g, cap, cur, rfl, _, hg, _⟩
  · cases hi
  · have e1 : g = i := Option.some.inj hi
    unfold Rw at r
    rw [e1, r] at hg
    injection hg with hg
    injection hg with _ hg _
    exact ht hg
theorem Rw.notMap {w : World} {b m : Nat} {t : TypeId} {cs : List Value} {es : Array MapEntry} {clk : Nat} (r : Rw w b t cs) (hm : w.heap[m]? = some (.map es clk)) : b ≠ m := fun e => by
  subst e
  unfold Rw at r
  rw [r] at hm
  cases hm
theorem own_block {w : World} {base n s : Nat} {e : TypeId} {v : Value} {xs : List Value} (h : w.ownsRow base e s v (n + 1) xs) : ∃ g, v.ownBlock = some g ∧ g < w.heap.size := by
  obtain ⟨g, c, rfl⟩ := own_succ h
  exact ⟨g, rfl, (h.lt g rfl).2⟩
theorem wp_mput {o : Oper} {a : Act} {w : World} {K : Act → World → Prop} {Q : Exit → Act → World → Prop} (mm s x : Operand) (t : TypeId) (ho : o.op = .mapUpdate t mm s x) (hd : o.dst = none) (mv sv xv : Value) (w' : World) (hm : a.eval mm = mv) (hs : a.eval s = sv) (hx : a.eval x = xv) (hrun : (Instr.mapUpdate t mv sv xv).run Tryd.prog w = .ok () w')
    (h : K a w') : o.wp Tryd.prog a w K Q := by
  unfold Oper.wp execOp
  simp only [ho, hm, hs, hx, hrun, Sem.run_bind, Sem.run_pure, Result.andThen_ok]
  show K (a.put o.dst undef) w'
  rw [hd]
  exact h
/-- Some cells are as they are told. -/
def CS (L : List (Addr × Value)) (w : World) : Prop := ∀ p ∈ L, w.cell? p.1 = some p.2
theorem CS.at {L : List (Addr × Value)} {w : World} (h : CS L w) (i : Nat) {p : Addr} {v : Value} (hi : L[i]? = some (p, v)) : w.cell? p = some v := h _ (List.mem_of_getElem? hi)
theorem CS.nil (w : World) : CS [] w := fun _ h => by cases h
theorem CS.row {L : List (Addr × Value)} {w : World} (h : CS L w) {g : Nat} {t : TypeId} {cs : List Value} (hr : Rw w g t cs) (i : Nat) {v : Value} (hi : cs[i]? = some v) : CS ((⟨g, i, none⟩, v) :: L) w := fun p hp => by
  rcases List.mem_cons.1 hp with rfl | hp
  · exact (Rw.cell hr i).trans hi
  · exact h p hp
theorem Rw.notIter {w : World} {b r : Nat} {t : TypeId} {cs : List Value} {x : Option Nat} {s c : Nat} {seen : Array Nat} (h : Rw w b t cs) (hr : w.heap[r]? = some (.mapIter x s seen c)) : b ≠ r := fun e => by
  subst e
  unfold Rw at h
  rw [h] at hr
  cases hr
theorem own_not_iter {w : World} {base n s r : Nat} {e : TypeId} {v : Value} {xs : List Value} {x : Option Nat} {s' c : Nat} {seen : Array Nat} (h : w.ownsRow base e s v n xs) (hr : w.heap[r]? = some (.mapIter x s' seen c)) : ∀ i, v.ownBlock = some i → i ≠ r := fun i hi e => by
  subst e
  rcases h.2 with ⟨rfl, _⟩ | ⟨g, cap, cur, rfl, _, hg, _⟩
  · cases hi
  · have e : g = i := Option.some.inj hi
    rw [e, hr] at hg
    cases hg
theorem run_range_map {w : World} {m clk : Nat} {es : Array MapEntry} (h : w.heap[m]? = some (.map es clk)) : (Instr.range 57 (.map (some m))).run Tryd.prog w = .ok (.pointer (some ⟨w.heap.size, 0, none⟩)) (w.alloc (.mapIter (some m) clk #[] clk)) := by
  simp [Instr.range, run_underlying Tryd.underlying57, MapKept.run_getObj_map h, Result.andThen]
theorem has_push (s : Array Nat) (a b : Nat) : (s.push a).contains b = (s.contains b || b == a) := by
  by_cases h : b = a <;> simp [h]
/-- What stands while the ids are put in order. -/
structure ApR (W : World) (B r m base : Nat) (ID : Nat) (seen : Array Nat) (v u : Value) (w : World) : Prop where
  it : w.heap[r]? = some (.mapIter (some m) 2 seen 2)
  b : Rw w B 57 [.map (some m)]
  mp : w.heap[m]? = some (.map (E2 v u) 2)
  ov : seen.contains 0 = true ∨ w.ownsRow base 38 1 v 2 [uv ID, uv ID]
  ou : seen.contains 1 = true ∨ w.ownsRow base 38 1 u 1 [uv ID]
  ne : seen.contains 0 = true ∨ seen.contains 1 = true ∨ v.ownBlock ≠ u.ownBlock
  below : Below W.heap.size W w
theorem ApR.stay {W w w' : World} {B r m base ID : Nat} {seen : Array Nat} {v u : Value} (h : ApR W B r m base ID seen v u w) (k : Below w.heap.size w w') : ApR W B r m base ID seen v u w' :=
  ⟨map_stay h.it k, h.b.stay k, map_stay h.mp k, h.ov.imp id fun e => own_stay2 e k, h.ou.imp id fun e => own_stay2 e k, h.ne, h.below.trans (k.mono h.below.size)⟩
theorem ApR.turn {W w w' : World} {B r m base ID g : Nat} {seen : Array Nat} {v u : Value} {cs : List Value} (h : ApR W B r m base ID seen v u w) (hr : Rw w g 38 cs) (k : Asd (· = g) w w') (hg : W.heap.size ≤ g)
    (hv : seen.contains 0 = true ∨ v.ownBlock ≠ some g) (hu : seen.contains 1 = true ∨ u.ownBlock ≠ some g) : ApR W B r m base ID seen v u w' := by
  have h1 : r ≠ g := fun e => Rw.notIter hr h.it e.symm
  have h2 : m ≠ g := fun e => Rw.notMap hr h.mp e.symm
  have h3 : B ≠ g := fun e => by
    have a := h.b
    unfold Rw at a hr
    rw [e, hr] at a
    injection a with a
    injection a with _ a _
    revert a
    decide
  refine ⟨(k.block r (Array.getElem?_eq_some_iff.1 h.it).1 h1).trans h.it, h.b.keep k h3, (k.block m (Array.getElem?_eq_some_iff.1 h.mp).1 h2).trans h.mp, ?_, ?_, h.ne, h.below.trans (k.toBelow h.below.size (fun j e => by have e : j = g := e; omega))⟩
  · rcases hv with hv | hv
    · exact .inl hv
    · exact h.ov.imp id fun e => own_asdS e k (fun i hi e => hv (by rw [hi, show i = g from e]))
  · rcases hu with hu | hu
    · exact .inl hu
    · exact h.ou.imp id fun e => own_asdS e k (fun i hi e => hu (by rw [hi, show i = g from e]))
theorem ApR.putFirst {W w : World} {B r m base ID : Nat} {seen : Array Nat} {v u : Value} (h : ApR W B r m base ID seen v u w) (hs : seen.contains 0 = true) (hm : W.heap.size ≤ m) (x : Value) : ApR W B r m base ID seen x u (setBlock w m (.map (E2 x u) 2)) := by
  have k := Asd.oneM w m (.map (E2 x u) 2)
  have h1 : r ≠ m := fun e => by have h1 := h.mp; rw [← e, h.it] at h1; cases h1
  exact ⟨(k.block r (Array.getElem?_eq_some_iff.1 h.it).1 h1).trans h.it, h.b.keep k (Rw.notMap h.b h.mp), block_at h.mp, .inl hs, h.ou.imp id fun e => own_asdS e k (own_not_map e h.mp), .inl hs, h.below.trans (k.toBelow h.below.size (fun j e => by have e : j = m := e; omega))⟩
theorem ApR.putSecond {W w : World} {B r m base ID : Nat} {seen : Array Nat} {v u : Value} (h : ApR W B r m base ID seen v u w) (hs : seen.contains 1 = true) (hm : W.heap.size ≤ m) (x : Value) : ApR W B r m base ID seen v x (setBlock w m (.map (E2 v x) 2)) := by
  have k := Asd.oneM w m (.map (E2 v x) 2)
  have h1 : r ≠ m := fun e => by have h1 := h.mp; rw [← e, h.it] at h1; cases h1
  exact ⟨(k.block r (Array.getElem?_eq_some_iff.1 h.it).1 h1).trans h.it, h.b.keep k (Rw.notMap h.b h.mp), block_at h.mp, h.ov.imp id fun e => own_asdS e k (own_not_map e h.mp), .inl hs, .inr (.inl hs), h.below.trans (k.toBelow h.below.size (fun j e => by have e : j = m := e; omega))⟩
def leftN (r : Nat) (w : World) : Nat := match w.heap[r]? with
  | some (.mapIter _ _ s _) => (if s.contains 0 then 0 else 1) + (if s.contains 1 then 0 else 1)
  | _ => 0
/-- What stands while alerts are laid apart: the policy, the map's own place, an alert, the map. -/
structure ApS (W : World) (bP B A m : Nat) (pol al : List Value) (es : Array MapEntry) (clk : Nat) (w : World) : Prop where
  p : Rw w bP 50 pol
  b : Rw w B 57 [.map (some m)]
  a : Rw w A 29 al
  mp : w.heap[m]? = some (.map es clk)
  ge : W.heap.size ≤ m
  below : Below W.heap.size W w
theorem ApS.stay {W w w' : World} {bP B A m clk : Nat} {pol al : List Value} {es : Array MapEntry} (h : ApS W bP B A m pol al es clk w) (k : Below w.heap.size w w') : ApS W bP B A m pol al es clk w' :=
  ⟨h.p.stay k, h.b.stay k, h.a.stay k, map_stay h.mp k, h.ge, h.below.trans (k.mono h.below.size)⟩
/-- A number is laid. -/
theorem ApS.add {W w w' : World} {bP B A m clk clk' base n : Nat} {pol al xs : List Value} {es es' : Array MapEntry} {old : Value} (h : ApS W bP B A m pol al es clk w) (ho : w.ownsRow base 38 1 old n xs) (hb : W.heap.size ≤ base) (k : Asd (fun k => k = m ∨ old.ownBlock = some k) w w') (hm : w'.heap[m]? = some (.map es' clk')) : ApS W bP B A m pol al es' clk' w' := by
  have f : ∀ {b : Nat} {t : TypeId} {cs : List Value}, Rw w b t cs → t ≠ 38 → ¬ (b = m ∨ old.ownBlock = some b) := fun r ht e => by
    rcases e with e | e
    · exact Rw.notMap r h.mp e
    · exact own_ne_rw ho r ht _ e rfl
  exact ⟨h.p.keep k (f h.p (by decide)), h.b.keep k (f h.b (by decide)), h.a.keep k (f h.a (by decide)), hm, h.ge, h.below.trans (k.toBelow h.below.size (fun j e => by
    rcases e with e | e
    · rw [e]; exact h.ge
    · have := (ho.lt j e).1; omega))⟩
set_option maxHeartbeats 6400000 in
set_option maxRecDepth 100000 in
theorem apart_any (P P' : Nat → Prop) (x0 x1 x2 x3 x4 x5 y : Sl) (gA oA cA : Nat) (w : World) (ht : Dg.Tabs w) (h : FldsAt P w y.v fldsL) (hn : NdsAt P' w x3.v raisesL)
    (hA : ∀ (i : Nat) u, [Value.string ⟨promB.toArray⟩, y.v, .int .i64 2, .int .u32 0, .int .i64 5, .int .i64 0][i]? = some u → w.cell? ⟨gA, oA + i, none⟩ = some u) :
    Calls Tryd.prog 27 #[.agg #[x0.v, x1.v, x2.v, x3.v, x4.v, x5.v], .slice (some ⟨gA, oA, none⟩) 1 cA] w fun e w' => ∃ m v u, e = .returned (.map (some m)) ∧ w'.heap[m]? = some (.map (E2 v u) 2) ∧ Below w.heap.size w w' := by
  have KR := Lib.hid fun nm w' (hb : Below w.heap.size w w') => raised_any P' x0 x1 x2 x3 x4 x5 raisesL nm 2 0 w' (hn.stay hb) (by decide) raises_u ⟨by decide, by decide⟩
  have KI := Lib.hid fun w' (hb : Below w.heap.size w w') => id_any P promB y fldsL 2 0 5 0 w' (ht.keep hb) (h.stay hb) (by decide) (by decide)
  have KA := Lib.hid fun w' (hb : Below w.heap.size w w') => aright_any P promB y fldsL 2 0 5 0 w' (h.stay hb) (by decide) (by decide) names_le
  rw [right_lives] at KA
  obtain ⟨a0, n0, k0⟩ := x0
  obtain ⟨a1, n1, k1⟩ := x1
  obtain ⟨a2, n2, k2⟩ := x2
  obtain ⟨a3, n3, k3⟩ := x3
  obtain ⟨a4, n4, k4⟩ := x4
  obtain ⟨a5, n5, k5⟩ := x5
  obtain ⟨ay, ny, ky⟩ := y
  have hny : ny = 2 := by
    obtain ⟨_, _, e⟩ := h.shape
    injection e
  subst hny
  simp only [Sl.v] at KR KI KA h hA ⊢
  generalize idN promB fldsL = ID at *
  go_enter Tryd.func27, Tryd.ntmps27
  have hmm : ∀ w, (Instr.makeMap 57 none).run Tryd.prog w = .ok (.map (some w.heap.size)) (w.alloc (.map #[] 0)) := fun w => rfl
  go_upto_region 4 with fail
  have hB1 : Below w.heap.size w (((w.alloc (.cells #[.slice a0 n0 k0, .slice a1 n1 k1, .slice a2 n2 k2, .slice a3 n3 k3, .slice a4 n4 k4, .slice a5 n5 k5] 50)).alloc (.map #[] 0)).alloc (.cells #[.map (some (w.heap.size + 1))] 57)) := (((Below.refl _ w).alloc (Nat.le_refl _) _).alloc (by simp) _).alloc (by simp; omega) _
  have rP := Rw.past (Rw.past (Rw.new w 50 [.slice a0 n0 k0, .slice a1 n1 k1, .slice a2 n2 k2, .slice a3 n3 k3, .slice a4 n4 k4, .slice a5 n5 k5]) (.map #[] 0)) (.cells #[.map (some (w.heap.size + 1))] 57)
  have hm : (((w.alloc (.cells #[.slice a0 n0 k0, .slice a1 n1 k1, .slice a2 n2 k2, .slice a3 n3 k3, .slice a4 n4 k4, .slice a5 n5 k5] 50)).alloc (.map #[] 0)).alloc (.cells #[.map (some (w.heap.size + 1))] 57)).heap[w.heap.size + 1]? = some (.map #[] 0) := by
    refine map_stay (w := (w.alloc (.cells #[.slice a0 n0 k0, .slice a1 n1 k1, .slice a2 n2 k2, .slice a3 n3 k3, .slice a4 n4 k4, .slice a5 n5 k5] 50)).alloc (.map #[] 0)) ?_ ((Below.refl _ _).alloc (Nat.le_refl _) _)
    have e := heap_alloc_last (w.alloc (.cells #[.slice a0 n0 k0, .slice a1 n1 k1, .slice a2 n2 k2, .slice a3 n3 k3, .slice a4 n4 k4, .slice a5 n5 k5] 50)) (.map #[] 0)
    rw [show (w.alloc (.cells #[.slice a0 n0 k0, .slice a1 n1 k1, .slice a2 n2 k2, .slice a3 n3 k3, .slice a4 n4 k4, .slice a5 n5 k5] 50)).heap.size = w.heap.size + 1 by simp] at e
    exact e
  have rB : Rw (((w.alloc (.cells #[.slice a0 n0 k0, .slice a1 n1 k1, .slice a2 n2 k2, .slice a3 n3 k3, .slice a4 n4 k4, .slice a5 n5 k5] 50)).alloc (.map #[] 0)).alloc (.cells #[.map (some (w.heap.size + 1))] 57)) (w.heap.size + 1 + 1) 57 [.map (some (w.heap.size + 1))] := by
    have e := Rw.new ((w.alloc (.cells #[.slice a0 n0 k0, .slice a1 n1 k1, .slice a2 n2 k2, .slice a3 n3 k3, .slice a4 n4 k4, .slice a5 n5 k5] 50)).alloc (.map #[] 0)) 57 [.map (some (w.heap.size + 1))]
    rw [show ((w.alloc (.cells #[.slice a0 n0 k0, .slice a1 n1 k1, .slice a2 n2 k2, .slice a3 n3 k3, .slice a4 n4 k4, .slice a5 n5 k5] 50)).alloc (.map #[] 0)).heap.size = w.heap.size + 1 + 1 by simp] at e
    exact e
  generalize ((w.alloc (.cells #[.slice a0 n0 k0, .slice a1 n1 k1, .slice a2 n2 k2, .slice a3 n3 k3, .slice a4 n4 k4, .slice a5 n5 k5] 50)).alloc (.map #[] 0)).alloc (.cells #[.map (some (w.heap.size + 1))] 57) = w1 at *
  have hge : w.heap.size ≤ w.heap.size + 1 := by omega
  generalize w.heap.size + 1 + 1 = B at *
  generalize w.heap.size + 1 = m at *
  generalize hbp : w.heap.size = bP at rP ⊢
  have HBP : Unit → w.heap.size = bP := fun _ => hbp
  clear hbp hmm
  have hsz1 := hB1.size
  go_loopw [18] (fun u18 wr => (u18 = .int .i64 0 ∧ wr = w1) ∨ (u18 = .int .i64 1 ∧ ∃ v u, Rw wr B 57 [.map (some m)] ∧ wr.heap[m]? = some (.map (E2 v u) 2) ∧ wr.ownsRow w1.heap.size 38 1 v 2 [uv ID, uv ID] ∧ wr.ownsRow w1.heap.size 38 1 u 1 [uv ID] ∧ v.ownBlock ≠ u.ownBlock ∧ Below w.heap.size w wr)) (fun u18 _ => 1 - (intOf u18).toNat)
  case atStart => exact .inl ⟨rfl, rfl⟩
  case round =>
    rcases hrel with ⟨rfl, rfl⟩ | ⟨rfl, v, u, rB, hm, hv, hu, hne, hB⟩
    · have c0 := (hB1.cell (World.block_lt_of_cell? _ _ (hA 0 _ rfl))).trans (hA 0 _ rfl)
      have c1 := (hB1.cell (World.block_lt_of_cell? _ _ (hA 1 _ rfl))).trans (hA 1 _ rfl)
      have c2 := (hB1.cell (World.block_lt_of_cell? _ _ (hA 2 _ rfl))).trans (hA 2 _ rfl)
      have c3 := (hB1.cell (World.block_lt_of_cell? _ _ (hA 3 _ rfl))).trans (hA 3 _ rfl)
      have c4 := (hB1.cell (World.block_lt_of_cell? _ _ (hA 4 _ rfl))).trans (hA 4 _ rfl)
      have c5 := (hB1.cell (World.block_lt_of_cell? _ _ (hA 5 _ rfl))).trans (hA 5 _ rfl)
      simp only [Nat.add_zero] at c0
      go_upto_region 6 with fail
      have hal : Below wr.heap.size wr (wr.alloc (.cells #[.string ⟨promB.toArray⟩, .slice ay 2 ky, .int .i64 2, .int .u32 0, .int .i64 5, .int .i64 0] 29)) := (Below.refl _ _).alloc (Nat.le_refl _) _
      have rA : Rw (wr.alloc (.cells #[.string ⟨promB.toArray⟩, .slice ay 2 ky, .int .i64 2, .int .u32 0, .int .i64 5, .int .i64 0] 29)) wr.heap.size 29 [.string ⟨promB.toArray⟩, .slice ay 2 ky, .int .i64 2, .int .u32 0, .int .i64 5, .int .i64 0] := Rw.new wr 29 [.string ⟨promB.toArray⟩, .slice ay 2 ky, .int .i64 2, .int .u32 0, .int .i64 5, .int .i64 0]
      have S0 : ApS w bP B wr.heap.size m [.slice a0 n0 k0, .slice a1 n1 k1, .slice a2 n2 k2, .slice a3 n3 k3, .slice a4 n4 k4, .slice a5 n5 k5] [.string ⟨promB.toArray⟩, .slice ay 2 ky, .int .i64 2, .int .u32 0, .int .i64 5, .int .i64 0] #[] 0 (wr.alloc (.cells #[.string ⟨promB.toArray⟩, .slice ay 2 ky, .int .i64 2, .int .u32 0, .int .i64 5, .int .i64 0] 29)) :=
        ⟨rP.stay hal, rB.stay hal, rA, map_stay hm hal, by omega, hB1.trans (hal.mono hsz1)⟩
      clear rA hal c0 c1 c2 c3 c4 c5 rP rB hm
      have hbs : w.heap.size ≤ wr.heap.size := hsz1
      generalize wr.alloc (.cells #[.string ⟨promB.toArray⟩, .slice ay 2 ky, .int .i64 2, .int .u32 0, .int .i64 5, .int .i64 0] 29) = w2 at *
      have hA2 : wr.heap.size ≤ w2.heap.size := by have := S0.a.lt; omega
      generalize hbA : wr.heap.size = base at *
      have HBA : Unit → wr.heap.size = base := fun _ => hbA
      clear hbA
      have e0 := Rw.cell S0.a 0
      have e1 := Rw.cell S0.a 1
      have e2 := Rw.cell S0.a 2
      have e3 := Rw.cell S0.a 3
      have e4 := Rw.cell S0.a 4
      have e5 := Rw.cell S0.a 5
      simp only [List.getElem?_cons_zero, List.getElem?_cons_succ] at e0 e1 e2 e3 e4 e5
      go_wp2_with fail
      refine (KA.out _ S0.below).mono ?_
      rintro e w3 ⟨rfl, hb⟩
      have S1 := S0.stay hb
      have hsz3 := hb.size
      clear S0 KA hb e0 e1 e2 e3 e4 e5
      have e0 := Rw.cell S1.a 0
      have e1 := Rw.cell S1.a 1
      have e2 := Rw.cell S1.a 2
      have e3 := Rw.cell S1.a 3
      have e4 := Rw.cell S1.a 4
      have e5 := Rw.cell S1.a 5
      simp only [List.getElem?_cons_zero, List.getElem?_cons_succ] at e0 e1 e2 e3 e4 e5
      go_wp2_with fail
      refine (KI.out _ S1.below).mono ?_
      rintro e w4 ⟨rfl, hb⟩
      have S2 := S1.stay hb
      have hsz4 := hb.size
      clear S1 KI hb e0 e1 e2 e3 e4 e5
      have e2 := Rw.cell S2.a 2
      have e3 := Rw.cell S2.a 3
      simp only [List.getElem?_cons_zero, List.getElem?_cons_succ] at e2 e3
      go_wp2_with fail
      refine (add_any 2 0 ID m B base 0 #[] (E1 (.slice none 0 0)) 0 1 (.slice none 0 0) E1 [] w4 S2.b S2.mp (fun w h => entry_none h) (fun w v h => store_one v h) (World.ownsRow_nil _ _ _ _) (by omega) (by decide)).mono ?_
      rintro e w5 ⟨rfl, v, hv, hm5, hvb, A5⟩
      have S3 := S2.add (World.ownsRow_nil w4 base _ _) hbs A5 hm5
      have hsz5 := A5.size
      clear S2 A5 hm5 e2 e3
      have e1 := Rw.cell S3.a 1
      simp only [List.getElem?_cons_zero, List.getElem?_cons_succ] at e1
      have hv1 : w5.ownsRow base 38 1 v 1 [uv ID] := hv
      clear hv hvb
      have hb5 : base ≤ w5.heap.size := by omega
      go_upto_region 10 with fail
      go_loopw [35] (fun u35 wr => (u35 = .int .i64 0 ∧ wr = w5) ∨ (u35 = .int .i64 1 ∧ ∃ v u, ApS w bP B base m [.slice a0 n0 k0, .slice a1 n1 k1, .slice a2 n2 k2, .slice a3 n3 k3, .slice a4 n4 k4, .slice a5 n5 k5] [.string ⟨promB.toArray⟩, .slice ay 2 ky, .int .i64 2, .int .u32 0, .int .i64 5, .int .i64 0] (E2 v u) 2 wr ∧ wr.ownsRow base 38 1 v 1 [uv ID] ∧ wr.ownsRow base 38 1 u 1 [uv ID] ∧ v.ownBlock ≠ u.ownBlock ∧ base ≤ wr.heap.size) ∨
        (u35 = .int .i64 2 ∧ ∃ v u, ApS w bP B base m [.slice a0 n0 k0, .slice a1 n1 k1, .slice a2 n2 k2, .slice a3 n3 k3, .slice a4 n4 k4, .slice a5 n5 k5] [.string ⟨promB.toArray⟩, .slice ay 2 ky, .int .i64 2, .int .u32 0, .int .i64 5, .int .i64 0] (E2 v u) 2 wr ∧ wr.ownsRow base 38 1 v 2 [uv ID, uv ID] ∧ wr.ownsRow base 38 1 u 1 [uv ID] ∧ v.ownBlock ≠ u.ownBlock)) (fun u35 _ => 2 - (intOf u35).toNat)
      case atStart => exact .inl ⟨rfl, rfl⟩
      case round =>
        rcases hrel with ⟨rfl, rfl⟩ | ⟨rfl, v, u, S5, hv, hu, hne, hb5⟩ | ⟨rfl, v, u, S5, hv, hu, hne⟩
        · obtain ⟨g, o, rfl, _, hgl, c0, c1⟩ := (h.stay S3.below).part (j := 0) (f := (hostB, [104])) rfl
          simp only [Nat.zero_mul, Nat.add_zero] at c0 c1
          have hal : Below wr.heap.size wr (wr.alloc (.cells #[.string ⟨hostB.toArray⟩, .string ⟨([104] : Bs).toArray⟩] 64)) := (Below.refl _ _).alloc (Nat.le_refl _) _
          have rF : Rw (wr.alloc (.cells #[.string ⟨hostB.toArray⟩, .string ⟨([104] : Bs).toArray⟩] 64)) wr.heap.size 64 [.string ⟨hostB.toArray⟩, .string ⟨([104] : Bs).toArray⟩] := Rw.new wr 64 [.string ⟨hostB.toArray⟩, .string ⟨([104] : Bs).toArray⟩]
          have S4 := S3.stay hal
          have hsz := hal.size
          have hv4 := own_stay2 hv1 hal
          have KH := KR.out hostB _ S4.below
          simp only [raised_host.1, raised_host.2] at KH
          replace KH := Lib.hid KH
          clear S3 hv1
          go_upto_region 12 with fail
          generalize wr.alloc (.cells #[.string ⟨hostB.toArray⟩, .string ⟨([104] : Bs).toArray⟩] 64) = w6 at *
          generalize wr.heap.size = bF at *
          clear c0 c1 hal
          have p0 := Rw.cell S4.p 0
          have p1 := Rw.cell S4.p 1
          have p2 := Rw.cell S4.p 2
          have p3 := Rw.cell S4.p 3
          have p4 := Rw.cell S4.p 4
          have p5 := Rw.cell S4.p 5
          have f0 := Rw.cell rF 0
          have e2 := Rw.cell S4.a 2
          have e3 := Rw.cell S4.a 3
          simp only [List.getElem?_cons_zero, List.getElem?_cons_succ] at p0 p1 p2 p3 p4 p5 f0 e2 e3
          go_wp2_with fail
          refine KH.out.mono ?_
          rintro e w7 ⟨rfl, hb⟩
          have S6 := S4.stay hb
          have hv6 := own_stay2 hv4 hb
          have hsz7 := hb.size
          clear KH S4 hv4 hb p0 p1 p2 p3 p4 p5 f0 e2 e3 rF
          go_wp2_with fail
          refine (add_any 4 0 ID m B base 1 (E1 v) (E2 v (.slice none 0 0)) 1 2 (.slice none 0 0) (E2 v) [] w7 S6.b S6.mp (fun w h => entry_other h) (fun w x h => store_second x h) (World.ownsRow_nil _ _ _ _) (by omega) (by decide)).mono ?_
          rintro e w8 ⟨rfl, u, hu, hm8, hub, A8⟩
          have S7 := S6.add (World.ownsRow_nil w7 base _ _) hbs A8 hm8
          have hu1 : w8.ownsRow base 38 1 u 1 [uv ID] := hu
          have hv8 := own_asdS hv6 A8 (fun i hi e => by
            rcases e with e | e
            · exact own_not_map hv6 S6.mp i hi e
            · cases e)
          have hne : v.ownBlock ≠ u.ownBlock := fun e => by
            obtain ⟨gv, ev, hgv⟩ := own_block hv6
            rcases hub with h0 | ⟨k, hk, hkl⟩
            · rw [h0, ev] at e; cases e
            · rw [hk, ev] at e
              have e := Option.some.inj e
              omega
          have hsz8 := A8.size
          clear S6 hv6 hu hub A8 hm8
          go_wp2_with fail
          go_roundw
          case rel => exact .inr (.inl ⟨rfl, v, u, S7, hv8, hu1, hne, by omega⟩)
          case measure => simp [intOf]
        · obtain ⟨g, o, rfl, _, hgl, c0, c1⟩ := (h.stay S5.below).part (j := 1) (f := (teamB, [116])) rfl
          simp only [Nat.one_mul] at c0 c1
          have hal : Below wr.heap.size wr (wr.alloc (.cells #[.string ⟨teamB.toArray⟩, .string ⟨([116] : Bs).toArray⟩] 64)) := (Below.refl _ _).alloc (Nat.le_refl _) _
          have rF : Rw (wr.alloc (.cells #[.string ⟨teamB.toArray⟩, .string ⟨([116] : Bs).toArray⟩] 64)) wr.heap.size 64 [.string ⟨teamB.toArray⟩, .string ⟨([116] : Bs).toArray⟩] := Rw.new wr 64 [.string ⟨teamB.toArray⟩, .string ⟨([116] : Bs).toArray⟩]
          have S4 := S5.stay hal
          have hsz := hal.size
          have hv4 := own_stay2 hv hal
          have hu4 := own_stay2 hu hal
          have KH := KR.out teamB _ S4.below
          simp only [raised_team.1, raised_team.2] at KH
          replace KH := Lib.hid KH
          clear S5 hv hu
          go_upto_region 12 with fail
          generalize wr.alloc (.cells #[.string ⟨teamB.toArray⟩, .string ⟨([116] : Bs).toArray⟩] 64) = w6 at *
          generalize wr.heap.size = bF at *
          clear c0 c1 hal
          have p0 := Rw.cell S4.p 0
          have p1 := Rw.cell S4.p 1
          have p2 := Rw.cell S4.p 2
          have p3 := Rw.cell S4.p 3
          have p4 := Rw.cell S4.p 4
          have p5 := Rw.cell S4.p 5
          have f0 := Rw.cell rF 0
          have e2 := Rw.cell S4.a 2
          have e3 := Rw.cell S4.a 3
          simp only [List.getElem?_cons_zero, List.getElem?_cons_succ] at p0 p1 p2 p3 p4 p5 f0 e2 e3
          go_wp2_with fail
          refine KH.out.mono ?_
          rintro e w7 ⟨rfl, hb⟩
          have S6 := S4.stay hb
          have hv6 := own_stay2 hv4 hb
          have hu6 := own_stay2 hu4 hb
          have hsz7 := hb.size
          clear KH S4 hv4 hu4 hb p0 p1 p2 p3 p4 p5 f0 e2 e3 rF
          go_wp2_with fail
          refine (add_any 2 0 ID m B base 0 (E2 v u) (E2 v u) 2 2 v (fun x => E2 x u) [ID] w7 S6.b S6.mp (fun w h => entry_first h) (fun w x h => store_first x h) hv6 (by omega) (by simp)).mono ?_
          rintro e w8 ⟨rfl, v', hv', hm8, hvb, A8⟩
          have S7 := S6.add hv6 hbs A8 hm8
          have hv8 : w8.ownsRow base 38 1 v' 2 [uv ID, uv ID] := hv'
          have hu8 := own_asdS hu6 A8 (fun i hi e => by
            rcases e with e | e
            · exact own_not_map hu6 S6.mp i hi e
            · exact hne (e.trans hi.symm))
          have hne2 : v'.ownBlock ≠ u.ownBlock := fun e => by
            obtain ⟨gu, eu, hgu⟩ := own_block hu6
            rcases hvb with h0 | ⟨k, hk, hkl⟩
            · rw [h0] at e; exact hne e
            · rw [hk, eu] at e
              have e := Option.some.inj e
              omega
          clear S6 hv6 hu6 hv' hvb A8 hm8
          go_wp2_with fail
          go_roundw
          case rel => exact .inr (.inr ⟨rfl, v', u, S7, hv8, hu8, hne2⟩)
          case measure => simp [intOf]
        · go_wp2_with fail
          go_roundw
          case rel => exact .inr ⟨rfl, v, u, S5.b, S5.mp, by rw [HBA ()]; exact hv, by rw [HBA ()]; exact hu, hne, S5.below⟩
          case measure => simp [intOf]
    · have hrg := run_range_map hm
      have hal : Below wr.heap.size wr (wr.alloc (.mapIter (some m) 2 #[] 2)) := (Below.refl _ _).alloc (Nat.le_refl _) _
      have b0 := Rw.cell rB 0
      simp only [List.getElem?_cons_zero] at b0
      have HR : ApR w B wr.heap.size m w1.heap.size ID #[] v u (wr.alloc (.mapIter (some m) 2 #[] 2)) :=
        ⟨heap_alloc_last _ _, rB.stay hal, map_stay hm hal, .inr (own_stay2 hv hal), .inr (own_stay2 hu hal), .inr (.inr hne), hB.trans (hal.mono hB.size)⟩
      have hrl : w.heap.size ≤ wr.heap.size := hB.size
      go_upto_region 16 with fail
      generalize wr.alloc (.mapIter (some m) 2 #[] 2) = w3 at *
      generalize wr.heap.size = r at *
      clear rB hm hv hu hne hB hrg hal b0
      go_loopw [] (fun wr => ∃ seen v u, ApR w B r m w1.heap.size ID seen v u wr) (fun wr => leftN r wr)
      case atStart => exact ⟨#[], v, u, HR⟩
      case round =>
        clear HR
        obtain ⟨seen, v, u, HR⟩ := hrel
        have hnx := run_next_at (P := Tryd.prog) wr 0 r m 2 2 seen (E2 v u) 2 HR.it HR.mp (by simp [E2]) (Nat.le_refl 2)
        rcases hnx with ⟨_, hnx⟩ | ⟨en, hen, wq, hwq, hnx⟩
        · have hb0 := Rw.cell HR.b 0
          simp only [List.getElem?_cons_zero] at hb0
          go_wp2_with fail
          go_ret
          exact ⟨m, v, u, rfl, HR.mp, HR.below⟩
        · have hse : seen.contains en.born = false := by
            simp only [leftOf, Array.toList_filter, List.mem_filter, Bool.not_eq_true'] at hen
            exact hen.2
          have hee : en = ⟨labV 2 0, v, 0⟩ ∨ en = ⟨labV 4 0, u, 1⟩ := by
            simp only [leftOf, Array.toList_filter, List.mem_filter] at hen
            simpa [E2] using hen.1
          clear hen
          rcases hee with rfl | rfl
          · have hc0 : seen.contains 0 = false := hse
            have hown := HR.ov.resolve_left (by rw [hc0]; decide)
            have A1 : Asd (· = r) wr (setBlock wq r (.mapIter (some m) 2 (seen.push 0) 2)) := by
              rcases hwq with rfl | rfl
              · exact Asd.oneM _ _ _
              · exact (Asd.refl (· = r) _).drew.mblock (.inl rfl) _
            have hit : (setBlock wq r (.mapIter (some m) 2 (seen.push 0) 2)).heap[r]? = some (.mapIter (some m) 2 (seen.push 0) 2) := block_at (o := .mapIter (some m) 2 seen 2) (by rcases hwq with rfl | rfl <;> exact HR.it)
            have hnm : m ≠ r := fun e => by have h1 := HR.mp; rw [e, HR.it] at h1; cases h1
            have hown1 := own_asdS hown A1 (own_not_iter hown HR.it)
            have hpb : (seen.push 0).contains 0 = true := by rw [has_push]; simp
            have hpo : (seen.push 0).contains 1 = seen.contains 1 := by rw [has_push]; simp
            have hne1 : seen.contains 1 = true ∨ v.ownBlock ≠ u.ownBlock := HR.ne.elim (fun e => by rw [hc0] at e; cases e) id
            have H5 : ApR w B r m w1.heap.size ID (seen.push 0) v u (setBlock wq r (.mapIter (some m) 2 (seen.push 0) 2)) :=
              ⟨hit, HR.b.keep A1 (Rw.notIter HR.b HR.it), (A1.block m (Array.getElem?_eq_some_iff.1 HR.mp).1 hnm).trans HR.mp, .inl hpb, by rw [hpo]; exact HR.ou.imp id fun h => own_asdS h A1 (own_not_iter h HR.it), .inl hpb,
                HR.below.trans (A1.toBelow HR.below.size (fun k e => by have e : k = r := e; omega))⟩
            have hen := run_entry_at (P := Tryd.prog) _ r m 2 seen (E2 v u) 2 ⟨labV 2 0, v, 0⟩ hit H5.mp (by simp [E2]) (by simp [E2])
            simp only [labV] at hen
            have hmeas : leftN r wr = 1 + (if seen.contains 1 then 0 else 1) := by
              unfold leftN
              rw [HR.it]
              simp only [hc0]
              cases seen.contains 1 <;> rfl
            go_upto_region 17 with fail
            generalize (setBlock wq r (.mapIter (some m) 2 (seen.push 0) 2)) = w5 at *
            obtain ⟨g, cap, rfl⟩ := own_succ hown1
            have hcap : 2 ≤ cap := by
              obtain ⟨_, c', e, hle⟩ := own_slice hown1
              injection e with _ _ e
              omega
            clear A1 hown HR
            go_upto_region 18 with fail
            have hal : Below w5.heap.size w5 (w5.alloc (.cells #[.int .i64 2, .int .u32 0] 25)) := (Below.refl _ _).alloc (Nat.le_refl _) _
            have rK : Rw (w5.alloc (.cells #[.int .i64 2, .int .u32 0] 25)) w5.heap.size 25 [.int .i64 2, .int .u32 0] := Rw.new w5 25 [.int .i64 2, .int .u32 0]
            have H6 := H5.stay hal
            have hown6 := own_stay2 hown1 hal
            generalize w5.alloc (.cells #[.int .i64 2, .int .u32 0] 25) = w6 at *
            generalize w5.heap.size = K at *
            clear H5 hown1 hal hen
            have hnums : NumsAt w6 g 2 cap [ID, ID] := ⟨rfl, hcap, fun j x hx => by
              have e := hown6.cells (g := g) rfl j (uv x) (by rw [show [uv ID, uv ID] = List.map uv [ID, ID] from rfl, List.getElem?_map, hx]; rfl)
              rw [add_at, Nat.zero_add] at e
              exact e⟩
            have hup : Up [ID, ID] := fun j x y hx hy => by
              match j, hx, hy with
              | 0, hx, hy => simp at hx hy <;> omega
              | j + 1, hx, hy => simp at hy
            have KS := Lib.hid (sort_any g 2 cap [ID, ID] w6 hnums hup (.inr rfl))
            go_wp2_with fail
            refine KS.out.mono ?_
            rintro e w7 ⟨rfl, hb⟩
            have H7 := H6.stay hb
            have hown7 := own_stay2 hown6 hb
            have rK7 := rK.stay hb
            clear KS hnums hup H6 hown6 rK hb
            have hgw : w.heap.size ≤ g := Nat.le_trans hsz1 (hown7.lt g rfl).1
            obtain ⟨cs7, hr7⟩ : ∃ cs, Rw w7 g 38 cs := by
              rcases hown7.2 with ⟨e, _⟩ | ⟨g', cap', cur, e, _, hg, _⟩
              · cases e
              · injection e with e _ _
                have e := congrArg Addr.block (Option.some.inj e)
                exact ⟨cur.toList, by unfold Rw; rw [show g = g' from e, hg]⟩
            have hKg : K ≠ g := fun e => by
              have a := rK7
              have b := hr7
              unfold Rw at a b
              rw [e, b] at a
              injection a with a
              injection a with _ a _
              revert a
              decide
            have cc0 : w7.cell? ⟨g, 0, none⟩ = some (uv ID) := by
              have e := hown7.cells (g := g) rfl 0 (uv ID) rfl
              rw [add_at] at e; exact e
            have cc1 : w7.cell? ⟨g, 1, none⟩ = some (uv ID) := by
              have e := hown7.cells (g := g) rfl 1 (uv ID) rfl
              rw [add_at] at e; exact e
            have cf1 := World.ownsRow.frozenAt hown7 1
            have HK : Unit → K ≠ m := fun _ => Rw.notMap rK7 H7.mp
            go_upto_region 19 with fail
            refine wp_region_held (S := CS [(⟨B, 0, none⟩, .map (some m)), (⟨K, 0, none⟩, .int .i64 2), (⟨K, 1, none⟩, .int .u32 0)]) (by kernel_rfl) ?_
            have hS : CS [(⟨B, 0, none⟩, .map (some m)), (⟨K, 0, none⟩, .int .i64 2), (⟨K, 1, none⟩, .int .u32 0)] w7.drew := (((CS.nil w7).row rK7 1 rfl).row rK7 0 rfl).row H7.b 0 rfl
            have H8 := H7.stay ((Below.refl w7.heap.size w7).drew)
            have rK8 : Rw w7.drew K 25 [.int .i64 2, .int .u32 0] := rK7
            have hr8 : Rw w7.drew g 38 cs7 := hr7
            have KC := Lib.hid (compact_two g cap ID w7.drew hcap cc0 cc1 cf1)
            change wpAnyH _ _ _ _ _ _ _ _ w7.drew
            generalize w7.drew = D1 at *
            refine held_val 0 rfl (by kernel_rfl) (by kernel_rfl) (by kernel_rfl) (fun _ _ _ _ h => h) (by rfl) hS ?_
            apply Exists.intro
            refine ⟨fun w' hw' => ?_, ?_⟩
            · have e0 := hw'.at 0 rfl; have e1 := hw'.at 1 rfl; have e2 := hw'.at 2 rfl
              go_simp
              first | done | rfl | exact ⟨rfl, rfl⟩
            simp only [Act.put, List.setIfInBounds_toArray, List.set_cons_zero, List.set_cons_succ]
            refine held_val 1 rfl (by kernel_rfl) (by kernel_rfl) (by kernel_rfl) (fun _ _ _ _ h => h) (by rfl) hS ?_
            apply Exists.intro
            refine ⟨fun w' hw' => ?_, ?_⟩
            · have e0 := hw'.at 0 rfl; have e1 := hw'.at 1 rfl; have e2 := hw'.at 2 rfl
              go_simp
              first | done | rfl | exact ⟨rfl, rfl⟩
            simp only [Act.put, List.setIfInBounds_toArray, List.set_cons_zero, List.set_cons_succ]
            refine held_val 2 rfl (by kernel_rfl) (by kernel_rfl) (by kernel_rfl) (fun _ _ _ _ h => h) (by rfl) hS ?_
            apply Exists.intro
            refine ⟨fun w' hw' => ?_, ?_⟩
            · have e0 := hw'.at 0 rfl; have e1 := hw'.at 1 rfl; have e2 := hw'.at 2 rfl
              go_simp
              first | done | rfl | exact ⟨rfl, rfl⟩
            simp only [Act.put, List.setIfInBounds_toArray, List.set_cons_zero, List.set_cons_succ]
            refine held_call 3 (by kernel_rfl) rfl (by rfl) ?_
            apply Exists.intro
            apply Exists.intro
            refine ⟨?_, ?_⟩
            · go_simp
              first | done | rfl | exact ⟨rfl, rfl⟩
            refine KC.out.mono ?_
            rintro e w9 ⟨heA, A9⟩
            have H9 := H8.turn hr8 A9 hgw (.inl hpb) (by rw [hpo]; exact hne1.imp id (fun h e => h e.symm))
            have rK9 := rK8.keep A9 hKg
            have hS9 : CS [(⟨B, 0, none⟩, .map (some m)), (⟨K, 0, none⟩, .int .i64 2), (⟨K, 1, none⟩, .int .u32 0)] w9 := (((CS.nil w9).row rK9 1 rfl).row rK9 0 rfl).row H9.b 0 rfl
            refine ⟨_, heA, hS9, ?_⟩
            simp only [Act.put, List.setIfInBounds_toArray, List.set_cons_zero, List.set_cons_succ]
            clear heA hS KC H8 rK8 hr8 A9
            refine held_one 4 (by kernel_rfl) rfl (by rfl) ?_
            refine wp_mput _ _ _ _ rfl rfl (.map (some m)) (labV 2 0) (.slice (some ⟨g, 0, none⟩) 1 cap) _ rfl rfl rfl (put_first _ H9.mp) ?_
            have H10 := H9.putFirst hpb hge (.slice (some ⟨g, 0, none⟩) 1 cap)
            have rK10 := rK9.keep (Asd.oneM w9 m (.map (E2 (.slice (some ⟨g, 0, none⟩) 1 cap) u) 2)) (HK ())
            generalize setBlock w9 m (.map (E2 (.slice (some ⟨g, 0, none⟩) 1 cap) u) 2) = w10 at *
            refine ⟨(((CS.nil w10).row rK10 1 rfl).row rK10 0 rfl).row H10.b 0 rfl, ?_⟩
            refine wpAnyH_done (by kernel_rfl) ?_ _
            have hme2 : leftN r w10 < leftN r wr := by
              rw [hmeas]
              unfold leftN
              rw [H10.it]
              simp only [hpb, hpo]
              simp
            clear hS9 H9 rK9 rK10 hmeas
            go_wp2_with fail
            go_roundw
            case rel => exact ⟨_, _, _, H10⟩
            case measure => exact hme2
          · have hc1 : seen.contains 1 = false := hse
            have hown := HR.ou.resolve_left (by rw [hc1]; decide)
            have A1 : Asd (· = r) wr (setBlock wq r (.mapIter (some m) 2 (seen.push 1) 2)) := by
              rcases hwq with rfl | rfl
              · exact Asd.oneM _ _ _
              · exact (Asd.refl (· = r) _).drew.mblock (.inl rfl) _
            have hit : (setBlock wq r (.mapIter (some m) 2 (seen.push 1) 2)).heap[r]? = some (.mapIter (some m) 2 (seen.push 1) 2) := block_at (o := .mapIter (some m) 2 seen 2) (by rcases hwq with rfl | rfl <;> exact HR.it)
            have hnm : m ≠ r := fun e => by have h1 := HR.mp; rw [e, HR.it] at h1; cases h1
            have hown1 := own_asdS hown A1 (own_not_iter hown HR.it)
            have hpb : (seen.push 1).contains 1 = true := by rw [has_push]; simp
            have hpo : (seen.push 1).contains 0 = seen.contains 0 := by rw [has_push]; simp
            have hne1 : seen.contains 0 = true ∨ v.ownBlock ≠ u.ownBlock := HR.ne.elim Or.inl (fun e => e.elim (fun e => by rw [hc1] at e; cases e) .inr)
            have H5 : ApR w B r m w1.heap.size ID (seen.push 1) v u (setBlock wq r (.mapIter (some m) 2 (seen.push 1) 2)) :=
              ⟨hit, HR.b.keep A1 (Rw.notIter HR.b HR.it), (A1.block m (Array.getElem?_eq_some_iff.1 HR.mp).1 hnm).trans HR.mp, by rw [hpo]; exact HR.ov.imp id fun h => own_asdS h A1 (own_not_iter h HR.it), .inl hpb, .inr (.inl hpb),
                HR.below.trans (A1.toBelow HR.below.size (fun k e => by have e : k = r := e; omega))⟩
            have hen := run_entry_at (P := Tryd.prog) _ r m 2 seen (E2 v u) 2 ⟨labV 4 0, u, 1⟩ hit H5.mp (by simp [E2]) (by simp [E2])
            simp only [labV] at hen
            have hmeas : leftN r wr = 1 + (if seen.contains 0 then 0 else 1) := by
              unfold leftN
              rw [HR.it]
              simp only [hc1]
              cases seen.contains 0 <;> rfl
            go_upto_region 17 with fail
            generalize (setBlock wq r (.mapIter (some m) 2 (seen.push 1) 2)) = w5 at *
            obtain ⟨g, cap, rfl⟩ := own_succ hown1
            have hcap : 1 ≤ cap := by
              obtain ⟨_, c', e, hle⟩ := own_slice hown1
              injection e with _ _ e
              omega
            clear A1 hown HR
            go_upto_region 18 with fail
            have hal : Below w5.heap.size w5 (w5.alloc (.cells #[.int .i64 4, .int .u32 0] 25)) := (Below.refl _ _).alloc (Nat.le_refl _) _
            have rK : Rw (w5.alloc (.cells #[.int .i64 4, .int .u32 0] 25)) w5.heap.size 25 [.int .i64 4, .int .u32 0] := Rw.new w5 25 [.int .i64 4, .int .u32 0]
            have H6 := H5.stay hal
            have hown6 := own_stay2 hown1 hal
            generalize w5.alloc (.cells #[.int .i64 4, .int .u32 0] 25) = w6 at *
            generalize w5.heap.size = K at *
            clear H5 hown1 hal hen
            have hnums : NumsAt w6 g 1 cap [ID] := ⟨rfl, hcap, fun j x hx => by
              have e := hown6.cells (g := g) rfl j (uv x) (by rw [show [uv ID] = List.map uv [ID] from rfl, List.getElem?_map, hx]; rfl)
              rw [add_at, Nat.zero_add] at e
              exact e⟩
            have hup : Up [ID] := fun j x y hx hy => by
              match j, hx, hy with
              | 0, hx, hy => simp at hx hy
              | j + 1, hx, hy => simp at hy
            have KS := Lib.hid (sort_any g 1 cap [ID] w6 hnums hup (.inl rfl))
            go_wp2_with fail
            refine KS.out.mono ?_
            rintro e w7 ⟨rfl, hb⟩
            have H7 := H6.stay hb
            have hown7 := own_stay2 hown6 hb
            have rK7 := rK.stay hb
            clear KS hnums hup H6 hown6 rK hb
            have hgw : w.heap.size ≤ g := Nat.le_trans hsz1 (hown7.lt g rfl).1
            obtain ⟨cs7, hr7⟩ : ∃ cs, Rw w7 g 38 cs := by
              rcases hown7.2 with ⟨e, _⟩ | ⟨g', cap', cur, e, _, hg, _⟩
              · cases e
              · injection e with e _ _
                have e := congrArg Addr.block (Option.some.inj e)
                exact ⟨cur.toList, by unfold Rw; rw [show g = g' from e, hg]⟩
            have hKg : K ≠ g := fun e => by
              have a := rK7
              have b := hr7
              unfold Rw at a b
              rw [e, b] at a
              injection a with a
              injection a with _ a _
              revert a
              decide
            have HK : Unit → K ≠ m := fun _ => Rw.notMap rK7 H7.mp
            go_upto_region 19 with fail
            refine wp_region_held (S := CS [(⟨B, 0, none⟩, .map (some m)), (⟨K, 0, none⟩, .int .i64 4), (⟨K, 1, none⟩, .int .u32 0)]) (by kernel_rfl) ?_
            have hS : CS [(⟨B, 0, none⟩, .map (some m)), (⟨K, 0, none⟩, .int .i64 4), (⟨K, 1, none⟩, .int .u32 0)] w7.drew := (((CS.nil w7).row rK7 1 rfl).row rK7 0 rfl).row H7.b 0 rfl
            have H8 := H7.stay ((Below.refl w7.heap.size w7).drew)
            have rK8 : Rw w7.drew K 25 [.int .i64 4, .int .u32 0] := rK7
            have hr8 : Rw w7.drew g 38 cs7 := hr7
            have KC := Lib.hid (compact_one g cap w7.drew)
            change wpAnyH _ _ _ _ _ _ _ _ w7.drew
            generalize w7.drew = D1 at *
            refine held_val 0 rfl (by kernel_rfl) (by kernel_rfl) (by kernel_rfl) (fun _ _ _ _ h => h) (by rfl) hS ?_
            apply Exists.intro
            refine ⟨fun w' hw' => ?_, ?_⟩
            · have e0 := hw'.at 0 rfl; have e1 := hw'.at 1 rfl; have e2 := hw'.at 2 rfl
              go_simp
              first | done | rfl | exact ⟨rfl, rfl⟩
            simp only [Act.put, List.setIfInBounds_toArray, List.set_cons_zero, List.set_cons_succ]
            refine held_val 1 rfl (by kernel_rfl) (by kernel_rfl) (by kernel_rfl) (fun _ _ _ _ h => h) (by rfl) hS ?_
            apply Exists.intro
            refine ⟨fun w' hw' => ?_, ?_⟩
            · have e0 := hw'.at 0 rfl; have e1 := hw'.at 1 rfl; have e2 := hw'.at 2 rfl
              go_simp
              first | done | rfl | exact ⟨rfl, rfl⟩
            simp only [Act.put, List.setIfInBounds_toArray, List.set_cons_zero, List.set_cons_succ]
            refine held_val 2 rfl (by kernel_rfl) (by kernel_rfl) (by kernel_rfl) (fun _ _ _ _ h => h) (by rfl) hS ?_
            apply Exists.intro
            refine ⟨fun w' hw' => ?_, ?_⟩
            · have e0 := hw'.at 0 rfl; have e1 := hw'.at 1 rfl; have e2 := hw'.at 2 rfl
              go_simp
              first | done | rfl | exact ⟨rfl, rfl⟩
            simp only [Act.put, List.setIfInBounds_toArray, List.set_cons_zero, List.set_cons_succ]
            refine held_call 3 (by kernel_rfl) rfl (by rfl) ?_
            apply Exists.intro
            apply Exists.intro
            refine ⟨?_, ?_⟩
            · go_simp
              first | done | rfl | exact ⟨rfl, rfl⟩
            refine KC.out.mono ?_
            rintro e w9 ⟨heA, rfl⟩
            have H9 := H8
            have rK9 := rK8
            have hS9 : CS [(⟨B, 0, none⟩, .map (some m)), (⟨K, 0, none⟩, .int .i64 4), (⟨K, 1, none⟩, .int .u32 0)] w9 := (((CS.nil w9).row rK9 1 rfl).row rK9 0 rfl).row H9.b 0 rfl
            refine ⟨_, heA, hS9, ?_⟩
            simp only [Act.put, List.setIfInBounds_toArray, List.set_cons_zero, List.set_cons_succ]
            clear heA hS KC H8 rK8 hr8
            refine held_one 4 (by kernel_rfl) rfl (by rfl) ?_
            refine wp_mput _ _ _ _ rfl rfl (.map (some m)) (labV 4 0) (.slice (some ⟨g, 0, none⟩) 1 cap) _ rfl rfl rfl (put_second _ H9.mp) ?_
            have H10 := H9.putSecond hpb hge (.slice (some ⟨g, 0, none⟩) 1 cap)
            have rK10 := rK9.keep (Asd.oneM w9 m (.map (E2 v (.slice (some ⟨g, 0, none⟩) 1 cap)) 2)) (HK ())
            generalize setBlock w9 m (.map (E2 v (.slice (some ⟨g, 0, none⟩) 1 cap)) 2) = w10 at *
            refine ⟨(((CS.nil w10).row rK10 1 rfl).row rK10 0 rfl).row H10.b 0 rfl, ?_⟩
            refine wpAnyH_done (by kernel_rfl) ?_ _
            have hme2 : leftN r w10 < leftN r wr := by
              rw [hmeas]
              unfold leftN
              rw [H10.it]
              simp only [hpb, hpo]
              simp
            clear hS9 H9 rK9 rK10 hmeas
            go_wp2_with fail
            go_roundw
            case rel => exact ⟨_, _, _, H10⟩
            case measure => exact hme2
end Go.Proofs.YtknhkmlihbgjpaaDoor
