/- QB: several texts in one. -/
import Derived.Test.YtknhkmlihbgjpaaDoorQA
import Derived.Test.YtknhkmlihbgjpaaDoorQC
/- The document's pattern reader, plain: readings with a fuel that is told; what a reading comes to. -/
namespace Go.Proofs.YtknhkmlihbgjpaaDoor.Dn
open Go.ChangeShapes Go.WideShapes Go.RowKit

theorem fuel (n : Nat) : (∀ m d (s : Bx), 4 * s.length + 4 ≤ n → 4 * s.length + 4 ≤ m → altN n d s = altN m d s) ∧ (∀ m d (s : Bx), 4 * s.length + 3 ≤ n → 4 * s.length + 3 ≤ m → seqN n d s = seqN m d s) ∧
    (∀ m d (s : Bx), 4 * s.length + 2 ≤ n → 4 * s.length + 2 ≤ m → partN n d s = partN m d s) ∧ ∀ m d (s : Bx), 4 * s.length + 1 ≤ n → 4 * s.length + 1 ≤ m → atomN n d s = atomN m d s := by
  induction n with
  | zero => exact ⟨fun m d s h => by omega, fun m d s h => by omega, fun m d s h => by omega, fun m d s h => by omega⟩
  | succ n ih =>
    obtain ⟨iA, iS, iP, iT⟩ := ih
    refine ⟨fun m d s h1 h2 => ?_, fun m d s h1 h2 => ?_, fun m d s h1 h2 => ?_, fun m d s h1 h2 => ?_⟩
    all_goals
      obtain ⟨m, rfl⟩ : ∃ k, m = k + 1 := ⟨m - 1, by omega⟩
    · rw [altN, altN, ← iS m d s (by omega) (by omega)]
      cases hs : seqN n d s with
      | er e => rfl
      | ok q r =>
        have h3 := (reads_good n).2.1 _ _ _ _ hs
        cases r with
        | nil => rfl
        | cons c r =>
          simp only
          simp only [List.length_cons] at h3
          rw [iA m d r (by omega) (by omega)]
    · cases s with
      | nil => rw [seqN, seqN]
      | cons c s =>
        rw [seqN, seqN, ← iP m d (c :: s) (by omega) (by omega)]
        cases hp : partN n d (c :: s) with
        | er e => rfl
        | ok x r =>
          have h3 := (reads_good n).2.2.1 _ _ _ _ hp
          have h4 := lenR_pos x
          simp only
          rw [iS m d r (by omega) (by omega)]
    · rw [partN, partN, ← iT m d s (by omega) (by omega)]
    · cases s with
      | nil => rw [atomN, atomN]
      | cons c s =>
        simp only [List.length_cons] at h1 h2
        rw [atomN, atomN, ← iA m (d + 1) s (by omega) (by omega)]
def altR (d : Nat) (s : Bx) : Res Al := altN (4 * s.length + 4) d s
def seqR (d : Nat) (s : Bx) : Res Sq := seqN (4 * s.length + 3) d s
def atomR' (d : Nat) (s : Bx) : Res Re := atomN (4 * s.length + 1) d s
theorem alt_eq (d : Nat) (s : Bx) : altR d s = match seqR d s with
    | .er e => .er e
    | .ok q r => match r with
      | [] => .ok (.one q) []
      | c :: r' => if c = 124 then (match altR d r' with | .er e => .er e | .ok a r'' => .ok (.more q a) r'') else .ok (.one q) (c :: r') := by
  rw [altR, altN, seqR]
  cases hs : seqN (4 * s.length + 3) d s with
  | er e => rfl
  | ok q r =>
    have h3 := (reads_good _).2.1 _ _ _ _ hs
    cases r with
    | nil => rfl
    | cons c r =>
      simp only [List.length_cons] at h3
      simp only
      rw [altR, (fuel (4 * s.length + 3)).1 (4 * r.length + 4) d r (by omega) (by omega)]
      rfl
theorem seq_eq (d : Nat) (c : UInt8) (s : Bx) : seqR d (c :: s) = if c = 124 ∨ c = 41 then .ok .nil (c :: s) else match atomR' d (c :: s) with
    | .er e => .er e
    | .ok x r => match seqR d (often x r).2 with
      | .er e => .er e
      | .ok q r' => .ok (.cons (often x r).1 q) r' := by
  rw [seqR, seqN]
  split
  · rfl
  · rw [partN, atomR']
    cases hs : atomN (4 * (c :: s).length + 1) d (c :: s) with
    | er e => rfl
    | ok x r =>
      have hp : partN (4 * (c :: s).length + 2) d (c :: s) = .ok (often x r).1 (often x r).2 := by rw [partN, hs]
      have h3 := (reads_good _).2.2.1 _ _ _ _ hp
      have h4 := lenR_pos (often x r).1
      simp only
      rw [seqR, (fuel (4 * (c :: s).length + 2)).2.1 (4 * (often x r).2.length + 3) d _ (by omega) (by omega)]
      rfl
theorem seq_nil (d : Nat) : seqR d [] = .ok .nil [] := by rw [seqR, seqN]
theorem atom_len {d : Nat} {s r : Bx} {x : Re} (h : atomR' d s = .ok x r) : r.length < s.length := by
  have := (reads_good _).2.2.2 _ _ _ _ h
  have h4 := lenR_pos x
  omega
theorem atom_eq (d : Nat) (c : UInt8) (s : Bx) : atomR' d (c :: s) =
    if c = 40 then (if d = 8 then .er .deep else match altR (d + 1) s with
      | .er e => .er e
      | .ok a r => match r with
        | [] => .er .form
        | x :: r' => if x = 41 then .ok (.grp a) r' else .er .form)
    else if c = 91 then (match classN s with
      | none => .er .form
      | some (p, r) => .ok (.set p) r)
    else if c = 46 then .ok (.set fun _ => true) s
    else if c ≠ 92 ∧ spcB c = true then .er .form
    else match signN (c :: s) with
      | none => .er .form
      | some (x, r) => .ok (.set fun b => b == x) r := by
  rw [atomR', atomN, altR, (fuel (4 * (c :: s).length)).1 (4 * s.length + 4) (d + 1) s (by simp only [List.length_cons]; omega) (by omega)]
  rfl
/-- What stands in the way, as a number. -/
def errN : Er → Int
  | .form => 2
  | .deep => 3
theorem errN_ne (e : Er) : errN e ≠ 0 := by cases e <;> decide
/-- A node is handed back: the tree's, at most D deep; or any, and an error. -/
def OutP {α : Type} (tree : α → T) (D R : Nat) (s : Bs) (d : Nat) (o : Res α) (B : Nat) (e : Ending) (w' : World) : Prop :=
  match o with
  | .ok x r => ∃ cs : List Value, e = .returned (.agg cs.toArray) ∧ TAt (fun j => B ≤ j) w' D cs (tree x) ∧ ∃ K, s.drop K = r ∧ K ≤ s.length ∧ Rd w' R s K 0
  | .er x => ∃ cs : List Value, e = .returned (.agg cs.toArray) ∧ cs.length = 258 ∧ (∀ u ∈ cs, u.oneCell' = true) ∧ ∃ K, K + d ≤ s.length + 20 ∧ Rd w' R s K (errN x)
/-- The same of the cells that are handed back. -/
def OutQ {α : Type} (tree : α → T) (D R : Nat) (s : Bs) (d : Nat) (o : Res α) (B : Nat) (cs : List Value) (w' : World) : Prop :=
  match o with
  | .ok x r => TAt (fun j => B ≤ j) w' D cs (tree x) ∧ ∃ K, s.drop K = r ∧ K ≤ s.length ∧ Rd w' R s K 0
  | .er x => ∃ K, K + d ≤ s.length + 20 ∧ Rd w' R s K (errN x)
theorem out_val {α : Type} {tree : α → T} {D R d B : Nat} {s : Bs} {o : Res α} {e : Ending} {w' : World} (h : OutP tree D R s d o B e w') :
    ∃ cs : List Value, e = .returned (.agg cs.toArray) ∧ cs.length = 258 ∧ (∀ u ∈ cs, u.oneCell' = true) ∧ OutQ tree D R s d o B cs w' := by
  cases o with
  | er x =>
    obtain ⟨cs, h1, h2, h3, h4⟩ := h
    exact ⟨cs, h1, h2, h3, h4⟩
  | ok x r =>
    obtain ⟨cs, h1, h2, h3⟩ := h
    exact ⟨cs, h1, h2.node.1, h2.node.2, h2, h3⟩
def dT (d : Nat) : Nat := 1 + 3 * (8 - d)
theorem dT_up {d : Nat} (h : d < 8) : dT (d + 1) + 3 = dT d := by unfold dT; omega
theorem dT_pos (d : Nat) : ∃ n, dT d = n + 1 := ⟨3 * (8 - d), by unfold dT; omega⟩
def AtomC (d : Nat) : Prop := ∀ (R K : Nat) (s l : Bs) (c : UInt8) (w : World), Rd w R s K 0 → s.length ≤ 100 → s.drop K = c :: l → c ≠ 124 → c ≠ 41 →
  Calls Tryd.prog 116 #[.pointer (some ⟨R, 0, none⟩), .int .i64 (d : Int)] w fun e w' => OutP treeR (dT d) R s d (atomR' d (c :: l)) w.heap.size e w' ∧ Asd (· = R) w w'
def RowC (d : Nat) : Prop := ∀ (R K : Nat) (s : Bs) (w : World), Rd w R s K 0 → s.length ≤ 100 → K ≤ s.length →
  Calls Tryd.prog 112 #[.pointer (some ⟨R, 0, none⟩), .int .i64 (d : Int)] w fun e w' => OutP treeS (dT d + 2) R s d (seqR d (s.drop K)) w.heap.size e w' ∧ Asd (· = R) w w'
def EitherC (d : Nat) : Prop := ∀ (R K : Nat) (s : Bs) (w : World), Rd w R s K 0 → s.length ≤ 100 → K ≤ s.length →
  Calls Tryd.prog 105 #[.pointer (some ⟨R, 0, none⟩), .int .i64 (d : Int)] w fun e w' => OutP treeA (dT d + 3) R s d (altR d (s.drop K)) w.heap.size e w' ∧ Asd (· = R) w w'
theorem bit_one (c : UInt8) : (fun x => if x = UInt8.ofNat c.toNat then true else noSet x) = fun b => b == c := by
  funext x
  rw [UInt8.ofNat_toNat]
  by_cases e : x = c
  · rw [if_pos e, e]; simp
  · rw [if_neg e]
    simp [noSet, e]
theorem upto_all : upto noSet 0 256 = fun _ => true := by
  funext x
  unfold upto
  have := x.toNat_lt
  simp [noSet, this]
/-- A row with parts ahead of it. -/
def preQ (qs : List Re) (q : Sq) : Sq := qs.foldr .cons q
def preS (qs : List Re) : Res Sq → Res Sq
  | .er e => .er e
  | .ok q r => .ok (preQ qs q) r
theorem preS_step (qs : List Re) (y : Re) (o : Res Sq) : preS qs (match o with
      | .er e => .er e
      | .ok q r' => .ok (.cons y q) r') = preS (qs ++ [y]) o := by
  cases o with
  | er e => rfl
  | ok q r => simp [preS, preQ]
theorem kids_pre (qs : List Re) (q : Sq) : kidsS (preQ qs q) = qs.map treeR ++ kidsS q := by
  induction qs with
  | nil => rfl
  | cons x qs ih =>
    show kidsS (.cons x (preQ qs q)) = _
    rw [kidsS, ih]
    rfl
theorem tree_pre (qs : List Re) : treeS (preQ qs .nil) = .mk 2 noSet (qs.map treeR) := by
  rw [treeS, kids_pre, kidsS, List.append_nil]
/-- Alternatives with rows ahead of them. -/
def preL (qs : List Sq) (a : Al) : Al := qs.foldr .more a
def preA (qs : List Sq) : Res Al → Res Al
  | .er e => .er e
  | .ok a r => .ok (preL qs a) r
theorem preA_step (qs : List Sq) (y : Sq) (o : Res Al) : preA qs (match o with
      | .er e => .er e
      | .ok a r' => .ok (.more y a) r') = preA (qs ++ [y]) o := by
  cases o with
  | er e => rfl
  | ok q r => simp [preA, preL]
theorem kids_preL (qs : List Sq) (a : Al) : kidsA (preL qs a) = qs.map treeS ++ kidsA a := by
  induction qs with
  | nil => rfl
  | cons x qs ih =>
    show kidsA (.more x (preL qs a)) = _
    rw [kidsA, ih]
    rfl
theorem tree_preL (qs : List Sq) (q : Sq) : treeA (preL qs (.one q)) = .mk 1 noSet ((qs ++ [q]).map treeS) := by
  rw [treeA, kids_preL, kidsA, List.map_append]
  rfl
section
variable {ops : Array Oper} {rest : List Oper} {o : Oper} {a : Act} {w : World} {Q : Exit → Act → World → Prop}
theorem wpList_row_node (cs : List Value) (h : cs.length = 258) (x : Operand) (hg : o.guard = none) (ho : o.op = .buildSlice 143 1 #[(0, x)]) (hx : a.eval x = .agg cs.toArray)
    (hK : wpList Tryd.prog ops Q rest (a.put o.dst (.slice (some ⟨w.heap.size, 0, none⟩) 1 1)) (w.alloc (.cells cs.toArray 145))) : wpList Tryd.prog ops Q (o :: rest) a w :=
  wpList_plain hg fun _ hK' => wp_row_node cs h x ho hx (hK' _ _ hK)
theorem wpList_own_node (s x : Operand) (hgd : o.guard = none) (ho : o.op = .call { callee := .builtin .append, args := #[s, x], argTypes := #[143, 143] })
    (base : Nat) (v : Value) (css : List (List Value)) (hs : a.eval s = v) (hown : w.ownsRow base 145 258 v css.length css.flatten) (g : Nat) (news : List Value) (hx : a.eval x = .slice (some ⟨g, 0, none⟩) 1 1) (hl : news.length = 258) (hr : Rw w g 145 news) (h1 : ∀ u ∈ news, u.oneCell' = true)
    (hn : css.length ≤ 1000) (hbase : base ≤ w.heap.size)
    (h : ∀ v' w', w'.ownsRow base 145 258 v' (css.length + 1) (css.flatten ++ news) → w.grownBy w' v.ownBlock → (v'.ownBlock = v.ownBlock ∨ v'.ownBlock = some w.heap.size) → wpList Tryd.prog ops Q rest (a.put o.dst v') w') :
    wpList Tryd.prog ops Q (o :: rest) a w :=
  wpList_plain hgd fun _ hK' => wp_own_node s x ho base v css hs hown g news hx hl hr h1 hn hbase (fun v' w' a b c => hK' _ _ (h v' w' (by rw [List.length_append, List.length_singleton, List.flatten_append, List.flatten_singleton] at a; exact a) b c))
end
theorem own_one {w : World} {base : Nat} {e : TypeId} {s n : Nat} {v : Value} {xs : List Value} (h : w.ownsRow base e s v n xs) : v.oneCell' = true := by
  rcases h.2 with ⟨rfl, _⟩ | ⟨g, cap, cur, rfl, _⟩ <;> rfl
theorem exec_b1 {o : Oper} {a : Act} (k : Int) {Y : List Value} (hY : nodeC k noSet nilS = Y) (x : Operand) (ho : o.op = .build 145 #[(0, x)]) (hx : a.eval x = .int .i64 k) (w : World) : (execOp a.eval o).run Tryd.prog w = .ok (.value (.agg Y.toArray)) w := by
  rw [← hY]; exact exec_build1 k x ho hx w
theorem exec_b2 {o : Oper} {a : Act} (k : Int) {v : Value} {Y : List Value} (hY : nodeC k noSet v = Y) (hv : v.cells = #[v]) (x y : Operand) (ho : o.op = .build 145 #[(0, x), (2, y)]) (hx : a.eval x = .int .i64 k) (hy : a.eval y = v) (w : World) : (execOp a.eval o).run Tryd.prog w = .ok (.value (.agg Y.toArray)) w := by
  rw [← hY]; exact exec_build2 k hv x y ho hx hy w
end Go.Proofs.YtknhkmlihbgjpaaDoor.Dn
/- The document's pattern reader: row (written by wip/tools/genrow.py). -/
namespace Go.Proofs.YtknhkmlihbgjpaaDoor.Dn
open Go.ChangeShapes Go.WideShapes Go.RowKit

set_option maxHeartbeats 6400000 in
set_option maxRecDepth 100000 in
theorem row_any (d : Nat) (HA : AtomC d) : RowC d := by
  intro R K s w h hs hK
  obtain ⟨O, hO⟩ : ∃ O, seqR d (s.drop K) = O := ⟨_, rfl⟩
  rw [hO]
  have A := Asd.refl (fun k => k = R) w
  have hzc := zero_node
  obtain ⟨Z, eZ⟩ : ∃ Z, nodeC 0 noSet nilS = Z := ⟨_, rfl⟩
  have hlZ := nodeC_len 0 noSet nilS
  rw [eZ] at hzc hlZ
  clear eZ
  obtain ⟨Y, eY⟩ : ∃ Y, nodeC 2 noSet nilS = Y := ⟨_, rfl⟩
  have hlY := nodeC_len 2 noSet nilS
  have hoY := nodeC_one 2 noSet nil_one
  rw [eY] at hlY hoY
  have hR := Rw.lt h
  go_enter Tryd.func112, Tryd.ntmps112
  go_upto_region 1 with fail
  have rA := Rw.new w 145 Z
  have hb0 := (Below.refl w.heap.size w).alloc (Nat.le_refl _) (.cells Z.toArray 145)
  replace h := h.stay hb0
  replace A := A.below hb0
  generalize w.alloc (.cells Z.toArray 145) = w1 at *
  obtain ⟨bA, hbA, hA0⟩ : ∃ bA, w.heap.size ≤ bA ∧ w.heap.size = bA := ⟨_, Nat.le_refl _, rfl⟩
  obtain ⟨B0, hB00, hB01⟩ : ∃ B0, w.heap.size = B0 ∧ B0 = bA := ⟨_, rfl, hA0⟩
  rw [hA0] at rA
  simp only [hA0]
  have hAR : bA ≠ R := by omega
  have rB := Rw.new w1 145 Z
  have hb1 := (Below.refl w1.heap.size w1).alloc (Nat.le_refl _) (.cells Y.toArray 145)
  have hAB := Rw.lt rA
  have hsz := A.size
  have rY := Rw.new w1 145 Y
  clear hb0
  have EB := fun (o : Oper) (a : Act) => exec_b1 (o := o) (a := a) 2 eY
  go_upto_region 2 with (first | refine wpList_exec (EB _ _ _ rfl rfl _) rfl ?_ | refine store_node _ _ rB hlZ Y hlY hoY _ _ rfl rfl rfl rfl ?_)
  rw [World.setRow_alloc_new]
  replace h := h.stay hb1
  replace rA := rA.stay hb1
  replace A := A.below hb1
  generalize w1.alloc (.cells Y.toArray 145) = v0 at *
  obtain ⟨bB, hB0⟩ : ∃ bB, w1.heap.size = bB := ⟨_, rfl⟩
  rw [hB0] at rY hAB hsz
  simp only [hB0]
  have hbB : w.heap.size ≤ bB := hsz
  have hBR : bB ≠ R := by omega
  have hBA : bA ≠ bB := by omega
  have hBA1 : bA < bB := hAB
  rw [← eY] at rY
  have KC := Kc.start rY
  have KT := Kt.start (bA + 1) bB (dT d + 1) v0
  clear hb1 hB0 hAB hsz rB rY eY hlY hoY EB
  simp only [Act.put]
  go_loopw [] (fun wr => ∃ v css E K, Rd wr R s K E ∧ Kc bB 2 v css wr ∧ Rw wr bA 145 Z ∧ Asd (fun k => k = R) w wr ∧ ((E = 0 ∧ K ≤ s.length ∧ css.length ≤ K ∧ ∃ qs : List Re, Kt (bA + 1) bB (dT d + 1) v css (qs.map treeR) wr ∧ preS qs (seqR d (s.drop K)) = O) ∨ (∃ x, E = errN x ∧ O = .er x ∧ K + d ≤ s.length + 20))) (fun wr => left wr R s.length)
  case atStart => exact ⟨nilS, [], 0, K, h, KC, rA, A, .inl ⟨rfl, hK, by simp, [], KT, by rw [hO]; cases O <;> rfl⟩⟩
  case round =>
    clear h KC rA A KT hO hK K
    have hNA : ∀ i, bA + 1 ≤ i → i ≠ bA := fun i hi e => by omega
    obtain ⟨v, css, E, K, h, KC, rA, A, hE⟩ := hrel
    rcases hE with ⟨rfl, hK, hck, qs, KT, hO⟩ | ⟨x, rfl, hO, hKd⟩
    case inr =>
      have HO : Unit → O = .er x := fun _ => hO
      have hE := errN_ne x
      obtain ⟨E, hEE⟩ : ∃ E, errN x = E := ⟨_, rfl⟩
      rw [hEE] at hE h
      have HEE : Unit → errN x = E := fun _ => hEE
      clear hEE hO
      have N2 := Lib.hid fun w' h => next_err (R := R) (K := K) (s := s) hE w' h
      go_wp2_with fail
      refine (N2.out _ h).mono ?_
      rintro e v1 ⟨rfl, hb⟩
      replace h := h.stay hb
      replace rA := rA.stay hb
      replace KC := KC.stay hb
      replace A := A.below hb
      clear hb N2
      rw [← HEE ()] at h
      have hl8 := nodeC_len 2 noSet v
      have ho8 := nodeC_one 2 noSet (own_one KC.own)
      obtain ⟨X8, e8⟩ : ∃ X, nodeC 2 noSet v = X := ⟨_, rfl⟩
      have rB := KC.row
      rw [e8] at hl8 ho8 rB
      have E8 : Unit → nodeC 2 noSet v = X8 := fun _ => e8
      clear e8
      go_wp2_with (first | refine load_node _ _ rB hl8 _ rfl rfl rfl ?_ | refine store_node _ _ rA hlZ X8 hl8 ho8 _ _ rfl rfl rfl rfl ?_)
      refine ret_node _ _ (rw_setRow rA) hl8 rfl rfl rfl ?_
      exact ⟨by rw [HO ()]; exact ⟨X8, rfl, hl8, ho8, K, hKd, rw_setRow_ne h hAR.symm⟩, asd_setRow A (.inr hbA)⟩
    case inl =>
      have hKb : K ≤ 100 := by omega
      have hL := h.left0 (n := s.length)
      cases hl : s.drop K with
      | nil =>
        rw [hl, seq_nil] at hO
        have HO : Unit → O = .ok (preQ qs .nil) [] := fun _ => hO.symm
        have N1 := Lib.hid fun w' h => next_end (R := R) hl w' h
        clear hO
        go_wp2_with fail
        refine (N1.out _ h).mono ?_
        rintro e v2 ⟨rfl, hb⟩
        replace h := h.stay hb
        replace rA := rA.stay hb
        replace KC := KC.stay hb
        replace KT := KT.stay hb
        replace A := A.below hb
        clear hb N1
        have hl8 := nodeC_len 2 noSet v
        have ho8 := nodeC_one 2 noSet (own_one KC.own)
        obtain ⟨X8, e8⟩ : ∃ X, nodeC 2 noSet v = X := ⟨_, rfl⟩
        have rB := KC.row
        rw [e8] at hl8 ho8 rB
        have E8 : Unit → nodeC 2 noSet v = X8 := fun _ => e8
        clear e8
        go_wp2_with (first | refine load_node _ _ rB hl8 _ rfl rfl rfl ?_ | refine store_node _ _ rA hlZ X8 hl8 ho8 _ _ rfl rfl rfl rfl ?_)
        refine ret_node _ _ (rw_setRow rA) hl8 rfl rfl rfl ?_
        exact ⟨by
          rw [HO ()]
          refine ⟨X8, rfl, ?_, K, hl, hK, rw_setRow_ne h hAR.symm⟩
          rw [tree_pre, ← E8 ()]
          have q := KT.whole (by omega) KC
          exact (q.keep (asd_setRow (Asd.refl (fun j => j = bA) _) (.inl rfl)) (fun i hp _ e => hNA i hp e)).mono (fun j hj _ => by omega), asd_setRow A (.inr hbA)⟩
      | cons c l =>
        rw [hl, seq_eq] at hO
        by_cases hstop : c = 124 ∨ c = 41
        · rw [if_pos hstop] at hO
          have HO : Unit → O = .ok (preQ qs .nil) (c :: l) := fun _ => hO.symm
          have N1 := Lib.hid fun w' h => next_hit (R := R) hl w' h
          clear hO
          rcases hstop with rfl | rfl
          · skip
            go_wp2_with fail
            refine (N1.out _ h).mono ?_
            rintro e v3 ⟨rfl, hb⟩
            replace h := h.stay hb
            replace rA := rA.stay hb
            replace KC := KC.stay hb
            replace KT := KT.stay hb
            replace A := A.below hb
            clear hb N1
            have hl8 := nodeC_len 2 noSet v
            have ho8 := nodeC_one 2 noSet (own_one KC.own)
            obtain ⟨X8, e8⟩ : ∃ X, nodeC 2 noSet v = X := ⟨_, rfl⟩
            have rB := KC.row
            rw [e8] at hl8 ho8 rB
            have E8 : Unit → nodeC 2 noSet v = X8 := fun _ => e8
            clear e8
            go_wp2_with (first | refine load_node _ _ rB hl8 _ rfl rfl rfl ?_ | refine store_node _ _ rA hlZ X8 hl8 ho8 _ _ rfl rfl rfl rfl ?_)
            refine ret_node _ _ (rw_setRow rA) hl8 rfl rfl rfl ?_
            exact ⟨by
              rw [HO ()]
              refine ⟨X8, rfl, ?_, K, hl, hK, rw_setRow_ne h hAR.symm⟩
              rw [tree_pre, ← E8 ()]
              have q := KT.whole (by omega) KC
              exact (q.keep (asd_setRow (Asd.refl (fun j => j = bA) _) (.inl rfl)) (fun i hp _ e => hNA i hp e)).mono (fun j hj _ => by omega), asd_setRow A (.inr hbA)⟩
          · skip
            go_wp2_with fail
            refine (N1.out _ h).mono ?_
            rintro e v4 ⟨rfl, hb⟩
            replace h := h.stay hb
            replace rA := rA.stay hb
            replace KC := KC.stay hb
            replace KT := KT.stay hb
            replace A := A.below hb
            clear hb N1
            have hl8 := nodeC_len 2 noSet v
            have ho8 := nodeC_one 2 noSet (own_one KC.own)
            obtain ⟨X8, e8⟩ : ∃ X, nodeC 2 noSet v = X := ⟨_, rfl⟩
            have rB := KC.row
            rw [e8] at hl8 ho8 rB
            have E8 : Unit → nodeC 2 noSet v = X8 := fun _ => e8
            clear e8
            go_wp2_with (first | refine load_node _ _ rB hl8 _ rfl rfl rfl ?_ | refine store_node _ _ rA hlZ X8 hl8 ho8 _ _ rfl rfl rfl rfl ?_)
            refine ret_node _ _ (rw_setRow rA) hl8 rfl rfl rfl ?_
            exact ⟨by
              rw [HO ()]
              refine ⟨X8, rfl, ?_, K, hl, hK, rw_setRow_ne h hAR.symm⟩
              rw [tree_pre, ← E8 ()]
              have q := KT.whole (by omega) KC
              exact (q.keep (asd_setRow (Asd.refl (fun j => j = bA) _) (.inl rfl)) (fun i hp _ e => hNA i hp e)).mono (fun j hj _ => by omega), asd_setRow A (.inr hbA)⟩
        · rw [if_neg hstop] at hO
          have h124 : ¬ c = 124 := fun e => hstop (.inl e)
          have h41 : ¬ c = 41 := fun e => hstop (.inr e)
          have n124 : ((c.toNat : Int) == 124) = false := u8_ne (n := 124) h124 (by decide)
          have n41 : ((c.toNat : Int) == 41) = false := u8_ne (n := 41) h41 (by decide)
          have N1 := Lib.hid fun w' h => next_hit (R := R) hl w' h
          have HA1 := Lib.hid fun w' h => HA R K s l c w' h hs hl h124 h41
          have HO0 : Unit → preS qs (match atomR' d (c :: l) with
            | .er e => .er e
            | .ok x r => match seqR d (often x r).2 with
              | .er e => .er e
              | .ok q r' => .ok (.cons (often x r).1 q) r') = O := fun _ => hO
          have hll := congrArg List.length hl
          rw [List.length_drop, List.length_cons] at hll
          clear hO hl hstop
          go_wp2_with fail
          refine (N1.out _ h).mono ?_
          rintro e v5 ⟨rfl, hb⟩
          replace h := h.stay hb
          replace rA := rA.stay hb
          replace KC := KC.stay hb
          replace KT := KT.stay hb
          replace A := A.below hb
          clear hb N1
          go_wp2_with fail
          refine (HA1.out _ h).mono ?_
          rintro e v90 ⟨hS, A'⟩
          have hltA := Rw.lt rA
          have hltB := Rw.lt KC.row
          have hltv := fun i e => (KC.own.lt i e).2
          clear h HA1
          replace rA := rA.keep A' hAR
          replace KC := KC.keep A' (fun i e => by omega)
          replace KT := KT.keep A' (fun i e => by omega)
          have hszA := A.size
          have hszC := A'.size
          replace A := A.andThen A'
          have hszB := A.size
          clear A'
          have rC := Rw.new v90 145 Z
          cases hO2 : atomR' d (c :: l) with
          | er x =>
            rw [hO2] at hS HO0
            obtain ⟨cs, rfl, hcl, hc1, K5, hK5, h⟩ := hS
            have HO : Unit → O = .er x := fun _ => by rw [← HO0 ()]; rfl
            have hE := errN_ne x
            obtain ⟨E, hEE⟩ : ∃ E, errN x = E := ⟨_, rfl⟩
            rw [hEE] at hE h
            have HEE : Unit → errN x = E := fun _ => hEE
            clear HO0 hO2 hEE KT
            have hb2 := (Below.refl v90.heap.size v90).alloc (Nat.le_refl _) (.cells cs.toArray 145)
            have A9 := Asd.of_below (S := (fun k => k = R)) hb2
            go_upto_region 6 with (refine store_node _ _ rC hlZ cs hcl hc1 _ _ rfl rfl rfl rfl ?_)
            rw [World.setRow_alloc_new]
            replace rC := Rw.new v90 145 cs
            replace h := h.stay hb2
            replace rA := rA.stay hb2
            replace A := A.below hb2
            generalize v90.alloc (.cells cs.toArray 145) = v91 at *
            obtain ⟨bC, hbC⟩ : ∃ bC, v90.heap.size = bC := ⟨_, rfl⟩
            rw [hbC] at rC
            simp only [hbC]
            clear hb2
            have N2 := Lib.hid fun w' h => next_err (R := R) (K := K5) (s := s) hE w' h
            go_wp2_with fail
            refine (N2.out _ h).mono ?_
            rintro e v6 ⟨rfl, hb⟩
            replace h := h.stay hb
            replace rA := rA.stay hb
            replace rC := rC.stay hb
            replace A9 := A9.below hb
            replace A := A.below hb
            clear hb N2
            go_upto_region 15 with fail
            replace KC := KC.keep A9 (fun i e => by omega)
            clear A9
            have cK := (KC.row.cell 257).trans (nodeC_kids 2 noSet v)
            have rX := Rw.new v6 145 cs
            have hbx := (Below.refl v6.heap.size v6).alloc (Nat.le_refl _) (.cells cs.toArray 145)
            have KC2 := KC.stay hbx
            have hBx := Rw.lt KC.row
            have hbz : bB + 1 ≤ (v6.alloc (.cells cs.toArray 145)).heap.size := by have := hbx.size; omega
            go_wp2_with (first | refine load_node _ _ rC hcl _ rfl rfl rfl ?_ | refine wpList_row_node cs hcl _ rfl rfl rfl ?_ | refine wpList_own_node _ _ rfl rfl (bB + 1) v css rfl KC2.own v6.heap.size cs rfl hcl rX hc1 (by omega) hbz ?_)
            intro u7 v7 hO7 hg7 hv7
            obtain ⟨g7, c7, rfl⟩ := own_succ hO7
            have hv71 := own_one hO7
            have KC7 := KC2.add hg7 hO7 hcl hv71
            have r7 := KC2.row.grown hg7 (fun e => by have := (KC2.own.lt _ e).1; omega)
            have f7 := r7.frozen 257
            have d7 := (r7.cell 257).trans (nodeC_kids 2 noSet v)
            have h7 : Rd v7 R s K5 E := Rw.grown (h.stay hbx) hg7 (fun e => by have := (KC2.own.lt _ e).1; omega)
            have a7 := Rw.grown (rA.stay hbx) hg7 (fun e => by have := (KC2.own.lt _ e).1; omega)
            have A7 := (A.below hbx).grown hg7 (fun k e => .inr (by have := (KC2.own.lt _ e).1; omega))
            replace h := Rw.other h7 hBR.symm 257 (.slice (some ⟨g7, 0, none⟩) (css.length + 1) c7)
            replace rA := a7.other hBA 257 (.slice (some ⟨g7, 0, none⟩) (css.length + 1) c7)
            replace A := A7.setCell (p := ⟨bB, 257, none⟩) (.inr hbB) (.slice (some ⟨g7, 0, none⟩) (css.length + 1) c7)
            clear h7 a7 A7 r7 KC2 rX hbx cK KC hO7 hg7
            go_wp2_with fail
            go_roundw
            case rel => exact ⟨(.slice (some ⟨g7, 0, none⟩) (css.length + 1) c7), css ++ [cs], E, K5, h, KC7, rA, A, .inr ⟨x, (HEE ()).symm, HO (), hK5⟩⟩
            case measure =>
              rw [hL, Rd.left2 hE (h : Rd _ R s _ _)]
              omega
          | ok x r =>
            have hxl := atom_len hO2
            rw [List.length_cons] at hxl
            rw [hO2] at hS HO0
            obtain ⟨cs, rfl, hT, K5, hr5, hK5, h⟩ := hS
            obtain ⟨hcl, hc1⟩ := hT.node
            replace HO0 : Unit → preS (qs ++ [(often x r).1]) (seqR d (often x r).2) = O := fun _ => by rw [← HO0 ()]; exact (preS_step qs _ _).symm
            replace hT := hT.mono (P' := fun j => bA + 1 ≤ j ∧ j ≠ bB ∧ v.ownBlock ≠ some j ∧ j ≠ v90.heap.size) (fun j hj hq => ⟨by omega, by omega, fun e => by have := hltv j e; omega, by omega⟩)
            have hK5b : K5 ≤ 100 := by omega
            have hK5l := congrArg List.length hr5
            rw [List.length_drop] at hK5l
            have hKK : K < K5 := by omega
            clear hO2
            have hb2 := (Below.refl v90.heap.size v90).alloc (Nat.le_refl _) (.cells cs.toArray 145)
            have A9 := Asd.of_below (S := (fun k => k = R)) hb2
            go_upto_region 6 with (refine store_node _ _ rC hlZ cs hcl hc1 _ _ rfl rfl rfl rfl ?_)
            rw [World.setRow_alloc_new]
            replace rC := Rw.new v90 145 cs
            replace h := h.stay hb2
            replace rA := rA.stay hb2
            replace A := A.below hb2
            generalize v90.alloc (.cells cs.toArray 145) = v91 at *
            obtain ⟨bC, hbC⟩ : ∃ bC, v90.heap.size = bC := ⟨_, rfl⟩
            rw [hbC] at rC
            simp only [hbC]
            clear hb2
            cases r with
            | nil =>
              have HO : Unit → preS (qs ++ [x]) (seqR d (s.drop K5)) = O := fun _ => by rw [hr5, ← HO0 ()]; rfl
              have N2 := Lib.hid fun w' h => next_end (R := R) hr5 w' h
              clear HO0
              go_wp2_with fail
              refine (N2.out _ h).mono ?_
              rintro e v9 ⟨rfl, hb⟩
              replace h := h.stay hb
              replace rA := rA.stay hb
              replace rC := rC.stay hb
              replace A9 := A9.below hb
              replace A := A.below hb
              clear hb N2
              replace hT := hT.up
              go_upto_region 15 with fail
              replace KC := KC.keep A9 (fun i e => by omega)
              replace KT := KT.keep A9 (fun i e => by omega)
              replace hT := hT.keep A9 (fun i hp _ e => by have := hp.1; omega)
              replace hT := hT.mono (P' := fun j => bA + 1 ≤ j ∧ j ≠ bB ∧ v.ownBlock ≠ some j) (fun j hj _ => ⟨hj.1, hj.2.1, hj.2.2.1⟩)
              clear A9
              have cK := (KC.row.cell 257).trans (nodeC_kids 2 noSet v)
              have rX := Rw.new v9 145 cs
              have hbx := (Below.refl v9.heap.size v9).alloc (Nat.le_refl _) (.cells cs.toArray 145)
              have KC2 := KC.stay hbx
              have KT2 := KT.stay hbx
              have hT2 := hT.stay hbx
              have hBx := Rw.lt KC.row
              have hbz : bB + 1 ≤ (v9.alloc (.cells cs.toArray 145)).heap.size := by have := hbx.size; omega
              go_wp2_with (first | refine load_node _ _ rC hcl _ rfl rfl rfl ?_ | refine wpList_row_node cs hcl _ rfl rfl rfl ?_ | refine wpList_own_node _ _ rfl rfl (bB + 1) v css rfl KC2.own v9.heap.size cs rfl hcl rX hc1 (by omega) hbz ?_)
              intro u7 v10 hO7 hg7 hv7
              obtain ⟨g7, c7, rfl⟩ := own_succ hO7
              have hv71 := own_one hO7
              have KC7 := KC2.add hg7 hO7 hcl hv71
              have KT7 := KT2.add hT2 hg7 (hv7.imp id (fun e => by rw [e]; simp))
              have r7 := KC2.row.grown hg7 (fun e => by have := (KC2.own.lt _ e).1; omega)
              have f7 := r7.frozen 257
              have d7 := (r7.cell 257).trans (nodeC_kids 2 noSet v)
              have h7 : Rd v10 R s K5 0 := Rw.grown (h.stay hbx) hg7 (fun e => by have := (KC2.own.lt _ e).1; omega)
              have a7 := Rw.grown (rA.stay hbx) hg7 (fun e => by have := (KC2.own.lt _ e).1; omega)
              have A7 := (A.below hbx).grown hg7 (fun k e => .inr (by have := (KC2.own.lt _ e).1; omega))
              replace h := Rw.other h7 hBR.symm 257 (.slice (some ⟨g7, 0, none⟩) (css.length + 1) c7)
              replace rA := a7.other hBA 257 (.slice (some ⟨g7, 0, none⟩) (css.length + 1) c7)
              replace A := A7.setCell (p := ⟨bB, 257, none⟩) (.inr hbB) (.slice (some ⟨g7, 0, none⟩) (css.length + 1) c7)
              clear h7 a7 A7 r7 KC2 rX hbx cK KC hO7 hg7 KT2 hT2 KT hT
              go_wp2_with fail
              go_roundw
              case rel => exact ⟨(.slice (some ⟨g7, 0, none⟩) (css.length + 1) c7), css ++ [cs], 0, K5, h, KC7, rA, A, .inl ⟨rfl, by omega, by rw [List.length_append, List.length_singleton]; omega, qs ++ [x], by rw [List.map_append]; exact KT7, HO ()⟩⟩
              case measure =>
                rw [hL, Rd.left0 (h : Rd _ R s _ 0)]
                omega
            | cons y r =>
              obtain ⟨hy0, hr6, hk6, hn6⟩ := drop_cons hr5
              have N2 := Lib.hid fun w' h => next_hit (R := R) hr5 w' h
              clear hy0
              by_cases h42 : y = 42
              · subst h42
                obtain ⟨K6, hKb6, eK6⟩ : ∃ K6, K6 ≤ 101 ∧ (Unit → K6 = K5 + 1) := ⟨_, by omega, fun _ => rfl⟩
                rw [← eK6 ()] at hr6
                have HO : Unit → preS (qs ++ [.star x]) (seqR d (s.drop K6)) = O := fun _ => by rw [hr6, ← HO0 ()]; rfl
                have hK56 : K5 ≤ K6 ∧ K6 ≤ s.length := by have := eK6 (); omega
                clear HO0 hr5
                go_wp2_with fail
                refine (N2.out _ h).mono ?_
                rintro e v12 ⟨rfl, hb⟩
                replace h := h.stay hb
                replace rA := rA.stay hb
                replace rC := rC.stay hb
                replace A9 := A9.below hb
                replace A := A.below hb
                clear hb N2
                have c1 := h.pos
                have f1 := Rw.frozen h 1
                go_upto_region 9 with fail
                replace h := h.inc (eK6 ())
                replace rA := rA.other hAR 1 (.int .i64 ((K5 : Int) + 1))
                have hbCR : bC ≠ R := by omega
                replace rC := rC.other hbCR 1 (.int .i64 ((K5 : Int) + 1))
                replace A := A.set1 1 (.int .i64 ((K5 : Int) + 1))
                replace A9 := A9.set1 1 (.int .i64 ((K5 : Int) + 1))
                generalize v12.setCell ⟨R, 1, none⟩ (.int .i64 ((K5 : Int) + 1)) = v13 at *
                clear c1 f1
                replace hT := hT.keep A9 (fun i hp _ e => by have := hp.1; omega)
                have rD := Rw.new v13 145 cs
                have hb3 := (Below.refl v13.heap.size v13).alloc (Nat.le_refl _) (.cells cs.toArray 145)
                have rC3 := rC.stay hb3
                have hszy := A9.size
                have hltC := Rw.lt rC
                obtain ⟨Y, eY⟩ : ∃ Y, nodeC 3 noSet (.slice (some ⟨v13.heap.size, 0, none⟩) 1 1) = Y := ⟨_, rfl⟩
                have hlY := nodeC_len 3 noSet (.slice (some ⟨v13.heap.size, 0, none⟩) 1 1)
                have hoY := nodeC_one 3 noSet (v := .slice (some ⟨v13.heap.size, 0, none⟩) 1 1) rfl
                replace hT := (hT.stay hb3).over rD ⟨by omega, by omega, fun e => by have := hltv _ e; omega, by omega⟩ 3
                have EB := fun (o : Oper) (a : Act) => exec_b2 (o := o) (a := a) 3 eY rfl
                rw [eY] at hlY hoY hT
                clear eY rD
                have hbCA : bC ≠ bA := by omega
                go_upto_region 15 with (first | refine load_node _ _ rC hcl _ rfl rfl rfl ?_ | refine wpList_row_node cs hcl _ rfl rfl rfl ?_ | refine wpList_exec (EB _ _ _ _ rfl rfl rfl _) rfl ?_ | refine store_node _ _ rC3 hcl Y hlY hoY _ _ rfl rfl rfl rfl ?_)
                clear EB
                replace h := h.stay hb3
                replace rA := rA.stay hb3
                replace A := A.below hb3
                replace A9 := A9.below hb3
                clear hb3 rC
                generalize v13.alloc (.cells cs.toArray 145) = v14 at *
                replace hT := hT.keep (asd_setRow (ds := Y.toArray) (Asd.refl (fun j => j = bC) v14) (.inl rfl)) (fun i hp _ e => hp.2.2.2 (by omega))
                replace h := rw_setRow_ne h (ds := Y.toArray) (k := bC) hbCR.symm
                replace rA := rw_setRow_ne rA (ds := Y.toArray) (k := bC) hbCA.symm
                have rC : Rw (v14.setRow bC Y.toArray) bC 145 Y := rw_setRow rC3
                replace A := asd_setRow (ds := Y.toArray) A (g := bC) (.inr (by omega))
                replace A9 := asd_setRow (ds := Y.toArray) A9 (g := bC) (.inr (by omega))
                generalize v14.setRow bC Y.toArray = v15 at *
                change Rd v15 R s _ _ at h
                clear rC3
                replace KC := KC.keep A9 (fun i e => by omega)
                replace KT := KT.keep A9 (fun i e => by omega)
                replace hT := hT.mono (P' := fun j => bA + 1 ≤ j ∧ j ≠ bB ∧ v.ownBlock ≠ some j) (fun j hj _ => ⟨hj.1, hj.2.1, hj.2.2.1⟩)
                clear A9
                have cK := (KC.row.cell 257).trans (nodeC_kids 2 noSet v)
                have rX := Rw.new v15 145 Y
                have hbx := (Below.refl v15.heap.size v15).alloc (Nat.le_refl _) (.cells Y.toArray 145)
                have KC2 := KC.stay hbx
                have KT2 := KT.stay hbx
                have hT2 := hT.stay hbx
                have hBx := Rw.lt KC.row
                have hbz : bB + 1 ≤ (v15.alloc (.cells Y.toArray 145)).heap.size := by have := hbx.size; omega
                go_wp2_with (first | refine load_node _ _ rC hlY _ rfl rfl rfl ?_ | refine wpList_row_node Y hlY _ rfl rfl rfl ?_ | refine wpList_own_node _ _ rfl rfl (bB + 1) v css rfl KC2.own v15.heap.size Y rfl hlY rX hoY (by omega) hbz ?_)
                intro u7 v16 hO7 hg7 hv7
                obtain ⟨g7, c7, rfl⟩ := own_succ hO7
                have hv71 := own_one hO7
                have KC7 := KC2.add hg7 hO7 hlY hv71
                have KT7 := KT2.add hT2 hg7 (hv7.imp id (fun e => by rw [e]; simp))
                have r7 := KC2.row.grown hg7 (fun e => by have := (KC2.own.lt _ e).1; omega)
                have f7 := r7.frozen 257
                have d7 := (r7.cell 257).trans (nodeC_kids 2 noSet v)
                have h7 : Rd v16 R s K6 0 := Rw.grown (h.stay hbx) hg7 (fun e => by have := (KC2.own.lt _ e).1; omega)
                have a7 := Rw.grown (rA.stay hbx) hg7 (fun e => by have := (KC2.own.lt _ e).1; omega)
                have A7 := (A.below hbx).grown hg7 (fun k e => .inr (by have := (KC2.own.lt _ e).1; omega))
                replace h := Rw.other h7 hBR.symm 257 (.slice (some ⟨g7, 0, none⟩) (css.length + 1) c7)
                replace rA := a7.other hBA 257 (.slice (some ⟨g7, 0, none⟩) (css.length + 1) c7)
                replace A := A7.setCell (p := ⟨bB, 257, none⟩) (.inr hbB) (.slice (some ⟨g7, 0, none⟩) (css.length + 1) c7)
                clear h7 a7 A7 r7 KC2 rX hbx cK KC hO7 hg7 KT2 hT2 KT hT
                go_wp2_with fail
                go_roundw
                case rel => exact ⟨(.slice (some ⟨g7, 0, none⟩) (css.length + 1) c7), css ++ [Y], 0, K6, h, KC7, rA, A, .inl ⟨rfl, by omega, by rw [List.length_append, List.length_singleton]; omega, qs ++ [.star x], by rw [List.map_append]; exact KT7, HO ()⟩⟩
                case measure =>
                  rw [hL, Rd.left0 (h : Rd _ R s _ 0)]
                  omega
              have n42 : ((y.toNat : Int) == 42) = false := u8_ne (n := 42) h42 (by decide)
              by_cases h43 : y = 43
              · subst h43
                obtain ⟨K6, hKb6, eK6⟩ : ∃ K6, K6 ≤ 101 ∧ (Unit → K6 = K5 + 1) := ⟨_, by omega, fun _ => rfl⟩
                rw [← eK6 ()] at hr6
                have HO : Unit → preS (qs ++ [.plus x]) (seqR d (s.drop K6)) = O := fun _ => by rw [hr6, ← HO0 ()]; rfl
                have hK56 : K5 ≤ K6 ∧ K6 ≤ s.length := by have := eK6 (); omega
                clear HO0 hr5
                go_wp2_with fail
                refine (N2.out _ h).mono ?_
                rintro e v18 ⟨rfl, hb⟩
                replace h := h.stay hb
                replace rA := rA.stay hb
                replace rC := rC.stay hb
                replace A9 := A9.below hb
                replace A := A.below hb
                clear hb N2
                have c1 := h.pos
                have f1 := Rw.frozen h 1
                go_upto_region 9 with fail
                replace h := h.inc (eK6 ())
                replace rA := rA.other hAR 1 (.int .i64 ((K5 : Int) + 1))
                have hbCR : bC ≠ R := by omega
                replace rC := rC.other hbCR 1 (.int .i64 ((K5 : Int) + 1))
                replace A := A.set1 1 (.int .i64 ((K5 : Int) + 1))
                replace A9 := A9.set1 1 (.int .i64 ((K5 : Int) + 1))
                generalize v18.setCell ⟨R, 1, none⟩ (.int .i64 ((K5 : Int) + 1)) = v19 at *
                clear c1 f1
                replace hT := hT.keep A9 (fun i hp _ e => by have := hp.1; omega)
                have rD := Rw.new v19 145 cs
                have hb3 := (Below.refl v19.heap.size v19).alloc (Nat.le_refl _) (.cells cs.toArray 145)
                have rC3 := rC.stay hb3
                have hszy := A9.size
                have hltC := Rw.lt rC
                obtain ⟨Y, eY⟩ : ∃ Y, nodeC 4 noSet (.slice (some ⟨v19.heap.size, 0, none⟩) 1 1) = Y := ⟨_, rfl⟩
                have hlY := nodeC_len 4 noSet (.slice (some ⟨v19.heap.size, 0, none⟩) 1 1)
                have hoY := nodeC_one 4 noSet (v := .slice (some ⟨v19.heap.size, 0, none⟩) 1 1) rfl
                replace hT := (hT.stay hb3).over rD ⟨by omega, by omega, fun e => by have := hltv _ e; omega, by omega⟩ 4
                have EB := fun (o : Oper) (a : Act) => exec_b2 (o := o) (a := a) 4 eY rfl
                rw [eY] at hlY hoY hT
                clear eY rD
                have hbCA : bC ≠ bA := by omega
                go_upto_region 15 with (first | refine load_node _ _ rC hcl _ rfl rfl rfl ?_ | refine wpList_row_node cs hcl _ rfl rfl rfl ?_ | refine wpList_exec (EB _ _ _ _ rfl rfl rfl _) rfl ?_ | refine store_node _ _ rC3 hcl Y hlY hoY _ _ rfl rfl rfl rfl ?_)
                clear EB
                replace h := h.stay hb3
                replace rA := rA.stay hb3
                replace A := A.below hb3
                replace A9 := A9.below hb3
                clear hb3 rC
                generalize v19.alloc (.cells cs.toArray 145) = v20 at *
                replace hT := hT.keep (asd_setRow (ds := Y.toArray) (Asd.refl (fun j => j = bC) v20) (.inl rfl)) (fun i hp _ e => hp.2.2.2 (by omega))
                replace h := rw_setRow_ne h (ds := Y.toArray) (k := bC) hbCR.symm
                replace rA := rw_setRow_ne rA (ds := Y.toArray) (k := bC) hbCA.symm
                have rC : Rw (v20.setRow bC Y.toArray) bC 145 Y := rw_setRow rC3
                replace A := asd_setRow (ds := Y.toArray) A (g := bC) (.inr (by omega))
                replace A9 := asd_setRow (ds := Y.toArray) A9 (g := bC) (.inr (by omega))
                generalize v20.setRow bC Y.toArray = v21 at *
                change Rd v21 R s _ _ at h
                clear rC3
                replace KC := KC.keep A9 (fun i e => by omega)
                replace KT := KT.keep A9 (fun i e => by omega)
                replace hT := hT.mono (P' := fun j => bA + 1 ≤ j ∧ j ≠ bB ∧ v.ownBlock ≠ some j) (fun j hj _ => ⟨hj.1, hj.2.1, hj.2.2.1⟩)
                clear A9
                have cK := (KC.row.cell 257).trans (nodeC_kids 2 noSet v)
                have rX := Rw.new v21 145 Y
                have hbx := (Below.refl v21.heap.size v21).alloc (Nat.le_refl _) (.cells Y.toArray 145)
                have KC2 := KC.stay hbx
                have KT2 := KT.stay hbx
                have hT2 := hT.stay hbx
                have hBx := Rw.lt KC.row
                have hbz : bB + 1 ≤ (v21.alloc (.cells Y.toArray 145)).heap.size := by have := hbx.size; omega
                go_wp2_with (first | refine load_node _ _ rC hlY _ rfl rfl rfl ?_ | refine wpList_row_node Y hlY _ rfl rfl rfl ?_ | refine wpList_own_node _ _ rfl rfl (bB + 1) v css rfl KC2.own v21.heap.size Y rfl hlY rX hoY (by omega) hbz ?_)
                intro u7 v22 hO7 hg7 hv7
                obtain ⟨g7, c7, rfl⟩ := own_succ hO7
                have hv71 := own_one hO7
                have KC7 := KC2.add hg7 hO7 hlY hv71
                have KT7 := KT2.add hT2 hg7 (hv7.imp id (fun e => by rw [e]; simp))
                have r7 := KC2.row.grown hg7 (fun e => by have := (KC2.own.lt _ e).1; omega)
                have f7 := r7.frozen 257
                have d7 := (r7.cell 257).trans (nodeC_kids 2 noSet v)
                have h7 : Rd v22 R s K6 0 := Rw.grown (h.stay hbx) hg7 (fun e => by have := (KC2.own.lt _ e).1; omega)
                have a7 := Rw.grown (rA.stay hbx) hg7 (fun e => by have := (KC2.own.lt _ e).1; omega)
                have A7 := (A.below hbx).grown hg7 (fun k e => .inr (by have := (KC2.own.lt _ e).1; omega))
                replace h := Rw.other h7 hBR.symm 257 (.slice (some ⟨g7, 0, none⟩) (css.length + 1) c7)
                replace rA := a7.other hBA 257 (.slice (some ⟨g7, 0, none⟩) (css.length + 1) c7)
                replace A := A7.setCell (p := ⟨bB, 257, none⟩) (.inr hbB) (.slice (some ⟨g7, 0, none⟩) (css.length + 1) c7)
                clear h7 a7 A7 r7 KC2 rX hbx cK KC hO7 hg7 KT2 hT2 KT hT
                go_wp2_with fail
                go_roundw
                case rel => exact ⟨(.slice (some ⟨g7, 0, none⟩) (css.length + 1) c7), css ++ [Y], 0, K6, h, KC7, rA, A, .inl ⟨rfl, by omega, by rw [List.length_append, List.length_singleton]; omega, qs ++ [.plus x], by rw [List.map_append]; exact KT7, HO ()⟩⟩
                case measure =>
                  rw [hL, Rd.left0 (h : Rd _ R s _ 0)]
                  omega
              have n43 : ((y.toNat : Int) == 43) = false := u8_ne (n := 43) h43 (by decide)
              by_cases h63 : y = 63
              · subst h63
                obtain ⟨K6, hKb6, eK6⟩ : ∃ K6, K6 ≤ 101 ∧ (Unit → K6 = K5 + 1) := ⟨_, by omega, fun _ => rfl⟩
                rw [← eK6 ()] at hr6
                have HO : Unit → preS (qs ++ [.opt x]) (seqR d (s.drop K6)) = O := fun _ => by rw [hr6, ← HO0 ()]; rfl
                have hK56 : K5 ≤ K6 ∧ K6 ≤ s.length := by have := eK6 (); omega
                clear HO0 hr5
                go_wp2_with fail
                refine (N2.out _ h).mono ?_
                rintro e v24 ⟨rfl, hb⟩
                replace h := h.stay hb
                replace rA := rA.stay hb
                replace rC := rC.stay hb
                replace A9 := A9.below hb
                replace A := A.below hb
                clear hb N2
                have c1 := h.pos
                have f1 := Rw.frozen h 1
                go_upto_region 9 with fail
                replace h := h.inc (eK6 ())
                replace rA := rA.other hAR 1 (.int .i64 ((K5 : Int) + 1))
                have hbCR : bC ≠ R := by omega
                replace rC := rC.other hbCR 1 (.int .i64 ((K5 : Int) + 1))
                replace A := A.set1 1 (.int .i64 ((K5 : Int) + 1))
                replace A9 := A9.set1 1 (.int .i64 ((K5 : Int) + 1))
                generalize v24.setCell ⟨R, 1, none⟩ (.int .i64 ((K5 : Int) + 1)) = v25 at *
                clear c1 f1
                replace hT := hT.keep A9 (fun i hp _ e => by have := hp.1; omega)
                have rD := Rw.new v25 145 cs
                have hb3 := (Below.refl v25.heap.size v25).alloc (Nat.le_refl _) (.cells cs.toArray 145)
                have rC3 := rC.stay hb3
                have hszy := A9.size
                have hltC := Rw.lt rC
                obtain ⟨Y, eY⟩ : ∃ Y, nodeC 5 noSet (.slice (some ⟨v25.heap.size, 0, none⟩) 1 1) = Y := ⟨_, rfl⟩
                have hlY := nodeC_len 5 noSet (.slice (some ⟨v25.heap.size, 0, none⟩) 1 1)
                have hoY := nodeC_one 5 noSet (v := .slice (some ⟨v25.heap.size, 0, none⟩) 1 1) rfl
                replace hT := (hT.stay hb3).over rD ⟨by omega, by omega, fun e => by have := hltv _ e; omega, by omega⟩ 5
                have EB := fun (o : Oper) (a : Act) => exec_b2 (o := o) (a := a) 5 eY rfl
                rw [eY] at hlY hoY hT
                clear eY rD
                have hbCA : bC ≠ bA := by omega
                go_upto_region 15 with (first | refine load_node _ _ rC hcl _ rfl rfl rfl ?_ | refine wpList_row_node cs hcl _ rfl rfl rfl ?_ | refine wpList_exec (EB _ _ _ _ rfl rfl rfl _) rfl ?_ | refine store_node _ _ rC3 hcl Y hlY hoY _ _ rfl rfl rfl rfl ?_)
                clear EB
                replace h := h.stay hb3
                replace rA := rA.stay hb3
                replace A := A.below hb3
                replace A9 := A9.below hb3
                clear hb3 rC
                generalize v25.alloc (.cells cs.toArray 145) = v26 at *
                replace hT := hT.keep (asd_setRow (ds := Y.toArray) (Asd.refl (fun j => j = bC) v26) (.inl rfl)) (fun i hp _ e => hp.2.2.2 (by omega))
                replace h := rw_setRow_ne h (ds := Y.toArray) (k := bC) hbCR.symm
                replace rA := rw_setRow_ne rA (ds := Y.toArray) (k := bC) hbCA.symm
                have rC : Rw (v26.setRow bC Y.toArray) bC 145 Y := rw_setRow rC3
                replace A := asd_setRow (ds := Y.toArray) A (g := bC) (.inr (by omega))
                replace A9 := asd_setRow (ds := Y.toArray) A9 (g := bC) (.inr (by omega))
                generalize v26.setRow bC Y.toArray = v27 at *
                change Rd v27 R s _ _ at h
                clear rC3
                replace KC := KC.keep A9 (fun i e => by omega)
                replace KT := KT.keep A9 (fun i e => by omega)
                replace hT := hT.mono (P' := fun j => bA + 1 ≤ j ∧ j ≠ bB ∧ v.ownBlock ≠ some j) (fun j hj _ => ⟨hj.1, hj.2.1, hj.2.2.1⟩)
                clear A9
                have cK := (KC.row.cell 257).trans (nodeC_kids 2 noSet v)
                have rX := Rw.new v27 145 Y
                have hbx := (Below.refl v27.heap.size v27).alloc (Nat.le_refl _) (.cells Y.toArray 145)
                have KC2 := KC.stay hbx
                have KT2 := KT.stay hbx
                have hT2 := hT.stay hbx
                have hBx := Rw.lt KC.row
                have hbz : bB + 1 ≤ (v27.alloc (.cells Y.toArray 145)).heap.size := by have := hbx.size; omega
                go_wp2_with (first | refine load_node _ _ rC hlY _ rfl rfl rfl ?_ | refine wpList_row_node Y hlY _ rfl rfl rfl ?_ | refine wpList_own_node _ _ rfl rfl (bB + 1) v css rfl KC2.own v27.heap.size Y rfl hlY rX hoY (by omega) hbz ?_)
                intro u7 v28 hO7 hg7 hv7
                obtain ⟨g7, c7, rfl⟩ := own_succ hO7
                have hv71 := own_one hO7
                have KC7 := KC2.add hg7 hO7 hlY hv71
                have KT7 := KT2.add hT2 hg7 (hv7.imp id (fun e => by rw [e]; simp))
                have r7 := KC2.row.grown hg7 (fun e => by have := (KC2.own.lt _ e).1; omega)
                have f7 := r7.frozen 257
                have d7 := (r7.cell 257).trans (nodeC_kids 2 noSet v)
                have h7 : Rd v28 R s K6 0 := Rw.grown (h.stay hbx) hg7 (fun e => by have := (KC2.own.lt _ e).1; omega)
                have a7 := Rw.grown (rA.stay hbx) hg7 (fun e => by have := (KC2.own.lt _ e).1; omega)
                have A7 := (A.below hbx).grown hg7 (fun k e => .inr (by have := (KC2.own.lt _ e).1; omega))
                replace h := Rw.other h7 hBR.symm 257 (.slice (some ⟨g7, 0, none⟩) (css.length + 1) c7)
                replace rA := a7.other hBA 257 (.slice (some ⟨g7, 0, none⟩) (css.length + 1) c7)
                replace A := A7.setCell (p := ⟨bB, 257, none⟩) (.inr hbB) (.slice (some ⟨g7, 0, none⟩) (css.length + 1) c7)
                clear h7 a7 A7 r7 KC2 rX hbx cK KC hO7 hg7 KT2 hT2 KT hT
                go_wp2_with fail
                go_roundw
                case rel => exact ⟨(.slice (some ⟨g7, 0, none⟩) (css.length + 1) c7), css ++ [Y], 0, K6, h, KC7, rA, A, .inl ⟨rfl, by omega, by rw [List.length_append, List.length_singleton]; omega, qs ++ [.opt x], by rw [List.map_append]; exact KT7, HO ()⟩⟩
                case measure =>
                  rw [hL, Rd.left0 (h : Rd _ R s _ 0)]
                  omega
              have n63 : ((y.toNat : Int) == 63) = false := u8_ne (n := 63) h63 (by decide)
              have HO : Unit → preS (qs ++ [x]) (seqR d (s.drop K5)) = O := fun _ => by rw [hr5, ← HO0 ()]; simp [often, h42, h43, h63]
              clear HO0 hr6 hr5
              go_wp2_with fail
              refine (N2.out _ h).mono ?_
              rintro e v30 ⟨rfl, hb⟩
              replace h := h.stay hb
              replace rA := rA.stay hb
              replace rC := rC.stay hb
              replace A9 := A9.below hb
              replace A := A.below hb
              clear hb N2
              replace hT := hT.up
              go_upto_region 15 with fail
              replace KC := KC.keep A9 (fun i e => by omega)
              replace KT := KT.keep A9 (fun i e => by omega)
              replace hT := hT.keep A9 (fun i hp _ e => by have := hp.1; omega)
              replace hT := hT.mono (P' := fun j => bA + 1 ≤ j ∧ j ≠ bB ∧ v.ownBlock ≠ some j) (fun j hj _ => ⟨hj.1, hj.2.1, hj.2.2.1⟩)
              clear A9
              have cK := (KC.row.cell 257).trans (nodeC_kids 2 noSet v)
              have rX := Rw.new v30 145 cs
              have hbx := (Below.refl v30.heap.size v30).alloc (Nat.le_refl _) (.cells cs.toArray 145)
              have KC2 := KC.stay hbx
              have KT2 := KT.stay hbx
              have hT2 := hT.stay hbx
              have hBx := Rw.lt KC.row
              have hbz : bB + 1 ≤ (v30.alloc (.cells cs.toArray 145)).heap.size := by have := hbx.size; omega
              go_wp2_with (first | refine load_node _ _ rC hcl _ rfl rfl rfl ?_ | refine wpList_row_node cs hcl _ rfl rfl rfl ?_ | refine wpList_own_node _ _ rfl rfl (bB + 1) v css rfl KC2.own v30.heap.size cs rfl hcl rX hc1 (by omega) hbz ?_)
              intro u7 v31 hO7 hg7 hv7
              obtain ⟨g7, c7, rfl⟩ := own_succ hO7
              have hv71 := own_one hO7
              have KC7 := KC2.add hg7 hO7 hcl hv71
              have KT7 := KT2.add hT2 hg7 (hv7.imp id (fun e => by rw [e]; simp))
              have r7 := KC2.row.grown hg7 (fun e => by have := (KC2.own.lt _ e).1; omega)
              have f7 := r7.frozen 257
              have d7 := (r7.cell 257).trans (nodeC_kids 2 noSet v)
              have h7 : Rd v31 R s K5 0 := Rw.grown (h.stay hbx) hg7 (fun e => by have := (KC2.own.lt _ e).1; omega)
              have a7 := Rw.grown (rA.stay hbx) hg7 (fun e => by have := (KC2.own.lt _ e).1; omega)
              have A7 := (A.below hbx).grown hg7 (fun k e => .inr (by have := (KC2.own.lt _ e).1; omega))
              replace h := Rw.other h7 hBR.symm 257 (.slice (some ⟨g7, 0, none⟩) (css.length + 1) c7)
              replace rA := a7.other hBA 257 (.slice (some ⟨g7, 0, none⟩) (css.length + 1) c7)
              replace A := A7.setCell (p := ⟨bB, 257, none⟩) (.inr hbB) (.slice (some ⟨g7, 0, none⟩) (css.length + 1) c7)
              clear h7 a7 A7 r7 KC2 rX hbx cK KC hO7 hg7 KT2 hT2 KT hT
              go_wp2_with fail
              go_roundw
              case rel => exact ⟨(.slice (some ⟨g7, 0, none⟩) (css.length + 1) c7), css ++ [cs], 0, K5, h, KC7, rA, A, .inl ⟨rfl, by omega, by rw [List.length_append, List.length_singleton]; omega, qs ++ [x], by rw [List.map_append]; exact KT7, HO ()⟩⟩
              case measure =>
                rw [hL, Rd.left0 (h : Rd _ R s _ 0)]
                omega
end Go.Proofs.YtknhkmlihbgjpaaDoor.Dn
/- The document's pattern reader: atom (written by wip/tools/genatom.py). -/
namespace Go.Proofs.YtknhkmlihbgjpaaDoor.Dn
open Go.ChangeShapes Go.WideShapes Go.RowKit

set_option maxHeartbeats 6400000 in
set_option maxRecDepth 100000 in
theorem atom_any (d : Nat) (hd : d ≤ 8) (HE : d < 8 → EitherC (d + 1)) : AtomC d := by
  intro R K s l c w h hs hl h124 h41
  obtain ⟨hc0, hr, hk, hn⟩ := drop_cons hl
  have hKb : K ≤ 100 := by omega
  obtain ⟨K1, hKb1, eK⟩ : ∃ K1, K1 ≤ 101 ∧ (Unit → K1 = K + 1) := ⟨_, by omega, fun _ => rfl⟩
  rw [← eK ()] at hr
  have hK1s : K1 ≤ s.length := by have := eK (); omega
  have N1 := Lib.hid fun w' h => next_hit (R := R) hl w' h
  obtain ⟨O, hO⟩ : ∃ O, atomR' d (c :: l) = O := ⟨_, rfl⟩
  rw [hO]
  have HO0 : Unit → atomR' d (c :: l) = O := fun _ => hO
  clear hO hc0 hl hn hk
  have A := Asd.refl (fun k => k = R) w
  have hzc := zero_node
  obtain ⟨Z, eZ⟩ : ∃ Z, nodeC 0 noSet nilS = Z := ⟨_, rfl⟩
  have hlZ := nodeC_len 0 noSet nilS
  have hoZ := nodeC_one 0 noSet nil_one
  rw [eZ] at hzc hlZ hoZ
  have EZ : Unit → nodeC 0 noSet nilS = Z := fun _ => eZ
  clear eZ
  have hR := Rw.lt h
  have hcb := c.toNat_lt
  go_enter Tryd.func116, Tryd.ntmps116
  go_upto_region 1 with fail
  have rA := Rw.new w 145 Z
  have hb0 := (Below.refl w.heap.size w).alloc (Nat.le_refl _) (.cells Z.toArray 145)
  replace h := h.stay hb0
  replace A := A.below hb0
  generalize w.alloc (.cells Z.toArray 145) = w1 at *
  obtain ⟨bA, hbA, hA0⟩ : ∃ bA, w.heap.size ≤ bA ∧ w.heap.size = bA := ⟨_, Nat.le_refl _, rfl⟩
  obtain ⟨B0, hB00⟩ : ∃ B0, w.heap.size = B0 := ⟨_, rfl⟩
  rw [hA0] at rA
  simp only [hA0]
  have hAR : bA ≠ R := by omega
  clear hb0
  go_wp2_with fail
  refine (N1.out _ h).mono ?_
  rintro e v1 ⟨rfl, hb⟩
  replace h := h.stay hb
  replace rA := rA.stay hb
  replace A := A.below hb
  clear hb N1
  have c1 := h.pos
  have f1 := Rw.frozen h 1
  go_upto_region 3 with fail
  replace h := h.inc (eK ())
  replace rA := rA.other hAR 1 (.int .i64 ((K : Int) + 1))
  replace A := A.set1 1 (.int .i64 ((K : Int) + 1))
  generalize v1.setCell ⟨R, 1, none⟩ (.int .i64 ((K : Int) + 1)) = v2 at *
  clear c1 f1
  have rB := Rw.new v2 145 Z
  have hb1 := (Below.refl v2.heap.size v2).alloc (Nat.le_refl _) (.cells Z.toArray 145)
  have hAB := Rw.lt rA
  have hsz := A.size
  go_upto_region 4 with (first | refine wpList_exec (exec_build0 Z hzc rfl _) rfl ?_ | refine store_node _ _ rB hlZ Z hlZ hoZ _ _ rfl rfl rfl rfl ?_)
  rw [World.setRow_alloc_new]
  replace h := h.stay hb1
  replace rA := rA.stay hb1
  replace A := A.below hb1
  generalize v2.alloc (.cells Z.toArray 145) = v0 at *
  obtain ⟨bB, hB0⟩ : ∃ bB, v2.heap.size = bB := ⟨_, rfl⟩
  rw [hB0] at rB hAB hsz
  simp only [hB0]
  have hbB : w.heap.size ≤ bB := hsz
  have hBR : bB ≠ R := by omega
  have hBA : bA ≠ bB := by omega
  clear hb1 hB0 hAB hsz
  rw [atom_eq] at HO0
  by_cases h40 : c = 40
  · subst h40
    rw [if_pos rfl] at HO0
    by_cases hd8 : d = 8
    · subst hd8
      have HO : Unit → O = .er .deep := fun _ => by rw [← HO0 (), if_pos rfl]
      clear HO0
      have F := Lib.hid fun w' h => fail_new (R := R) (K := K1) (s := s) 3 w' h
      go_wp2_with fail
      refine (F.out _ h).mono ?_
      rintro e v3 ⟨rfl, h', A'⟩
      replace h := h'
      replace rA := rA.keep A' hAR
      replace rB := rB.keep A' hBR
      replace A := A.andThen A'
      clear h' A' F
      go_wp2_with (first | refine load_node _ _ rB hlZ _ rfl rfl rfl ?_ | refine store_node _ _ rA hlZ Z hlZ hoZ _ _ rfl rfl rfl rfl ?_)
      refine ret_node _ _ (rw_setRow rA) hlZ rfl rfl rfl ?_
      exact ⟨by rw [HO ()]; exact ⟨Z, rfl, hlZ, hoZ, K1, by omega, rw_setRow_ne h hAR.symm⟩, asd_setRow A (.inr hbA)⟩
    · have hlt8 : d < 8 := by omega
      rw [if_neg hd8] at HO0
      have hdi : ¬ ((8 : Int) ≤ (d : Int)) := by omega
      have E1 := Lib.hid fun w' h => HE hlt8 R K1 s w' h hs hK1s
      rw [show ((d + 1 : Nat) : Int) = (d : Int) + 1 from by push_cast; rfl, hr] at E1
      go_wp2_with fail
      refine (E1.out _ h).mono ?_
      rintro e v90 ⟨hS, A'⟩
      have hltA := Rw.lt rA
      have hltB := Rw.lt rB
      clear h E1
      replace rA := rA.keep A' hAR
      replace rB := rB.keep A' hBR
      have hszA := A.size
      replace A := A.andThen A'
      clear A'
      cases hO2 : altR (d + 1) l with
      | er x =>
        rw [hO2] at hS HO0
        obtain ⟨cs, rfl, hcl, hc1, K5, hK5, h⟩ := hS
        have HO : Unit → O = .er x := fun _ => by rw [← HO0 ()]
        have hE := errN_ne x
        obtain ⟨E, hEE⟩ : ∃ E, errN x = E := ⟨_, rfl⟩
        rw [hEE] at hE h
        have HEE : Unit → errN x = E := fun _ => hEE
        clear hEE
        clear HO0 hO2
        obtain ⟨K6, hKb6, eK6⟩ : ∃ K6, K6 ≤ 130 ∧ (Unit → K6 = K5 + 1) := ⟨_, by omega, fun _ => rfl⟩
        have hKb5 : K5 ≤ 125 := by omega
        have N2 := Lib.hid fun w' h => next_err (R := R) (K := K5) (s := s) hE w' h
        have F := Lib.hid fun w' h => fail_old (R := R) (K := K5) (s := s) hE 2 w' h
        go_wp2_with (refine store_node _ _ rB hlZ cs hcl hc1 _ _ rfl rfl rfl rfl ?_)
        replace h := rw_setRow_ne h (ds := cs.toArray) hBR.symm
        replace rA := rw_setRow_ne rA (ds := cs.toArray) hBA
        replace rB := rw_setRow (ds := cs) rB
        replace A := asd_setRow (ds := cs.toArray) A (.inr hbB)
        generalize v90.setRow bB cs.toArray = v91 at *
        change Rd v91 R s _ _ at h
        refine (N2.out _ h).mono ?_
        rintro e v4 ⟨rfl, hb⟩
        replace h := h.stay hb
        replace rA := rA.stay hb
        replace rB := rB.stay hb
        replace A := A.below hb
        clear hb N2
        go_wp2_with fail
        refine (F.out _ h).mono ?_
        rintro e v5 ⟨rfl, h', A'⟩
        replace h := h'
        replace rA := rA.keep A' hAR
        replace rB := rB.keep A' hBR
        replace A := A.andThen A'
        clear h' A' F
        have c1 := h.pos
        have f1 := Rw.frozen h 1
        go_upto_region 14 with fail
        replace h := h.inc (eK6 ())
        replace rA := rA.other hAR 1 (.int .i64 ((K5 : Int) + 1))
        replace rB := rB.other hBR 1 (.int .i64 ((K5 : Int) + 1))
        replace A := A.set1 1 (.int .i64 ((K5 : Int) + 1))
        generalize v5.setCell ⟨R, 1, none⟩ (.int .i64 ((K5 : Int) + 1)) = v6 at *
        clear c1 f1
        rw [← HEE ()] at h
        go_wp2_with (first | refine load_node _ _ rB hcl _ rfl rfl rfl ?_ | refine store_node _ _ rA hlZ cs hcl hc1 _ _ rfl rfl rfl rfl ?_)
        refine ret_node _ _ (rw_setRow rA) hcl rfl rfl rfl ?_
        exact ⟨by rw [HO ()]; exact ⟨cs, rfl, hcl, hc1, K6, by have := eK6 (); omega, rw_setRow_ne h hAR.symm⟩, asd_setRow A (.inr hbA)⟩
      | ok a r =>
        rw [hO2] at hS HO0
        obtain ⟨cs, rfl, hT, K5, hr5, hK5, h⟩ := hS
        obtain ⟨hcl, hc1⟩ := hT.node
        replace hT := hT.mono (P' := fun j => w.heap.size ≤ j ∧ j ≠ bA ∧ j ≠ bB) (fun j hj _ => ⟨by omega, by omega, by omega⟩)
        simp only at HO0
        obtain ⟨K6, hKb6, eK6⟩ : ∃ K6, K6 ≤ 101 ∧ (Unit → K6 = K5 + 1) := ⟨_, by omega, fun _ => rfl⟩
        have hKb5 : K5 ≤ 100 := by omega
        cases r with
        | nil =>
          have HO : Unit → O = .er .form := fun _ => by rw [← HO0 ()]
          clear HO0 hO2 hT
          have N2 := Lib.hid fun w' h => next_end (R := R) hr5 w' h
          have F := Lib.hid fun w' h => fail_new (R := R) (K := K5) (s := s) 2 w' h
          go_wp2_with (refine store_node _ _ rB hlZ cs hcl hc1 _ _ rfl rfl rfl rfl ?_)
          replace h := rw_setRow_ne h (ds := cs.toArray) hBR.symm
          replace rA := rw_setRow_ne rA (ds := cs.toArray) hBA
          replace rB := rw_setRow (ds := cs) rB
          replace A := asd_setRow (ds := cs.toArray) A (.inr hbB)
          generalize v90.setRow bB cs.toArray = v91 at *
          change Rd v91 R s _ _ at h
          refine (N2.out _ h).mono ?_
          rintro e v7 ⟨rfl, hb⟩
          replace h := h.stay hb
          replace rA := rA.stay hb
          replace rB := rB.stay hb
          replace A := A.below hb
          clear hb N2
          go_wp2_with fail
          refine (F.out _ h).mono ?_
          rintro e v8 ⟨rfl, h', A'⟩
          replace h := h'
          replace rA := rA.keep A' hAR
          replace rB := rB.keep A' hBR
          replace A := A.andThen A'
          clear h' A' F
          have c1 := h.pos
          have f1 := Rw.frozen h 1
          go_upto_region 14 with fail
          replace h := h.inc (eK6 ())
          replace rA := rA.other hAR 1 (.int .i64 ((K5 : Int) + 1))
          replace rB := rB.other hBR 1 (.int .i64 ((K5 : Int) + 1))
          replace A := A.set1 1 (.int .i64 ((K5 : Int) + 1))
          generalize v8.setCell ⟨R, 1, none⟩ (.int .i64 ((K5 : Int) + 1)) = v9 at *
          clear c1 f1
          go_wp2_with (first | refine load_node _ _ rB hcl _ rfl rfl rfl ?_ | refine store_node _ _ rA hlZ cs hcl hc1 _ _ rfl rfl rfl rfl ?_)
          refine ret_node _ _ (rw_setRow rA) hcl rfl rfl rfl ?_
          exact ⟨by rw [HO ()]; exact ⟨cs, rfl, hcl, hc1, K6, by have := eK6 (); omega, rw_setRow_ne h hAR.symm⟩, asd_setRow A (.inr hbA)⟩
        | cons x r =>
          obtain ⟨hx0, hr6, hk6, hn6⟩ := drop_cons hr5
          rw [← eK6 ()] at hr6
          have N2 := Lib.hid fun w' h => next_hit (R := R) hr5 w' h
          clear hx0 hr5
          simp only at HO0
          by_cases h41x : x = 41
          · subst h41x
            have HO : Unit → O = .ok (.grp a) r := fun _ => by rw [← HO0 (), if_pos rfl]
            clear HO0 hO2
            go_wp2_with (refine store_node _ _ rB hlZ cs hcl hc1 _ _ rfl rfl rfl rfl ?_)
            replace h := rw_setRow_ne h (ds := cs.toArray) hBR.symm
            replace rA := rw_setRow_ne rA (ds := cs.toArray) hBA
            replace rB := rw_setRow (ds := cs) rB
            replace hT := hT.keep (asd_setRow (ds := cs.toArray) (Asd.refl (fun k => k = bB) v90) (.inl rfl)) (fun i hp _ e => hp.2.2 e)
            replace A := asd_setRow (ds := cs.toArray) A (.inr hbB)
            generalize v90.setRow bB cs.toArray = v91 at *
            change Rd v91 R s _ _ at h
            refine (N2.out _ h).mono ?_
            rintro e v10 ⟨rfl, hb⟩
            replace h := h.stay hb
            replace rA := rA.stay hb
            replace rB := rB.stay hb
            replace hT := hT.stay hb
            replace A := A.below hb
            clear hb N2
            have c1 := h.pos
            have f1 := Rw.frozen h 1
            go_upto_region 14 with fail
            replace h := h.inc (eK6 ())
            replace rA := rA.other hAR 1 (.int .i64 ((K5 : Int) + 1))
            replace rB := rB.other hBR 1 (.int .i64 ((K5 : Int) + 1))
            replace hT := hT.keep ((Asd.refl (fun k => k = R) v10).set1 1 (.int .i64 ((K5 : Int) + 1))) (fun i hp _ e => by have := hp.1; omega)
            replace A := A.set1 1 (.int .i64 ((K5 : Int) + 1))
            generalize v10.setCell ⟨R, 1, none⟩ (.int .i64 ((K5 : Int) + 1)) = v11 at *
            clear c1 f1
            go_wp2_with (first | refine load_node _ _ rB hcl _ rfl rfl rfl ?_ | refine store_node _ _ rA hlZ cs hcl hc1 _ _ rfl rfl rfl rfl ?_)
            refine ret_node _ _ (rw_setRow rA) hcl rfl rfl rfl ?_
            exact ⟨by
              rw [HO ()]
              refine ⟨cs, rfl, ?_, K6, hr6, by have := eK6 (); omega, rw_setRow_ne h hAR.symm⟩
              rw [treeR]
              have q := (hT.keep (asd_setRow (ds := cs.toArray) (Asd.refl (fun k => k = bA) _) (.inl rfl)) (fun i hp _ e => hp.2.1 e)).mono (P' := fun j => w.heap.size ≤ j) (fun j hj _ => hj.1)
              exact q.le (by have := dT_up hlt8; omega), asd_setRow A (.inr hbA)⟩
          · have hxn : ((x.toNat : Int) == 41) = false := u8_ne (n := 41) h41x (by decide)
            have hxm : ((x.toNat : Int) != 41) = true := by simp only [bne, hxn, Bool.not_false]
            have HO : Unit → O = .er .form := fun _ => by rw [← HO0 (), if_neg h41x]
            clear HO0 hO2 hT
            have F := Lib.hid fun w' h => fail_new (R := R) (K := K5) (s := s) 2 w' h
            go_wp2_with (refine store_node _ _ rB hlZ cs hcl hc1 _ _ rfl rfl rfl rfl ?_)
            replace h := rw_setRow_ne h (ds := cs.toArray) hBR.symm
            replace rA := rw_setRow_ne rA (ds := cs.toArray) hBA
            replace rB := rw_setRow (ds := cs) rB
            replace A := asd_setRow (ds := cs.toArray) A (.inr hbB)
            generalize v90.setRow bB cs.toArray = v91 at *
            change Rd v91 R s _ _ at h
            refine (N2.out _ h).mono ?_
            rintro e v12 ⟨rfl, hb⟩
            replace h := h.stay hb
            replace rA := rA.stay hb
            replace rB := rB.stay hb
            replace A := A.below hb
            clear hb N2
            go_wp2_with fail
            refine (F.out _ h).mono ?_
            rintro e v13 ⟨rfl, h', A'⟩
            replace h := h'
            replace rA := rA.keep A' hAR
            replace rB := rB.keep A' hBR
            replace A := A.andThen A'
            clear h' A' F
            have c1 := h.pos
            have f1 := Rw.frozen h 1
            go_upto_region 14 with fail
            replace h := h.inc (eK6 ())
            replace rA := rA.other hAR 1 (.int .i64 ((K5 : Int) + 1))
            replace rB := rB.other hBR 1 (.int .i64 ((K5 : Int) + 1))
            replace A := A.set1 1 (.int .i64 ((K5 : Int) + 1))
            generalize v13.setCell ⟨R, 1, none⟩ (.int .i64 ((K5 : Int) + 1)) = v14 at *
            clear c1 f1
            go_wp2_with (first | refine load_node _ _ rB hcl _ rfl rfl rfl ?_ | refine store_node _ _ rA hlZ cs hcl hc1 _ _ rfl rfl rfl rfl ?_)
            refine ret_node _ _ (rw_setRow rA) hcl rfl rfl rfl ?_
            exact ⟨by rw [HO ()]; exact ⟨cs, rfl, hcl, hc1, K6, by have := eK6 (); omega, rw_setRow_ne h hAR.symm⟩, asd_setRow A (.inr hbA)⟩
  rw [if_neg h40] at HO0
  clear HE
  have n40 : ((c.toNat : Int) == 40) = false := u8_ne (n := 40) h40 (by decide)
  by_cases h46 : c = 46
  · subst h46
    have HO : Unit → O = .ok (.set fun _ => true) l := fun _ => by rw [← HO0 ()]; rfl
    clear HO0
    rw [← EZ (), ← upto_start noSet 0] at rB
    go_wp2_with fail
    go_loopw [10] (fun i wr => ∃ kk : Nat, kk ≤ 256 ∧ i = .int .i64 (kk : Int) ∧ Rd wr R s K1 0 ∧ Rw wr bB 145 (nodeC 0 (upto noSet 0 kk) nilS) ∧ Rw wr bA 145 Z ∧ Asd (fun k => k = R) w wr) (fun i _ => 256 - (intOf i).toNat)
    case atStart => exact ⟨0, by omega, rfl, h, rB, rA, A⟩
    case round =>
      clear h rB rA A
      obtain ⟨kk, hkk, rfl, h, rB, rA, A⟩ := hrel
      by_cases hlt : (kk : Int) < 256
      · have hkn : kk < 256 := by omega
        have hc := (rB.cell (1 + kk)).trans (nodeC_bit 0 (upto noSet 0 kk) nilS (by omega))
        have hfz := rB.frozen (1 + kk)
        go_wp2_with fail
        go_roundw
        case rel =>
          refine ⟨kk + 1, by omega, by go_num, Rw.other h hBR.symm _ _, ?_, rA.other hBA _ _, A.setCell (p := ⟨bB, 1 + kk, none⟩) (.inr hbB) _⟩
          have := rB.setCell (1 + kk) (.bool true)
          rw [nodeC_putBit _ _ _ (by omega), upto_step noSet 0 (Nat.zero_le _) (by omega)] at this
          exact this
        case measure => simp [intOf]; omega
      · have e7 : upto noSet 0 kk = fun _ => true := by rw [show kk = 256 by omega]; exact upto_all
        rw [e7] at rB
        have hl8 := nodeC_len 0 (fun _ => true) nilS
        have ho8 := nodeC_one 0 (fun _ => true) nil_one
        obtain ⟨X8, e8⟩ : ∃ X, nodeC 0 (fun _ => true) nilS = X := ⟨_, rfl⟩
        rw [e8] at hl8 ho8 rB
        have E8 : Unit → nodeC 0 (fun _ => true) nilS = X8 := fun _ => e8
        clear e8
        go_wp2_with (first | refine load_node _ _ rB hl8 _ rfl rfl rfl ?_ | refine store_node _ _ rA hlZ X8 hl8 ho8 _ _ rfl rfl rfl rfl ?_)
        refine ret_node _ _ (rw_setRow rA) hl8 rfl rfl rfl ?_
        exact ⟨by
          rw [HO ()]
          obtain ⟨dd, hdd⟩ := dT_pos d
          refine ⟨X8, rfl, ?_, K1, hr, hK1s, rw_setRow_ne h hAR.symm⟩
          rw [hdd, ← E8 ()]
          exact TAt.leaf _ _ dd 0 _, asd_setRow A (.inr hbA)⟩
  have n46 : ((c.toNat : Int) == 46) = false := u8_ne (n := 46) h46 (by decide)
  by_cases h91 : c = 91
  · subst h91
    rw [if_pos rfl] at HO0
    have CC := Lib.hid fun w' h => class_any R K1 s w' h hs hK1s
    rw [hr] at CC
    go_wp2_with fail
    refine (CC.out _ h).mono ?_
    rintro e v92 ⟨hS, A'⟩
    clear h CC
    replace rA := rA.keep A' hAR
    replace A := A.andThen A'
    clear A' rB
    cases hg : classN l with
    | none =>
      rw [hg] at hS HO0
      obtain ⟨⟨p, rfl⟩, K5, hK5, h⟩ := hS
      have HO : Unit → O = .er .form := fun _ => by rw [← HO0 ()]
      clear HO0 hg
      have hl8 := nodeC_len 0 p nilS
      have ho8 := nodeC_one 0 p nil_one
      generalize nodeC 0 p nilS = X8 at *
      go_wp2_with (refine store_node _ _ rA hlZ X8 hl8 ho8 _ _ rfl rfl rfl rfl ?_)
      refine ret_node _ _ (rw_setRow rA) hl8 rfl rfl rfl ?_
      exact ⟨by rw [HO ()]; exact ⟨X8, rfl, hl8, ho8, K5, by omega, rw_setRow_ne h hAR.symm⟩, asd_setRow A (.inr hbA)⟩
    | some pr =>
      obtain ⟨p, r⟩ := pr
      rw [hg] at hS HO0
      obtain ⟨rfl, K5, hr5, hK5, h⟩ := hS
      have HO : Unit → O = .ok (.set p) r := fun _ => by rw [← HO0 ()]
      clear HO0 hg
      have hl8 := nodeC_len 0 p nilS
      have ho8 := nodeC_one 0 p nil_one
      obtain ⟨X8, e8⟩ : ∃ X, nodeC 0 p nilS = X := ⟨_, rfl⟩
      rw [e8] at hl8 ho8
      simp only [e8]
      have E8 : Unit → nodeC 0 p nilS = X8 := fun _ => e8
      clear e8
      go_wp2_with (refine store_node _ _ rA hlZ X8 hl8 ho8 _ _ rfl rfl rfl rfl ?_)
      refine ret_node _ _ (rw_setRow rA) hl8 rfl rfl rfl ?_
      exact ⟨by
        rw [HO ()]
        obtain ⟨dd, hdd⟩ := dT_pos d
        refine ⟨X8, rfl, ?_, K5, hr5, hK5, rw_setRow_ne h hAR.symm⟩
        rw [hdd, ← E8 ()]
        exact TAt.leaf _ _ dd 0 _, asd_setRow A (.inr hbA)⟩
  have n91 : ((c.toNat : Int) == 91) = false := u8_ne (n := 91) h91 (by decide)
  rw [if_neg h91, if_neg h46] at HO0
  by_cases h92 : c = 92
  · subst h92
    rw [if_neg (by simp)] at HO0
    obtain ⟨K2, hKb2, eK2⟩ : ∃ K2, K2 ≤ 102 ∧ (Unit → K2 = K1 + 1) := ⟨_, by omega, fun _ => rfl⟩
    cases l with
    | nil =>
      have HO : Unit → O = .er .form := fun _ => by rw [← HO0 ()]; rfl
      clear HO0
      have N2 := Lib.hid fun w' h => next_end (R := R) hr w' h
      have F := Lib.hid fun w' h => fail_new (R := R) (K := K1) (s := s) 2 w' h
      go_wp2_with fail
      refine (N2.out _ h).mono ?_
      rintro e v15 ⟨rfl, hb⟩
      replace h := h.stay hb
      replace rA := rA.stay hb
      replace rB := rB.stay hb
      replace A := A.below hb
      clear hb N2
      go_wp2_with fail
      refine (F.out _ h).mono ?_
      rintro e v16 ⟨rfl, h', A'⟩
      replace h := h'
      replace rA := rA.keep A' hAR
      replace rB := rB.keep A' hBR
      replace A := A.andThen A'
      clear h' A' F
      have c1 := h.pos
      have f1 := Rw.frozen h 1
      go_upto_region 28 with fail
      replace h := h.inc (eK2 ())
      replace rA := rA.other hAR 1 (.int .i64 ((K1 : Int) + 1))
      replace rB := rB.other hBR 1 (.int .i64 ((K1 : Int) + 1))
      replace A := A.set1 1 (.int .i64 ((K1 : Int) + 1))
      generalize v16.setCell ⟨R, 1, none⟩ (.int .i64 ((K1 : Int) + 1)) = v17 at *
      clear c1 f1
      rw [← EZ ()] at rB
      have hfz := rB.frozen 1
      have hcz := (rB.cell (1 + 0)).trans (nodeC_bit 0 noSet nilS (by omega))
      go_upto_region 29 with fail
      replace h := Rw.other h hBR.symm 1 (.bool true)
      replace rA := rA.other hBA 1 (.bool true)
      replace A := A.setCell (p := ⟨bB, 1, none⟩) (.inr hbB) (.bool true)
      replace rB := rB.setCell (1 + 0) (.bool true)
      rw [nodeC_putBit _ _ _ (by omega)] at rB
      generalize World.setCell _ ⟨bB, 1, none⟩ (.bool true) = v93 at *
      clear hfz hcz
      have hl8 := nodeC_len 0 (fun x => if x = UInt8.ofNat 0 then true else noSet x) nilS
      have ho8 := nodeC_one 0 (fun x => if x = UInt8.ofNat 0 then true else noSet x) nil_one
      obtain ⟨X8, e8⟩ : ∃ X, nodeC 0 (fun x => if x = UInt8.ofNat 0 then true else noSet x) nilS = X := ⟨_, rfl⟩
      rw [e8] at hl8 ho8 rB
      have E8 : Unit → nodeC 0 (fun x => if x = UInt8.ofNat 0 then true else noSet x) nilS = X8 := fun _ => e8
      clear e8
      go_wp2_with (first | refine load_node _ _ rB hl8 _ rfl rfl rfl ?_ | refine store_node _ _ rA hlZ X8 hl8 ho8 _ _ rfl rfl rfl rfl ?_)
      refine ret_node _ _ (rw_setRow rA) hl8 rfl rfl rfl ?_
      exact ⟨by rw [HO ()]; exact ⟨X8, rfl, hl8, ho8, K2, by have := eK2 (); omega, rw_setRow_ne h hAR.symm⟩, asd_setRow A (.inr hbA)⟩
    | cons b l =>
      obtain ⟨hb0, hr2, hk2, hn2⟩ := drop_cons hr
      rw [← eK2 ()] at hr2
      have HO : Unit → O = .ok (.set fun x => x == b) l := fun _ => by rw [← HO0 ()]; simp [signN]
      clear HO0
      have N2 := Lib.hid fun w' h => next_hit (R := R) hr w' h
      have hbb := b.toNat_lt
      clear hb0 hr
      go_wp2_with fail
      refine (N2.out _ h).mono ?_
      rintro e v18 ⟨rfl, hb⟩
      replace h := h.stay hb
      replace rA := rA.stay hb
      replace rB := rB.stay hb
      replace A := A.below hb
      clear hb N2
      have c1 := h.pos
      have f1 := Rw.frozen h 1
      go_upto_region 28 with fail
      replace h := h.inc (eK2 ())
      replace rA := rA.other hAR 1 (.int .i64 ((K1 : Int) + 1))
      replace rB := rB.other hBR 1 (.int .i64 ((K1 : Int) + 1))
      replace A := A.set1 1 (.int .i64 ((K1 : Int) + 1))
      generalize v18.setCell ⟨R, 1, none⟩ (.int .i64 ((K1 : Int) + 1)) = v19 at *
      clear c1 f1
      rw [← EZ ()] at rB
      have hcb : b.toNat < 256 := b.toNat_lt
      have hfz := rB.frozen (1 + b.toNat)
      have hcz := (rB.cell (1 + b.toNat)).trans (nodeC_bit 0 noSet nilS hcb)
      go_upto_region 29 with fail
      replace h := Rw.other h hBR.symm (1 + b.toNat) (.bool true)
      replace rA := rA.other hBA (1 + b.toNat) (.bool true)
      replace A := A.setCell (p := ⟨bB, 1 + b.toNat, none⟩) (.inr hbB) (.bool true)
      replace rB := rB.setCell (1 + b.toNat) (.bool true)
      rw [nodeC_putBit _ _ _ hcb, bit_one] at rB
      generalize World.setCell _ ⟨bB, 1 + b.toNat, none⟩ (.bool true) = v20 at *
      clear hfz hcz
      have hl8 := nodeC_len 0 (fun x => x == b) nilS
      have ho8 := nodeC_one 0 (fun x => x == b) nil_one
      obtain ⟨X8, e8⟩ : ∃ X, nodeC 0 (fun x => x == b) nilS = X := ⟨_, rfl⟩
      rw [e8] at hl8 ho8 rB
      have E8 : Unit → nodeC 0 (fun x => x == b) nilS = X8 := fun _ => e8
      clear e8
      go_wp2_with (first | refine load_node _ _ rB hl8 _ rfl rfl rfl ?_ | refine store_node _ _ rA hlZ X8 hl8 ho8 _ _ rfl rfl rfl rfl ?_)
      refine ret_node _ _ (rw_setRow rA) hl8 rfl rfl rfl ?_
      exact ⟨by
        rw [HO ()]
        obtain ⟨dd, hdd⟩ := dT_pos d
        refine ⟨X8, rfl, ?_, K2, hr2, by have := eK2 (); omega, rw_setRow_ne h hAR.symm⟩
        rw [hdd, ← E8 ()]
        exact TAt.leaf _ _ dd 0 _, asd_setRow A (.inr hbA)⟩
  have n92 : ((c.toNat : Int) == 92) = false := u8_ne (n := 92) h92 (by decide)
  by_cases h42 : c = 42
  · subst h42
    have HO : Unit → O = .er .form := fun _ => by rw [← HO0 ()]; rfl
    clear HO0
    have F := Lib.hid fun w' h => fail_new (R := R) (K := K1) (s := s) 2 w' h
    go_wp2_with fail
    refine (F.out _ h).mono ?_
    rintro e v21 ⟨rfl, h', A'⟩
    replace h := h'
    replace rA := rA.keep A' hAR
    replace rB := rB.keep A' hBR
    replace A := A.andThen A'
    clear h' A' F
    rw [← EZ ()] at rB
    have hfz := rB.frozen 43
    have hcz := (rB.cell (1 + 42)).trans (nodeC_bit 0 noSet nilS (by omega))
    go_upto_region 36 with fail
    replace h := Rw.other h hBR.symm 43 (.bool true)
    replace rA := rA.other hBA 43 (.bool true)
    replace A := A.setCell (p := ⟨bB, 43, none⟩) (.inr hbB) (.bool true)
    replace rB := rB.setCell (1 + 42) (.bool true)
    rw [nodeC_putBit _ _ _ (by omega)] at rB
    generalize World.setCell _ ⟨bB, 43, none⟩ (.bool true) = v942 at *
    clear hfz hcz
    have hl8 := nodeC_len 0 (fun x => if x = UInt8.ofNat 42 then true else noSet x) nilS
    have ho8 := nodeC_one 0 (fun x => if x = UInt8.ofNat 42 then true else noSet x) nil_one
    obtain ⟨X8, e8⟩ : ∃ X, nodeC 0 (fun x => if x = UInt8.ofNat 42 then true else noSet x) nilS = X := ⟨_, rfl⟩
    rw [e8] at hl8 ho8 rB
    have E8 : Unit → nodeC 0 (fun x => if x = UInt8.ofNat 42 then true else noSet x) nilS = X8 := fun _ => e8
    clear e8
    go_wp2_with (first | refine load_node _ _ rB hl8 _ rfl rfl rfl ?_ | refine store_node _ _ rA hlZ X8 hl8 ho8 _ _ rfl rfl rfl rfl ?_)
    refine ret_node _ _ (rw_setRow rA) hl8 rfl rfl rfl ?_
    exact ⟨by rw [HO ()]; exact ⟨X8, rfl, hl8, ho8, K1, by omega, rw_setRow_ne h hAR.symm⟩, asd_setRow A (.inr hbA)⟩
  have n42 : ((c.toNat : Int) == 42) = false := u8_ne (n := 42) h42 (by decide)
  by_cases h43 : c = 43
  · subst h43
    have HO : Unit → O = .er .form := fun _ => by rw [← HO0 ()]; rfl
    clear HO0
    have F := Lib.hid fun w' h => fail_new (R := R) (K := K1) (s := s) 2 w' h
    go_wp2_with fail
    refine (F.out _ h).mono ?_
    rintro e v22 ⟨rfl, h', A'⟩
    replace h := h'
    replace rA := rA.keep A' hAR
    replace rB := rB.keep A' hBR
    replace A := A.andThen A'
    clear h' A' F
    rw [← EZ ()] at rB
    have hfz := rB.frozen 44
    have hcz := (rB.cell (1 + 43)).trans (nodeC_bit 0 noSet nilS (by omega))
    go_upto_region 36 with fail
    replace h := Rw.other h hBR.symm 44 (.bool true)
    replace rA := rA.other hBA 44 (.bool true)
    replace A := A.setCell (p := ⟨bB, 44, none⟩) (.inr hbB) (.bool true)
    replace rB := rB.setCell (1 + 43) (.bool true)
    rw [nodeC_putBit _ _ _ (by omega)] at rB
    generalize World.setCell _ ⟨bB, 44, none⟩ (.bool true) = v943 at *
    clear hfz hcz
    have hl8 := nodeC_len 0 (fun x => if x = UInt8.ofNat 43 then true else noSet x) nilS
    have ho8 := nodeC_one 0 (fun x => if x = UInt8.ofNat 43 then true else noSet x) nil_one
    obtain ⟨X8, e8⟩ : ∃ X, nodeC 0 (fun x => if x = UInt8.ofNat 43 then true else noSet x) nilS = X := ⟨_, rfl⟩
    rw [e8] at hl8 ho8 rB
    have E8 : Unit → nodeC 0 (fun x => if x = UInt8.ofNat 43 then true else noSet x) nilS = X8 := fun _ => e8
    clear e8
    go_wp2_with (first | refine load_node _ _ rB hl8 _ rfl rfl rfl ?_ | refine store_node _ _ rA hlZ X8 hl8 ho8 _ _ rfl rfl rfl rfl ?_)
    refine ret_node _ _ (rw_setRow rA) hl8 rfl rfl rfl ?_
    exact ⟨by rw [HO ()]; exact ⟨X8, rfl, hl8, ho8, K1, by omega, rw_setRow_ne h hAR.symm⟩, asd_setRow A (.inr hbA)⟩
  have n43 : ((c.toNat : Int) == 43) = false := u8_ne (n := 43) h43 (by decide)
  by_cases h63 : c = 63
  · subst h63
    have HO : Unit → O = .er .form := fun _ => by rw [← HO0 ()]; rfl
    clear HO0
    have F := Lib.hid fun w' h => fail_new (R := R) (K := K1) (s := s) 2 w' h
    go_wp2_with fail
    refine (F.out _ h).mono ?_
    rintro e v23 ⟨rfl, h', A'⟩
    replace h := h'
    replace rA := rA.keep A' hAR
    replace rB := rB.keep A' hBR
    replace A := A.andThen A'
    clear h' A' F
    rw [← EZ ()] at rB
    have hfz := rB.frozen 64
    have hcz := (rB.cell (1 + 63)).trans (nodeC_bit 0 noSet nilS (by omega))
    go_upto_region 36 with fail
    replace h := Rw.other h hBR.symm 64 (.bool true)
    replace rA := rA.other hBA 64 (.bool true)
    replace A := A.setCell (p := ⟨bB, 64, none⟩) (.inr hbB) (.bool true)
    replace rB := rB.setCell (1 + 63) (.bool true)
    rw [nodeC_putBit _ _ _ (by omega)] at rB
    generalize World.setCell _ ⟨bB, 64, none⟩ (.bool true) = v963 at *
    clear hfz hcz
    have hl8 := nodeC_len 0 (fun x => if x = UInt8.ofNat 63 then true else noSet x) nilS
    have ho8 := nodeC_one 0 (fun x => if x = UInt8.ofNat 63 then true else noSet x) nil_one
    obtain ⟨X8, e8⟩ : ∃ X, nodeC 0 (fun x => if x = UInt8.ofNat 63 then true else noSet x) nilS = X := ⟨_, rfl⟩
    rw [e8] at hl8 ho8 rB
    have E8 : Unit → nodeC 0 (fun x => if x = UInt8.ofNat 63 then true else noSet x) nilS = X8 := fun _ => e8
    clear e8
    go_wp2_with (first | refine load_node _ _ rB hl8 _ rfl rfl rfl ?_ | refine store_node _ _ rA hlZ X8 hl8 ho8 _ _ rfl rfl rfl rfl ?_)
    refine ret_node _ _ (rw_setRow rA) hl8 rfl rfl rfl ?_
    exact ⟨by rw [HO ()]; exact ⟨X8, rfl, hl8, ho8, K1, by omega, rw_setRow_ne h hAR.symm⟩, asd_setRow A (.inr hbA)⟩
  have n63 : ((c.toNat : Int) == 63) = false := u8_ne (n := 63) h63 (by decide)
  by_cases h93 : c = 93
  · subst h93
    have HO : Unit → O = .er .form := fun _ => by rw [← HO0 ()]; rfl
    clear HO0
    have F := Lib.hid fun w' h => fail_new (R := R) (K := K1) (s := s) 2 w' h
    go_wp2_with fail
    refine (F.out _ h).mono ?_
    rintro e v24 ⟨rfl, h', A'⟩
    replace h := h'
    replace rA := rA.keep A' hAR
    replace rB := rB.keep A' hBR
    replace A := A.andThen A'
    clear h' A' F
    rw [← EZ ()] at rB
    have hfz := rB.frozen 94
    have hcz := (rB.cell (1 + 93)).trans (nodeC_bit 0 noSet nilS (by omega))
    go_upto_region 36 with fail
    replace h := Rw.other h hBR.symm 94 (.bool true)
    replace rA := rA.other hBA 94 (.bool true)
    replace A := A.setCell (p := ⟨bB, 94, none⟩) (.inr hbB) (.bool true)
    replace rB := rB.setCell (1 + 93) (.bool true)
    rw [nodeC_putBit _ _ _ (by omega)] at rB
    generalize World.setCell _ ⟨bB, 94, none⟩ (.bool true) = v993 at *
    clear hfz hcz
    have hl8 := nodeC_len 0 (fun x => if x = UInt8.ofNat 93 then true else noSet x) nilS
    have ho8 := nodeC_one 0 (fun x => if x = UInt8.ofNat 93 then true else noSet x) nil_one
    obtain ⟨X8, e8⟩ : ∃ X, nodeC 0 (fun x => if x = UInt8.ofNat 93 then true else noSet x) nilS = X := ⟨_, rfl⟩
    rw [e8] at hl8 ho8 rB
    have E8 : Unit → nodeC 0 (fun x => if x = UInt8.ofNat 93 then true else noSet x) nilS = X8 := fun _ => e8
    clear e8
    go_wp2_with (first | refine load_node _ _ rB hl8 _ rfl rfl rfl ?_ | refine store_node _ _ rA hlZ X8 hl8 ho8 _ _ rfl rfl rfl rfl ?_)
    refine ret_node _ _ (rw_setRow rA) hl8 rfl rfl rfl ?_
    exact ⟨by rw [HO ()]; exact ⟨X8, rfl, hl8, ho8, K1, by omega, rw_setRow_ne h hAR.symm⟩, asd_setRow A (.inr hbA)⟩
  have n93 : ((c.toNat : Int) == 93) = false := u8_ne (n := 93) h93 (by decide)
  have HO : Unit → O = .ok (.set fun x => x == c) l := fun _ => by
    rw [← HO0 (), if_neg (by simp [spcB, h42, h43, h63, h124, h40, h41, h91, h93, h92, h46])]
    simp [signN, h92]
  clear HO0
  rw [← EZ ()] at rB
  have hfz := rB.frozen (1 + c.toNat)
  have hcz := (rB.cell (1 + c.toNat)).trans (nodeC_bit 0 noSet nilS hcb)
  go_upto_region 36 with fail
  replace h := Rw.other h hBR.symm (1 + c.toNat) (.bool true)
  replace rA := rA.other hBA (1 + c.toNat) (.bool true)
  replace A := A.setCell (p := ⟨bB, 1 + c.toNat, none⟩) (.inr hbB) (.bool true)
  replace rB := rB.setCell (1 + c.toNat) (.bool true)
  rw [nodeC_putBit _ _ _ hcb, bit_one] at rB
  generalize World.setCell _ ⟨bB, 1 + c.toNat, none⟩ (.bool true) = v25 at *
  clear hfz hcz
  have hl8 := nodeC_len 0 (fun x => x == c) nilS
  have ho8 := nodeC_one 0 (fun x => x == c) nil_one
  obtain ⟨X8, e8⟩ : ∃ X, nodeC 0 (fun x => x == c) nilS = X := ⟨_, rfl⟩
  rw [e8] at hl8 ho8 rB
  have E8 : Unit → nodeC 0 (fun x => x == c) nilS = X8 := fun _ => e8
  clear e8
  go_wp2_with (first | refine load_node _ _ rB hl8 _ rfl rfl rfl ?_ | refine store_node _ _ rA hlZ X8 hl8 ho8 _ _ rfl rfl rfl rfl ?_)
  refine ret_node _ _ (rw_setRow rA) hl8 rfl rfl rfl ?_
  exact ⟨by
    rw [HO ()]
    obtain ⟨dd, hdd⟩ := dT_pos d
    refine ⟨X8, rfl, ?_, K1, hr, hK1s, rw_setRow_ne h hAR.symm⟩
    rw [hdd, ← E8 ()]
    exact TAt.leaf _ _ dd 0 _, asd_setRow A (.inr hbA)⟩
end Go.Proofs.YtknhkmlihbgjpaaDoor.Dn
/- The document's pattern reader: either, and atom, row, either together (written by wip/tools/geneither.py). -/
namespace Go.Proofs.YtknhkmlihbgjpaaDoor.Dn
open Go.ChangeShapes Go.WideShapes Go.RowKit

set_option maxHeartbeats 6400000 in
set_option maxRecDepth 100000 in
theorem either_any (d : Nat) (HR : RowC d) : EitherC d := by
  intro R K s w h hs hK
  obtain ⟨O, hO⟩ : ∃ O, altR d (s.drop K) = O := ⟨_, rfl⟩
  rw [hO]
  have A := Asd.refl (fun k => k = R) w
  have hzc := zero_node
  obtain ⟨Z, eZ⟩ : ∃ Z, nodeC 0 noSet nilS = Z := ⟨_, rfl⟩
  have hlZ := nodeC_len 0 noSet nilS
  rw [eZ] at hzc hlZ
  clear eZ
  obtain ⟨Y, eY⟩ : ∃ Y, nodeC 1 noSet nilS = Y := ⟨_, rfl⟩
  have hlY := nodeC_len 1 noSet nilS
  have hoY := nodeC_one 1 noSet nil_one
  rw [eY] at hlY hoY
  have hR := Rw.lt h
  go_enter Tryd.func105, Tryd.ntmps105
  go_upto_region 1 with fail
  have rA := Rw.new w 145 Z
  have hb0 := (Below.refl w.heap.size w).alloc (Nat.le_refl _) (.cells Z.toArray 145)
  replace h := h.stay hb0
  replace A := A.below hb0
  generalize w.alloc (.cells Z.toArray 145) = w1 at *
  obtain ⟨bA, hbA, hA0⟩ : ∃ bA, w.heap.size ≤ bA ∧ w.heap.size = bA := ⟨_, Nat.le_refl _, rfl⟩
  obtain ⟨B0, hB00, hB01⟩ : ∃ B0, w.heap.size = B0 ∧ B0 = bA := ⟨_, rfl, hA0⟩
  rw [hA0] at rA
  simp only [hA0]
  have hAR : bA ≠ R := by omega
  have rB := Rw.new w1 145 Z
  have hb1 := (Below.refl w1.heap.size w1).alloc (Nat.le_refl _) (.cells Y.toArray 145)
  have hAB := Rw.lt rA
  have hsz := A.size
  have rY := Rw.new w1 145 Y
  clear hb0
  have EB := fun (o : Oper) (a : Act) => exec_b1 (o := o) (a := a) 1 eY
  go_upto_region 2 with (first | refine wpList_exec (EB _ _ _ rfl rfl _) rfl ?_ | refine store_node _ _ rB hlZ Y hlY hoY _ _ rfl rfl rfl rfl ?_)
  rw [World.setRow_alloc_new]
  replace h := h.stay hb1
  replace rA := rA.stay hb1
  replace A := A.below hb1
  generalize w1.alloc (.cells Y.toArray 145) = v0 at *
  obtain ⟨bB, hB0⟩ : ∃ bB, w1.heap.size = bB := ⟨_, rfl⟩
  rw [hB0] at rY hAB hsz
  simp only [hB0]
  have hbB : w.heap.size ≤ bB := hsz
  have hBR : bB ≠ R := by omega
  have hBA : bA ≠ bB := by omega
  have hBA1 : bA < bB := hAB
  rw [← eY] at rY
  have KC := Kc.start rY
  have KT := Kt.start (bA + 1) bB (dT d + 2) v0
  clear hb1 hB0 hAB hsz rB rY eY hlY hoY EB
  simp only [Act.put]
  go_loopw [] (fun wr => ∃ (v : Value) (css : List (List Value)) (K : Nat) (qs : List Sq), Rd wr R s K 0 ∧ Kc bB 1 v css wr ∧ Rw wr bA 145 Z ∧ Asd (fun k => k = R) w wr ∧ K ≤ s.length ∧ css.length ≤ K ∧ Kt (bA + 1) bB (dT d + 2) v css (qs.map treeS) wr ∧ preA qs (altR d (s.drop K)) = O) (fun wr => left wr R s.length)
  case atStart => exact ⟨nilS, [], K, [], h, KC, rA, A, hK, by simp, KT, by rw [hO]; cases O <;> rfl⟩
  case round =>
    clear h KC rA A KT hO hK K
    have hNA : ∀ i, bA + 1 ≤ i → i ≠ bA := fun i hi e => by omega
    obtain ⟨v, css, K, qs, h, KC, rA, A, hK, hck, KT, hO⟩ := hrel
    have hKb : K ≤ 100 := by omega
    have hL := h.left0 (n := s.length)
    have R1 := Lib.hid fun w' h => HR R K s w' h hs hK
    obtain ⟨v1, c1, vn, hv1⟩ : ∃ a c n, v = .slice a n c := by rcases KC.own.2 with ⟨e, _⟩ | ⟨g, cap, cur, e, _⟩ <;> exact ⟨_, _, _, e⟩
    subst hv1
    go_upto_region 2 with fail
    refine z_begin 8 (fun w' => w'.cell? ⟨bB, 257, none⟩ = some (.slice v1 vn c1)) (by kernel_rfl) ?_
    have hD : Below wr.heap.size wr { wr with drawn := wr.drawn + 1 } := (Below.refl _ _).drew
    replace h := h.stay hD
    replace rA := rA.stay hD
    replace KC := KC.stay hD
    replace KT := KT.stay hD
    replace A := A.below hD
    clear hD
    generalize { wr with drawn := wr.drawn + 1 } = D1 at *
    have hS : D1.cell? ⟨bB, 257, none⟩ = some (.slice v1 vn c1) := (KC.row.cell 257).trans (nodeC_kids 1 noSet _)
    refine z_val 0 rfl (by kernel_rfl) (by kernel_rfl) (by kernel_rfl) (by kernel_rfl) (fun _ _ _ _ h => h) (by rfl) hS ?_
    apply Exists.intro
    refine ⟨fun w' hw' => ?_, ?_⟩
    · skip
      go_simp
      first | done | rfl | exact ⟨rfl, rfl⟩
    simp only [Act.put, List.setIfInBounds_toArray, List.set_cons_zero, List.set_cons_succ]
    refine z_val 1 rfl (by kernel_rfl) (by kernel_rfl) (by kernel_rfl) (by kernel_rfl) (fun _ _ _ _ h => h) (by rfl) hS ?_
    apply Exists.intro
    refine ⟨fun w' hw' => ?_, ?_⟩
    · skip
      go_simp
      first | done | rfl | exact ⟨rfl, rfl⟩
    simp only [Act.put, List.setIfInBounds_toArray, List.set_cons_zero, List.set_cons_succ]
    refine z_val 2 rfl (by kernel_rfl) (by kernel_rfl) (by kernel_rfl) (by kernel_rfl) (fun _ _ _ _ h => h) (by rfl) hS ?_
    apply Exists.intro
    refine ⟨fun w' hw' => ?_, ?_⟩
    · skip
      go_simp
      first | done | rfl | exact ⟨rfl, rfl⟩
    simp only [Act.put, List.setIfInBounds_toArray, List.set_cons_zero, List.set_cons_succ]
    refine z_val 3 rfl (by kernel_rfl) (by kernel_rfl) (by kernel_rfl) (by kernel_rfl) (fun _ _ _ _ h => h) (by rfl) hS ?_
    apply Exists.intro
    refine ⟨fun w' hw' => ?_, ?_⟩
    · skip
      go_simp
      first | done | rfl | exact ⟨rfl, rfl⟩
    simp only [Act.put, List.setIfInBounds_toArray, List.set_cons_zero, List.set_cons_succ]
    refine z_call 4 (by kernel_rfl) rfl (by rfl) ?_
    apply Exists.intro
    apply Exists.intro
    refine ⟨?_, ?_⟩
    · go_simp
      first | done | rfl | exact ⟨rfl, rfl⟩
    refine (R1.out _ h).mono ?_
    rintro e v90 ⟨hQ, A'⟩
    obtain ⟨cs, rfl, hcl, hc1, hQ⟩ := out_val hQ
    have hltB := Rw.lt KC.row
    have hltv := fun i e => (KC.own.lt i e).2
    have hszA := A.size
    have hszC := A'.size
    clear h R1 hS
    replace rA := rA.keep A' hAR
    replace KC := KC.keep A' (fun i e => by omega)
    replace KT := KT.keep A' (fun i e => by omega)
    replace A := A.andThen A'
    clear A'
    have hS : v90.cell? ⟨bB, 257, none⟩ = some (.slice v1 vn c1) := (KC.row.cell 257).trans (nodeC_kids 1 noSet _)
    refine ⟨_, rfl, hS, ?_⟩
    simp only [Act.put, List.setIfInBounds_toArray, List.set_cons_zero, List.set_cons_succ]
    have rX := Rw.new v90 145 cs
    have hbx := (Below.refl v90.heap.size v90).alloc (Nat.le_refl _) (.cells cs.toArray 145)
    have KC2 := KC.stay hbx
    have KT2 := KT.stay hbx
    have hbz : bB + 1 ≤ (v90.alloc (.cells cs.toArray 145)).heap.size := by have := hbx.size; have := Rw.lt KC.row; omega
    have hS2 : (v90.alloc (.cells cs.toArray 145)).cell? ⟨bB, 257, none⟩ = some (.slice v1 vn c1) := (KC2.row.cell 257).trans (nodeC_kids 1 noSet _)
    refine z_one 5 (by kernel_rfl) rfl (by rfl) ?_
    refine wp_row_node cs hcl _ rfl rfl ⟨fun _ => hS2, ?_⟩
    simp only [Act.put, List.setIfInBounds_toArray, List.set_cons_zero, List.set_cons_succ]
    refine z_one 6 (by kernel_rfl) rfl (by rfl) ?_
    refine wp_own_node _ _ rfl (bB + 1) (.slice v1 vn c1) css rfl KC2.own v90.heap.size cs rfl hcl rX hc1 (by omega) hbz ?_
    intro u7 w7 hO7 hg7 hv7
    rw [List.length_append, List.length_singleton, List.flatten_append, List.flatten_singleton] at hO7
    obtain ⟨g7, c7, rfl⟩ := own_succ hO7
    have KC7 := KC2.add hg7 hO7 hcl (own_one hO7)
    have r7 := KC2.row.grown hg7 (fun e => by have := (KC2.own.lt _ e).1; omega)
    have f7 := r7.frozen 257
    have d7 : w7.cell? ⟨bB, 257, none⟩ = some (.slice v1 vn c1) := (r7.cell 257).trans (nodeC_kids 1 noSet _)
    have hS := d7
    refine ⟨fun _ => d7, ?_⟩
    simp only [Act.put, List.setIfInBounds_toArray, List.set_cons_zero, List.set_cons_succ]
    refine z_now 7 (by kernel_rfl) rfl (by rfl) d7 ?_
    apply Exists.intro
    refine ⟨?_, ?_⟩
    · go_simp
      first | done | rfl | exact ⟨rfl, rfl⟩
    simp only [Act.put, List.setIfInBounds_toArray, List.set_cons_zero, List.set_cons_succ]
    refine z_store 8 (by kernel_rfl) rfl (by rfl) ⟨w7.setCell ⟨bB, 257, none⟩ (.slice (some ⟨g7, 0, none⟩) (css.length + 1) c7), ?_, fun e => absurd rfl e, ?_⟩
    · go_simp
      first | done | rfl | exact ⟨rfl, rfl⟩
    simp only [Act.put]
    refine z_done (by kernel_rfl) ?_ _
    have hvA : (Value.slice (some ⟨g7, 0, none⟩) (css.length + 1) c7).ownBlock = (Value.slice v1 vn c1).ownBlock ∨ (Value.slice (some ⟨g7, 0, none⟩) (css.length + 1) c7).ownBlock = some (v90.alloc (.cells cs.toArray 145)).heap.size := hv7.imp id (fun e => by rw [e])
    replace rA := (Rw.grown (rA.stay hbx) hg7 (fun e => by have := (KC2.own.lt _ e).1; omega)).other hBA 257 (.slice (some ⟨g7, 0, none⟩) (css.length + 1) c7)
    have A7 := (A.below hbx).grown hg7 (fun k e => .inr (by have := (KC2.own.lt _ e).1; omega))
    replace A := A7.setCell (p := ⟨bB, 257, none⟩) (.inr hbB) (.slice (some ⟨g7, 0, none⟩) (css.length + 1) c7)
    have hRgo : ∀ K E, Rd v90 R s K E → Rd (w7.setCell ⟨bB, 257, none⟩ (.slice (some ⟨g7, 0, none⟩) (css.length + 1) c7)) R s K E := fun K E h => by
      have h7 : Rd w7 R s K E := Rw.grown (h.stay hbx) hg7 (fun e => by have := (KC2.own.lt _ e).1; omega)
      exact Rw.other h7 hBR.symm 257 _
    have hTgo : ∀ t, TAt (fun j => D1.heap.size ≤ j) v90 (dT d + 2) cs t → Kt (bA + 1) bB (dT d + 2) (.slice (some ⟨g7, 0, none⟩) (css.length + 1) c7) (css ++ [cs]) (qs.map treeS ++ [t]) (w7.setCell ⟨bB, 257, none⟩ (.slice (some ⟨g7, 0, none⟩) (css.length + 1) c7)) := fun t a =>
      KT2.add ((a.mono (P' := fun j => bA + 1 ≤ j ∧ j ≠ bB ∧ (Value.slice v1 vn c1).ownBlock ≠ some j) (fun j hj _ => ⟨by omega, by omega, fun e => by have := hltv j e; omega⟩)).stay hbx) hg7 hvA
    clear f7 d7 r7 A7 hvA hS hS2 KC2 KT2 rX hbx KC KT hg7 hO7 hv7
    generalize w7.setCell ⟨bB, 257, none⟩ (.slice (some ⟨g7, 0, none⟩) (css.length + 1) c7) = W8 at *
    have KC := KC7
    clear KC7
    generalize (Value.slice (some ⟨g7, 0, none⟩) (css.length + 1) c7) = v7 at *
    have hl7 : (css ++ [cs]).length = css.length + 1 := by simp
    generalize css ++ [cs] = css7 at *
    cases hO2 : seqR d (s.drop K) with
    | er x =>
      rw [hO2] at hQ
      obtain ⟨K5, hK5, h⟩ := hQ
      replace h := hRgo _ _ h
      have HO : Unit → O = .er x := fun _ => by rw [← hO, alt_eq, hO2]; rfl
      have hE := errN_ne x
      obtain ⟨E, hEE⟩ : ∃ E, errN x = E := ⟨_, rfl⟩
      rw [hEE] at hE h
      have HEE : Unit → errN x = E := fun _ => hEE
      clear hO hO2 hEE hTgo hRgo
      have N2 := Lib.hid fun w' h => next_err (R := R) (K := K5) (s := s) hE w' h
      go_wp2_with fail
      refine (N2.out _ h).mono ?_
      rintro e v1 ⟨rfl, hb⟩
      replace h := h.stay hb
      replace rA := rA.stay hb
      replace KC := KC.stay hb
      replace A := A.below hb
      clear hb N2
      rw [← HEE ()] at h
      have hl8 := nodeC_len 1 noSet v7
      have ho8 := nodeC_one 1 noSet (own_one KC.own)
      obtain ⟨X8, e8⟩ : ∃ X, nodeC 1 noSet v7 = X := ⟨_, rfl⟩
      have rB := KC.row
      rw [e8] at hl8 ho8 rB
      have E8 : Unit → nodeC 1 noSet v7 = X8 := fun _ => e8
      clear e8
      go_wp2_with (first | refine load_node _ _ rB hl8 _ rfl rfl rfl ?_ | refine store_node _ _ rA hlZ X8 hl8 ho8 _ _ rfl rfl rfl rfl ?_)
      refine ret_node _ _ (rw_setRow rA) hl8 rfl rfl rfl ?_
      exact ⟨by rw [HO ()]; exact ⟨X8, rfl, hl8, ho8, K5, hK5, rw_setRow_ne h hAR.symm⟩, asd_setRow A (.inr hbA)⟩
    | ok q r =>
      rw [hO2] at hQ
      obtain ⟨hT, K5, hr5, hK5, h⟩ := hQ
      replace h := hRgo _ _ h
      have KT := hTgo _ hT
      have hK5l := congrArg List.length hr5
      rw [List.length_drop] at hK5l
      have hq := (reads_good _).2.1 _ _ _ _ hO2
      rw [List.length_drop] at hq
      have hKK : K ≤ K5 := by omega
      rw [alt_eq, hO2] at hO
      rw [show qs.map treeS ++ [treeS q] = (qs ++ [q]).map treeS by rw [List.map_append]; rfl] at KT
      clear hO2 hTgo hRgo hT hq
      cases r with
      | nil =>
        have HO : Unit → O = .ok (preL qs (.one q)) [] := fun _ => hO.symm
        have N2 := Lib.hid fun w' h => next_end (R := R) hr5 w' h
        clear hO
        go_wp2_with fail
        refine (N2.out _ h).mono ?_
        rintro e v2 ⟨rfl, hb⟩
        replace h := h.stay hb
        replace rA := rA.stay hb
        replace KC := KC.stay hb
        replace KT := KT.stay hb
        replace A := A.below hb
        clear hb N2
        have hl8 := nodeC_len 1 noSet v7
        have ho8 := nodeC_one 1 noSet (own_one KC.own)
        obtain ⟨X8, e8⟩ : ∃ X, nodeC 1 noSet v7 = X := ⟨_, rfl⟩
        have rB := KC.row
        rw [e8] at hl8 ho8 rB
        have E8 : Unit → nodeC 1 noSet v7 = X8 := fun _ => e8
        clear e8
        go_wp2_with (first | refine load_node _ _ rB hl8 _ rfl rfl rfl ?_ | refine store_node _ _ rA hlZ X8 hl8 ho8 _ _ rfl rfl rfl rfl ?_)
        refine ret_node _ _ (rw_setRow rA) hl8 rfl rfl rfl ?_
        exact ⟨by
          rw [HO ()]
          refine ⟨X8, rfl, ?_, K5, hr5, hK5, rw_setRow_ne h hAR.symm⟩
          rw [tree_preL, ← E8 ()]
          have q := KT.whole (by omega) KC
          exact (q.keep (asd_setRow (Asd.refl (fun j => j = bA) _) (.inl rfl)) (fun i hp _ e => hNA i hp e)).mono (fun j hj _ => by omega), asd_setRow A (.inr hbA)⟩
      | cons c r =>
        obtain ⟨hy0, hr6, hk6, hn6⟩ := drop_cons hr5
        have N2 := Lib.hid fun w' h => next_hit (R := R) hr5 w' h
        clear hy0
        simp only at hO
        by_cases h124 : c = 124
        · subst h124
          rw [if_pos rfl] at hO
          obtain ⟨K6, hKb6, eK6⟩ : ∃ K6, K6 ≤ 101 ∧ (Unit → K6 = K5 + 1) := ⟨_, by omega, fun _ => rfl⟩
          have hKb5 : K5 ≤ 100 := by omega
          rw [← eK6 ()] at hr6
          have HO : Unit → preA (qs ++ [q]) (altR d (s.drop K6)) = O := fun _ => by rw [hr6, ← hO]; exact (preA_step qs q _).symm
          have hK56 : K5 + 1 ≤ K6 ∧ K6 ≤ s.length := by have := eK6 (); omega
          clear hO hr5
          go_wp2_with fail
          refine (N2.out _ h).mono ?_
          rintro e v3 ⟨rfl, hb⟩
          replace h := h.stay hb
          replace rA := rA.stay hb
          replace KC := KC.stay hb
          replace KT := KT.stay hb
          replace A := A.below hb
          clear hb N2
          have c1 := h.pos
          have f1 := Rw.frozen h 1
          go_wp2_with fail
          go_roundw
          case rel => exact ⟨v7, css7, K6, qs ++ [q], h.inc (eK6 ()), KC.keep ((Asd.refl (fun k => k = R) v3).set1 1 (.int .i64 ((K5 : Int) + 1))) (fun i e => by omega), rA.other hAR 1 (.int .i64 ((K5 : Int) + 1)), A.set1 1 (.int .i64 ((K5 : Int) + 1)), by omega, by omega, KT.keep ((Asd.refl (fun k => k = R) v3).set1 1 (.int .i64 ((K5 : Int) + 1))) (fun i e => by omega), HO ()⟩
          case measure =>
            rw [hL, (h.inc (eK6 ())).left0]
            omega
        · rw [if_neg h124] at hO
          have n124 : ((c.toNat : Int) == 124) = false := u8_ne (n := 124) h124 (by decide)
          have m124 : ((c.toNat : Int) != 124) = true := by simp only [bne, n124, Bool.not_false]
          have HO : Unit → O = .ok (preL qs (.one q)) (c :: r) := fun _ => hO.symm
          clear hO
          go_wp2_with fail
          refine (N2.out _ h).mono ?_
          rintro e v5 ⟨rfl, hb⟩
          replace h := h.stay hb
          replace rA := rA.stay hb
          replace KC := KC.stay hb
          replace KT := KT.stay hb
          replace A := A.below hb
          clear hb N2
          have hl8 := nodeC_len 1 noSet v7
          have ho8 := nodeC_one 1 noSet (own_one KC.own)
          obtain ⟨X8, e8⟩ : ∃ X, nodeC 1 noSet v7 = X := ⟨_, rfl⟩
          have rB := KC.row
          rw [e8] at hl8 ho8 rB
          have E8 : Unit → nodeC 1 noSet v7 = X8 := fun _ => e8
          clear e8
          go_wp2_with (first | refine load_node _ _ rB hl8 _ rfl rfl rfl ?_ | refine store_node _ _ rA hlZ X8 hl8 ho8 _ _ rfl rfl rfl rfl ?_)
          refine ret_node _ _ (rw_setRow rA) hl8 rfl rfl rfl ?_
          exact ⟨by
            rw [HO ()]
            refine ⟨X8, rfl, ?_, K5, hr5, hK5, rw_setRow_ne h hAR.symm⟩
            rw [tree_preL, ← E8 ()]
            have q := KT.whole (by omega) KC
            exact (q.keep (asd_setRow (Asd.refl (fun j => j = bA) _) (.inl rfl)) (fun i hp _ e => hNA i hp e)).mono (fun j hj _ => by omega), asd_setRow A (.inr hbA)⟩
/-- All of them, however deep. -/
theorem deep_any (j : Nat) : j ≤ 8 → EitherC (8 - j) := by
  induction j with
  | zero => exact fun _ => either_any 8 (row_any 8 (atom_any 8 (Nat.le_refl 8) (fun h => absurd h (by decide))))
  | succ j ih => exact fun hj => either_any _ (row_any _ (atom_any _ (by omega) (fun _ => by
      have := ih (by omega)
      rwa [show 8 - j = 8 - (j + 1) + 1 by omega] at this)))
end Go.Proofs.YtknhkmlihbgjpaaDoor.Dn
/- The document's Read of a pattern (written by wip/tools/genqread.py). -/
namespace Go.Proofs.YtknhkmlihbgjpaaDoor.Dn
open Go.ChangeShapes Go.WideShapes Go.RowKit

/-- The pattern of a text, and what stands in the way of one. -/
def readR (s : Bx) : Option Al := if 100 < s.length then none else match altR 0 s with
  | .ok a [] => some a
  | _ => none
def readE (s : Bx) : Int := if 100 < s.length then 4 else match altR 0 s with
  | .er x => errN x
  | .ok _ [] => 0
  | .ok _ (_ :: _) => 2
theorem readE_ok (s : Bx) : readE s = 0 ↔ (readR s).isSome = true := by
  unfold readE readR
  split
  · simp
  · cases altR 0 s with
    | er x => simp [errN_ne x]
    | ok a r => cases r <;> simp
theorem asd_below {w w' : World} (h : Asd (fun _ => False) w w') : Below w.heap.size w w' := ⟨h.os, h.tape, h.output, h.size, fun k hk => h.block k hk (fun e => e)⟩
theorem results_row_tmp {P : Program} {fn : Func} {p q : Tmp} {ty : TypeId} (h : fn.results = #[.cell p ty, .tmp q]) (tmps : Array Value) (w : World) (g : Nat) (t : TypeId) (cs : Array Value) (fr : Nat × Nat) (d : TypeDesc) (u : Value)
    (hp : tmps.getD p undef = .pointer (some ⟨g, 0, none⟩)) (hg : w.heap[g]? = some (.cells cs t fr)) (hu : P.underlying ty = some d) (hd : (match d with | .struct _ | .array _ _ => true | _ => false) = true) (hi : (P.info? ty).map (·.size) = some cs.size)
    (hq : tmps.getD q undef = u) : (results fn tmps).run P w = .ok (.tuple #[.agg cs, u]) w := by
  have hp' : tmps[p]?.getD undef = .pointer (some ⟨g, 0, none⟩) := by simpa using hp
  have hq' : tmps[q]?.getD undef = u := by simpa using hq
  simp [results, h, hp', hq', asAddr, run_loadVar_row w g t ty cs fr d hg hu hd hi]
theorem ret_node2 {a : Act} {w : World} {fn : Func} {p q : Tmp} {R : Ending → World → Prop} (g : Nat) (cs : List Value) (u : Value) (hr : Rw w g 145 cs) (hn : cs.length = 258)
    (hf : fn.results = #[.cell p 145, .tmp q]) (hd : a.defers = []) (hp : a.tmps.getD p undef = .pointer (some ⟨g, 0, none⟩)) (hq : a.tmps.getD q undef = u) (h : R (.returned (.tuple #[.agg cs.toArray, u])) w) : bodyPost Tryd.prog fn R .ret a w :=
  bodyPost_ret (v := .tuple #[.agg cs.toArray, u]) (results_row_tmp hf a.tmps w g 145 cs.toArray (0, 0) _ u hp hr Tryd.underlying145 rfl (by rw [size_node]; simp [hn]) hq) hd h
theorem wp_store_node {o : Oper} {a : Act} {w : World} {K : Act → World → Prop} {Q : Exit → Act → World → Prop} (g : Nat) (old : List Value) (hr : Rw w g 145 old) (ho' : old.length = 258) (cs : List Value) (hn : cs.length = 258) (h1 : ∀ v ∈ cs, v.oneCell' = true) (x y : Operand) (ho : o.op = .store 145 x y)
    (hx : a.eval x = .pointer (some ⟨g, 0, none⟩)) (hy : a.eval y = .agg cs.toArray) (h : K (a.put o.dst undef) (w.setRow g cs.toArray)) : o.wp Tryd.prog a w K Q :=
  wp_store_row 145 x y ho g cs.toArray hx hy 145 old.toArray hr (by rw [size_node]; simp [hn]) (by simp [hn, ho']) (by rw [Array.all_eq_true_iff_forall_mem]; intro v hv; exact h1 v (by simpa using hv)) h
/-- What Read hands back. -/
def ReadQ (s : Bs) (B : Nat) (e : Ending) (w' : World) : Prop :=
  ∃ cs : List Value, e = .returned (.tuple #[.agg cs.toArray, .int .i64 (readE s)]) ∧ cs.length = 258 ∧ (∀ u ∈ cs, u.oneCell' = true) ∧ ∀ a, readR s = some a → TAt (fun j => B ≤ j) w' (dT 0 + 3) cs (treeA a)
set_option maxHeartbeats 6400000 in
set_option maxRecDepth 100000 in
theorem dread_any (s : Bs) (hsl : s.length ≤ 9223372036854775807) (w : World) : Calls Tryd.prog 95 #[.string ⟨s.toArray⟩] w fun e w' => ReadQ s w.heap.size e w' ∧ Below w.heap.size w w' := by
  have hzc := zero_node
  obtain ⟨Z, eZ⟩ : ∃ Z, nodeC 0 noSet nilS = Z := ⟨_, rfl⟩
  have hlZ := nodeC_len 0 noSet nilS
  have hoZ := nodeC_one 0 noSet nil_one
  rw [eZ] at hzc hlZ hoZ
  clear eZ
  have hss : (⟨s.toArray⟩ : ByteArray).size = s.length := by simp [ByteArray.size]
  have rA := Rw.new w 145 Z
  have hb0 := (Below.refl w.heap.size w).alloc (Nat.le_refl _) (.cells Z.toArray 145)
  by_cases hs : 100 < s.length
  · have hRE : Unit → readE s = 4 ∧ readR s = none := fun _ => by unfold readE readR; rw [if_pos hs, if_pos hs]; exact ⟨rfl, rfl⟩
    have hsi : (100 : Int) < (s.length : Int) := by omega
    generalize (⟨s.toArray⟩ : ByteArray) = X at *
    go_enter Tryd.func95, Tryd.ntmps95
    go_upto_region 1 with fail
    go_wp2_with (first | refine wpList_exec (exec_build0 Z hzc rfl _) rfl ?_ | refine store_node _ _ rA hlZ Z hlZ hoZ _ _ rfl rfl rfl rfl ?_)
    refine ret_node2 _ _ (.int .i64 4) (rw_setRow rA) hlZ rfl rfl rfl rfl ?_
    exact ⟨⟨Z, by rw [(hRE ()).1], hlZ, hoZ, fun a h => by rw [(hRE ()).2] at h; cases h⟩, asd_below (asd_setRow (Asd.of_below hb0) (.inr (Nat.le_refl _)))⟩
  · have hs100 : s.length ≤ 100 := by omega
    have hsi : ¬ (100 : Int) < (s.length : Int) := by omega
    have hRE : Unit → readE s = _ := fun _ => by unfold readE; rw [if_neg hs]
    have hRR : Unit → readR s = _ := fun _ => by unfold readR; rw [if_neg hs]
    have E1 := Lib.hid fun R w' (h : Rd w' R s 0 0) => (deep_any 8 (Nat.le_refl 8)) R 0 s w' h hs100 (Nat.zero_le _)
    have HR0 : Unit → s.drop 0 = s := fun _ => rfl
    go_enter Tryd.func95, Tryd.ntmps95
    go_upto_region 1 with fail
    have A := Asd.of_below (S := fun _ => False) hb0
    generalize w.alloc (.cells Z.toArray 145) = w1 at *
    obtain ⟨bA, hbA, hA0⟩ : ∃ bA, w.heap.size ≤ bA ∧ w.heap.size = bA := ⟨_, Nat.le_refl _, rfl⟩
    rw [hA0] at rA
    simp only [hA0]
    clear hb0
    have h := Rw.new w1 163 [sv s, .int .i64 0, .int .i64 0]
    have hb1 := (Below.refl w1.heap.size w1).alloc (Nat.le_refl _) (.cells [sv s, .int .i64 0, .int .i64 0].toArray 163)
    have hAB := Rw.lt rA
    have hsz := A.size
    go_upto_region 4 with fail
    replace rA := rA.stay hb1
    replace A := A.below hb1
    have e2 : w1.alloc (.cells [sv s, .int .i64 0, .int .i64 0].toArray 163) = w1.alloc (.cells #[sv s, .int .i64 0, .int .i64 0] 163) := rfl
    rw [e2] at h hb1 rA A
    change Rd _ _ s 0 0 at h
    unfold sv at h hb1 rA A
    generalize World.alloc w1 _ = w2 at *
    obtain ⟨bR, hR0⟩ : ∃ bR, w1.heap.size = bR := ⟨_, rfl⟩
    rw [hR0] at h hAB hsz
    simp only [hR0]
    have hbR : w.heap.size ≤ bR := hsz
    have hAR : bA ≠ bR := by omega
    clear hb1 e2 hR0 hsz hAB
    have E2 := Lib.hid (E1.out bR)
    clear E1
    go_wp2_with fail
    refine (E2.out _ h).mono ?_
    rintro e v90 ⟨hQ, A'⟩
    obtain ⟨cs, rfl, hcl, hc1, hQ⟩ := out_val hQ
    change OutQ treeA (dT 0 + 3) bR s 0 (altR 0 s) w2.heap.size cs v90 at hQ
    have hsz2 := A.size
    have hlA := Rw.lt rA
    have hlR := Rw.lt h
    clear h E2
    replace rA := rA.keep A' hAR
    replace A := A.trans A' (fun i e hl => by omega)
    have hszB := A'.size
    clear A'
    have rC0 := Rw.new v90 145 Z
    cases hO2 : altR 0 s with
    | er x =>
      rw [hO2] at hQ hRE hRR
      obtain ⟨K5, hK5, h⟩ := hQ
      simp only at hRE hRR
      have hE := errN_ne x
      obtain ⟨E, hEE⟩ : ∃ E, errN x = E := ⟨_, rfl⟩
      rw [hEE] at hE h
      rw [hEE] at hRE
      have he2 : (E == 0) = false := by rw [beq_eq_false_iff_ne]; exact hE
      have he3 : (E != 0) = true := by simp [bne, he2]
      clear hEE hO2
      have hb2 := (Below.refl v90.heap.size v90).alloc (Nat.le_refl _) (.cells cs.toArray 145)
      go_upto_region 5 with (refine store_node _ _ rC0 hlZ cs hcl hc1 _ _ rfl rfl rfl rfl ?_)
      rw [World.setRow_alloc_new]
      simp only [Act.put]
      have rC := Rw.new v90 145 cs
      replace h := h.stay hb2
      replace rA := rA.stay hb2
      replace A := A.below hb2
      generalize v90.alloc (.cells cs.toArray 145) = v91 at *
      obtain ⟨bC, hbC⟩ : ∃ bC, v90.heap.size = bC := ⟨_, rfl⟩
      rw [hbC] at rC
      simp only [hbC]
      have hCA : bC ≠ bA := by omega
      clear hb2 rC0
      have c0 := h.text
      have c1 := h.pos
      have c2 := h.err
      generalize (⟨s.toArray⟩ : ByteArray) = X at *
      try simp only [List.append_eq, List.cons_append, List.nil_append]
      refine region_class (fun w' => Below v91.heap.size v91 w' ∧ w'.cell? ⟨bR, 0, none⟩ = some (.string X) ∧ w'.cell? ⟨bR, 1, none⟩ = some (.int .i64 (K5 : Int)) ∧ w'.cell? ⟨bR, 2, none⟩ = some (.int .i64 E)) (by kernel_rfl) (by kernel_rfl) (⟨(Below.refl _ _).drew, c0, c1, c2⟩) ?_
      repeat
        first
        | go_big_quiet_skip
        | (go_big_quiet_want
           refine quiet_val ?_
           apply Exists.intro
           refine ⟨fun w' hw' => ?_, ?_⟩
           · obtain ⟨_, e0, e1, e2⟩ := hw'
             go_simp
             first | done | rfl | exact ⟨rfl, rfl⟩
           simp only [Act.put, List.setIfInBounds_toArray, List.set_cons_zero, List.set_cons_succ]
           go_big_quiet_on)
        | (go_big_quiet_want
           refine quiet_call ?_
           apply Exists.intro
           apply Exists.intro
           refine ⟨fun w' => ?_, ?_⟩
           · go_simp
             first | done | rfl | exact ⟨rfl, rfl⟩
           apply Exists.intro
           refine ⟨fun w' hw' => ?_, ?_⟩
           · first
             | fail
           simp only [Act.put, List.setIfInBounds_toArray, List.set_cons_zero, List.set_cons_succ]
           go_big_quiet_on)
      refine wpQuiet_nil ?_
      intro w5 hw5
      have hb5 := hw5.1
      clear hw5 c0 c1 c2
      replace h := h.stay hb5
      replace rA := rA.stay hb5
      replace rC := rC.stay hb5
      replace A := A.below hb5
      clear hb5
      have c2 := h.err
      go_upto_region 8 with fail
      refine wp_region_held (S := fun w' => w'.cell? ⟨bR, 2, none⟩ = some (.int .i64 E)) (by kernel_rfl) ?_
      have hD : Below w5.heap.size w5 { w5 with drawn := w5.drawn + 1 } := (Below.refl _ _).drew
      replace h := h.stay hD
      replace rA := rA.stay hD
      replace A := A.below hD
      clear hD c2
      generalize { w5 with drawn := w5.drawn + 1 } = D1 at *
      have hS := h.err
      refine held_val 0 rfl (by kernel_rfl) (by kernel_rfl) (by kernel_rfl) (fun _ _ _ _ h => h) (by rfl) hS ⟨_, fun w' hw' => exec_build0 Z hzc rfl w', ?_⟩
      simp only [Act.put, List.setIfInBounds_toArray, List.set_cons_zero, List.set_cons_succ]
      refine held_val 1 rfl (by kernel_rfl) (by kernel_rfl) (by kernel_rfl) (fun _ _ _ _ h => h) (by rfl) hS ?_
      apply Exists.intro
      refine ⟨fun w' hw' => ?_, ?_⟩
      · skip
        go_simp
        first | done | rfl | exact ⟨rfl, rfl⟩
      simp only [Act.put, List.setIfInBounds_toArray, List.set_cons_zero, List.set_cons_succ]
      refine held_val 2 rfl (by kernel_rfl) (by kernel_rfl) (by kernel_rfl) (fun _ _ _ _ h => h) (by rfl) hS ?_
      apply Exists.intro
      refine ⟨fun w' hw' => ?_, ?_⟩
      · skip
        go_simp
        first | done | rfl | exact ⟨rfl, rfl⟩
      simp only [Act.put, List.setIfInBounds_toArray, List.set_cons_zero, List.set_cons_succ]
      refine held_val 3 rfl (by kernel_rfl) (by kernel_rfl) (by kernel_rfl) (fun _ _ _ _ h => h) (by rfl) hS ?_
      apply Exists.intro
      refine ⟨fun w' hw' => ?_, ?_⟩
      · skip
        go_simp
        first | done | rfl | exact ⟨rfl, rfl⟩
      simp only [Act.put, List.setIfInBounds_toArray, List.set_cons_zero, List.set_cons_succ]
      refine held_val 4 rfl (by kernel_rfl) (by kernel_rfl) (by kernel_rfl) (fun _ _ _ _ h => h) (by rfl) hS ?_
      apply Exists.intro
      refine ⟨fun w' hw' => ?_, ?_⟩
      · have e1 : w'.cell? ⟨bR, 2, none⟩ = some (.int .i64 E) := hw'
        go_simp
        first | done | rfl | exact ⟨rfl, rfl⟩
      simp only [Act.put, List.setIfInBounds_toArray, List.set_cons_zero, List.set_cons_succ]
      replace h := rw_setRow_ne h (ds := Z.toArray) (k := bA) hAR.symm
      change Rd _ bR s _ E at h
      replace hS := h.err
      refine held_one 5 (by kernel_rfl) rfl (by rfl) ?_
      refine wp_store_node bA Z rA hlZ Z hlZ hoZ _ _ rfl rfl rfl ⟨hS, ?_⟩
      simp only [Act.put]
      refine held_now 6 (by kernel_rfl) rfl (by rfl) hS ?_
      apply Exists.intro
      refine ⟨?_, ?_⟩
      · skip
        go_simp
        first | done | rfl | exact ⟨rfl, rfl⟩
      simp only [Act.put, List.setIfInBounds_toArray, List.set_cons_zero, List.set_cons_succ]
      refine wpAnyH_done (by kernel_rfl) ?_ _
      go_wp2_with fail
      refine ret_node2 _ _ (.int .i64 E) (rw_setRow rA) hlZ rfl rfl rfl rfl ?_
      exact ⟨⟨Z, by rw [hRE ()], hlZ, hoZ, fun a h => by rw [hRR ()] at h; cases h⟩, asd_below (asd_setRow A (.inr hbA))⟩
    | ok a r =>
      rw [hO2] at hQ hRE hRR
      obtain ⟨hT, K5, hr5, hK5, h⟩ := hQ
      have hlr := congrArg List.length hr5
      rw [List.length_drop] at hlr
      cases r with
      | nil =>
        simp only at hRE hRR
        have hge : ¬ ((K5 : Int) < (s.length : Int)) := by simp only [List.length_nil] at hlr; omega
        have hgd : (decide ((K5 : Int) < (s.length : Int))) = false := by simp only [decide_eq_false_iff_not]; exact hge
        replace hT := hT.mono (P' := fun j => w.heap.size ≤ j ∧ j ≠ bA) (fun j hj _ => ⟨by omega, by omega⟩)
        clear hO2 hr5 hlr
        have hb2 := (Below.refl v90.heap.size v90).alloc (Nat.le_refl _) (.cells cs.toArray 145)
        go_upto_region 5 with (refine store_node _ _ rC0 hlZ cs hcl hc1 _ _ rfl rfl rfl rfl ?_)
        rw [World.setRow_alloc_new]
        simp only [Act.put]
        have rC := Rw.new v90 145 cs
        replace h := h.stay hb2
        replace rA := rA.stay hb2
        replace hT := hT.stay hb2
        replace A := A.below hb2
        generalize v90.alloc (.cells cs.toArray 145) = v91 at *
        obtain ⟨bC, hbC⟩ : ∃ bC, v90.heap.size = bC := ⟨_, rfl⟩
        rw [hbC] at rC
        simp only [hbC]
        have hCA : bC ≠ bA := by omega
        clear hb2 rC0
        have c0 := h.text
        have c1 := h.pos
        have c2 := h.err
        generalize (⟨s.toArray⟩ : ByteArray) = X at *
        try simp only [List.append_eq, List.cons_append, List.nil_append]
        refine region_class (fun w' => Below v91.heap.size v91 w' ∧ w'.cell? ⟨bR, 0, none⟩ = some (.string X) ∧ w'.cell? ⟨bR, 1, none⟩ = some (.int .i64 (K5 : Int)) ∧ w'.cell? ⟨bR, 2, none⟩ = some (.int .i64 0)) (by kernel_rfl) (by kernel_rfl) (⟨(Below.refl _ _).drew, c0, c1, c2⟩) ?_
        repeat
          first
          | go_big_quiet_skip
          | (go_big_quiet_want
             refine quiet_val ?_
             apply Exists.intro
             refine ⟨fun w' hw' => ?_, ?_⟩
             · obtain ⟨_, e0, e1, e2⟩ := hw'
               go_simp
               first | done | rfl | exact ⟨rfl, rfl⟩
             simp only [Act.put, List.setIfInBounds_toArray, List.set_cons_zero, List.set_cons_succ]
             go_big_quiet_on)
          | (go_big_quiet_want
             refine quiet_call ?_
             apply Exists.intro
             apply Exists.intro
             refine ⟨fun w' => ?_, ?_⟩
             · go_simp
               first | done | rfl | exact ⟨rfl, rfl⟩
             apply Exists.intro
             refine ⟨fun w' hw' => ?_, ?_⟩
             · first
               | fail
             simp only [Act.put, List.setIfInBounds_toArray, List.set_cons_zero, List.set_cons_succ]
             go_big_quiet_on)
        refine wpQuiet_nil ?_
        intro w5 hw5
        have hb5 := hw5.1
        clear hw5 c0 c1 c2
        replace h := h.stay hb5
        replace rA := rA.stay hb5
        replace rC := rC.stay hb5
        replace hT := hT.stay hb5
        replace A := A.below hb5
        clear hb5
        have c2 := h.err
        go_wp2_with (first | refine load_node _ _ rC hcl _ rfl rfl rfl ?_ | refine store_node _ _ rA hlZ cs hcl hc1 _ _ rfl rfl rfl rfl ?_)
        refine ret_node2 _ _ (.int .i64 0) (rw_setRow rA) hcl rfl rfl rfl rfl ?_
        exact ⟨⟨cs, by rw [hRE ()], hcl, hc1, fun b hb => by
          rw [hRR ()] at hb
          injection hb with hb
          subst hb
          exact (hT.keep (asd_setRow (ds := cs.toArray) (Asd.refl (fun k => k = bA) _) (.inl rfl)) (fun i hp _ e => hp.2 e)).mono (fun j hj _ => hj.1)⟩, asd_below (asd_setRow A (.inr hbA))⟩
      | cons c r =>
        simp only at hRE hRR
        have hge : ((K5 : Int) < (s.length : Int)) := by simp only [List.length_cons] at hlr; omega
        have hgd : (decide ((K5 : Int) < (s.length : Int))) = true := by simp only [decide_eq_true_eq]; exact hge
        have F := Lib.hid fun w' h => fail_new (R := bR) (K := K5) (s := s) 2 w' h
        clear hO2 hr5 hlr hT
        have hb2 := (Below.refl v90.heap.size v90).alloc (Nat.le_refl _) (.cells cs.toArray 145)
        go_upto_region 5 with (refine store_node _ _ rC0 hlZ cs hcl hc1 _ _ rfl rfl rfl rfl ?_)
        rw [World.setRow_alloc_new]
        simp only [Act.put]
        have rC := Rw.new v90 145 cs
        replace h := h.stay hb2
        replace rA := rA.stay hb2
        replace A := A.below hb2
        generalize v90.alloc (.cells cs.toArray 145) = v91 at *
        obtain ⟨bC, hbC⟩ : ∃ bC, v90.heap.size = bC := ⟨_, rfl⟩
        rw [hbC] at rC
        simp only [hbC]
        have hCA : bC ≠ bA := by omega
        clear hb2 rC0
        have c0 := h.text
        have c1 := h.pos
        have c2 := h.err
        generalize (⟨s.toArray⟩ : ByteArray) = X at *
        try simp only [List.append_eq, List.cons_append, List.nil_append]
        refine region_class (fun w' => Below v91.heap.size v91 w' ∧ w'.cell? ⟨bR, 0, none⟩ = some (.string X) ∧ w'.cell? ⟨bR, 1, none⟩ = some (.int .i64 (K5 : Int)) ∧ w'.cell? ⟨bR, 2, none⟩ = some (.int .i64 0)) (by kernel_rfl) (by kernel_rfl) (⟨(Below.refl _ _).drew, c0, c1, c2⟩) ?_
        repeat
          first
          | go_big_quiet_skip
          | (go_big_quiet_want
             refine quiet_val ?_
             apply Exists.intro
             refine ⟨fun w' hw' => ?_, ?_⟩
             · obtain ⟨_, e0, e1, e2⟩ := hw'
               go_simp
               first | done | rfl | exact ⟨rfl, rfl⟩
             simp only [Act.put, List.setIfInBounds_toArray, List.set_cons_zero, List.set_cons_succ]
             go_big_quiet_on)
          | (go_big_quiet_want
             refine quiet_call ?_
             apply Exists.intro
             apply Exists.intro
             refine ⟨fun w' => ?_, ?_⟩
             · go_simp
               first | done | rfl | exact ⟨rfl, rfl⟩
             apply Exists.intro
             refine ⟨fun w' hw' => ?_, ?_⟩
             · first
               | fail
             simp only [Act.put, List.setIfInBounds_toArray, List.set_cons_zero, List.set_cons_succ]
             go_big_quiet_on)
        refine wpQuiet_nil ?_
        intro w5 hw5
        have hb5 := hw5.1
        clear hw5 c0 c1 c2
        replace h := h.stay hb5
        replace rA := rA.stay hb5
        replace rC := rC.stay hb5
        replace A := A.below hb5
        clear hb5
        go_wp2_with fail
        refine (F.out _ h).mono ?_
        rintro e v94 ⟨rfl, h', A'⟩
        replace h := h'
        replace rA := rA.keep A' hAR
        replace A := A.trans A' (fun i e hl => by omega)
        clear h' A' F
        have c2 := h.err
        go_upto_region 8 with fail
        refine wp_region_held (S := fun w' => w'.cell? ⟨bR, 2, none⟩ = some (.int .i64 2)) (by kernel_rfl) ?_
        have hD : Below v94.heap.size v94 { v94 with drawn := v94.drawn + 1 } := (Below.refl _ _).drew
        replace h := h.stay hD
        replace rA := rA.stay hD
        replace A := A.below hD
        clear hD c2
        generalize { v94 with drawn := v94.drawn + 1 } = D1 at *
        have hS := h.err
        refine held_val 0 rfl (by kernel_rfl) (by kernel_rfl) (by kernel_rfl) (fun _ _ _ _ h => h) (by rfl) hS ⟨_, fun w' hw' => exec_build0 Z hzc rfl w', ?_⟩
        simp only [Act.put, List.setIfInBounds_toArray, List.set_cons_zero, List.set_cons_succ]
        refine held_val 1 rfl (by kernel_rfl) (by kernel_rfl) (by kernel_rfl) (fun _ _ _ _ h => h) (by rfl) hS ?_
        apply Exists.intro
        refine ⟨fun w' hw' => ?_, ?_⟩
        · skip
          go_simp
          first | done | rfl | exact ⟨rfl, rfl⟩
        simp only [Act.put, List.setIfInBounds_toArray, List.set_cons_zero, List.set_cons_succ]
        refine held_val 2 rfl (by kernel_rfl) (by kernel_rfl) (by kernel_rfl) (fun _ _ _ _ h => h) (by rfl) hS ?_
        apply Exists.intro
        refine ⟨fun w' hw' => ?_, ?_⟩
        · skip
          go_simp
          first | done | rfl | exact ⟨rfl, rfl⟩
        simp only [Act.put, List.setIfInBounds_toArray, List.set_cons_zero, List.set_cons_succ]
        refine held_val 3 rfl (by kernel_rfl) (by kernel_rfl) (by kernel_rfl) (fun _ _ _ _ h => h) (by rfl) hS ?_
        apply Exists.intro
        refine ⟨fun w' hw' => ?_, ?_⟩
        · skip
          go_simp
          first | done | rfl | exact ⟨rfl, rfl⟩
        simp only [Act.put, List.setIfInBounds_toArray, List.set_cons_zero, List.set_cons_succ]
        refine held_val 4 rfl (by kernel_rfl) (by kernel_rfl) (by kernel_rfl) (fun _ _ _ _ h => h) (by rfl) hS ?_
        apply Exists.intro
        refine ⟨fun w' hw' => ?_, ?_⟩
        · have e1 : w'.cell? ⟨bR, 2, none⟩ = some (.int .i64 2) := hw'
          go_simp
          first | done | rfl | exact ⟨rfl, rfl⟩
        simp only [Act.put, List.setIfInBounds_toArray, List.set_cons_zero, List.set_cons_succ]
        replace h := rw_setRow_ne h (ds := Z.toArray) (k := bA) hAR.symm
        change Rd _ bR s _ 2 at h
        replace hS := h.err
        refine held_one 5 (by kernel_rfl) rfl (by rfl) ?_
        refine wp_store_node bA Z rA hlZ Z hlZ hoZ _ _ rfl rfl rfl ⟨hS, ?_⟩
        simp only [Act.put]
        refine held_now 6 (by kernel_rfl) rfl (by rfl) hS ?_
        apply Exists.intro
        refine ⟨?_, ?_⟩
        · skip
          go_simp
          first | done | rfl | exact ⟨rfl, rfl⟩
        simp only [Act.put, List.setIfInBounds_toArray, List.set_cons_zero, List.set_cons_succ]
        refine wpAnyH_done (by kernel_rfl) ?_ _
        go_wp2_with fail
        refine ret_node2 _ _ (.int .i64 2) (rw_setRow rA) hlZ rfl rfl rfl rfl ?_
        exact ⟨⟨Z, by rw [hRE ()], hlZ, hoZ, fun a h => by rw [hRR ()] at h; cases h⟩, asd_below (asd_setRow A (.inr hbA))⟩
end Go.Proofs.YtknhkmlihbgjpaaDoor.Dn
