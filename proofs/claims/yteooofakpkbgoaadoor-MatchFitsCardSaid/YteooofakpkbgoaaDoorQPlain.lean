/- The document's pattern reader, plain: readings with a fuel that is told; what a reading comes to. -/
import Derived.Test.YteooofakpkbgoaaDoorQTree
import Derived.Test.YteooofakpkbgoaaDoorQClassN
namespace Go.Proofs.YteooofakpkbgoaaDoor.Dn
open Go.ChangeShapes Go.WideShapes Go.RowKit

theorem fuel (n : Nat) : (∀ m d (s : Bx), 4 * s.length + 4 ≤ n → 4 * s.length + 4 ≤ m → altN n d s = altN m d s) ∧ (∀ m d (s : Bx), 4 * s.length + 3 ≤ n → 4 * s.length + 3 ≤ m → seqN n d s = seqN m d s) ∧
    (∀ m d (s : Bx), 4 * s.length + 2 ≤ n → 4 * s.length + 2 ≤ m → partN n d s = partN m d s) ∧ ∀ m d (s : Bx), 4 * s.length + 1 ≤ n → 4 * s.length + 1 ≤ m → atomN n d s = atomN m d s := by
  induction n with
  | zero => exact ⟨fun m d s h => by omega, fun m d s h => by omega, fun m d s h => by omega, fun m d s h => by omega⟩
  | succ n ih =>
    obtain ⟨iA, iS, iP, iT⟩ := ih
    refine ⟨fun m d s h1 h2 => ?_, fun m d s h1 h2 => ?_, fun m d s h1 h2 => ?_, fun m d s h1 h2 => ?_⟩
    all_goals
      obtain ⟨m, rfl⟩ : ∃ k, m = k + 1 := ⟨m - 1, by omega⟩
    · rw [altN, altN, ← iS m d s (by omega) (by omega)]
      cases hs : seqN n d s with
      | er e => rfl
      | ok q r =>
        have h3 := (reads_good n).2.1 _ _ _ _ hs
        cases r with
        | nil => rfl
        | cons c r =>
          simp only
          simp only [List.length_cons] at h3
          rw [iA m d r (by omega) (by omega)]
    · cases s with
      | nil => rw [seqN, seqN]
      | cons c s =>
        rw [seqN, seqN, ← iP m d (c :: s) (by omega) (by omega)]
        cases hp : partN n d (c :: s) with
        | er e => rfl
        | ok x r =>
          have h3 := (reads_good n).2.2.1 _ _ _ _ hp
          have h4 := lenR_pos x
          simp only
          rw [iS m d r (by omega) (by omega)]
    · rw [partN, partN, ← iT m d s (by omega) (by omega)]
    · cases s with
      | nil => rw [atomN, atomN]
      | cons c s =>
        simp only [List.length_cons] at h1 h2
        rw [atomN, atomN, ← iA m (d + 1) s (by omega) (by omega)]
def altR (d : Nat) (s : Bx) : Res Al := altN (4 * s.length + 4) d s
def seqR (d : Nat) (s : Bx) : Res Sq := seqN (4 * s.length + 3) d s
def atomR' (d : Nat) (s : Bx) : Res Re := atomN (4 * s.length + 1) d s
theorem alt_eq (d : Nat) (s : Bx) : altR d s = match seqR d s with
    | .er e => .er e
    | .ok q r => match r with
      | [] => .ok (.one q) []
      | c :: r' => if c = 124 then (match altR d r' with | .er e => .er e | .ok a r'' => .ok (.more q a) r'') else .ok (.one q) (c :: r') := by
  rw [altR, altN, seqR]
  cases hs : seqN (4 * s.length + 3) d s with
  | er e => rfl
  | ok q r =>
    have h3 := (reads_good _).2.1 _ _ _ _ hs
    cases r with
    | nil => rfl
    | cons c r =>
      simp only [List.length_cons] at h3
      simp only
      rw [altR, (fuel (4 * s.length + 3)).1 (4 * r.length + 4) d r (by omega) (by omega)]
      rfl
theorem seq_eq (d : Nat) (c : UInt8) (s : Bx) : seqR d (c :: s) = if c = 124 ∨ c = 41 then .ok .nil (c :: s) else match atomR' d (c :: s) with
    | .er e => .er e
    | .ok x r => match seqR d (often x r).2 with
      | .er e => .er e
      | .ok q r' => .ok (.cons (often x r).1 q) r' := by
  rw [seqR, seqN]
  split
  · rfl
  · rw [partN, atomR']
    cases hs : atomN (4 * (c :: s).length + 1) d (c :: s) with
    | er e => rfl
    | ok x r =>
      have hp : partN (4 * (c :: s).length + 2) d (c :: s) = .ok (often x r).1 (often x r).2 := by rw [partN, hs]
      have h3 := (reads_good _).2.2.1 _ _ _ _ hp
      have h4 := lenR_pos (often x r).1
      simp only
      rw [seqR, (fuel (4 * (c :: s).length + 2)).2.1 (4 * (often x r).2.length + 3) d _ (by omega) (by omega)]
      rfl
theorem seq_nil (d : Nat) : seqR d [] = .ok .nil [] := by rw [seqR, seqN]
theorem atom_len {d : Nat} {s r : Bx} {x : Re} (h : atomR' d s = .ok x r) : r.length < s.length := by
  have := (reads_good _).2.2.2 _ _ _ _ h
  have h4 := lenR_pos x
  omega
theorem atom_eq (d : Nat) (c : UInt8) (s : Bx) : atomR' d (c :: s) =
    if c = 40 then (if d = 8 then .er .deep else match altR (d + 1) s with
      | .er e => .er e
      | .ok a r => match r with
        | [] => .er .form
        | x :: r' => if x = 41 then .ok (.grp a) r' else .er .form)
    else if c = 91 then (match classN s with
      | none => .er .form
      | some (p, r) => .ok (.set p) r)
    else if c = 46 then .ok (.set fun _ => true) s
    else if c ≠ 92 ∧ spcB c = true then .er .form
    else match signN (c :: s) with
      | none => .er .form
      | some (x, r) => .ok (.set fun b => b == x) r := by
  rw [atomR', atomN, altR, (fuel (4 * (c :: s).length)).1 (4 * s.length + 4) (d + 1) s (by simp only [List.length_cons]; omega) (by omega)]
  rfl
/-- What stands in the way, as a number. -/
def errN : Er → Int
  | .form => 2
  | .deep => 3
theorem errN_ne (e : Er) : errN e ≠ 0 := by cases e <;> decide
/-- A node is handed back: the tree's, at most D deep; or any, and an error. -/
def OutP {α : Type} (tree : α → T) (D R : Nat) (s : Bs) (d : Nat) (o : Res α) (B : Nat) (e : Ending) (w' : World) : Prop :=
  match o with
  | .ok x r => ∃ cs : List Value, e = .returned (.agg cs.toArray) ∧ TAt (fun j => B ≤ j) w' D cs (tree x) ∧ ∃ K, s.drop K = r ∧ K ≤ s.length ∧ Rd w' R s K 0
  | .er x => ∃ cs : List Value, e = .returned (.agg cs.toArray) ∧ cs.length = 258 ∧ (∀ u ∈ cs, u.oneCell' = true) ∧ ∃ K, K + d ≤ s.length + 20 ∧ Rd w' R s K (errN x)
/-- The same of the cells that are handed back. -/
def OutQ {α : Type} (tree : α → T) (D R : Nat) (s : Bs) (d : Nat) (o : Res α) (B : Nat) (cs : List Value) (w' : World) : Prop :=
  match o with
  | .ok x r => TAt (fun j => B ≤ j) w' D cs (tree x) ∧ ∃ K, s.drop K = r ∧ K ≤ s.length ∧ Rd w' R s K 0
  | .er x => ∃ K, K + d ≤ s.length + 20 ∧ Rd w' R s K (errN x)
theorem out_val {α : Type} {tree : α → T} {D R d B : Nat} {s : Bs} {o : Res α} {e : Ending} {w' : World} (h : OutP tree D R s d o B e w') :
    ∃ cs : List Value, e = .returned (.agg cs.toArray) ∧ cs.length = 258 ∧ (∀ u ∈ cs, u.oneCell' = true) ∧ OutQ tree D R s d o B cs w' := by
  cases o with
  | er x =>
    obtain ⟨cs, h1, h2, h3, h4⟩ := h
    exact ⟨cs, h1, h2, h3, h4⟩
  | ok x r =>
    obtain ⟨cs, h1, h2, h3⟩ := h
    exact ⟨cs, h1, h2.node.1, h2.node.2, h2, h3⟩
def dT (d : Nat) : Nat := 1 + 3 * (8 - d)
theorem dT_up {d : Nat} (h : d < 8) : dT (d + 1) + 3 = dT d := by unfold dT; omega
theorem dT_pos (d : Nat) : ∃ n, dT d = n + 1 := ⟨3 * (8 - d), by unfold dT; omega⟩
def AtomC (d : Nat) : Prop := ∀ (R K : Nat) (s l : Bs) (c : UInt8) (w : World), Rd w R s K 0 → s.length ≤ 100 → s.drop K = c :: l → c ≠ 124 → c ≠ 41 →
  Calls Tryd.prog 86 #[.pointer (some ⟨R, 0, none⟩), .int .i64 (d : Int)] w fun e w' => OutP treeR (dT d) R s d (atomR' d (c :: l)) w.heap.size e w' ∧ Asd (· = R) w w'
def RowC (d : Nat) : Prop := ∀ (R K : Nat) (s : Bs) (w : World), Rd w R s K 0 → s.length ≤ 100 → K ≤ s.length →
  Calls Tryd.prog 70 #[.pointer (some ⟨R, 0, none⟩), .int .i64 (d : Int)] w fun e w' => OutP treeS (dT d + 2) R s d (seqR d (s.drop K)) w.heap.size e w' ∧ Asd (· = R) w w'
def EitherC (d : Nat) : Prop := ∀ (R K : Nat) (s : Bs) (w : World), Rd w R s K 0 → s.length ≤ 100 → K ≤ s.length →
  Calls Tryd.prog 52 #[.pointer (some ⟨R, 0, none⟩), .int .i64 (d : Int)] w fun e w' => OutP treeA (dT d + 3) R s d (altR d (s.drop K)) w.heap.size e w' ∧ Asd (· = R) w w'
theorem bit_one (c : UInt8) : (fun x => if x = UInt8.ofNat c.toNat then true else noSet x) = fun b => b == c := by
  funext x
  rw [UInt8.ofNat_toNat]
  by_cases e : x = c
  · rw [if_pos e, e]; simp
  · rw [if_neg e]
    simp [noSet, e]
theorem upto_all : upto noSet 0 256 = fun _ => true := by
  funext x
  unfold upto
  have := x.toNat_lt
  simp [noSet, this]
/-- A row with parts ahead of it. -/
def preQ (qs : List Re) (q : Sq) : Sq := qs.foldr .cons q
def preS (qs : List Re) : Res Sq → Res Sq
  | .er e => .er e
  | .ok q r => .ok (preQ qs q) r
theorem preS_step (qs : List Re) (y : Re) (o : Res Sq) : preS qs (match o with
      | .er e => .er e
      | .ok q r' => .ok (.cons y q) r') = preS (qs ++ [y]) o := by
  cases o with
  | er e => rfl
  | ok q r => simp [preS, preQ]
theorem kids_pre (qs : List Re) (q : Sq) : kidsS (preQ qs q) = qs.map treeR ++ kidsS q := by
  induction qs with
  | nil => rfl
  | cons x qs ih =>
    show kidsS (.cons x (preQ qs q)) = _
    rw [kidsS, ih]
    rfl
theorem tree_pre (qs : List Re) : treeS (preQ qs .nil) = .mk 2 noSet (qs.map treeR) := by
  rw [treeS, kids_pre, kidsS, List.append_nil]
/-- Alternatives with rows ahead of them. -/
def preL (qs : List Sq) (a : Al) : Al := qs.foldr .more a
def preA (qs : List Sq) : Res Al → Res Al
  | .er e => .er e
  | .ok a r => .ok (preL qs a) r
theorem preA_step (qs : List Sq) (y : Sq) (o : Res Al) : preA qs (match o with
      | .er e => .er e
      | .ok a r' => .ok (.more y a) r') = preA (qs ++ [y]) o := by
  cases o with
  | er e => rfl
  | ok q r => simp [preA, preL]
theorem kids_preL (qs : List Sq) (a : Al) : kidsA (preL qs a) = qs.map treeS ++ kidsA a := by
  induction qs with
  | nil => rfl
  | cons x qs ih =>
    show kidsA (.more x (preL qs a)) = _
    rw [kidsA, ih]
    rfl
theorem tree_preL (qs : List Sq) (q : Sq) : treeA (preL qs (.one q)) = .mk 1 noSet ((qs ++ [q]).map treeS) := by
  rw [treeA, kids_preL, kidsA, List.map_append]
  rfl
section
variable {ops : Array Oper} {rest : List Oper} {o : Oper} {a : Act} {w : World} {Q : Exit → Act → World → Prop}
theorem wpList_row_node (cs : List Value) (h : cs.length = 258) (x : Operand) (hg : o.guard = none) (ho : o.op = .buildSlice 59 1 #[(0, x)]) (hx : a.eval x = .agg cs.toArray)
    (hK : wpList Tryd.prog ops Q rest (a.put o.dst (.slice (some ⟨w.heap.size, 0, none⟩) 1 1)) (w.alloc (.cells cs.toArray 61))) : wpList Tryd.prog ops Q (o :: rest) a w :=
  wpList_plain hg fun _ hK' => wp_row_node cs h x ho hx (hK' _ _ hK)
theorem wpList_own_node (s x : Operand) (hgd : o.guard = none) (ho : o.op = .call { callee := .builtin .append, args := #[s, x], argTypes := #[59, 59] })
    (base : Nat) (v : Value) (css : List (List Value)) (hs : a.eval s = v) (hown : w.ownsRow base 61 258 v css.length css.flatten) (g : Nat) (news : List Value) (hx : a.eval x = .slice (some ⟨g, 0, none⟩) 1 1) (hl : news.length = 258) (hr : Rw w g 61 news) (h1 : ∀ u ∈ news, u.oneCell' = true)
    (hn : css.length ≤ 1000) (hbase : base ≤ w.heap.size)
    (h : ∀ v' w', w'.ownsRow base 61 258 v' (css.length + 1) (css.flatten ++ news) → w.grownBy w' v.ownBlock → (v'.ownBlock = v.ownBlock ∨ v'.ownBlock = some w.heap.size) → wpList Tryd.prog ops Q rest (a.put o.dst v') w') :
    wpList Tryd.prog ops Q (o :: rest) a w :=
  wpList_plain hgd fun _ hK' => wp_own_node s x ho base v css hs hown g news hx hl hr h1 hn hbase (fun v' w' a b c => hK' _ _ (h v' w' (by rw [List.length_append, List.length_singleton, List.flatten_append, List.flatten_singleton] at a; exact a) b c))
end
theorem own_one {w : World} {base : Nat} {e : TypeId} {s n : Nat} {v : Value} {xs : List Value} (h : w.ownsRow base e s v n xs) : v.oneCell' = true := by
  rcases h.2 with ⟨rfl, _⟩ | ⟨g, cap, cur, rfl, _⟩ <;> rfl
theorem exec_b1 {o : Oper} {a : Act} (k : Int) {Y : List Value} (hY : nodeC k noSet nilS = Y) (x : Operand) (ho : o.op = .build 61 #[(0, x)]) (hx : a.eval x = .int .i64 k) (w : World) : (execOp a.eval o).run Tryd.prog w = .ok (.value (.agg Y.toArray)) w := by
  rw [← hY]; exact exec_build1 k x ho hx w
theorem exec_b2 {o : Oper} {a : Act} (k : Int) {v : Value} {Y : List Value} (hY : nodeC k noSet v = Y) (hv : v.cells = #[v]) (x y : Operand) (ho : o.op = .build 61 #[(0, x), (2, y)]) (hx : a.eval x = .int .i64 k) (hy : a.eval y = v) (w : World) : (execOp a.eval o).run Tryd.prog w = .ok (.value (.agg Y.toArray)) w := by
  rw [← hY]; exact exec_build2 k hv x y ho hx hy w
end Go.Proofs.YteooofakpkbgoaaDoor.Dn
