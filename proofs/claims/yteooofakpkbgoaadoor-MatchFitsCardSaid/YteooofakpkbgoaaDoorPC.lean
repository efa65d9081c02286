/- PC: several texts in one. -/
import Derived.Test.YteooofakpkbgoaaDoorPB
import Derived.Test.YteooofakpkbgoaaDoorPClassW
import Derived.Test.YteooofakpkbgoaaDoorShelf
import Derived.Test.YteooofakpkbgoaaDoorPA
/- The reader: what its functions hand back; a group. -/
namespace Go.Proofs.YteooofakpkbgoaaDoor
open Go.ChangeShapes Go.WideShapes Go.RowKit

def erV : Er → Int
  | .form => 2
  | .deep => 3
theorem erV_ne (e : Er) : (erV e != 0) = true := by cases e <;> rfl
/-- What a function of the reader hands back: an error, or more steps. -/
def OutQ {α : Type} (R : Nat) (V : Value) (F : List Value) (w : World) (X : List Stp) (lay : α → List Stp) (o : Res α) (e : Ending) (w' : World) : Prop :=
  match o with
  | .er er => e = .returned (.int .i64 (erV er)) ∧ Asd (fun k => k = R ∨ Foot V F k) w w'
  | .ok x r => e = .returned (.int .i64 0) ∧ RdQ w R V F r (X ++ lay x) w'
theorem RdAt.apart {w w' : World} {R T : Nat} {l : Bs} {S : List Stp} {V : Value} {F : List Value} (h : RdAt w R l S V F) (k : Asd (· = T) w w') (hR : R ≠ T) (hT : ¬ Foot V F T) : RdAt w' R l S V F :=
  ⟨Rw.keep h.q k hR, h.st.keep k (fun _ hi e => hT (e ▸ hi))⟩
theorem Grow.below {w w' : World} {R : Nat} {V : Value} {F : List Value} (k : Below w.heap.size w w') : Grow R V F V F w w' := ⟨fun _ h => .inl h, Asd.of_below k⟩
theorem Grow.apart {w w1 w2 : World} {R T : Nat} {V V' : Value} {F F' : List Value} (h : Grow R V F V' F' w w1) (k : Asd (· = T) w1 w2) (hT : w.heap.size ≤ T) : Grow R V F V' F' w w2 :=
  ⟨h.foot, h.asd.trans k (fun i hi hlt => by have hi : i = T := hi; omega)⟩
theorem Grow.andAsd {w w1 w2 : World} {R : Nat} {V V1 : Value} {F F1 : List Value} (h : Grow R V F V1 F1 w w1) (k : Asd (fun k => k = R ∨ Foot V1 F1 k) w1 w2) : Asd (fun k => k = R ∨ Foot V F k) w w2 :=
  h.asd.trans k fun i hi hlt => by
    rcases hi with hi | hi
    · exact .inl hi
    · rcases h.foot i hi with q | q
      · exact .inr q
      · omega
theorem RdQ.go {w w1 w2 : World} {R : Nat} {V V1 : Value} {F F1 : List Value} {l : Bs} {S : List Stp} (h : Grow R V F V1 F1 w w1) (k : RdQ w1 R V1 F1 l S w2) : RdQ w R V F l S w2 := by
  obtain ⟨V2, F2, h2, g2⟩ := k
  exact ⟨V2, F2, h2, h.trans g2⟩
theorem OutQ.go {α : Type} {w w1 w2 : World} {R : Nat} {V V1 : Value} {F F1 : List Value} {X : List Stp} {lay : α → List Stp} {o : Res α} {e : Ending} (h : Grow R V F V1 F1 w w1) (k : OutQ R V1 F1 w1 X lay o e w2) : OutQ R V F w X lay o e w2 := by
  cases o with
  | er er => exact ⟨k.1, h.andAsd k.2⟩
  | ok x r => exact ⟨k.1, k.2.go h⟩
/-- The reader reads alternatives. -/
def AltC (n : Nat) : Prop := ∀ (R d : Nat) (l : Bs) (X : List Stp) (V : Value) (F : List Value) (w : World) (D : Int), RdAt w R l X V F → D = (d : Int) → d ≤ 8 → X.length + l.length + 1 ≤ 300 → Fb X → 4 * l.length + 4 ≤ n →
  Calls Tryd.prog 69 #[.pointer (some ⟨R, 0, none⟩), .int .i64 D] w (OutQ R V F w X (fun a => stR (.grp a) X.length) (altN n d l))
def SeqC (n : Nat) : Prop := ∀ (R d : Nat) (l : Bs) (X : List Stp) (V : Value) (F : List Value) (w : World) (D : Int), RdAt w R l X V F → D = (d : Int) → d ≤ 8 → X.length + l.length ≤ 300 → Fb X → 4 * l.length + 3 ≤ n →
  Calls Tryd.prog 84 #[.pointer (some ⟨R, 0, none⟩), .int .i64 D] w (OutQ R V F w X (fun q => stS q X.length) (seqN n d l))
def PartC (n : Nat) : Prop := ∀ (R d : Nat) (c : UInt8) (l : Bs) (X : List Stp) (V : Value) (F : List Value) (w : World) (D : Int), RdAt w R (c :: l) X V F → D = (d : Int) → d ≤ 8 → X.length + (c :: l).length ≤ 300 → Fb X → 4 * (c :: l).length + 2 ≤ n →
  Calls Tryd.prog 94 #[.pointer (some ⟨R, 0, none⟩), .int .i64 D] w (OutQ R V F w X (fun x => stR x X.length) (partN n d (c :: l)))
def AtomC (n : Nat) : Prop := ∀ (R d : Nat) (c : UInt8) (l : Bs) (X : List Stp) (V : Value) (F : List Value) (w : World) (D : Int), RdAt w R (c :: l) X V F → D = (d : Int) → d ≤ 8 → X.length + (c :: l).length ≤ 300 → Fb X → 4 * (c :: l).length + 1 ≤ n →
  Calls Tryd.prog 97 #[.pointer (some ⟨R, 0, none⟩), .int .i64 D] w (OutQ R V F w X (fun x => stR x X.length) (atomN n d (c :: l)))
/-- Behind a (. -/
def grpO : Res Al → Res Re
  | .er e => .er e
  | .ok _ [] => .er .form
  | .ok a (x :: r') => if x = 41 then .ok (.grp a) r' else .er .form
def groupN (n d : Nat) (s : Bx) : Res Re := if d = 8 then .er .deep else grpO (altN n (d + 1) s)
set_option maxHeartbeats 1600000 in
set_option maxRecDepth 100000 in
theorem group_any (n : Nat) (HA : AltC n) (R d : Nat) (l : Bs) (X : List Stp) (V : Value) (F : List Value) (w : World) (D : Int) (h : RdAt w R l X V F) (hD : D = (d : Int)) (hd : d ≤ 8) (hX : X.length + l.length + 1 ≤ 300) (hf : Fb X) (hn : 4 * l.length + 4 ≤ n) :
    Calls Tryd.prog 100 #[.pointer (some ⟨R, 0, none⟩), .int .i64 D] w (OutQ R V F w X (fun x => stR x X.length) (groupN n d l)) := by
  by_cases h8 : d = 8
  · have e : groupN n d l = .er .deep := by unfold groupN; rw [if_pos h8]
    rw [e]
    have hD8 : (D == 8) = true := by rw [beq_iff_eq]; omega
    clear HA h hX hf
    go_enter Tryd.func100, Tryd.ntmps100
    go_wp2_with fail
    go_ret
    exact ⟨rfl, Asd.refl _ _⟩
  · have hD8 : (D == 8) = false := by rw [beq_eq_false_iff_ne]; omega
    obtain ⟨o, ho⟩ : ∃ o, altN n (d + 1) l = o := ⟨_, rfl⟩
    have K := HA R (d + 1) l X V F w (D + 1) h (by omega) (by omega) hX hf hn
    have e : groupN n d l = grpO o := by unfold groupN; rw [if_neg h8, ho]
    rw [e]
    rw [ho] at K
    replace K := Lib.hid K
    have hD0 : 0 ≤ D := by omega
    have hD1 : D ≤ 8 := by omega
    clear e ho HA h hX hf hn hd h8 hD
    cases o with
    | er er =>
      go_enter Tryd.func100, Tryd.ntmps100
      go_wp2_with fail
      refine K.out.mono ?_
      rintro e w1 ⟨rfl, hA⟩
      have hne := erV_ne er
      clear K
      go_wp2_with fail
      go_ret
      exact ⟨rfl, hA⟩
    | ok a r =>
      go_enter Tryd.func100, Tryd.ntmps100
      go_wp2_with fail
      refine K.out.mono ?_
      rintro e w1 ⟨rfl, V1, F1, h1, g1⟩
      clear K
      have K2 := Lib.hid (take_any R 41 r V1 w1 h1.q 41 rfl)
      go_wp2_with fail
      refine K2.out.mono ?_
      rintro e w2 ⟨rfl, q2, hA2⟩
      clear K2
      have h2 := h1.turn q2 hA2
      have g2 := g1.trans (Grow.turn hA2)
      clear h1 g1 q2 hA2
      cases r with
      | nil =>
        rw [show nextIs 41 [] = false from rfl]
        go_wp2_with fail
        go_ret
        exact ⟨rfl, g2.asd⟩
      | cons x r' =>
        by_cases hx : x = 41
        · subst hx
          rw [show nextIs 41 (41 :: r') = true by simp [nextIs]]
          rw [show dropIf 41 (41 :: r') = r' by simp [dropIf]] at h2
          go_wp2_with fail
          go_ret
          exact ⟨rfl, V1, F1, h2, g2⟩
        · rw [show nextIs 41 (x :: r') = false by simp [nextIs, hx]]
          go_wp2_with fail
          go_ret
          show OutQ R V F w X _ (grpO (.ok a (x :: r'))) _ _
          rw [show grpO (.ok a (x :: r')) = .er .form by simp [grpO, hx]]
          exact ⟨rfl, g2.asd⟩
end Go.Proofs.YteooofakpkbgoaaDoor
/- The reader: an atom. -/
namespace Go.Proofs.YteooofakpkbgoaaDoor
open Go.ChangeShapes Go.WideShapes Go.RowKit

def spcI (c : UInt8) : Int := Lib.indexByte [42, 43, 63, 124, 40, 41, 91, 93, 92, 46] c
theorem spc_all : ∀ n : Fin 256, (decide (0 ≤ spcI (UInt8.ofNat n.val)) == spcB (UInt8.ofNat n.val)) = true := by decide +kernel
theorem spc_of (c : UInt8) : decide (0 ≤ spcI c) = spcB c := by
  have h := spc_all ⟨c.toNat, c.toNat_lt⟩
  simp only [UInt8.ofNat_toNat] at h
  exact eq_of_beq h
theorem spc_any (c : UInt8) (w : World) : Calls Tryd.prog 89 #[.string ⟨#[42, 43, 63, 124, 40, 41, 91, 93, 92, 46]⟩, .int .u8 (c.toNat : Int)] w fun e w' => e = .returned (.int .i64 (spcI c)) ∧ w' = w :=
  (Tryd.strings_IndexByte ⟨#[42, 43, 63, 124, 40, 41, 91, 93, 92, 46]⟩ (c.toNat : Int) w).mono fun e w' h => by
    rw [show ((c.toNat : Int)).toNat.toUInt8 = c from UInt8.ofNat_toNat] at h
    exact h
theorem plus_one (x : UInt8) : (fun b => noSet b || (decide (x ≤ b) && decide (b ≤ x))) = fun b => b == x := by
  funext b
  by_cases h : b = x
  · subst h; simp [noSet]
  · rw [show (b == x) = false by simpa using h]
    simp only [noSet, Bool.false_or, Bool.and_eq_false_iff, decide_eq_false_iff_not]
    by_cases h1 : x ≤ b
    · exact .inr fun h2 => h (UInt8.le_antisymm h2 h1)
    · exact .inl h1
theorem OutQ.ret {α : Type} {R : Nat} {V : Value} {F : List Value} {w w' : World} {X : List Stp} {lay : α → List Stp} {o : Res α} {e : Ending} (h : OutQ R V F w X lay o e w') : ∃ E, e = .returned (.int .i64 E) := by
  cases o with
  | er er => exact ⟨_, h.1⟩
  | ok x r => exact ⟨_, h.1⟩
theorem out_set {R : Nat} {V : Value} {F : List Value} {w w' : World} {X : List Stp} {p : UInt8 → Bool} {r : Bx} (h : RdQ w R V F r (X ++ [⟨p, []⟩]) w') : OutQ R V F w X (fun x => stR x X.length) (.ok (.set p) r) (.returned (.int .i64 0)) w' :=
  ⟨rfl, by simp only [stR]; exact h⟩
theorem atom_open (n d : Nat) (l : Bx) : atomN (n + 1) d (40 :: l) = groupN n d l := by
  rw [atomN, if_pos rfl, groupN]
  split
  · rfl
  · unfold grpO
    cases altN n (d + 1) l with
    | er e => rfl
    | ok a r => cases r <;> rfl
theorem OutQ.of {α : Type} {R : Nat} {V : Value} {F : List Value} {w w' : World} {X : List Stp} {lay : α → List Stp} {o o' : Res α} {e : Ending} (h : o' = o) (hq : OutQ R V F w X lay o e w') : OutQ R V F w X lay o' e w' := h ▸ hq
def clsR : Option ((UInt8 → Bool) × Bx) → Res Re
  | none => .er .form
  | some (p, r) => .ok (.set p) r
def sgnR : Option (UInt8 × Bx) → Res Re
  | none => .er .form
  | some (x, r) => .ok (.set fun b => b == x) r
theorem atom_class (n d : Nat) (l : Bx) : atomN (n + 1) d (91 :: l) = clsR (classN l) := by
  rw [atomN, if_neg (by decide), if_pos rfl]
  cases classN l <;> rfl
theorem atom_dot (n d : Nat) (l : Bx) : atomN (n + 1) d (46 :: l) = .ok (.set fun _ => true) l := by
  rw [atomN, if_neg (by decide), if_neg (by decide), if_pos rfl]
theorem atom_spc {c : UInt8} (n d : Nat) (l : Bx) (h1 : c ≠ 40) (h2 : c ≠ 91) (h3 : c ≠ 46) (h4 : c ≠ 92) (h5 : spcB c = true) : atomN (n + 1) d (c :: l) = .er .form := by
  rw [atomN, if_neg h1, if_neg h2, if_neg h3, if_pos ⟨h4, h5⟩]
theorem atom_sign {c : UInt8} (n d : Nat) (l : Bx) (h1 : c ≠ 40) (h2 : c ≠ 91) (h3 : c ≠ 46) (h4 : c = 92 ∨ spcB c = false) : atomN (n + 1) d (c :: l) = sgnR (signN (c :: l)) := by
  rw [atomN, if_neg h1, if_neg h2, if_neg h3, if_neg (fun ⟨h5, h6⟩ => h4.elim (fun e => h5 e) (fun e => by rw [e] at h6; cases h6))]
  cases signN (c :: l) <;> rfl
set_option maxHeartbeats 3200000 in
set_option maxRecDepth 100000 in
theorem atom_group (n : Nat) (HA : AltC n) (R d : Nat) (l : Bs) (X : List Stp) (V : Value) (F : List Value) (w : World) (D : Int) (hD : D = (d : Int)) (hd : d ≤ 8) (hf : Fb X) (hXl : X.length + l.length + 1 ≤ 300) (hn : 4 * l.length + 4 ≤ n) (h : RdAt w R (40 :: l) X V F) (_hX : X.length ≤ 1000) :
    Calls Tryd.prog 97 #[.pointer (some ⟨R, 0, none⟩), .int .i64 D] w (OutQ R V F w X (fun x => stR x X.length) (groupN n d l)) := by
  have KG := Lib.hid fun w2 h2 => group_any n HA R d l X V F w2 D h2 hD hd hXl hf hn
  clear HA hf hXl hn hd hD
  have hzc := zero_class
  have hlZ := setRow_len noSet
  obtain ⟨Z, eZ⟩ : ∃ Z, setRow noSet = Z := ⟨_, rfl⟩
  rw [eZ] at hzc hlZ
  have EZ : Unit → setRow noSet = Z := fun _ => eZ
  clear eZ
  have hal := (Below.refl w.heap.size w).alloc (Nat.le_refl _) (.cells Z.toArray 122)
  have hRT : R ≠ w.heap.size := by have := Rw.lt h.q; omega
  have hFT : ¬ Foot V F w.heap.size := fun e => by have := (h.st.lt e).2; omega
  have h1 := h.stay hal
  have g1 : Grow R V F V F w (w.alloc (.cells Z.toArray 122)) := Grow.below hal
  have r1 : Rw (w.alloc (.cells Z.toArray 122)) w.heap.size 122 (setRow noSet) := by rw [EZ ()]; exact Rw.new w _ Z
  clear h
  go_enter Tryd.func97, Tryd.ntmps97
  go_upto_region 3 with fail
  generalize w.alloc (.cells Z.toArray 122) = w1 at *
  clear hal hzc
  have c0 := h1.q.rest
  have hi0 := at_text (40 :: l) 0 40 rfl 0 rfl
  generalize (⟨(40 :: l).toArray⟩ : ByteArray) = Y at c0 hi0
  go_wp2_with fail
  clear c0 hi0
  refine (take_hit R 40 l V w1 h1.q).mono ?_
  rintro e w2 ⟨rfl, q2, hA2⟩
  have h2 := h1.turn q2 hA2
  have g2 := g1.trans (Grow.turn hA2)
  have r2 := r1.keep hA2 (fun e : w.heap.size = R => hRT e.symm)
  clear q2 hA2 h1 g1 r1
  go_wp2_with fail
  refine (KG.out w2 h2).mono ?_
  clear KG
  rintro e w3 hq
  obtain ⟨E, rfl⟩ := hq.ret
  have hfin := hq.go g2
  clear hq
  go_wp2_with fail
  go_ret
  exact hfin
set_option maxHeartbeats 3200000 in
set_option maxRecDepth 100000 in
theorem atom_cls (R _d : Nat) (l : Bs) (X : List Stp) (V : Value) (F : List Value) (w : World) (D : Int) (h : RdAt w R (91 :: l) X V F) (hX : X.length ≤ 1000) :
    Calls Tryd.prog 97 #[.pointer (some ⟨R, 0, none⟩), .int .i64 D] w (OutQ R V F w X (fun x => stR x X.length) (clsR (classN l))) := by
  have hzc := zero_class
  have hlZ := setRow_len noSet
  obtain ⟨Z, eZ⟩ : ∃ Z, setRow noSet = Z := ⟨_, rfl⟩
  rw [eZ] at hzc hlZ
  have EZ : Unit → setRow noSet = Z := fun _ => eZ
  clear eZ
  have hal := (Below.refl w.heap.size w).alloc (Nat.le_refl _) (.cells Z.toArray 122)
  have hRT : R ≠ w.heap.size := by have := Rw.lt h.q; omega
  have hFT : ¬ Foot V F w.heap.size := fun e => by have := (h.st.lt e).2; omega
  have h1 := h.stay hal
  have g1 : Grow R V F V F w (w.alloc (.cells Z.toArray 122)) := Grow.below hal
  have r1 : Rw (w.alloc (.cells Z.toArray 122)) w.heap.size 122 (setRow noSet) := by rw [EZ ()]; exact Rw.new w _ Z
  clear h
  go_enter Tryd.func97, Tryd.ntmps97
  go_upto_region 3 with fail
  generalize w.alloc (.cells Z.toArray 122) = w1 at *
  clear hal hzc
  have c0 := h1.q.rest
  have hi0 := at_text (91 :: l) 0 91 rfl 0 rfl
  generalize (⟨(91 :: l).toArray⟩ : ByteArray) = Y at c0 hi0
  go_wp2_with fail
  clear c0 hi0
  refine (take_miss R 40 (91 :: l) V w1 h1.q (by simp) 40 rfl).mono ?_
  rintro e w2 ⟨rfl, hw2⟩
  obtain rfl : w1 = w2 := hw2.symm
  go_wp2_with fail
  refine (take_hit R 91 l V w1 h1.q).mono ?_
  rintro e w2 ⟨rfl, q2, hA2⟩
  have h2 := h1.turn q2 hA2
  have g2 := g1.trans (Grow.turn hA2)
  have r2 := r1.keep hA2 (fun e : w.heap.size = R => hRT e.symm)
  clear q2 hA2 h1 g1 r1
  go_wp2_with fail
  have K := class_any R l V w2 h2.q
  obtain ⟨o, ho⟩ : ∃ o, classN l = o := ⟨_, rfl⟩
  rw [ho] at K
  have HO : Unit → classN l = o := fun _ => ho
  clear ho
  cases o with
  | none =>
    refine K.mono ?_
    rintro e w3 ⟨⟨⟨q, rfl⟩, l3, q3⟩, hA3⟩
    have g3 := g2.trans (Grow.turn hA3)
    have r3 := r2.keep hA3 (fun e : w.heap.size = R => hRT e.symm)
    clear K h2 g2 r2
    have r4 : Rw (w3.setRow w.heap.size (setRow q).toArray) w.heap.size 122 (setRow q) := r3.setRow
    have hA4 : Asd (· = w.heap.size) w3 (w3.setRow w.heap.size (setRow q).toArray) := (Asd.refl _ _).setRow (.inl rfl)
    have g4 := g3.apart hA4 (Nat.le_refl _)
    go_wp2_with (refine store_arr w.heap.size 122 _ r3 256 (setRow_len _) 122 (by kernel_rfl) (setRow q) (setRow_len _) (setRow_cell _) _ _ rfl rfl rfl rfl ?_)
    go_ret
    exact OutQ.of (o := .er .form) (by rw [HO ()]; rfl) ⟨rfl, g4.asd⟩
  | some x =>
    obtain ⟨p, r⟩ := x
    refine K.mono ?_
    rintro e w3 ⟨⟨rfl, q3⟩, hA3⟩
    have h3 := h2.turn q3 hA3
    have g3 := g2.trans (Grow.turn hA3)
    have r3 := r2.keep hA3 (fun e : w.heap.size = R => hRT e.symm)
    clear K h2 g2 r2 q3 hA3
    have r4 : Rw (w3.setRow w.heap.size (setRow p).toArray) w.heap.size 122 (setRow p) := r3.setRow
    have hA4 : Asd (· = w.heap.size) w3 (w3.setRow w.heap.size (setRow p).toArray) := (Asd.refl _ _).setRow (.inl rfl)
    have g4 := g3.apart hA4 (Nat.le_refl _)
    have h4 := h3.apart hA4 hRT hFT
    clear g3 h3
    go_upto_region 16 with (refine store_arr w.heap.size 122 _ r3 256 (setRow_len _) 122 (by kernel_rfl) (setRow p) (setRow_len _) (setRow_cell _) _ _ rfl rfl rfl rfl ?_)
    clear r3 hA4
    generalize w3.setRow w.heap.size (setRow p).toArray = w4 at *
    have K9 := addStep_any R p r X V F w4 h4 hX
    have s9 := setRow_len p
    have cl9 : Cls w4 w.heap.size 0 (setRow p) := fun j v hv => by rw [Nat.zero_add, r4.cell]; exact hv
    replace K9 := Lib.hid K9
    go_wp2_with (refine load_at w.heap.size 0 _ cl9 256 s9 122 (.array 256 4) (by kernel_rfl) rfl (by kernel_rfl) _ rfl rfl rfl ?_)
    refine K9.out.mono ?_
    rintro e w9 ⟨rfl, hq⟩
    clear K9 cl9 s9
    go_wp2_with fail
    go_ret
    exact OutQ.of (o := .ok (.set p) r) (by rw [HO ()]; rfl) (out_set (hq.go g4))
set_option maxHeartbeats 3200000 in
set_option maxRecDepth 100000 in
theorem atom_all (R _d : Nat) (l : Bs) (X : List Stp) (V : Value) (F : List Value) (w : World) (D : Int) (h : RdAt w R (46 :: l) X V F) (hX : X.length ≤ 1000) :
    Calls Tryd.prog 97 #[.pointer (some ⟨R, 0, none⟩), .int .i64 D] w (OutQ R V F w X (fun x => stR x X.length) (.ok (.set fun _ => true) l)) := by
  have hzc := zero_class
  have hlZ := setRow_len noSet
  obtain ⟨Z, eZ⟩ : ∃ Z, setRow noSet = Z := ⟨_, rfl⟩
  rw [eZ] at hzc hlZ
  have EZ : Unit → setRow noSet = Z := fun _ => eZ
  clear eZ
  have hal := (Below.refl w.heap.size w).alloc (Nat.le_refl _) (.cells Z.toArray 122)
  have hRT : R ≠ w.heap.size := by have := Rw.lt h.q; omega
  have hFT : ¬ Foot V F w.heap.size := fun e => by have := (h.st.lt e).2; omega
  have h1 := h.stay hal
  have g1 : Grow R V F V F w (w.alloc (.cells Z.toArray 122)) := Grow.below hal
  have r1 : Rw (w.alloc (.cells Z.toArray 122)) w.heap.size 122 (setRow noSet) := by rw [EZ ()]; exact Rw.new w _ Z
  clear h
  go_enter Tryd.func97, Tryd.ntmps97
  go_upto_region 3 with fail
  generalize w.alloc (.cells Z.toArray 122) = w1 at *
  clear hal hzc
  have c0 := h1.q.rest
  have hi0 := at_text (46 :: l) 0 46 rfl 0 rfl
  generalize (⟨(46 :: l).toArray⟩ : ByteArray) = Y at c0 hi0
  go_wp2_with fail
  clear c0 hi0
  refine (take_miss R 40 (46 :: l) V w1 h1.q (by simp) 40 rfl).mono ?_
  rintro e w2 ⟨rfl, hw2⟩
  obtain rfl : w1 = w2 := hw2.symm
  go_wp2_with fail
  refine (take_miss R 91 (46 :: l) V w1 h1.q (by simp) 91 rfl).mono ?_
  rintro e w2 ⟨rfl, hw2⟩
  obtain rfl : w1 = w2 := hw2.symm
  go_wp2_with fail
  refine (take_hit R 46 l V w1 h1.q).mono ?_
  rintro e w2 ⟨rfl, q2, hA2⟩
  have h2 := h1.turn q2 hA2
  have g2 := g1.trans (Grow.turn hA2)
  have r2 := r1.keep hA2 (fun e : w.heap.size = R => hRT e.symm)
  clear q2 hA2 h1 g1 r1
  go_wp2_with fail
  refine (invert_any w.heap.size 122 noSet w2 r2).mono ?_
  rintro e w3 ⟨rfl, r3, hA3⟩
  have h3 := h2.apart hA3 hRT hFT
  have g3 := g2.apart hA3 (Nat.le_refl _)
  clear h2 g2 r2 hA3
  have K9 := addStep_any R (fun x => !noSet x) l X V F w3 h3 hX
  have s9 := setRow_len (fun x => !noSet x)
  have cl9 : Cls w3 w.heap.size 0 (setRow (fun x => !noSet x)) := fun j v hv => by rw [Nat.zero_add, r3.cell]; exact hv
  replace K9 := Lib.hid K9
  go_wp2_with (refine load_at w.heap.size 0 _ cl9 256 s9 122 (.array 256 4) (by kernel_rfl) rfl (by kernel_rfl) _ rfl rfl rfl ?_)
  refine K9.out.mono ?_
  rintro e w9 ⟨rfl, hq⟩
  clear K9 cl9 s9
  go_wp2_with fail
  go_ret
  exact out_set (p := fun x => !noSet x) (hq.go g3)
set_option maxHeartbeats 3200000 in
set_option maxRecDepth 100000 in
theorem atom_odd (c : UInt8) (R _d : Nat) (l : Bs) (X : List Stp) (V : Value) (F : List Value) (w : World) (D : Int) (h40 : c ≠ 40) (h91 : c ≠ 91) (h46 : c ≠ 46) (h92 : c ≠ 92) (hs : spcB c = true) (h : RdAt w R (c :: l) X V F) (_hX : X.length ≤ 1000) :
    Calls Tryd.prog 97 #[.pointer (some ⟨R, 0, none⟩), .int .i64 D] w (OutQ R V F w X (fun x => stR x X.length) (.er .form)) := by
  have hk : 0 ≤ spcI c := of_decide_eq_true ((spc_of c).trans hs)
  have e92 : ((c.toNat : Int) != 92) = true := by rw [bne, show (92 : Int) = ((92 : UInt8).toNat : Int) from rfl, u8_eq c 92]; simpa using h92
  have KI := Lib.hid fun w => spc_any c w
  generalize spcI c = k at *
  have hzc := zero_class
  have hlZ := setRow_len noSet
  obtain ⟨Z, eZ⟩ : ∃ Z, setRow noSet = Z := ⟨_, rfl⟩
  rw [eZ] at hzc hlZ
  have EZ : Unit → setRow noSet = Z := fun _ => eZ
  clear eZ
  have hal := (Below.refl w.heap.size w).alloc (Nat.le_refl _) (.cells Z.toArray 122)
  have hRT : R ≠ w.heap.size := by have := Rw.lt h.q; omega
  have hFT : ¬ Foot V F w.heap.size := fun e => by have := (h.st.lt e).2; omega
  have h1 := h.stay hal
  have g1 : Grow R V F V F w (w.alloc (.cells Z.toArray 122)) := Grow.below hal
  have r1 : Rw (w.alloc (.cells Z.toArray 122)) w.heap.size 122 (setRow noSet) := by rw [EZ ()]; exact Rw.new w _ Z
  clear h
  go_enter Tryd.func97, Tryd.ntmps97
  go_upto_region 3 with fail
  generalize w.alloc (.cells Z.toArray 122) = w1 at *
  clear hal hzc
  have c0 := h1.q.rest
  have hi0 := at_text (c :: l) 0 c rfl 0 rfl
  generalize (⟨(c :: l).toArray⟩ : ByteArray) = Y at c0 hi0
  go_wp2_with fail
  clear c0 hi0
  refine (take_miss R 40 (c :: l) V w1 h1.q (by simpa using h40) 40 rfl).mono ?_
  rintro e w2 ⟨rfl, hw2⟩
  obtain rfl : w1 = w2 := hw2.symm
  go_wp2_with fail
  refine (take_miss R 91 (c :: l) V w1 h1.q (by simpa using h91) 91 rfl).mono ?_
  rintro e w2 ⟨rfl, hw2⟩
  obtain rfl : w1 = w2 := hw2.symm
  go_wp2_with fail
  refine (take_miss R 46 (c :: l) V w1 h1.q (by simpa using h46) 46 rfl).mono ?_
  rintro e w2 ⟨rfl, hw2⟩
  obtain rfl : w1 = w2 := hw2.symm
  go_wp2_with fail
  refine (KI.out _).mono ?_
  rintro e w2 ⟨rfl, hw2⟩
  obtain rfl : w1 = w2 := hw2.symm
  clear KI
  go_wp2_with fail
  go_ret
  exact ⟨rfl, g1.asd⟩
set_option maxHeartbeats 3200000 in
set_option maxRecDepth 100000 in
theorem atom_any1 (c : UInt8) (R _d : Nat) (l : Bs) (X : List Stp) (V : Value) (F : List Value) (w : World) (D : Int) (h40 : c ≠ 40) (h91 : c ≠ 91) (h46 : c ≠ 46) (h92 : c ≠ 92) (hs : spcB c = false) (h : RdAt w R (c :: l) X V F) (hX : X.length ≤ 1000) :
    Calls Tryd.prog 97 #[.pointer (some ⟨R, 0, none⟩), .int .i64 D] w (OutQ R V F w X (fun x => stR x X.length) (sgnR (signN (c :: l)))) := by
  have hk : ¬ 0 ≤ spcI c := of_decide_eq_false ((spc_of c).trans hs)
  have e92 : ((c.toNat : Int) != 92) = true := by rw [bne, show (92 : Int) = ((92 : UInt8).toNat : Int) from rfl, u8_eq c 92]; simpa using h92
  have KI := Lib.hid fun w => spc_any c w
  generalize spcI c = k at *
  have hzc := zero_class
  have hlZ := setRow_len noSet
  obtain ⟨Z, eZ⟩ : ∃ Z, setRow noSet = Z := ⟨_, rfl⟩
  rw [eZ] at hzc hlZ
  have EZ : Unit → setRow noSet = Z := fun _ => eZ
  clear eZ
  have hal := (Below.refl w.heap.size w).alloc (Nat.le_refl _) (.cells Z.toArray 122)
  have hRT : R ≠ w.heap.size := by have := Rw.lt h.q; omega
  have hFT : ¬ Foot V F w.heap.size := fun e => by have := (h.st.lt e).2; omega
  have h1 := h.stay hal
  have g1 : Grow R V F V F w (w.alloc (.cells Z.toArray 122)) := Grow.below hal
  have r1 : Rw (w.alloc (.cells Z.toArray 122)) w.heap.size 122 (setRow noSet) := by rw [EZ ()]; exact Rw.new w _ Z
  clear h
  go_enter Tryd.func97, Tryd.ntmps97
  go_upto_region 3 with fail
  generalize w.alloc (.cells Z.toArray 122) = w1 at *
  clear hal hzc
  have c0 := h1.q.rest
  have hi0 := at_text (c :: l) 0 c rfl 0 rfl
  generalize (⟨(c :: l).toArray⟩ : ByteArray) = Y at c0 hi0
  go_wp2_with fail
  clear c0 hi0
  refine (take_miss R 40 (c :: l) V w1 h1.q (by simpa using h40) 40 rfl).mono ?_
  rintro e w2 ⟨rfl, hw2⟩
  obtain rfl : w1 = w2 := hw2.symm
  go_wp2_with fail
  refine (take_miss R 91 (c :: l) V w1 h1.q (by simpa using h91) 91 rfl).mono ?_
  rintro e w2 ⟨rfl, hw2⟩
  obtain rfl : w1 = w2 := hw2.symm
  go_wp2_with fail
  refine (take_miss R 46 (c :: l) V w1 h1.q (by simpa using h46) 46 rfl).mono ?_
  rintro e w2 ⟨rfl, hw2⟩
  obtain rfl : w1 = w2 := hw2.symm
  go_wp2_with fail
  refine (KI.out _).mono ?_
  rintro e w2 ⟨rfl, hw2⟩
  obtain rfl : w1 = w2 := hw2.symm
  clear KI
  go_wp2_with fail
  have KS := sign_any R (c :: l) V w1 h1.q
  obtain ⟨o, ho⟩ : ∃ o, signN (c :: l) = o := ⟨_, rfl⟩
  rw [ho] at KS
  have HO : Unit → signN (c :: l) = o := fun _ => ho
  clear ho
  cases o with
  | none =>
    simp only [signV, signL] at KS
    refine KS.mono ?_
    rintro e w2 ⟨rfl, q2, hA2⟩
    have g2 := g1.trans (Grow.turn hA2)
    have r2 := r1.keep hA2 (fun e : w.heap.size = R => hRT e.symm)
    clear KS h1 g1 r1
    have KP := Lib.hid (plus_any w.heap.size 122 noSet 0 0 w2 r2)
    go_wp2_with fail
    refine KP.out.mono ?_
    rintro e w3 ⟨rfl, r3, hA3⟩
    have g3 := g2.apart hA3 (Nat.le_refl _)
    clear KP g2 r2
    go_wp2_with fail
    go_ret
    exact OutQ.of (o := .er .form) (by rw [HO ()]; rfl) ⟨rfl, g3.asd⟩
  | some z =>
    obtain ⟨x, r⟩ := z
    simp only [signV, signL] at KS
    refine KS.mono ?_
    rintro e w2 ⟨rfl, q2, hA2⟩
    have h2 := h1.turn q2 hA2
    have g2 := g1.trans (Grow.turn hA2)
    have r2 := r1.keep hA2 (fun e : w.heap.size = R => hRT e.symm)
    clear KS h1 g1 r1 q2 hA2
    have KP := plus_any w.heap.size 122 noSet x x w2 r2
    rw [plus_one x] at KP
    replace KP := Lib.hid KP
    go_wp2_with fail
    refine KP.out.mono ?_
    rintro e w3 ⟨rfl, r3, hA3⟩
    have h3 := h2.apart hA3 hRT hFT
    have g3 := g2.apart hA3 (Nat.le_refl _)
    clear KP h2 g2 r2 hA3
    have K9 := addStep_any R (fun b => b == x) r X V F w3 h3 hX
    have s9 := setRow_len (fun b => b == x)
    have cl9 : Cls w3 w.heap.size 0 (setRow (fun b => b == x)) := fun j v hv => by rw [Nat.zero_add, r3.cell]; exact hv
    replace K9 := Lib.hid K9
    go_wp2_with (refine load_at w.heap.size 0 _ cl9 256 s9 122 (.array 256 4) (by kernel_rfl) rfl (by kernel_rfl) _ rfl rfl rfl ?_)
    refine K9.out.mono ?_
    rintro e w9 ⟨rfl, hq⟩
    clear K9 cl9 s9
    go_wp2_with fail
    go_ret
    exact OutQ.of (o := .ok (.set fun b => b == x) r) (by rw [HO ()]; rfl) (out_set (p := fun b => b == x) (hq.go g3))
set_option maxHeartbeats 3200000 in
set_option maxRecDepth 100000 in
theorem atom_any2 (R _d : Nat) (l : Bs) (X : List Stp) (V : Value) (F : List Value) (w : World) (D : Int) (h : RdAt w R (92 :: l) X V F) (hX : X.length ≤ 1000) :
    Calls Tryd.prog 97 #[.pointer (some ⟨R, 0, none⟩), .int .i64 D] w (OutQ R V F w X (fun x => stR x X.length) (sgnR (signN (92 :: l)))) := by
  have hzc := zero_class
  have hlZ := setRow_len noSet
  obtain ⟨Z, eZ⟩ : ∃ Z, setRow noSet = Z := ⟨_, rfl⟩
  rw [eZ] at hzc hlZ
  have EZ : Unit → setRow noSet = Z := fun _ => eZ
  clear eZ
  have hal := (Below.refl w.heap.size w).alloc (Nat.le_refl _) (.cells Z.toArray 122)
  have hRT : R ≠ w.heap.size := by have := Rw.lt h.q; omega
  have hFT : ¬ Foot V F w.heap.size := fun e => by have := (h.st.lt e).2; omega
  have h1 := h.stay hal
  have g1 : Grow R V F V F w (w.alloc (.cells Z.toArray 122)) := Grow.below hal
  have r1 : Rw (w.alloc (.cells Z.toArray 122)) w.heap.size 122 (setRow noSet) := by rw [EZ ()]; exact Rw.new w _ Z
  clear h
  go_enter Tryd.func97, Tryd.ntmps97
  go_upto_region 3 with fail
  generalize w.alloc (.cells Z.toArray 122) = w1 at *
  clear hal hzc
  have c0 := h1.q.rest
  have hi0 := at_text (92 :: l) 0 92 rfl 0 rfl
  generalize (⟨(92 :: l).toArray⟩ : ByteArray) = Y at c0 hi0
  go_wp2_with fail
  clear c0 hi0
  refine (take_miss R 40 (92 :: l) V w1 h1.q (by simp) 40 rfl).mono ?_
  rintro e w2 ⟨rfl, hw2⟩
  obtain rfl : w1 = w2 := hw2.symm
  go_wp2_with fail
  refine (take_miss R 91 (92 :: l) V w1 h1.q (by simp) 91 rfl).mono ?_
  rintro e w2 ⟨rfl, hw2⟩
  obtain rfl : w1 = w2 := hw2.symm
  go_wp2_with fail
  refine (take_miss R 46 (92 :: l) V w1 h1.q (by simp) 46 rfl).mono ?_
  rintro e w2 ⟨rfl, hw2⟩
  obtain rfl : w1 = w2 := hw2.symm
  go_wp2_with fail
  have KS := sign_any R (92 :: l) V w1 h1.q
  obtain ⟨o, ho⟩ : ∃ o, signN (92 :: l) = o := ⟨_, rfl⟩
  rw [ho] at KS
  have HO : Unit → signN (92 :: l) = o := fun _ => ho
  clear ho
  cases o with
  | none =>
    simp only [signV, signL] at KS
    refine KS.mono ?_
    rintro e w2 ⟨rfl, q2, hA2⟩
    have g2 := g1.trans (Grow.turn hA2)
    have r2 := r1.keep hA2 (fun e : w.heap.size = R => hRT e.symm)
    clear KS h1 g1 r1
    have KP := Lib.hid (plus_any w.heap.size 122 noSet 0 0 w2 r2)
    go_wp2_with fail
    refine KP.out.mono ?_
    rintro e w3 ⟨rfl, r3, hA3⟩
    have g3 := g2.apart hA3 (Nat.le_refl _)
    clear KP g2 r2
    go_wp2_with fail
    go_ret
    exact OutQ.of (o := .er .form) (by rw [HO ()]; rfl) ⟨rfl, g3.asd⟩
  | some z =>
    obtain ⟨x, r⟩ := z
    simp only [signV, signL] at KS
    refine KS.mono ?_
    rintro e w2 ⟨rfl, q2, hA2⟩
    have h2 := h1.turn q2 hA2
    have g2 := g1.trans (Grow.turn hA2)
    have r2 := r1.keep hA2 (fun e : w.heap.size = R => hRT e.symm)
    clear KS h1 g1 r1 q2 hA2
    have KP := plus_any w.heap.size 122 noSet x x w2 r2
    rw [plus_one x] at KP
    replace KP := Lib.hid KP
    go_wp2_with fail
    refine KP.out.mono ?_
    rintro e w3 ⟨rfl, r3, hA3⟩
    have h3 := h2.apart hA3 hRT hFT
    have g3 := g2.apart hA3 (Nat.le_refl _)
    clear KP h2 g2 r2 hA3
    have K9 := addStep_any R (fun b => b == x) r X V F w3 h3 hX
    have s9 := setRow_len (fun b => b == x)
    have cl9 : Cls w3 w.heap.size 0 (setRow (fun b => b == x)) := fun j v hv => by rw [Nat.zero_add, r3.cell]; exact hv
    replace K9 := Lib.hid K9
    go_wp2_with (refine load_at w.heap.size 0 _ cl9 256 s9 122 (.array 256 4) (by kernel_rfl) rfl (by kernel_rfl) _ rfl rfl rfl ?_)
    refine K9.out.mono ?_
    rintro e w9 ⟨rfl, hq⟩
    clear K9 cl9 s9
    go_wp2_with fail
    go_ret
    exact OutQ.of (o := .ok (.set fun b => b == x) r) (by rw [HO ()]; rfl) (out_set (p := fun b => b == x) (hq.go g3))
theorem atom_step (n : Nat) (HA : AltC n) : AtomC (n + 1) := fun R d c l X V F w D h hD hd hX hf hn => by
  simp only [List.length_cons] at hX hn
  by_cases h40 : c = 40
  · subst h40
    rw [atom_open]
    exact atom_group n HA R d l X V F w D hD hd hf (by omega) (by omega) h (by omega)
  · by_cases h91 : c = 91
    · subst h91
      rw [atom_class]
      exact atom_cls R d l X V F w D h (by omega)
    · by_cases h46 : c = 46
      · subst h46
        rw [atom_dot]
        exact atom_all R d l X V F w D h (by omega)
      · by_cases h92 : c = 92
        · subst h92
          rw [atom_sign n d l h40 h91 h46 (.inl rfl)]
          exact atom_any2 R d l X V F w D h (by omega)
        · cases hs : spcB c with
          | true =>
            rw [atom_spc n d l h40 h91 h46 h92 hs]
            exact atom_odd c R d l X V F w D h40 h91 h46 h92 hs h (by omega)
          | false =>
            rw [atom_sign n d l h40 h91 h46 (.inr hs)]
            exact atom_any1 c R d l X V F w D h40 h91 h46 h92 hs h (by omega)
end Go.Proofs.YteooofakpkbgoaaDoor
/- The reader: an atom and how often it is repeated. -/
namespace Go.Proofs.YteooofakpkbgoaaDoor
open Go.ChangeShapes Go.WideShapes Go.RowKit

def partR : Res Re → Res Re
  | .er e => .er e
  | .ok x r => .ok (often x r).1 (often x r).2
theorem part_eq (n d : Nat) (s : Bx) : partN (n + 1) d s = partR (atomN n d s) := by
  rw [partN]
  cases atomN n d s <;> rfl
theorem rd_len {w : World} {R : Nat} {l : Bs} {S : List Stp} {V : Value} {F : List Value} (h : RdAt w R l S V F) : ∃ a c, V = .slice a S.length c := by
  obtain ⟨a, c, e, _⟩ := own_slice h.st.row
  exact ⟨a, c, e⟩
theorem last_get {S : List Stp} {s : Stp} {n : Nat} (h : S.length = n) : (S ++ [s])[n]? = some s := by subst h; simp
theorem lead_get {S : List Stp} {k x i : Nat} {s : Stp} (h : S[i]? = some s) (hb : s.free.length ≤ 1000) : ∃ t, (leadL S k x)[i]? = some t ∧ t.free.length ≤ 2000 := by
  rw [leadL_get]
  by_cases e : i = k
  · rw [if_pos e, ← e, h]; exact ⟨_, rfl, by simp; omega⟩
  · rw [if_neg e]; exact ⟨_, h, by omega⟩
theorem first_get {X Y : List Stp} {b : Nat} (h : X.length = b) (hy : Y ≠ []) (hf : Fb Y) : ∃ s, (X ++ Y)[b]? = some s ∧ s.free.length ≤ 1000 := by
  cases Y with
  | nil => exact absurd rfl hy
  | cons s Y => exact ⟨s, by subst h; simp, by have := hf s (by simp); omega⟩
theorem app_get {X Y : List Stp} {i : Nat} {s : Stp} (h : X[i]? = some s) : (X ++ Y)[i]? = some s := by
  rw [List.getElem?_append_left (List.getElem?_eq_some_iff.1 h).1]; exact h
theorem zero_build (w : World) : (Instr.build 122 #[]).run Tryd.prog w = .ok (.agg (setRow noSet).toArray) w := build_class _ zero_class w
theorem often_none {x : Re} {r : Bx} (h1 : ¬ r.head? = some 42) (h2 : ¬ r.head? = some 43) (h3 : ¬ r.head? = some 63) : often x r = (x, r) := by
  cases r with
  | nil => rfl
  | cons c r =>
    simp only [List.head?_cons, Option.some.injEq] at h1 h2 h3
    rw [often, if_neg h1, if_neg h2, if_neg h3]
set_option maxHeartbeats 6400000 in
set_option maxRecDepth 100000 in
theorem part_step (n : Nat) (HA : AtomC n) : PartC (n + 1) := fun R d c l X V F w D h hD hd hX hf hn => by
  rw [part_eq]
  have K := HA R d c l X V F w D h hD hd hX hf (by omega)
  have hgood := fun x r => (reads_good n).2.2.2 d (c :: l) x r
  obtain ⟨o, ho⟩ : ∃ o, atomN n d (c :: l) = o := ⟨_, rfl⟩
  rw [ho] at K hgood ⊢
  obtain ⟨a0, c0, rfl⟩ := rd_len h
  have hst := h.q.steps
  clear ho HA hD hd hn hf
  replace K := Lib.hid K
  have hX1 : X.length ≤ 300 := by omega
  have hXl : ((X.length : Nat) : Int) ≤ 300 := by omega
  cases o with
  | er er =>
    go_enter Tryd.func94, Tryd.ntmps94
    go_wp2_with fail
    refine K.out.mono ?_
    rintro e w1 ⟨rfl, hA⟩
    have hne := erV_ne er
    clear K hst h
    go_wp2_with fail
    go_ret
    exact ⟨rfl, hA⟩
  | ok x r =>
    obtain ⟨hat, hok, hlen⟩ := hgood x r rfl
    simp only [List.length_cons] at hX hlen
    have hfb : Fb (stR x X.length) := Fb.ofR hok (by omega)
    have hne := stR_ne x X.length
    have hfst := first_get (X := X) rfl hne hfb
    have hbl := stR_length x X.length
    go_enter Tryd.func94, Tryd.ntmps94
    go_wp2_with fail
    refine K.out.mono ?_
    rintro e w1 ⟨rfl, V1, F1, h1, g1⟩
    have hS1 : (X ++ stR x X.length).length = X.length + lenR x := by rw [List.length_append, hbl]
    clear K hst h hgood
    have KT1 := Lib.hid (take_any R 42 r V1 w1 h1.q 42 rfl)
    go_wp2_with fail
    refine KT1.out.mono ?_
    rintro e w2 ⟨rfl, q2, hA2⟩
    have h2 := h1.turn q2 hA2
    have g2 := g1.trans (Grow.turn hA2)
    clear KT1 h1 g1 q2 hA2
    by_cases h42 : r.head? = some 42
    · obtain ⟨r', rfl⟩ : ∃ r', r = 42 :: r' := by
        cases r with
        | nil => cases h42
        | cons y r' => exact ⟨r', by rw [List.head?_cons] at h42; injection h42 with h42; rw [h42]⟩
      rw [show nextIs 42 (42 :: r') = true by simp [nextIs]]
      rw [show dropIf 42 (42 :: r') = r' by simp [dropIf]] at h2
      simp only [List.length_cons] at hlen
      obtain ⟨s0, hs0, hs1⟩ := hfst
      obtain ⟨t4, ht4, ht5⟩ := lead_get (k := X.length + lenR x) (x := X.length) (app_get (Y := [⟨noSet, []⟩]) hs0) hs1
      have K3 := Lib.hid (addStep_any R noSet r' (X ++ stR x X.length) V1 F1 w2 h2 (by rw [hS1]; omega))
      go_wp2_with (refine wpList_exec (exec_empty (setRow noSet) zero_class rfl _) rfl ?_)
      refine K3.out.mono ?_
      rintro e w3 ⟨rfl, V3, F3, h3, g3⟩
      rw [hS1]
      have g4 := g2.trans g3
      have e3 := last_get (s := ⟨noSet, []⟩) hS1
      clear K3 g3 g2 h2
      have K4 := Lib.hid (lead_any R (X.length + lenR x) X.length r' _ V3 F3 w3 h3 _ e3 (by simp) (by rw [List.length_append, hS1, List.length_singleton]; omega))
      have hcast : ((X.length + lenR x : Nat) : Int) = (X.length : Int) + (lenR x : Int) := by omega
      rw [hcast] at K4 ⊢
      go_wp2_with fail
      refine K4.out.mono ?_
      rintro e w4 ⟨rfl, V4, F4, h4, g5⟩
      have g6 := g4.trans g5
      clear K4 g5 g4 h3
      have K5 := lead_any R X.length (X.length + lenR x + 1) r' _ V4 F4 w4 h4 _ ht4 ht5 (by rw [leadL_length, List.length_append, hS1, List.length_singleton]; omega)
      rw [show ((X.length + lenR x + 1 : Nat) : Int) = (X.length : Int) + (lenR x : Int) + 1 by omega] at K5
      have hsm : (X.length : Int) + (lenR x : Int) + 1 ≤ 1000 := by omega
      have hsm0 : (0 : Int) ≤ (lenR x : Int) := by omega
      replace K5 := Lib.hid K5
      go_wp2_with fail
      refine K5.out.mono ?_
      rintro e w5 ⟨rfl, V5, F5, h5, g7⟩
      have g8 := g6.trans g7
      rw [laid_star x rfl] at h5
      clear K5 g7 g6 h4
      go_wp2_with fail
      go_ret
      exact OutQ.of (o := .ok (.star x) r') (by simp [partR, often]) ⟨rfl, V5, F5, h5, g8⟩
    · rw [show nextIs 42 r = false by simp [nextIs, h42]]
      rw [drop_no h42] at h2
      have KT1 := Lib.hid (take_any R 43 r V1 w2 h2.q 43 rfl)
      go_wp2_with fail
      refine KT1.out.mono ?_
      rintro e w2 ⟨rfl, q2, hA2⟩
      replace h2 := h2.turn q2 hA2
      replace g2 := g2.trans (Grow.turn hA2)
      clear KT1 q2 hA2
      by_cases h43 : r.head? = some 43
      · obtain ⟨r', rfl⟩ : ∃ r', r = 43 :: r' := by
          cases r with
          | nil => cases h43
          | cons y r' => exact ⟨r', by rw [List.head?_cons] at h43; injection h43 with h43; rw [h43]⟩
        rw [show nextIs 43 (43 :: r') = true by simp [nextIs]]
        rw [show dropIf 43 (43 :: r') = r' by simp [dropIf]] at h2
        simp only [List.length_cons] at hlen
        obtain ⟨t4, ht4, ht5⟩ := lead_get (k := X.length + lenR x) (x := X.length) (last_get (s := ⟨noSet, []⟩) hS1) (by simp)
        have K3 := Lib.hid (addStep_any R noSet r' (X ++ stR x X.length) V1 F1 w2 h2 (by rw [hS1]; omega))
        go_wp2_with (refine wpList_exec (exec_empty (setRow noSet) zero_class rfl _) rfl ?_)
        refine K3.out.mono ?_
        rintro e w3 ⟨rfl, V3, F3, h3, g3⟩
        rw [hS1]
        have g4 := g2.trans g3
        have e3 := last_get (s := ⟨noSet, []⟩) hS1
        clear K3 g3 g2 h2
        have K4 := Lib.hid (lead_any R (X.length + lenR x) X.length r' _ V3 F3 w3 h3 _ e3 (by simp) (by rw [List.length_append, hS1, List.length_singleton]; omega))
        have hcast : ((X.length + lenR x : Nat) : Int) = (X.length : Int) + (lenR x : Int) := by omega
        rw [hcast] at K4 ⊢
        go_wp2_with fail
        refine K4.out.mono ?_
        rintro e w4 ⟨rfl, V4, F4, h4, g5⟩
        have g6 := g4.trans g5
        clear K4 g5 g4 h3
        have K5 := lead_any R (X.length + lenR x) (X.length + lenR x + 1) r' _ V4 F4 w4 h4 _ ht4 ht5 (by rw [leadL_length, List.length_append, hS1, List.length_singleton]; omega)
        rw [show ((X.length + lenR x + 1 : Nat) : Int) = (X.length : Int) + (lenR x : Int) + 1 by omega, hcast] at K5
        have hsm : (X.length : Int) + (lenR x : Int) + 1 ≤ 1000 := by omega
        have hsm0 : (0 : Int) ≤ (lenR x : Int) := by omega
        replace K5 := Lib.hid K5
        go_wp2_with fail
        refine K5.out.mono ?_
        rintro e w5 ⟨rfl, V5, F5, h5, g7⟩
        have g8 := g6.trans g7
        rw [laid_plus x rfl] at h5
        clear K5 g7 g6 h4
        go_wp2_with fail
        go_ret
        exact OutQ.of (o := .ok (.plus x) r') (by simp [partR, often]) ⟨rfl, V5, F5, h5, g8⟩
      · rw [show nextIs 43 r = false by simp [nextIs, h43]]
        rw [drop_no h43] at h2
        have KT1 := Lib.hid (take_any R 63 r V1 w2 h2.q 63 rfl)
        go_wp2_with fail
        refine KT1.out.mono ?_
        rintro e w2 ⟨rfl, q2, hA2⟩
        replace h2 := h2.turn q2 hA2
        replace g2 := g2.trans (Grow.turn hA2)
        clear KT1 q2 hA2
        by_cases h63 : r.head? = some 63
        · obtain ⟨r', rfl⟩ : ∃ r', r = 63 :: r' := by
            cases r with
            | nil => cases h63
            | cons y r' => exact ⟨r', by rw [List.head?_cons] at h63; injection h63 with h63; rw [h63]⟩
          rw [show nextIs 63 (63 :: r') = true by simp [nextIs]]
          rw [show dropIf 63 (63 :: r') = r' by simp [dropIf]] at h2
          simp only [List.length_cons] at hlen
          obtain ⟨s0, hs0, hs1⟩ := hfst
          have K5 := lead_any R X.length (X.length + lenR x) r' _ V1 F1 w2 h2 _ hs0 (by omega) (by rw [hS1]; omega)
          rw [show ((X.length + lenR x : Nat) : Int) = (X.length : Int) + (lenR x : Int) by omega] at K5
          replace K5 := Lib.hid K5
          obtain ⟨a1, c1, rfl⟩ := rd_len h2
          have c5 := h2.q.steps
          rw [hS1] at c5
          have hcast : ((X.length + lenR x : Nat) : Int) = (X.length : Int) + (lenR x : Int) := by omega
          go_wp2_with fail
          refine K5.out.mono ?_
          rintro e w5 ⟨rfl, V5, F5, h5, g7⟩
          have g8 := g2.trans g7
          rw [laid_opt x rfl] at h5
          clear K5 g7 g2 h2 c5
          go_wp2_with fail
          go_ret
          exact OutQ.of (o := .ok (.opt x) r') (by simp [partR, often]) ⟨rfl, V5, F5, h5, g8⟩
        · rw [show nextIs 63 r = false by simp [nextIs, h63]]
          rw [drop_no h63] at h2
          go_wp2_with fail
          go_ret
          exact OutQ.of (o := .ok x r) (by simp only [partR, often_none h42 h43 h63]) ⟨rfl, V1, F1, h2, g2⟩
end Go.Proofs.YteooofakpkbgoaaDoor
/- The reader: parts, one behind the other. -/
namespace Go.Proofs.YteooofakpkbgoaaDoor
open Go.ChangeShapes Go.WideShapes Go.RowKit

def appS : Sq → Sq → Sq
  | .nil, q => q
  | .cons r p, q => .cons r (appS p q)
theorem appS_nil (p : Sq) : appS p .nil = p := by
  match p with
  | .nil => rfl
  | .cons r p => rw [appS, appS_nil p]
theorem appS_snoc (p : Sq) (x : Re) (q : Sq) : appS (appS p (.cons x .nil)) q = appS p (.cons x q) := by
  match p with
  | .nil => rfl
  | .cons r p => rw [appS, appS, appS_snoc p x q, appS]
theorem appS_len (p q : Sq) : lenS (appS p q) = lenS p + lenS q := by
  match p with
  | .nil => rw [appS, lenS]; omega
  | .cons r p => rw [appS, lenS, lenS, appS_len p q]; omega
theorem appS_lay (p q : Sq) (b : Nat) : stS (appS p q) b = stS p b ++ stS q (b + lenS p) := by
  match p with
  | .nil => rw [appS, lenS, stS]; rfl
  | .cons r p => rw [appS, stS, stS, appS_lay p q, lenS, List.append_assoc, Nat.add_assoc]
theorem appS_ok (p : Sq) (x : Re) (h : okS p) (h' : okR x) : okS (appS p (.cons x .nil)) := by
  match p, h with
  | .nil, _ => rw [appS, okS, okS]; exact ⟨h', trivial⟩
  | .cons r p, h => rw [okS] at h; rw [appS, okS]; exact ⟨h.1, appS_ok p x h.2 h'⟩
theorem one_lay (x : Re) (b : Nat) : stS (.cons x .nil) b = stR x b := by rw [stS, stS, List.append_nil]
def outS (p : Sq) : Res Sq → Res Sq
  | .er e => .er e
  | .ok q r => .ok (appS p q) r
theorem seq_nil {m d : Nat} (h : 0 < m) (p : Sq) : outS p (seqN m d []) = .ok p [] := by
  obtain ⟨m, rfl⟩ : ∃ k, m = k + 1 := ⟨m - 1, by omega⟩
  rw [seqN, outS, appS_nil]
theorem seq_stop {m d : Nat} {c : UInt8} {s : Bx} (hc : c = 124 ∨ c = 41) (p : Sq) : outS p (seqN (m + 1) d (c :: s)) = .ok p (c :: s) := by
  rw [seqN, if_pos hc, outS, appS_nil]
theorem seq_er {m d : Nat} {c : UInt8} {s : Bx} {e : Er} (hc : ¬ (c = 124 ∨ c = 41)) (h : partN m d (c :: s) = .er e) (p : Sq) : outS p (seqN (m + 1) d (c :: s)) = .er e := by
  rw [seqN, if_neg hc, h, outS]
theorem seq_ok {m d : Nat} {c : UInt8} {s r : Bx} {x : Re} (hc : ¬ (c = 124 ∨ c = 41)) (h : partN m d (c :: s) = .ok x r) (p : Sq) : outS p (seqN (m + 1) d (c :: s)) = outS (appS p (.cons x .nil)) (seqN m d r) := by
  rw [seqN, if_neg hc, h]
  simp only
  cases seqN m d r with
  | er e => rfl
  | ok q r' => simp only [outS, appS_snoc]
theorem byte_ne {c k : UInt8} (h : c ≠ k) (K : Int) (hK : K = (k.toNat : Int)) : ((c.toNat : Int) != K) = true := by
  subst hK
  rw [bne, u8_eq c k]; simpa using h
theorem byte_is {c k : UInt8} (h : c = k) (K : Int) (hK : K = (k.toNat : Int)) : ((c.toNat : Int) != K) = false := by
  subst hK
  rw [bne, u8_eq c k]; simpa using h
set_option maxHeartbeats 3200000 in
set_option maxRecDepth 100000 in
theorem seq_step (n : Nat) (HP : ∀ m, m ≤ n → PartC m) : SeqC (n + 1) := fun R d l X V F w D h hD hd hX hf hn => by
  obtain ⟨O, hO⟩ : ∃ O, seqN (n + 1) d l = O := ⟨_, rfl⟩
  rw [hO]
  have HO : Unit → outS .nil (seqN (n + 1) d l) = O := fun _ => by rw [hO]; cases O <;> rfl
  clear hO
  have HP' : Unit → ∀ m, m ≤ n → PartC m := fun _ => HP
  have HF : Unit → Fb X := fun _ => hf
  have HD : Unit → D = (d : Int) := fun _ => hD
  clear HP hf hD
  go_enter Tryd.func84, Tryd.ntmps84
  go_wp2_with fail
  go_loopw [] (fun wr => ∃ m Q s V' F', outS Q (seqN m d s) = O ∧ 4 * s.length + 3 ≤ m ∧ m ≤ n + 1 ∧ RdAt wr R s (X ++ stS Q X.length) V' F' ∧ Grow R V F V' F' w wr ∧ X.length + lenS Q + s.length ≤ 300 ∧ okS Q) (fun wr => restLen wr R)
  case atStart => exact ⟨n + 1, .nil, l, V, F, HO (), hn, Nat.le_refl _, by rw [stS, List.append_nil]; exact h, Grow.refl _ _ _ _, by rw [lenS]; omega, by rw [okS]; trivial⟩
  case round =>
    obtain ⟨m, Q, s, V1, F1, hO, hm, hm1, h1, g1, hl, hok⟩ := hrel
    have HQ : Unit → outS Q (seqN m d s) = O := fun _ => hO
    clear hO HO h hn
    have hlen := h1.q.len
    have c0 := h1.q.rest
    cases s with
    | nil =>
      have hON : O = .ok Q [] := by rw [← HQ ()]; exact seq_nil (by omega) Q
      have he := null_text
      generalize (⟨([] : Bs).toArray⟩ : ByteArray) = Y at c0 he
      clear HQ hlen hm
      subst hON
      go_wp2_with fail
      go_ret
      exact ⟨rfl, V1, F1, h1, g1⟩
    | cons c s =>
      obtain ⟨m, rfl⟩ : ∃ k, m = k + 1 := ⟨m - 1, by omega⟩
      have he := full_text c s
      have hi := at_text (c :: s) 0 c rfl 0 rfl
      generalize (⟨(c :: s).toArray⟩ : ByteArray) = Y at c0 he hi
      by_cases h124 : c = 124
      · have hON : O = .ok Q (c :: s) := by rw [← HQ ()]; exact seq_stop (.inl h124) Q
        have e1 := byte_is h124 124 rfl
        clear HQ hlen hm
        subst hON
        go_wp2_with fail
        go_ret
        exact ⟨rfl, V1, F1, h1, g1⟩
      · have e1 := byte_ne h124 124 rfl
        by_cases h41 : c = 41
        · have hON : O = .ok Q (c :: s) := by rw [← HQ ()]; exact seq_stop (.inr h41) Q
          have e2 := byte_is h41 41 rfl
          clear HQ hlen hm
          subst hON
          go_wp2_with fail
          go_ret
          exact ⟨rfl, V1, F1, h1, g1⟩
        · have e2 := byte_ne h41 41 rfl
          have hc : ¬ (c = 124 ∨ c = 41) := fun e => e.elim h124 h41
          have hfb : Fb (X ++ stS Q X.length) := Fb.app (HF ()) (Fb.ofS hok (by omega))
          have hS : (X ++ stS Q X.length).length = X.length + lenS Q := by rw [List.length_append, stS_length]
          have K := HP' () m (by omega) R d c s (X ++ stS Q X.length) V1 F1 wr D h1 (HD ()) hd (by rw [hS]; omega) hfb (by omega)
          have hgood := fun x r => (reads_good m).2.2.1 d (c :: s) x r
          obtain ⟨o, ho⟩ : ∃ o, partN m d (c :: s) = o := ⟨_, rfl⟩
          rw [ho] at K hgood
          rw [hS] at K
          replace K := Lib.hid K
          cases o with
          | er er =>
            have hON : O = .er er := by rw [← HQ ()]; exact seq_er hc ho Q
            clear HQ hgood ho hlen h1 hfb hm
            subst hON
            have hne := erV_ne er
            go_wp2_with fail
            refine K.out.mono ?_
            rintro e w2 ⟨rfl, hA⟩
            clear K
            go_wp2_with fail
            go_ret
            exact ⟨rfl, g1.andAsd hA⟩
          | ok x r =>
            have hON : Unit → outS (appS Q (.cons x .nil)) (seqN m d r) = O := fun _ => by rw [← HQ ()]; exact (seq_ok hc ho Q).symm
            obtain ⟨hokx, hlx⟩ := hgood x r rfl
            have hpos := lenR_pos x
            have hlay : (X ++ stS Q X.length) ++ stR x (X.length + lenS Q) = X ++ stS (appS Q (.cons x .nil)) X.length := by rw [appS_lay, one_lay, List.append_assoc]
            have hlq : lenS (appS Q (.cons x .nil)) = lenS Q + lenR x := by rw [appS_len, lenS, lenS]; omega
            clear HQ hgood ho h1 hfb
            go_wp2_with fail
            refine K.out.mono ?_
            rintro e w2 ⟨rfl, V2, F2, h2, g2⟩
            clear K
            simp only [hlay] at h2
            have hl2 := h2.q.len
            go_wp2_with fail
            go_roundw
            case rel => exact ⟨m, _, r, V2, F2, hON (), by simp only [List.length_cons] at hlx hm; omega, by omega, h2, g1.trans g2, by rw [hlq]; omega, appS_ok Q x hok hokx⟩
            case measure => rw [hl2, hlen]; omega
end Go.Proofs.YteooofakpkbgoaaDoor
/- The reader: alternatives, plain; and the row of their ends. -/
namespace Go.Proofs.YteooofakpkbgoaaDoor
open Go.ChangeShapes Go.WideShapes Go.RowKit

def outA (l : List Sq) : Res Al → Res Al
  | .er e => .er e
  | .ok a r => .ok (preA l a) r
theorem alt_er {m d : Nat} {s : Bx} {e : Er} (h : seqN m d s = .er e) (l : List Sq) : outA l (altN (m + 1) d s) = .er e := by
  rw [altN, h]; rfl
theorem alt_one {m d : Nat} {s r : Bx} {q : Sq} (h : seqN m d s = .ok q r) (hr : ¬ r.head? = some 124) (l : List Sq) : outA l (altN (m + 1) d s) = .ok (preA l (.one q)) r := by
  rw [altN, h]
  cases r with
  | nil => rfl
  | cons c r =>
    simp only
    rw [if_neg (by simpa using hr)]
    rfl
theorem alt_more {m d : Nat} {s r : Bx} {q : Sq} (h : seqN m d s = .ok q (124 :: r)) (l : List Sq) : outA l (altN (m + 1) d s) = outA (l ++ [q]) (altN m d r) := by
  rw [altN, h]
  simp only [if_true]
  cases altN m d r with
  | er e => rfl
  | ok a r' => simp only [outA, preA_snoc]
theorem outA_nil (o : Res Al) : outA [] o = o := by cases o <;> rfl
theorem begL_length (l : List Sq) (b : Nat) : (begL l b).length = l.length := by
  induction l generalizing b with
  | nil => rfl
  | cons q l ih => simp [begL, ih]
theorem endL_length (l : List Sq) (b : Nat) : (endL l b).length = l.length := by
  induction l generalizing b with
  | nil => rfl
  | cons q l ih => simp [endL, ih]
theorem len_le (l : List Sq) : l.length ≤ lenL l := by
  induction l with
  | nil => exact Nat.le_refl _
  | cons q l ih => rw [lenL, List.length_cons]; omega
/-- The steps of alternatives on their way. -/
def altS (X : List Stp) (l : List Sq) : List Stp := X ++ ⟨noSet, begL l (X.length + 1)⟩ :: stsL l (X.length + 1)
theorem altS_len (X : List Stp) (l : List Sq) : (altS X l).length = X.length + 1 + lenL l := by
  rw [altS, List.length_append, List.length_cons, stsL_length]; omega
theorem altS_get (X : List Stp) (l : List Sq) : (altS X l)[X.length]? = some ⟨noSet, begL l (X.length + 1)⟩ := by simp [altS]
theorem altS_nil (X : List Stp) : X ++ [⟨noSet, []⟩] = altS X [] := rfl
theorem altS_more (X : List Stp) (l : List Sq) (q : Sq) : (leadL (altS X l) X.length (X.length + 1 + lenL l) ++ stS q (X.length + 1 + lenL l)) ++ [⟨noSet, []⟩] = altS X (l ++ [q]) := by
  rw [altS, leadL_at _ rfl, altS, stsL_snoc, begL_snoc]
  simp only [List.append_assoc, List.cons_append]
theorem altS_fb {X : List Stp} {l : List Sq} (hX : Fb X) (ho : ∀ q ∈ l, okS q) (hl : lenL l ≤ 300) : Fb (altS X l) := by
  refine Fb.app hX fun s hs => ?_
  rcases List.mem_cons.1 hs with rfl | hs
  · simp only [begL_length]
    have := len_le l
    omega
  · have : ∀ (l : List Sq) b, (∀ q ∈ l, okS q) → lenL l ≤ 300 → ∀ s ∈ stsL l b, s.free.length ≤ 400 := fun l => by
      induction l with
      | nil => intro b _ _ s hs; cases hs
      | cons q l ih =>
        intro b ho hl s hs
        rw [lenL] at hl
        rw [stsL] at hs
        rcases List.mem_append.1 hs with hs | hs
        · have := free_S q b (ho q (by simp)) s hs; omega
        · rcases List.mem_cons.1 hs with rfl | hs
          · simp
          · exact ih _ (fun q h => ho q (List.mem_cons_of_mem _ h)) (by omega) s hs
    exact this l _ ho hl s hs
/-- Some ends lead to E. -/
def foldE (S : List Stp) (E : Nat) (l : List Nat) : List Stp := l.foldl (fun S e => leadL S e E) S
theorem foldE_len (S : List Stp) (E : Nat) (l : List Nat) : (foldE S E l).length = S.length := by
  unfold foldE
  induction l generalizing S with
  | nil => rfl
  | cons e l ih => rw [List.foldl_cons, ih, leadL_length]
theorem foldE_snoc (S : List Stp) (E : Nat) (l : List Nat) (e : Nat) : foldE S E (l ++ [e]) = leadL (foldE S E l) e E := by simp [foldE]
theorem lead_free {S : List Stp} {n k x : Nat} (h : ∀ s ∈ S, s.free.length ≤ n) : ∀ s ∈ leadL S k x, s.free.length ≤ n + 1 := fun s hs => by
  obtain ⟨i, hi⟩ := List.mem_iff_getElem?.1 hs
  rw [leadL_get] at hi
  by_cases e : i = k
  · rw [if_pos e] at hi
    obtain ⟨t, ht, rfl⟩ := Option.map_eq_some_iff.1 hi
    have := h t (List.mem_of_getElem? ht)
    simp; omega
  · rw [if_neg e] at hi
    have := h s (List.mem_of_getElem? hi)
    omega
theorem foldE_free {S : List Stp} {n E : Nat} (l : List Nat) (h : ∀ s ∈ S, s.free.length ≤ n) : ∀ s ∈ foldE S E l, s.free.length ≤ n + l.length := by
  unfold foldE
  induction l generalizing S n with
  | nil => exact h
  | cons e l ih =>
    rw [List.foldl_cons]
    intro s hs
    have := ih (lead_free (k := e) (x := E) h) s hs
    rw [List.length_cons]; omega
theorem foldE_group (X : List Stp) (l : List Sq) (q : Sq) : foldE (altS X (l ++ [q])) (X.length + 1 + lenL (l ++ [q])) (endL (l ++ [q]) (X.length + 1)) = X ++ stR (.grp (preA l (.one q))) X.length := laid_group l q rfl
theorem take_more {l : List Nat} {k e : Nat} (h : l[k]? = some e) : l.take (k + 1) = l.take k ++ [e] := by rw [List.take_add_one, h]; rfl
/-- The row of the ends: in none of the steps' blocks. -/
def EndsAt (w : World) (R N : Nat) (V : Value) (F : List Value) (v : Value) (es : List Nat) : Prop :=
  w.ownsRow (R + 1) 3 1 v es.length (es.map intV) ∧ ∀ k, v.ownBlock = some k → N ≤ k ∧ ¬ Foot V F k
theorem EndsAt.grow {w w' : World} {R N : Nat} {V V' : Value} {F F' : List Value} {v : Value} {es : List Nat} (h : EndsAt w R N V F v es) (g : Grow R V F V' F' w w') : EndsAt w' R N V' F' v es := by
  refine ⟨own_asdS h.1 g.asd fun i e => ?_, fun k e => ⟨(h.2 k e).1, fun hf => ?_⟩⟩
  · rintro (e2 | e2)
    · have := (h.1.lt i e).1; omega
    · exact (h.2 i e).2 e2
  · rcases g.foot k hf with q | q
    · exact (h.2 k e).2 q
    · have := (h.1.lt k e).2; omega
theorem EndsAt.stay {w w' : World} {R N : Nat} {V : Value} {F : List Value} {v : Value} {es : List Nat} (h : EndsAt w R N V F v es) (k : Below w.heap.size w w') : EndsAt w' R N V F v es :=
  ⟨own_asdS (S := fun _ => False) h.1 (Asd.of_below k) (fun _ _ e => e), h.2⟩
/-- An end more, in world w; the reader's steps are as they were. -/
theorem EndsAt.snoc {w w' : World} {R N E : Nat} {l : Bs} {S : List Stp} {V : Value} {F : List Value} {v v' : Value} {es : List Nat} (h : EndsAt w R N V F v es) (hr : RdAt w R l S V F) (hN : N ≤ w.heap.size)
    (hO : w'.ownsRow (R + 1) 3 1 v' (es.length + 1) (es.map intV ++ [intV E])) (hg : w.grownBy w' v.ownBlock) (hl : v'.ownBlock = v.ownBlock ∨ v'.ownBlock = some w.heap.size) :
    EndsAt w' R N V F v' (es ++ [E]) ∧ RdAt w' R l S V F ∧ Asd (fun k => v.ownBlock = some k) w w' := by
  have k5 : Asd (fun i => v.ownBlock = some i) w w' := (Asd.refl _ w).grown hg (fun k e => .inl e)
  refine ⟨⟨by simpa using hO, fun k e => ?_⟩, ⟨Rw.grown hr.q hg (fun e => by have := (h.1.lt _ e).1; omega), hr.st.keep k5 fun i hi e => (h.2 i e).2 hi⟩, k5⟩
  rcases hl with q | q
  · exact h.2 k (q ▸ e)
  · rw [q] at e
    injection e with e
    exact ⟨by omega, fun hf => by have := (hr.st.lt hf).2; omega⟩
theorem Grow.ends {w w1 w2 : World} {R : Nat} {V V' : Value} {F F' : List Value} {v : Value} {es : List Nat} (g : Grow R V F V' F' w w1) (h : EndsAt w1 R w.heap.size V' F' v es) (k : Asd (fun k => v.ownBlock = some k) w1 w2) : Grow R V F V' F' w w2 :=
  ⟨g.foot, g.asd.trans k fun i hi hlt => by have := (h.2 i hi).1; omega⟩
end Go.Proofs.YteooofakpkbgoaaDoor
/- The reader: alternatives. -/
namespace Go.Proofs.YteooofakpkbgoaaDoor
open Go.ChangeShapes Go.WideShapes Go.RowKit

section
variable {ops : Array Oper} {rest : List Oper} {o : Oper} {a : Act} {w : World} {Q : Exit → Act → World → Prop}
/-- An int is laid into a row of its own. -/
theorem wpList_row_int (v : Value) (h1 : v.cells = #[v]) (x : Operand) (hg : o.guard = none) (ho : o.op = .buildSlice 123 1 #[(0, x)]) (hx : a.eval x = v)
    (h : ∀ Y w', Rw w' Y 3 [v] → Below w.heap.size w w' → wpList Tryd.prog ops Q rest (a.put o.dst (.slice (some ⟨Y, 0, none⟩) 1 1)) w') : wpList Tryd.prog ops Q (o :: rest) a w :=
  wpList_plain hg fun _ hK => wp_row_int v h1 x ho hx (hK _ _ (h _ _ (Rw.new w 3 [v]) ((Below.refl _ _).alloc (Nat.le_refl _) _)))
/-- An int is appended. -/
theorem wpList_own_int (s x : Operand) (hg : o.guard = none) (ho : o.op = .call { callee := .builtin .append, args := #[s, x], argTypes := #[123, 123] })
    (base : Nat) (v : Value) (n : Nat) (xs : List Value) (hs : a.eval s = v) (hown : w.ownsRow base 3 1 v n xs) (Y : Nat) (u : Value) (hx : a.eval x = .slice (some ⟨Y, 0, none⟩) 1 1) (hr : Rw w Y 3 [u]) (h1 : u.oneCell' = true) (hn : n ≤ 100000) (hbase : base ≤ w.heap.size)
    (h : ∀ v' w', w'.ownsRow base 3 1 v' (n + 1) (xs ++ [u]) → w.grownBy w' v.ownBlock → (v'.ownBlock = v.ownBlock ∨ v'.ownBlock = some w.heap.size) → wpList Tryd.prog ops Q rest (a.put o.dst v') w') : wpList Tryd.prog ops Q (o :: rest) a w := by
  obtain ⟨i0, hi, hz0, hz1, hz2⟩ := info_parts0 info_int
  exact wpList_plain hg fun _ hK => wp_own_at s x 123 ho base 3 i0 (.int .i64 0) 1 8 Tryd.underlying123 hi hz0 hz1 hz2 rfl (by decide) v n xs hs hown Y [u] hx rfl hr (fun t ht => by rw [List.mem_singleton.1 ht]; exact h1) (by unfold maxLen; omega) (by omega) hbase (fun v' w' a b c => hK _ _ (h v' w' a b c))
end
theorem own_pos {w : World} {base : Nat} {e : TypeId} {s n : Nat} {v : Value} {xs : List Value} (h : w.ownsRow base e s v n xs) (hn : 0 < n) : ∃ g cap, v = .slice (some ⟨g, 0, none⟩) n cap := by
  obtain ⟨m, rfl⟩ : ∃ m, n = m + 1 := ⟨n - 1, by omega⟩
  exact own_succ h
set_option maxHeartbeats 6400000 in
set_option maxRecDepth 100000 in
theorem alt_step (n : Nat) (HS : ∀ m, m ≤ n → SeqC m) : AltC (n + 1) := fun R d l X V F w D h hD hd hX hf hn => by
  obtain ⟨O, hO⟩ : ∃ O, altN (n + 1) d l = O := ⟨_, rfl⟩
  rw [hO]
  have HO : Unit → outA [] (altN (n + 1) d l) = O := fun _ => by rw [hO, outA_nil]
  have HS' : Unit → ∀ m, m ≤ n → SeqC m := fun _ => HS
  have HF : Unit → Fb X := fun _ => hf
  have HD : Unit → D = (d : Int) := fun _ => hD
  clear hO HS hf hD
  have K := Lib.hid (addStep_any R noSet l X V F w h (by omega))
  have hX0 : X.length ≤ 300 := by omega
  go_enter Tryd.func69, Tryd.ntmps69
  go_wp2_with (refine wpList_exec (exec_empty (setRow noSet) zero_class rfl _) rfl ?_)
  refine K.out.mono ?_
  rintro e w1 ⟨rfl, V1, F1, h1, g1⟩
  clear K
  go_upto_region 3 with fail
  go_loopw [6] (fun ev wr => ∃ m L s V' F', outA L (altN m d s) = O ∧ 4 * s.length + 4 ≤ m ∧ m ≤ n + 1 ∧ RdAt wr R s (altS X L) V' F' ∧ Grow R V F V' F' w wr ∧ EndsAt wr R w.heap.size V' F' ev (endL L (X.length + 1)) ∧ X.length + lenL L + s.length + 1 ≤ 300 ∧ ∀ q ∈ L, okS q) (fun _ wr => restLen wr R)
  case atStart => exact ⟨n + 1, [], l, V1, F1, HO (), hn, Nat.le_refl _, h1, g1, ⟨World.ownsRow_nil _ _ _ _, fun k e => by cases e⟩, by rw [lenL]; omega, fun q hq => by cases hq⟩
  case round =>
    obtain ⟨m, L, s, V2, F2, hO, hm, hm1, h2, g2, hE, hl, hok⟩ := hrel
    have HQ : Unit → outA L (altN m d s) = O := fun _ => hO
    have HOK : Unit → ∀ q ∈ L, okS q := fun _ => hok
    have hfb0 := altS_fb (HF ()) hok (by omega)
    clear hO HO h1 g1 hn h hok
    obtain ⟨m, rfl⟩ : ∃ k, m = k + 1 := ⟨m - 1, by omega⟩
    have hlen := h2.q.len
    have c2 := h2.q.steps
    obtain ⟨a2, c2', rfl⟩ := rd_len h2
    have hlL := len_le L
    have KL := lead_any R X.length (X.length + 1 + lenL L) s (altS X L) _ F2 wr h2 _ (altS_get X L) (by simp only [begL_length]; omega) (by rw [altS_len]; omega)
    have hSl := altS_len X L
    obtain ⟨N, hN⟩ : ∃ N, X.length + 1 + lenL L = N := ⟨_, rfl⟩
    rw [hN] at KL hSl
    rw [hSl] at c2 KL g2 hE
    have HSL : Unit → (altS X L).length = N := fun _ => hSl
    have HN : Unit → X.length + 1 + lenL L = N := fun _ => hN
    have hNi : N ≤ 301 := by omega
    clear hSl hN
    replace KL := Lib.hid KL
    have hfb1 : Fb (leadL (altS X L) X.length N) := by
      rw [altS, leadL_at _ rfl]
      rw [altS] at hfb0
      refine Fb.app hfb0.left fun t ht => ?_
      rcases List.mem_cons.1 ht with rfl | ht
      · simp only [List.length_append, begL_length, List.length_singleton]; omega
      · exact hfb0.right t (List.mem_cons_of_mem _ ht)
    have HB1 : Unit → Fb (leadL (altS X L) X.length N) := fun _ => hfb1
    have hS2 : (leadL (altS X L) X.length N).length = N := by rw [leadL_length]; exact HSL ()
    have HSM := HS' () m (by omega) R d s (leadL (altS X L) X.length N)
    rw [hS2] at HSM
    have hgood := fun q r => (reads_good m).2.1 d s q r
    obtain ⟨o, ho⟩ : ∃ o, seqN m d s = o := ⟨_, rfl⟩
    rw [ho] at HSM hgood
    have HM : Unit → seqN m d s = o := fun _ => ho
    have hN' := HN ()
    have KS := Lib.hid fun V F w h => HSM V F w D h (HD ()) hd (by omega) hfb1 (by omega)
    clear ho hfb0 hfb1 HSM hN'
    have HS2 : Unit → (leadL (altS X L) X.length N).length = N := fun _ => hS2
    clear hS2
    cases o with
    | er er =>
      have hON : O = .er er := by rw [← HQ ()]; exact alt_er (HM ()) L
      subst hON
      have hne := erV_ne er
      clear HQ hgood hlen hm h2
      go_wp2_with fail
      refine KL.out.mono ?_
      rintro e w3 ⟨rfl, V3, F3, h3, g3⟩
      have g4 := g2.trans g3
      clear KL g2 g3 c2
      go_wp2_with fail
      refine (KS.out _ _ _ h3).mono ?_
      rintro e w4 ⟨rfl, hA⟩
      clear KS
      go_wp2_with fail
      go_ret
      exact ⟨rfl, g4.andAsd hA⟩
    | ok q r =>
      obtain ⟨hokq, hlq⟩ := hgood q r rfl
      clear hgood h2
      obtain ⟨E, hEe⟩ : ∃ E, N + lenS q = E := ⟨_, rfl⟩
      have hEi : E ≤ 400 := by have := HN (); omega
      go_wp2_with fail
      refine KL.out.mono ?_
      rintro e w3 ⟨rfl, V3, F3, h3, g3⟩
      have g4 := g2.trans g3
      have hE3 := hE.grow g3
      clear KL g2 g3 c2 hE
      go_wp2_with fail
      refine (KS.out _ _ _ h3).mono ?_
      rintro e w4 ⟨rfl, V4, F4, h4, g5⟩
      have g6 := g4.trans g5
      have hE4 := hE3.grow g5
      clear KS g4 g5 hE3 h3
      have K6 := addStep_any R noSet r _ V4 F4 w4 h4 (by rw [List.length_append, HS2 (), stS_length]; omega)
      rw [show ((leadL (altS X L) X.length N ++ stS q N).length : Nat) = E by rw [List.length_append, HS2 (), stS_length]; exact hEe] at K6
      rw [show (leadL (altS X L) X.length N ++ stS q N) ++ [⟨noSet, []⟩] = altS X (L ++ [q]) by rw [← HN ()]; exact altS_more X L q] at K6
      replace K6 := Lib.hid K6
      obtain ⟨ae, ce, eqE, _⟩ := own_slice hE4.1
      subst eqE
      go_wp2_with (refine wpList_exec (exec_empty (setRow noSet) zero_class rfl _) rfl ?_)
      refine K6.out.mono ?_
      rintro e w5 ⟨rfl, V5, F5, h5, g7⟩
      have g8 := g6.trans g7
      have hE5 := hE4.grow g7
      clear K6 g6 g7 hE4 h4
      go_wp2_with (refine wpList_row_int (intV E) rfl _ rfl rfl rfl ?_)
      intro Y w6 rY hb6
      have h6 := h5.stay hb6
      have g9 := g8.trans (Grow.below hb6)
      have hE6 := hE5.stay hb6
      have hw6 := g9.asd.size
      have hR6 := Rw.lt h6.q
      have hel : (endL L (X.length + 1)).length ≤ 100000 := by rw [endL_length]; omega
      clear hE5 h5 g8 hb6
      go_wp2_with (refine wpList_own_int (.tmp 27) (.tmp 31) rfl rfl (R + 1) _ _ _ rfl hE6.1 Y (intV E) rfl rY rfl hel (by omega) ?_)
      intro v' w7 hO7 hg7 hl7
      obtain ⟨hE7, h7, hA7⟩ := hE6.snoc h6 hw6 hO7 hg7 hl7
      have g10 := g9.ends hE6 hA7
      rw [show endL L (X.length + 1) ++ [E] = endL (L ++ [q]) (X.length + 1) by rw [endL_snoc, HN (), hEe]] at hE7
      clear hO7 hg7 hl7 hE6 h6 hA7 g9 rY
      have hLq : lenL (L ++ [q]) = lenL L + lenS q + 1 := lenL_snoc L q
      have hN' := HN ()
      have hS7 := altS_len X (L ++ [q])
      rw [hLq] at hS7
      obtain ⟨M, hM⟩ : ∃ M, E + 1 = M := ⟨_, rfl⟩
      have hS7' : (altS X (L ++ [q])).length = M := by omega
      have HS7 : Unit → (altS X (L ++ [q])).length = M := fun _ => hS7'
      have hLq' : X.length + 1 + lenL (L ++ [q]) = M := by omega
      have HLq : Unit → X.length + 1 + lenL (L ++ [q]) = M := fun _ => hLq'
      have hMi : M ≤ 400 := by omega
      have hlr : X.length + lenL (L ++ [q]) + r.length ≤ 300 := by omega
      have hok7 : ∀ p ∈ L ++ [q], okS p := fun p hp => by
        rcases List.mem_append.1 hp with hp | hp
        · exact HOK () p hp
        · rw [List.mem_singleton.1 hp]; exact hokq
      have hlrs : r.length ≤ s.length := by omega
      have hl1 : X.length + lenL (L ++ [q]) + r.length + 1 ≤ 301 := by omega
      clear hN' hS7 hS7' hLq' hLq HSL HN hEe hM
      have K8 := take_any R 124 r V5 w7 h7.q 124 rfl
      by_cases h124 : r.head? = some 124
      · obtain ⟨r', rfl⟩ : ∃ r', r = 124 :: r' := by
          cases r with
          | nil => cases h124
          | cons y r' => exact ⟨r', by rw [List.head?_cons] at h124; injection h124 with h124; rw [h124]⟩
        rw [show nextIs 124 (124 :: r') = true by simp [nextIs], show dropIf 124 (124 :: r') = r' by simp [dropIf]] at K8
        have hON : Unit → outA (L ++ [q]) (altN m d r') = O := fun _ => by rw [← HQ ()]; exact (alt_more (HM ()) L).symm
        simp only [List.length_cons] at hlrs hlr
        replace K8 := Lib.hid K8
        clear HQ HM
        go_wp2_with fail
        refine K8.out.mono ?_
        rintro e w8 ⟨rfl, q8, hA8⟩
        have h8 := h7.turn q8 hA8
        have g11 := g10.trans (Grow.turn hA8)
        have hE8 := hE7.grow (Grow.turn (V := V5) (F := F5) hA8)
        have hl8 := q8.len
        clear K8 h7 g10 hE7 q8 hA8
        go_wp2_with fail
        go_roundw
        case rel => exact ⟨m, L ++ [q], r', V5, F5, hON (), by omega, by omega, h8, g11, hE8, by omega, hok7⟩
        case measure => rw [hl8, hlen]; omega
      · rw [show nextIs 124 r = false by simp [nextIs, h124], drop_no h124] at K8
        have hON : O = .ok (preA L (.one q)) r := by rw [← HQ ()]; exact alt_one (HM ()) h124 L
        subst hON
        replace K8 := Lib.hid K8
        clear HQ HM hlen hm hm1 hlrs
        go_wp2_with fail
        refine K8.out.mono ?_
        rintro e w8 ⟨rfl, q8, hA8⟩
        have h8 := h7.turn q8 hA8
        have g11 := g10.trans (Grow.turn hA8)
        have hE8 := hE7.grow (Grow.turn (V := V5) (F := F5) hA8)
        clear K8 h7 g10 hE7 q8 hA8
        have hes : (endL (L ++ [q]) (X.length + 1)).length = L.length + 1 := by rw [endL_length, List.length_append]; rfl
        have hmem : Unit → ∀ e, e ∈ endL (L ++ [q]) (X.length + 1) → e < M := fun _ e he => by have := (endL_mem he).2; have := HLq (); omega
        have hgrp : Unit → foldE (altS X (L ++ [q])) M (endL (L ++ [q]) (X.length + 1)) = X ++ stR (.grp (preA L (.one q))) X.length := fun _ => by rw [← HLq ()]; exact foldE_group X L q
        have hfr : Unit → Fb (altS X (L ++ [q])) := fun _ => altS_fb (HF ()) hok7 (by have := HLq (); omega)
        obtain ⟨es, ees⟩ : ∃ es, endL (L ++ [q]) (X.length + 1) = es := ⟨_, rfl⟩
        rw [ees] at hE8 hes hmem hgrp
        obtain ⟨T, hT⟩ : ∃ T, altS X (L ++ [q]) = T := ⟨_, rfl⟩
        rw [hT] at h8 hgrp hfr HS7
        obtain ⟨g8, cap8, rfl⟩ := own_pos hE8.1 (by omega)
        have hesi : es.length ≤ 400 := by omega
        clear ees hT HLq hok7 hes
        go_upto_region 10 with fail
        go_loopw [38] (fun i wr => ∃ (k : Nat) (V' : Value) (F' : List Value), k ≤ es.length ∧ i = .int .i64 (k : Int) ∧ RdAt wr R r (foldE T M (es.take k)) V' F' ∧ Grow R V F V' F' w wr ∧ EndsAt wr R w.heap.size V' F' (.slice (some ⟨g8, 0, none⟩) es.length cap8) es) (fun i _ => es.length - (intOf i).toNat)
        case atStart => exact ⟨0, V5, F5, Nat.zero_le _, rfl, h8, g11, hE8⟩
        case round =>
          obtain ⟨k, V9, F9, hk, rfl, h9, g12, hE9⟩ := hrel
          clear h8 g11 hE8
          by_cases hlt : k < es.length
          · have hki : (k : Int) < (es.length : Int) := by omega
            obtain ⟨e, he⟩ : ∃ e, es[k]? = some e := ⟨_, List.getElem?_eq_getElem hlt⟩
            have hc := hE9.1.cellAt k (by omega)
            rw [List.getElem?_map, he] at hc
            change _ = some (Value.int .i64 (e : Int)) at hc
            have hS9 : (foldE T M (es.take k)).length = M := by rw [foldE_len]; exact HS7 ()
            have heM := hmem () e (List.mem_of_getElem? he)
            obtain ⟨t, ht⟩ : ∃ t, (foldE T M (es.take k))[e]? = some t := ⟨_, List.getElem?_eq_getElem (by rw [hS9]; exact heM)⟩
            have htf := foldE_free (E := M) (es.take k) (hfr ()) t (List.mem_of_getElem? ht)
            rw [List.length_take] at htf
            have K9 := Lib.hid (lead_any R e M r _ V9 F9 wr h9 t ht (by omega) (by omega))
            obtain ⟨a9, c9, eV9⟩ := rd_len h9
            rw [hS9] at eV9
            subst eV9
            have cs9 := h9.q.steps
            have hTk : foldE T M (es.take (k + 1)) = leadL (foldE T M (es.take k)) e M := by rw [take_more he, foldE_snoc]
            have HTk : Unit → _ := fun _ => hTk
            clear hTk ht htf h9 hS9 he heM
            go_wp2_with fail
            refine K9.out.mono ?_
            rintro e' w10 ⟨rfl, V10, F10, h10, g13⟩
            rw [← HTk ()] at h10
            have hE10 := hE9.grow g13
            have g14 := g12.trans g13
            clear K9 cs9 hc g12 g13 hE9
            go_wp2_with fail
            go_roundw
            case rel => exact ⟨k + 1, V10, F10, by omega, by go_num, h10, g14, hE10⟩
            case measure => simp [intOf]; omega
          · have hke : k = es.length := by omega
            rw [hke, List.take_length, hgrp ()] at h9
            have hnot : ¬ ((k : Int) < (es.length : Int)) := by omega
            clear hE9 hke
            go_wp2_with fail
            go_ret
            exact ⟨rfl, V9, F9, h9, g12⟩
end Go.Proofs.YteooofakpkbgoaaDoor
/- A pattern is read. -/
namespace Go.Proofs.YteooofakpkbgoaaDoor
open Go.ChangeShapes Go.WideShapes Go.RowKit

theorem reads_all (n : Nat) : AltC n ∧ SeqC n ∧ PartC n ∧ AtomC n := by
  induction n using Nat.strongRecOn with
  | ind n ih => cases n with
    | zero => exact ⟨fun R d l X V F w D _ _ _ _ _ h => by omega, fun R d l X V F w D _ _ _ _ _ h => by omega, fun R d c l X V F w D _ _ _ _ _ h => by omega, fun R d c l X V F w D _ _ _ _ _ h => by omega⟩
    | succ n => exact ⟨alt_step n fun m h => (ih m (by omega)).2.1, seq_step n fun m h => (ih m (by omega)).2.2.1, part_step n (ih n (by omega)).2.2.2, atom_step n (ih n (by omega)).1⟩
/-- A pattern in memory: its text, its steps. -/
structure PatAt (w : World) (G base : Nat) (t : Bs) (S : List Stp) (V : Value) (F : List Value) : Prop where
  row : Rw w G 110 [sv t, V]
  st : StepsAt w base V S F
theorem PatAt.keep {w w' : World} {G base : Nat} {t : Bs} {S : List Stp} {V : Value} {F : List Value} {T : Nat → Prop} (h : PatAt w G base t S V F) (k : Asd T w w') (h1 : ¬ T G) (h2 : ∀ i, Foot V F i → ¬ T i) : PatAt w' G base t S V F := ⟨h.row.keep k h1, h.st.keep k h2⟩
theorem PatAt.stay {w w' : World} {G base : Nat} {t : Bs} {S : List Stp} {V : Value} {F : List Value} (h : PatAt w G base t S V F) (k : Below w.heap.size w w') : PatAt w' G base t S V F := ⟨h.row.stay k, h.st.stay k⟩
/-- The pattern of a text, or what stands in the way. -/
def resP : Res Al → Option Al
  | .ok a _ => some a
  | .er _ => none
def resE : Res Al → Int
  | .ok _ _ => 0
  | .er e => erV e
def patM (p : Bs) : Option Al := if 100 < p.length then none else resP (readN p)
def errM (p : Bs) : Int := if 100 < p.length then 4 else resE (readN p)
def stepsM (a : Al) : List Stp := stR (.grp a) 0
def ReadQ (p : Bs) (w : World) (e : Ending) (w' : World) : Prop := Below w.heap.size w w' ∧ match patM p with
  | none => e = .returned (.tuple #[.pointer none, .int .i64 (errM p)])
  | some a => ∃ G V F, e = .returned (.tuple #[.pointer (some ⟨G, 0, none⟩), .int .i64 0]) ∧ w.heap.size ≤ G ∧ PatAt w' G w.heap.size p (stepsM a) V F
theorem readN_er {p : Bs} {e : Er} (h : altN (4 * p.length + 4) 0 p = .er e) : readN p = .er e := by unfold readN; rw [h]
theorem readN_end {p : Bs} {a : Al} (h : altN (4 * p.length + 4) 0 p = .ok a []) : readN p = .ok a [] := by unfold readN; rw [h]
theorem readN_more {p r : Bs} {a : Al} {c : UInt8} (h : altN (4 * p.length + 4) 0 p = .ok a (c :: r)) : readN p = .er .form := by unfold readN; rw [h]
theorem foot_void (k : Nat) : ¬ Foot (.slice none 0 0) [] k := by
  rintro (e | ⟨f, hf, _⟩)
  · cases e
  · cases hf
theorem StepsAt.mono {w : World} {b b' : Nat} {V : Value} {S : List Stp} {F : List Value} (h : StepsAt w b V S F) (hb : ∀ k, Foot V F k → b' ≤ k) : StepsAt w b' V S F := by
  have up : ∀ {e : TypeId} {s n : Nat} {v : Value} {xs : List Value}, w.ownsRow b e s v n xs → (∀ k, v.ownBlock = some k → b' ≤ k) → w.ownsRow b' e s v n xs := fun {e s n v xs} hr hk => by
    rcases hr with ⟨h1, h2 | ⟨g, cap, cur, rfl, hg, h3⟩⟩
    · exact ⟨h1, .inl h2⟩
    · exact ⟨h1, .inr ⟨g, cap, cur, rfl, hk g rfl, h3⟩⟩
  exact ⟨h.len, up h.row fun k e => hb k (.inl e), fun i s f h1 h2 => up (h.free i s f h1 h2) fun k e => hb k (.inr ⟨f, List.mem_of_getElem? h2, e⟩), h.off, h.two⟩
set_option maxHeartbeats 1600000 in
set_option maxRecDepth 100000 in
theorem read_any (p : Bs) (w : World) (hp : p.length ≤ 100000) : Calls Tryd.prog 51 #[.string ⟨p.toArray⟩] w (ReadQ p w) := by
  have hsz : (⟨p.toArray⟩ : ByteArray).size = p.length := by simp [ByteArray.size]
  unfold ReadQ
  by_cases hl : 100 < p.length
  · rw [show patM p = none by unfold patM; rw [if_pos hl], show errM p = 4 by unfold errM; rw [if_pos hl]]
    have hgt : (100 : Int) < ((⟨p.toArray⟩ : ByteArray).size : Int) := by rw [hsz]; omega
    clear hsz
    generalize (⟨p.toArray⟩ : ByteArray) = T at *
    go_enter Tryd.func51, Tryd.ntmps51
    go_wp2_with fail
    go_ret2
    exact ⟨Below.refl _ _, rfl⟩
  · have hgt : ¬ ((100 : Int) < ((⟨p.toArray⟩ : ByteArray).size : Int)) := by rw [hsz]; omega
    clear hsz
    obtain ⟨o, ho⟩ : ∃ o, altN (4 * p.length + 4) 0 p = o := ⟨_, rfl⟩
    cases o with
    | er er =>
      have hr := readN_er ho
      rw [show patM p = none by unfold patM; rw [if_neg hl, hr]; rfl, show errM p = erV er by unfold errM; rw [if_neg hl, hr]; rfl]
      have hne := erV_ne er
      have hne2 : (erV er == 0) = false := by cases er <;> rfl
      clear hr
      obtain ⟨T, hT⟩ : ∃ T, (⟨p.toArray⟩ : ByteArray) = T := ⟨_, rfl⟩
      have r1 := Rw.new w 107 [sv p, .slice none 0 0]
      have hb1 := (Below.refl w.heap.size w).alloc (Nat.le_refl _) (.cells [sv p, .slice none 0 0].toArray 107)
      rw [show sv p = .string T by rw [← hT]; rfl] at hb1
      have r1' : Rq (w.alloc (.cells #[.string T, .slice none 0 0] 107)) w.heap.size p (.slice none 0 0) := by rw [← hT]; exact r1
      change Below w.heap.size w (w.alloc (.cells #[.string T, .slice none 0 0] 107)) at hb1
      have HT : Unit → (⟨p.toArray⟩ : ByteArray) = T := fun _ => hT
      rw [hT] at hgt ⊢
      clear hT r1
      go_enter Tryd.func51, Tryd.ntmps51
      go_upto_region 4 with fail
      generalize w.alloc (.cells #[.string T, .slice none 0 0] 107) = w1 at *
      have h1 : RdAt w1 w.heap.size p [] (.slice none 0 0) [] := ⟨r1', StepsAt.void _ _⟩
      have K := (reads_all (4 * p.length + 4)).1 w.heap.size 0 p [] (.slice none 0 0) [] w1 0 h1 rfl (by omega) (by simp; omega) (fun s hs => by cases hs) (Nat.le_refl _)
      rw [ho] at K
      have hsz1 := hb1.size
      clear r1' h1 ho
      replace K := Lib.hid K
      go_wp2_with fail
      refine K.out.mono ?_
      rintro e w2 ⟨rfl, hA⟩
      have hB : Below w.heap.size w w2 := hb1.trans (hA.toBelow hsz1 fun k hk => by rcases hk with rfl | hk; exact Nat.le_refl _; exact absurd hk (foot_void k))
      clear K hb1 hsz1 hA
      go_wp2_with fail
      go_ret2
      exact ⟨hB, rfl⟩
    | ok a r =>
      cases r with
      | cons c r =>
        have hr := readN_more ho
        rw [show patM p = none by unfold patM; rw [if_neg hl, hr]; rfl, show errM p = 2 by unfold errM; rw [if_neg hl, hr]; rfl]
        clear hr
        obtain ⟨T, hT⟩ : ∃ T, (⟨p.toArray⟩ : ByteArray) = T := ⟨_, rfl⟩
        have r1 := Rw.new w 107 [sv p, .slice none 0 0]
        have hb1 := (Below.refl w.heap.size w).alloc (Nat.le_refl _) (.cells [sv p, .slice none 0 0].toArray 107)
        rw [show sv p = .string T by rw [← hT]; rfl] at hb1
        have r1' : Rq (w.alloc (.cells #[.string T, .slice none 0 0] 107)) w.heap.size p (.slice none 0 0) := by rw [← hT]; exact r1
        change Below w.heap.size w (w.alloc (.cells #[.string T, .slice none 0 0] 107)) at hb1
        have HT : Unit → (⟨p.toArray⟩ : ByteArray) = T := fun _ => hT
        rw [hT] at hgt ⊢
        clear hT r1
        go_enter Tryd.func51, Tryd.ntmps51
        go_upto_region 4 with fail
        generalize w.alloc (.cells #[.string T, .slice none 0 0] 107) = w1 at *
        have h1 : RdAt w1 w.heap.size p [] (.slice none 0 0) [] := ⟨r1', StepsAt.void _ _⟩
        have K := (reads_all (4 * p.length + 4)).1 w.heap.size 0 p [] (.slice none 0 0) [] w1 0 h1 rfl (by omega) (by simp; omega) (fun s hs => by cases hs) (Nat.le_refl _)
        rw [ho] at K
        have hsz1 := hb1.size
        clear r1' h1 ho
        replace K := Lib.hid K
        go_wp2_with fail
        refine K.out.mono ?_
        rintro e w2 ⟨rfl, V2, F2, h2, g2⟩
        have hA := g2.asd
        have hB : Below w.heap.size w w2 := hb1.trans (hA.toBelow hsz1 fun k hk => by rcases hk with rfl | hk; exact Nat.le_refl _; exact absurd hk (foot_void k))
        have c2 := h2.q.rest
        have he := full_text c r
        generalize (⟨(c :: r).toArray⟩ : ByteArray) = Y at c2 he
        clear K hb1 hsz1 hA g2 h2
        go_wp2_with fail
        go_ret2
        exact ⟨hB, rfl⟩
      | nil =>
        have hr := readN_end ho
        rw [show patM p = some a by unfold patM; rw [if_neg hl, hr]; rfl]
        clear hr
        obtain ⟨T, hT⟩ : ∃ T, (⟨p.toArray⟩ : ByteArray) = T := ⟨_, rfl⟩
        have r1 := Rw.new w 107 [sv p, .slice none 0 0]
        have hb1 := (Below.refl w.heap.size w).alloc (Nat.le_refl _) (.cells [sv p, .slice none 0 0].toArray 107)
        rw [show sv p = .string T by rw [← hT]; rfl] at hb1
        have r1' : Rq (w.alloc (.cells #[.string T, .slice none 0 0] 107)) w.heap.size p (.slice none 0 0) := by rw [← hT]; exact r1
        change Below w.heap.size w (w.alloc (.cells #[.string T, .slice none 0 0] 107)) at hb1
        have HT : Unit → (⟨p.toArray⟩ : ByteArray) = T := fun _ => hT
        rw [hT] at hgt ⊢
        clear hT r1
        go_enter Tryd.func51, Tryd.ntmps51
        go_upto_region 4 with fail
        generalize w.alloc (.cells #[.string T, .slice none 0 0] 107) = w1 at *
        have h1 : RdAt w1 w.heap.size p [] (.slice none 0 0) [] := ⟨r1', StepsAt.void _ _⟩
        have K := (reads_all (4 * p.length + 4)).1 w.heap.size 0 p [] (.slice none 0 0) [] w1 0 h1 rfl (by omega) (by simp; omega) (fun s hs => by cases hs) (Nat.le_refl _)
        rw [ho] at K
        have hsz1 := hb1.size
        clear r1' h1 ho
        replace K := Lib.hid K
        go_wp2_with fail
        refine K.out.mono ?_
        rintro e w2 ⟨rfl, V2, F2, h2, g2⟩
        have hA := g2.asd
        have hB : Below w.heap.size w w2 := hb1.trans (hA.toBelow hsz1 fun k hk => by rcases hk with rfl | hk; exact Nat.le_refl _; exact absurd hk (foot_void k))
        have c2 := h2.q.rest
        have c3 := h2.q.steps
        have he := null_text
        generalize (⟨([] : Bs).toArray⟩ : ByteArray) = Y at c2 he
        have r3 := Rw.new w2 110 [sv p, V2]
        have hb3 := (Below.refl w2.heap.size w2).alloc (Nat.le_refl _) (.cells [sv p, V2].toArray 110)
        have s3 := h2.st.stay hb3
        rw [show sv p = .string T by rw [← HT ()]; rfl] at hb3 s3 r3
        have hsz2 := hB.size
        obtain ⟨aV, cV, eV, _⟩ := own_slice h2.st.row
        subst eV
        clear K hb1 hsz1 hA h2 g2
        go_wp2_with fail
        go_ret2
        refine ⟨hB.trans (hb3.mono hsz2), w2.heap.size, _, F2, rfl, hsz2, ⟨?_, s3.mono fun k hk => ?_⟩⟩
        · rw [show sv p = .string T by rw [← HT ()]; rfl]
          exact r3
        · have := (s3.lt hk).1; omega
/-- Right. -/
theorem right_any (p : Bs) (w : World) (hp : p.length ≤ 100000) : Calls Tryd.prog 40 #[.string ⟨p.toArray⟩] w fun e w' => e = .returned (.int .i64 (errM p)) ∧ Below w.heap.size w w' := by
  have K := Lib.hid (read_any p w hp)
  have hE : ∀ a, patM p = some a → errM p = 0 := fun a h => by
    unfold patM at h
    unfold errM
    split at h
    · cases h
    · rename_i hl
      rw [if_neg hl]
      cases hr : readN p with
      | er e => rw [hr] at h; cases h
      | ok a r => rfl
  generalize (⟨p.toArray⟩ : ByteArray) = T at *
  go_enter Tryd.func40, Tryd.ntmps40
  go_wp2_with fail
  refine K.out.mono ?_
  rintro e w1 ⟨hB, hm⟩
  clear K
  cases hP : patM p with
  | none =>
    rw [hP] at hm
    obtain rfl := hm
    clear hP hE
    go_wp2_with fail
    go_ret
    exact ⟨rfl, hB⟩
  | some a =>
    rw [hP] at hm
    obtain ⟨G, V, F, rfl, _⟩ := hm
    have h0 := hE a hP
    clear hE hP
    go_wp2_with fail
    go_ret
    exact ⟨by rw [h0]; rfl, hB⟩
end Go.Proofs.YteooofakpkbgoaaDoor
/- The search over the steps that are reached without a byte. -/
namespace Go.Proofs.YteooofakpkbgoaaDoor
open Go.ChangeShapes Go.WideShapes Go.RowKit Go.Maps

/-- The steps lead nowhere else, and not to many. -/
structure Tame (S : List Stp) : Prop where
  dest : ∀ s ∈ S, ∀ x ∈ s.free, x ≤ S.length
  few : Fb S
  len : S.length ≤ 1000
/-- The map holds D, which are numbers of steps. -/
structure MapAt (w : World) (mb N : Nat) (D : DataW Unit) : Prop where
  own : ∃ n, w.ownsMap Tryd.prog 3 unitElem mb n D ∧ n + lackM D N ≤ N + 1
  up : UpM D N
theorem MapAt.keep {w w' : World} {mb N : Nat} {D : DataW Unit} {T : Nat → Prop} (h : MapAt w mb N D) (k : Asd T w w') (hm : ¬ T mb) : MapAt w' mb N D := by
  obtain ⟨⟨n, ⟨es, clock, hb, r⟩, hn⟩, hu⟩ := h
  exact ⟨⟨n, ⟨es, clock, by rw [k.block mb (Array.getElem?_eq_some_iff.1 hb).1 hm]; exact hb, r⟩, hn⟩, hu⟩
theorem MapAt.lt {w : World} {mb N : Nat} {D : DataW Unit} (h : MapAt w mb N D) : mb < w.heap.size := by
  obtain ⟨⟨n, h1, _⟩, _⟩ := h
  exact h1.lt
def ReachQ (S : List Stp) (mb k : Nat) (D : DataW Unit) (w : World) (e : Ending) (w' : World) : Prop :=
  e = .returned (.tuple #[]) ∧ (∃ D', MapAt w' mb S.length D' ∧ Rch S (InM D) k (InM D') ∧ lackM D' S.length ≤ lackM D S.length) ∧ Asd (· = mb) w w'
def ReachC (G base : Nat) (t : Bs) (S : List Stp) (V : Value) (F : List Value) (mb m : Nat) : Prop :=
  ∀ (k : Nat) (D : DataW Unit) (w : World), PatAt w G base t S V F → MapAt w mb S.length D → k ≤ S.length → lackM D S.length < m →
    Calls Tryd.prog 93 #[.pointer (some ⟨G, 0, none⟩), .map (some mb), .int .i64 (k : Int)] w (ReachQ S mb k D w)
theorem in_put' {D : DataW Unit} (hD : IsMap D) (k : Nat) (u : DataW Unit) : InM (D.put (.int .i64 (k : Int)) u) = fun j => InM D j ∨ j = k := funext fun j => propext (in_put hD k u j)
theorem no_suc {S : List Stp} {m : Nat} : ¬ Suc S S.length m := by
  rintro ⟨st, h, _⟩
  have := (List.getElem?_eq_some_iff.1 h).1
  omega
theorem put_at {w' : World} {mb N n k : Nat} {D : DataW Unit} (hn : n + lackM D N ≤ N + 1) (hu : UpM D N) (hk : k ≤ N) (hD : IsMap D) (h0 : Maps.has D (.int .i64 (k : Int)) = false)
    (h : w'.ownsMap Tryd.prog 3 unitElem mb (n + 1) (D.put (.int .i64 (k : Int)) (.agg []))) : MapAt w' mb N (D.put (.int .i64 (k : Int)) (.agg [])) := by
  have := lack_put hD hk (.agg []) h0
  exact ⟨⟨n + 1, h, by omega⟩, up_put hk _ hu⟩
set_option maxHeartbeats 6400000 in
set_option maxRecDepth 100000 in
theorem reach_any (G base : Nat) (t : Bs) (S : List Stp) (V : Value) (F : List Value) (mb : Nat) (hT : Tame S) (hG : mb ≠ G) (hF : ¬ Foot V F mb) (m : Nat) : ReachC G base t S V F mb m := by
  induction m with
  | zero =>
    intro k D w hP hM hk hl
    omega
  | succ m ih =>
    intro k D w hP hM hk hl
    have IH : Unit → ReachC G base t S V F mb m := fun _ => ih
    have HT : Unit → Tame S := fun _ => hT
    clear ih hT
    obtain ⟨⟨n, hown, hn⟩, hup⟩ := hM
    have hkey := key_int (x := (k : Int)) (by omega) (by have := (HT ()).len; omega)
    have hki : (k : Int) ≤ (S.length : Int) := by omega
    have hN := (HT ()).len
    obtain ⟨aV, cV, eV, _⟩ := own_slice hP.st.row
    subst eV
    cases hh : Maps.has D (.int .i64 (k : Int)) with
    | true =>
      go_enter Tryd.func93, Tryd.ntmps93
      go_wp2_with (at_lookup; refine wpList_lookup_own_unit _ rfl _ _ 133 rfl 3 137 law_int Tryd.underlying133 (zero_unit _) mb n D rfl hown _ _ rfl hkey ?_)
      go_wp2_with fail
      have hA : Asd (· = mb) w (w.alloc (.cells #[] 137)) := (Asd.refl _ _).alloc _
      refine bodyPost_ret (results_none (by kernel_rfl) _ _ _) rfl ?_
      exact ⟨rfl, ⟨D, ⟨⟨n, World.ownsMap.alloc hown _, hn⟩, hup⟩, rch_hit hh, Nat.le_refl _⟩, hA⟩
    | false =>
      have hlp := lack_put hown.isMap hk (.agg []) hh
      have hkn : n < maxLen := by unfold maxLen; omega
      have hown1 := World.ownsMap.alloc hown (.cells #[] 137)
      have hput : ∀ w', _ → MapAt w' mb S.length _ := fun w' => put_at (w' := w') (mb := mb) hn hup hk hown.isMap hh
      have hin := in_put' hown.isMap k (.agg [])
      have hmlt := hown.lt
      have hA0 : Asd (· = mb) w (w.alloc (.cells #[] 137)) := (Asd.refl _ _).alloc _
      have hP0 := hP.stay ((Below.refl w.heap.size w).alloc (Nat.le_refl _) (.cells #[] 137))
      go_enter Tryd.func93, Tryd.ntmps93
      go_wp2_with (first | (at_lookup; refine wpList_lookup_own_unit _ rfl _ _ 133 rfl 3 137 law_int Tryd.underlying133 (zero_unit _) mb n D rfl hown _ _ rfl hkey ?_) | (at_mapUpdate; refine wpList_mapUpdate_own _ rfl _ _ _ 133 rfl 3 137 law_int Tryd.underlying133 (unitElem (H := Unit)) mb n D rfl hown1 hkn _ _ _ rfl rfl hkey _ [] unitElem_mk ?_))
      intro w5 hown5 hg5
      have hM5 := hput w5 hown5
      have hA5 : Asd (· = mb) w w5 := hA0.grown hg5 (fun j hj => by cases hj; exact .inl rfl)
      have hP5 := hP0.keep ((Asd.refl (· = mb) _).grown hg5 (fun j hj => by cases hj; exact .inl rfl)) (fun e => hG e.symm) (fun i hi e => hF (e ▸ hi))
      obtain ⟨D1, hD1⟩ : ∃ D1, D.put (.int .i64 (k : Int)) (.agg []) = D1 := ⟨_, rfl⟩
      rw [hD1] at hM5 hlp hin
      have HIN : Unit → InM D1 = fun j => InM D j ∨ j = k := fun _ => hin
      clear hput hown5 hg5 hown1 hown hP0 hA0 hD1 hn hup hP hkey hin hkn
      have c5 : w5.cell? ⟨G, 1, none⟩ = some (.slice aV S.length cV) := Rw.cell hP5.row 1
      by_cases hkN : k = S.length
      · have e : ((k : Int) == (S.length : Int)) = true := by rw [beq_iff_eq]; omega
        clear IH
        go_wp2_with fail
        refine bodyPost_ret (results_none (by kernel_rfl) _ _ _) rfl ?_
        refine ⟨rfl, ⟨D1, hM5, ?_, by omega⟩, hA5⟩
        have := rchL_start S (InM D) k
        rw [← HIN ()] at this
        exact this.stop fun j hj => by rw [hkN] at hj; exact absurd hj no_suc
      · have e : ((k : Int) == (S.length : Int)) = false := by rw [beq_eq_false_iff_ne]; omega
        have hkl : k < S.length := by omega
        have hkli : (k : Int) < (S.length : Int) := by omega
        obtain ⟨s, hs⟩ : ∃ s, S[k]? = some s := ⟨_, List.getElem?_eq_getElem hkl⟩
        obtain ⟨f, hf⟩ : ∃ f, F[k]? = some f := ⟨_, List.getElem?_eq_getElem (by rw [hP5.st.len]; exact hkl)⟩
        obtain ⟨Gs, cap, eV⟩ := own_pos hP5.st.row (by omega)
        injection eV with e1 _ e3
        subst e1 e3
        have hslot := steps_slot hP5.st hs hf
        have hrow := hP5.st.free k s f hs hf
        obtain ⟨af, cf, ef, _⟩ := own_slice hrow
        subst ef
        have hfew := (HT ()).few s (List.mem_of_getElem? hs)
        have hdest := fun x hx => (HT ()).dest s (List.mem_of_getElem? hs) x hx
        have hfi : (s.free.length : Int) ≤ 400 := by omega
        have HD : Unit → ∀ x ∈ s.free, x ≤ S.length := fun _ => hdest
        have HSu : Unit → ∀ x ∈ s.free, Suc S k x := fun _ x hx => ⟨s, hs, hx⟩
        have HSa : Unit → ∀ x, Suc S k x → x ∈ s.free := fun _ x ⟨s', h1, h2⟩ => by rw [hs] at h1; injection h1 with h1; rw [h1]; exact h2
        clear hdest hfew
        go_upto_region 5 with fail
        go_loopw [36] (fun i wr => ∃ (j : Nat) (D2 : DataW Unit), j ≤ s.free.length ∧ i = .int .i64 (j : Int) ∧ MapAt wr mb S.length D2 ∧ lackM D2 S.length ≤ lackM D1 S.length ∧ RchL S (InM D) k (s.free.take j) (InM D2) ∧ Asd (· = mb) w5 wr) (fun i _ => s.free.length - (intOf i).toNat)
        case atStart =>
          refine ⟨0, D1, Nat.zero_le _, rfl, hM5, Nat.le_refl _, ?_, Asd.refl _ _⟩
          have := rchL_start S (InM D) k
          rw [← HIN ()] at this
          exact this
        case round =>
          obtain ⟨j, D2, hj, rfl, hM2, hl2, hr2, hA2⟩ := hrel
          by_cases hlt : j < s.free.length
          · have hji : (j : Int) < (s.free.length : Int) := by omega
            obtain ⟨x, hx⟩ : ∃ x, s.free[j]? = some x := ⟨_, List.getElem?_eq_getElem hlt⟩
            have hP2 := hP5.keep hA2 (fun e => hG e.symm) (fun i hi e => hF (e ▸ hi))
            have hrow2 := hP2.st.free k s _ hs hf
            obtain ⟨gf, capf, ef⟩ := own_pos hrow2 (by omega)
            injection ef with e1 _ e3
            subst e1 e3
            have hc := hrow2.cellAt j (by omega)
            rw [List.getElem?_map, hx] at hc
            change _ = some (Value.int .i64 (x : Int)) at hc
            have hxm := List.mem_of_getElem? hx
            have K := Lib.hid (IH () x D2 wr hP2 hM2 (HD () x hxm) (by omega))
            have hsx := HSu () x hxm
            have htk := take_more hx
            clear hP2 hrow2
            go_wp2_with fail
            refine K.out.mono ?_
            rintro e' w6 ⟨rfl, ⟨D3, hM3, hr3, hl3⟩, hA3⟩
            have hr4 := hr2.step hsx hr3
            rw [← htk] at hr4
            clear K hc hr2 hr3
            go_wp2_with fail
            go_roundw
            case rel => exact ⟨j + 1, D3, by omega, by go_num, hM3, by omega, hr4, hA2.andThen hA3⟩
            case measure => simp [intOf]; omega
          · have hje : j = s.free.length := by omega
            have hnot : ¬ ((j : Int) < (s.free.length : Int)) := by omega
            rw [hje, List.take_length] at hr2
            have hfin := hr2.stop (HSa ())
            clear hje hr2 IH
            go_wp2_with fail
            refine bodyPost_end (results_none (by kernel_rfl) _ _ _) rfl ?_
            exact ⟨rfl, ⟨D2, hM2, hfin, by omega⟩, hA5.andThen hA2⟩
end Go.Proofs.YteooofakpkbgoaaDoor
/- Whether a text fits. -/
namespace Go.Proofs.YteooofakpkbgoaaDoor
open Go.ChangeShapes Go.WideShapes Go.RowKit Go.Maps

theorem tame_steps {a : Al} (ho : okA a) (hl : lenA a ≤ 200) : Tame (stepsM a) := by
  have hlen : (stepsM a).length = lenR (.grp a) := stR_length _ _
  have hle : lenR (.grp a) ≤ 201 := by rw [lenR]; omega
  refine ⟨fun s hs x hx => ?_, Fb.ofR (by rw [okR]; exact ho) (by omega), by omega⟩
  have := (clR (.grp a) 0 s hs x hx).2
  omega
theorem has_nil (l : Lit) : Maps.has (.map [] : DataW Unit) l = false := rfl
theorem map_nil {w : World} {mb N n : Nat} (h : w.ownsMap Tryd.prog 3 unitElem mb n (.map [] : DataW Unit)) (hn : n = 0) : MapAt w mb N (.map []) :=
  ⟨⟨n, h, by rw [lack_nil]; omega⟩, fun x hx => by rw [has_nil] at hx; cases hx⟩
theorem lack_le (D : DataW Unit) (N : Nat) : lackM D N ≤ N + 1 := by
  unfold lackM
  refine Nat.le_trans List.countP_le_length ?_
  simp
theorem shut_nil (S : List Stp) : Shut S (InM (.map [])) := fun k hk => by unfold InM at hk; rw [has_nil] at hk; cases hk
theorem nil_not (j : Nat) : ¬ InM (.map []) j := fun h => by unfold InM at h; rw [has_nil] at h; cases h
theorem size_le {w : World} {mb n : Nat} {D : DataW Unit} (h : w.ownsMap Tryd.prog 3 unitElem mb n D) : Maps.size D ≤ n := by
  obtain ⟨es, clock, _, _, hs, rfl⟩ := h
  rw [Maps.size_eq, length_sorted, List.length_map, Array.length_toList]
  exact hs
/-- What is ahead, of the numbers that have come up. -/
structure Ah (S : List Stp) (D : DataW Unit) (c : UInt8) (left : Lit → Bool) (xs : List Nat) : Prop where
  from_ : ∀ x ∈ xs, ∃ k st, x = k + 1 ∧ InM D k ∧ S[k]? = some st ∧ st.set c = true
  all : ∀ (k : Nat) st, InM D k → left (.int .i64 (k : Int)) = false → S[k]? = some st → st.set c = true → k + 1 ∈ xs
theorem Ah.start (S : List Stp) (D : DataW Unit) (c : UInt8) : Ah S D c (Maps.has D) [] := ⟨fun x h => by (cases h), fun k st h1 h2 => by (unfold InM at h1; rw [h1] at h2; cases h2)⟩
theorem left_next {left : Lit → Bool} {k j : Nat} (h : (left (.int .i64 (k : Int)) && !(Lit.int .i64 (k : Int)).sameKey (.int .i64 (j : Int))) = false) : left (.int .i64 (k : Int)) = false ∨ k = j := by
  by_cases e : k = j
  · exact .inr e
  · rw [sameKey_ne (fun e' => e (by injection e' with _ e'; omega))] at h
    simp at h
    exact .inl h
theorem Ah.miss {S : List Stp} {D : DataW Unit} {c : UInt8} {left : Lit → Bool} {xs : List Nat} {j : Nat} (h : Ah S D c left xs) (hj : ∀ st, S[j]? = some st → st.set c = false) : Ah S D c (fun z => left z && !z.sameKey (.int .i64 (j : Int))) xs :=
  ⟨h.from_, fun k st h1 h2 h3 h4 => by
    rcases left_next h2 with q | rfl
    · exact h.all k st h1 q h3 h4
    · rw [hj st h3] at h4; cases h4⟩
theorem Ah.hit {S : List Stp} {D : DataW Unit} {c : UInt8} {left : Lit → Bool} {xs : List Nat} {j : Nat} {st : Stp} (h : Ah S D c left xs) (hj : InM D j) (hs : S[j]? = some st) (hc : st.set c = true) : Ah S D c (fun z => left z && !z.sameKey (.int .i64 (j : Int))) (xs ++ [j + 1]) :=
  ⟨fun x hx => by
    rcases List.mem_append.1 hx with hx | hx
    · exact h.from_ x hx
    · rw [List.mem_singleton.1 hx]; exact ⟨j, st, rfl, hj, hs, hc⟩, fun k st' h1 h2 h3 h4 => by
    rcases left_next h2 with q | rfl
    · exact List.mem_append_left _ (h.all k st' h1 q h3 h4)
    · exact List.mem_append_right _ (by simp)⟩
theorem Ah.step {S : List Stp} {D : DataW Unit} {c : UInt8} {left : Lit → Bool} {xs : List Nat} {u : Bx} (h : Ah S D c left xs) (hl : ∀ l, left l = false) (hD : ∀ j, InM D j ↔ At S u j) (y : Nat) : (∃ x ∈ xs, Eps S x y) ↔ At S (u ++ [c]) y := by
  rw [at_snoc]
  constructor
  · rintro ⟨x, hx, he⟩
    obtain ⟨k, st, rfl, h1, h2, h3⟩ := h.from_ x hx
    exact ⟨k, st, (hD k).1 h1, h2, h3, he⟩
  · rintro ⟨k, st, h1, h2, h3, he⟩
    exact ⟨k + 1, h.all k st ((hD k).2 h1) (hl _) h2 h3, he⟩
theorem Ah.none {S : List Stp} {D : DataW Unit} {c : UInt8} {left : Lit → Bool} {u v : Bx} (h : Ah S D c left []) (hl : ∀ l, left l = false) (hD : ∀ j, InM D j ↔ At S u j) (y : Nat) : ¬ At S (u ++ c :: v) y := fun ha => by
  obtain ⟨j, st, h1, h2, h3, _⟩ := at_over ha
  have := h.all j st ((hD j).2 h1) (hl _) h2 h3
  cases this
theorem reach_more {S : List Stp} {D D' : DataW Unit} {xs : List Nat} {j x : Nat} (hs : Shut S (InM D)) (hD : ∀ y, InM D y ↔ ∃ z ∈ xs.take j, Eps S z y) (hx : xs[j]? = some x) (h : Rch S (InM D) x (InM D')) : Shut S (InM D') ∧ ∀ y, InM D' y ↔ ∃ z ∈ xs.take (j + 1), Eps S z y := by
  obtain ⟨h1, h2⟩ := h.all hs
  refine ⟨h1, fun y => ?_⟩
  rw [h2, take_more hx, hD]
  constructor
  · rintro (⟨z, hz, he⟩ | he)
    · exact ⟨z, List.mem_append_left _ hz, he⟩
    · exact ⟨x, by simp, he⟩
  · rintro ⟨z, hz, he⟩
    rcases List.mem_append.1 hz with hz | hz
    · exact .inl ⟨z, hz, he⟩
    · rw [List.mem_singleton.1 hz] at he; exact .inr he
/-- A row of one's own is cut to nothing. -/
theorem own_cut0 {w : World} {base : Nat} {e : TypeId} {v : Value} {n : Nat} {xs : List Value} (h : w.ownsRow base e 1 v n xs) : ∃ v', (Instr.slice 123 v none (some (.int .i64 0)) none).run Tryd.prog w = .ok v' w ∧ w.ownsRow base e 1 v' 0 [] ∧ v'.ownBlock = v.ownBlock := by
  rcases h.2 with ⟨rfl, _⟩ | ⟨g, cap, cur, rfl, h1, h2, h3, h4, h5, _⟩
  · refine ⟨.slice none 0 0, ?_, World.ownsRow_nil _ _ _ _, rfl⟩
    simp [Instr.slice, run_underlying Tryd.underlying123, Instr.sliceBounds, run_sliceBound]
  · refine ⟨.slice (some ⟨g, 0, none⟩) 0 cap, ?_, ⟨rfl, .inr ⟨g, cap, cur, rfl, h1, h2, Nat.zero_le _, h4, h5, by simp⟩⟩, rfl⟩
    have hsz : Tryd.prog.info? 3 = none ∨ True := .inr trivial
    simp [Instr.slice, run_underlying Tryd.underlying123, Instr.sliceBounds, run_sliceBound, Addr.add]
end Go.Proofs.YteooofakpkbgoaaDoor
/- Whether a text fits: the walk. -/
namespace Go.Proofs.YteooofakpkbgoaaDoor
open Go.ChangeShapes Go.WideShapes Go.RowKit Go.Maps

theorem below_asd {w w1 w2 : World} {B : Nat} {T : Nat → Prop} (h : Below B w w1) (k : Asd T w1 w2) (hB : B ≤ w1.heap.size) (hT : ∀ i, T i → B ≤ i) : Below B w w2 := h.trans (k.toBelow hB hT)
theorem grown_below {w w' : World} (h : Below w.heap.size w w') : w.grownBy w' none := ⟨h.os, h.tape, h.output, h.size, fun k hk _ => h.block k hk⟩
theorem take_byte {l : Bx} {k : Nat} {e : UInt8} (h : l[k]? = some e) : l.take (k + 1) = l.take k ++ [e] := by rw [List.take_add_one, h]; rfl
/-- What Fits hands back. -/
def FitsQ (S : List Stp) (s : Bs) (w : World) (e : Ending) (w' : World) : Prop := (∃ b, e = .returned (.bool b) ∧ (b = true ↔ At S s S.length)) ∧ Below w.heap.size w w'
theorem take_cons_drop {s : Bx} {k : Nat} {c : UInt8} (h : s[k]? = some c) : s.take k ++ c :: s.drop (k + 1) = s := by
  obtain ⟨hlt, rfl⟩ := List.getElem?_eq_some_iff.1 h
  rw [List.getElem_cons_drop, List.take_append_drop]
set_option maxHeartbeats 12800000 in
set_option maxRecDepth 100000 in
theorem fitsm_any (G base : Nat) (t : Bs) (S : List Stp) (V : Value) (F : List Value) (hT : Tame S) (s : Bs) (w : World) (hP : PatAt w G base t S V F) (hsl : s.length ≤ 100000) :
    Calls Tryd.prog 79 #[.pointer (some ⟨G, 0, none⟩), .string ⟨s.toArray⟩] w (FitsQ S s w) := by
  have hmm := @run_makeMap Tryd.prog
  have HT : Unit → Tame S := fun _ => hT
  have hN := hT.len
  clear hT
  have hG := Rw.lt hP.row
  have hFt : ∀ k, Foot V F k → k < w.heap.size := fun k hk => (hP.st.lt hk).2
  have HR := fun mb (hm : w.heap.size ≤ mb) => reach_any G base t S V F mb (HT ()) (by omega) (fun e => by have := hFt mb e; omega) (S.length + 2)
  obtain ⟨aV, cV, eV, _⟩ := own_slice hP.st.row
  subst eV
  have hsz : ((⟨s.toArray⟩ : ByteArray).size : Int) = (s.length : Int) := by simp [ByteArray.size]
  have hidx := fun k c (h : s[k]? = some c) w => at_text s k c h (k : Int) rfl w
  obtain ⟨T, hTe⟩ : ∃ T, (⟨s.toArray⟩ : ByteArray) = T := ⟨_, rfl⟩
  rw [hTe] at hsz hidx ⊢
  clear hTe
  have HS : Unit → (T.size : Int) = (s.length : Int) := fun _ => hsz
  have HI : Unit → ∀ (k : Nat) c, s[k]? = some c → ∀ w, (Instr.index 9 (.string T) (.int .i64 (k : Int))).run Tryd.prog w = .ok (.int .u8 (c.toNat : Int)) w := fun _ k c h w => hidx k c h w
  clear hidx
  go_enter Tryd.func79, Tryd.ntmps79
  go_upto_region 4 with fail
  have hM := World.ownsMap_made (H := Unit) w Tryd.prog 3 unitElem
  have hB1 := (Below.refl w.heap.size w).alloc (Nat.le_refl _) (.map #[] 0)
  have hP1 := hP.stay hB1
  have hmb1 : w.heap.size < (w.alloc (.map #[] 0)).heap.size := by simp
  generalize w.alloc (.map #[] 0) = w1 at *
  obtain ⟨mb, hmb⟩ : ∃ mb, w.heap.size = mb := ⟨_, rfl⟩
  have hmw : w.heap.size ≤ mb := by omega
  rw [hmb] at hM hmb1
  simp only [hmb]
  have HR' : Unit → ReachC G base t S (.slice aV S.length cV) F mb (S.length + 2) := fun _ => HR mb hmw
  have hM1 := map_nil (N := S.length) hM rfl
  have K := Lib.hid (HR' () 0 _ w1 hP1 hM1 (Nat.zero_le _) (by have := lack_le (.map []) S.length; omega))
  clear HR hM hmm
  go_wp2_with fail
  refine K.out.mono ?_
  rintro e w2 ⟨rfl, ⟨D2, hM2, hr2, _⟩, hA2⟩
  have hD2 : ∀ j, InM D2 j ↔ At S [] j := fun j => by
    rw [(hr2.all (shut_nil S)).2 j]
    exact ⟨fun e => e.elim (fun h => absurd h (nil_not j)) id, .inr⟩
  have hB2 := below_asd hB1 hA2 (by omega) (fun i (hi : i = mb) => by omega)
  have hsz2 := hA2.size
  clear K hr2 hM1 hA2 hP1
  go_upto_region 7 with fail
  go_loopw [6, 21] (fun av i wr => ∃ (k : Nat) (D : DataW Unit) (n : Nat) (xs : List Value), k ≤ s.length ∧ i = .int .i64 (k : Int) ∧ MapAt wr mb S.length D ∧ (∀ j, InM D j ↔ At S (s.take k) j) ∧ wr.ownsRow (mb + 1) 3 1 av n xs ∧ Below w.heap.size w wr ∧ mb < wr.heap.size) (fun _ i _ => s.length - (intOf i).toNat)
  case atStart => exact ⟨0, D2, 0, [], Nat.zero_le _, rfl, hM2, hD2, World.ownsRow_nil _ _ _ _, hB2, by omega⟩
  case round =>
    obtain ⟨k, D, n0, xs0, hk, rfl, hM3, hD3, ho3, hB3, hmb3⟩ := hrel
    have HD3 : Unit → ∀ j, InM D j ↔ At S (s.take k) j := fun _ => hD3
    clear hD3 hM2 hD2 hB2 hsz2 hB1
    have hP3 := hP.stay hB3
    by_cases hlt : k < s.length
    · obtain ⟨c, hc⟩ : ∃ c, s[k]? = some c := ⟨_, List.getElem?_eq_getElem hlt⟩
      have hi := HI () k c hc
      have hki : (k : Int) < (T.size : Int) := by rw [HS ()]; omega
      obtain ⟨v0, hcut, ho4, hv0⟩ := own_cut0 ho3
      obtain ⟨⟨nm, hown, hnm⟩, hup⟩ := hM3
      have hsD := size_le hown
      clear hsz ho3 hv0
      go_upto_region 10 with fail
      clear hcut
      go_wp2_with (at_range; refine wpList_range_own _ rfl _ 133 rfl 3 137 law_int Tryd.underlying133 (unitElem (H := Unit)) mb nm D rfl hown ?_; intro w4 hrg4 hg4 hs4)
      obtain ⟨r, hr⟩ : ∃ r, wr.heap.size = r := ⟨_, rfl⟩
      rw [hr] at hrg4 hs4
      have hrw : w.heap.size ≤ r := by have := hB3.size; omega
      have hB4 : Below w.heap.size w w4 := hB3.grown hg4 hB3.size (fun k e => by cases e)
      have ho4' : w4.ownsRow (mb + 1) 3 1 v0 0 [] := ho4.kept hg4 (by cases v0.ownBlock <;> simp)
      have hav0 : v0.ownBlock ≠ some r := fun e => by have := (ho4.lt r e).2; omega
      simp only [hr]
      go_frame
      clear ho4 hg4 hown hP3 hB3
      go_loopw [6] (fun av wq => ∃ (left : Lit → Bool) (cnt : Nat) (xs : List Nat), wq.ranges Tryd.prog 3 unitElem mb r nm D left cnt ∧ Ah S D c left xs ∧ wq.ownsRow (mb + 1) 3 1 av xs.length (xs.map intV) ∧ av.ownBlock ≠ some r ∧ xs.length + cnt ≤ Maps.size D ∧ Below w.heap.size w wq ∧ r < wq.heap.size) (fun _ wq => wq.rangeLeft mb r)
      case atStart => exact ⟨_, _, [], hrg4, Ah.start S D c, ho4', hav0, by simp, hB4, by omega⟩
      case round =>
        obtain ⟨left, cnt, xs, hrq, hAh, hoq, hav, hcn, hBq, hrlt⟩ := hrel
        clear hrg4 ho4' hav0 hB4 hs4
        have hrne := hrq.ne
        go_wp2_with (at_next; refine wpList_next_ranges _ rfl _ rfl 3 law_int unitElem (Value.int .i64) (fun (_ : Unit) => Value.agg #[]) (fun key kl hkey => by obtain ⟨x, rfl, _⟩ := Maps.keyOf_int_inv Tryd.underlying3 hkey; exact ⟨x, rfl⟩) (fun v y hv => by obtain ⟨rfl, _⟩ := unitElem_inv hv; exact ⟨(), rfl⟩) mb r nm D left cnt rfl hrq ?_ ?_)
        · intro hc0 hl0
          have hl1 : ∀ l, left l = false := hl0
          have hmq := hrq.owns
          have hPq := hP.stay hBq
          have hmlt := hmq.lt
          cases xs with
          | nil =>
            obtain ⟨aA, cA, eA, _⟩ := own_slice hoq
            subst eA
            clear hrq hoq hav hmq
            go_wp2_with fail
            go_ret
            refine ⟨⟨false, rfl, ?_⟩, hBq⟩
            refine ⟨fun e => (by cases e), fun ha => ?_⟩
            refine absurd ?_ (hAh.none (v := s.drop (k + 1)) hl1 (HD3 ()) S.length)
            rw [take_cons_drop hc]
            exact ha
          | cons x0 xs0 =>
            have hxn : 0 < (x0 :: xs0).length := by simp
            have hAs := fun y => hAh.step hl1 (HD3 ()) y
            have hxN : ∀ x ∈ (x0 :: xs0), x ≤ S.length := fun x hx => by
              obtain ⟨k', st, rfl, _, h2, _⟩ := hAh.from_ x hx
              have := (List.getElem?_eq_some_iff.1 h2).1
              omega
            have HAs : Unit → ∀ y, (∃ x ∈ (x0 :: xs0), Eps S x y) ↔ At S (s.take (k + 1)) y := fun _ y => by rw [take_byte hc]; exact hAs y
            have HXN : Unit → ∀ x ∈ (x0 :: xs0), x ≤ S.length := fun _ => hxN
            have hxl : (x0 :: xs0).length ≤ 100000 := by omega
            clear hAs hxN hAh HD3 hrq hl0 hl1
            obtain ⟨ys, hys⟩ : ∃ ys, x0 :: xs0 = ys := ⟨_, rfl⟩
            rw [hys] at hoq HAs HXN hxn hxl
            obtain ⟨ga, ca, eA⟩ := own_pos hoq hxn
            subst eA
            have hlen0 : (x0 :: xs0).length = ys.length := by rw [hys]
            have hne0 : ((ys.length : Int) == 0) = false := by rw [beq_eq_false_iff_ne]; omega
            clear hys hcn hlen0
            go_wp2_with (refine wpList_clear_own _ rfl _ 133 rfl 3 137 Tryd.underlying133 unitElem mb nm D rfl hmq ?_)
            intro w6 hM6 hg6
            have hM7 := map_nil (N := S.length) hM6 rfl
            have ho7 := hoq.kept hg6 (.inr (fun e => by have := (hoq.lt _ e).1; omega))
            have hB7 := hBq.grown hg6 hBq.size (fun j e => by injection e with e; omega)
            have hlt7 := hM7.lt
            clear hM6 hg6 hmq hoq hBq hav hPq
            go_upto_region 19 with fail
            go_loopw [64] (fun jv wz => ∃ (j : Nat) (D2 : DataW Unit), j ≤ ys.length ∧ jv = .int .i64 (j : Int) ∧ MapAt wz mb S.length D2 ∧ Shut S (InM D2) ∧ (∀ y, InM D2 y ↔ ∃ z ∈ ys.take j, Eps S z y) ∧ wz.ownsRow (mb + 1) 3 1 (.slice (some ⟨ga, 0, none⟩) ys.length ca) ys.length (ys.map intV) ∧ Below w.heap.size w wz) (fun jv _ => ys.length - (intOf jv).toNat)
            case atStart => exact ⟨0, .map [], Nat.zero_le _, rfl, hM7, shut_nil S, fun y => ⟨fun h => absurd h (nil_not y), fun ⟨z, hz, _⟩ => by simp at hz⟩, ho7, hB7⟩
            case round =>
              obtain ⟨j, D2, hj, rfl, hMz, hSz, hDz, hoz, hBz⟩ := hrel
              clear hM7 ho7 hB7
              have HSz : Unit → Shut S (InM D2) := fun _ => hSz
              have HDz : Unit → ∀ y, InM D2 y ↔ ∃ z ∈ ys.take j, Eps S z y := fun _ => hDz
              clear hSz hDz
              by_cases hjl : j < ys.length
              · have hji : (j : Int) < (ys.length : Int) := by omega
                obtain ⟨x, hx⟩ : ∃ x, ys[j]? = some x := ⟨_, List.getElem?_eq_getElem hjl⟩
                have hcx := hoz.cellAt j (by omega)
                rw [List.getElem?_map, hx] at hcx
                change _ = some (Value.int .i64 (x : Int)) at hcx
                have K := Lib.hid (HR' () x D2 _ (hP.stay hBz) hMz (HXN () x (List.mem_of_getElem? hx)) (by have := lack_le D2 S.length; omega))
                have hmz := hMz.lt
                go_wp2_with fail
                refine K.out.mono ?_
                rintro e' wy ⟨rfl, ⟨D3, hM3', hr3, _⟩, hA3⟩
                obtain ⟨hS3, hD3'⟩ := reach_more (HSz ()) (HDz ()) hx hr3
                have ho3' := own_asdS hoz hA3 (fun i e (e2 : i = mb) => by have := (hoz.lt i e).1; omega)
                have hB3' := below_asd hBz hA3 hBz.size (fun i (hi : i = mb) => by omega)
                clear K hcx hoz hBz hMz hr3 hA3
                go_wp2_with fail
                go_roundw
                case rel => exact ⟨j + 1, D3, by omega, by go_num, hM3', hS3, hD3', ho3', hB3'⟩
                case measure => simp [intOf]; omega
              · have hje : j = ys.length := by omega
                have hnot : ¬ ((j : Int) < (ys.length : Int)) := by omega
                have hDe : ∀ y, InM D2 y ↔ At S (s.take (k + 1)) y := fun y => by
                  rw [HDz () y, hje, List.take_length]
                  exact HAs () y
                have hmz := hMz.lt
                clear hje HDz HSz HAs HXN
                go_wp2_with fail
                go_roundw
                case rel => exact ⟨k + 1, D2, ys.length, ys.map intV, by omega, by go_num, hMz, hDe, hoz, hBz, hmz⟩
                case measure => simp [intOf]; omega
        · intro x u kl y wn cnt5 hkey hlk hR hat hrg5 hlt5 hg5 hs5 hen
          obtain ⟨x', ex, rfl, _⟩ := Maps.keyOf_int_inv Tryd.underlying3 hkey
          injection ex with _ ex
          subst ex
          have hhas := has_true_of_atKey hat
          obtain ⟨kx, rfl, hkx⟩ := hup x hhas
          have hBq5 := hBq.grown hg5 hBq.size (fun j e => by injection e with e; omega)
          have hoq5 := hoq.kept hg5 (.inr hav)
          have hP5 := hP.stay hBq5
          have c5 : wn.cell? ⟨G, 1, none⟩ = some (.slice aV S.length cV) := Rw.cell hP5.row 1
          clear hR hat hlk hkey hg5 hBq hoq
          by_cases hkN : kx < S.length
          · have hkNi : (kx : Int) < (S.length : Int) := by omega
            obtain ⟨st, hst⟩ : ∃ st, S[kx]? = some st := ⟨_, List.getElem?_eq_getElem hkN⟩
            obtain ⟨f, hf⟩ : ∃ f, F[kx]? = some f := ⟨_, List.getElem?_eq_getElem (by rw [hP5.st.len]; exact hkN)⟩
            obtain ⟨Gs, cap, eV⟩ := own_pos hP5.st.row (by omega)
            injection eV with e1 _ e3
            subst e1 e3
            have hc6 : wn.cell? ⟨Gs, kx * 257 + c.toNat, none⟩ = some (.bool (st.set c)) := by
              have hcl := c.toNat_lt
              rw [hP5.st.row.cellAt _ (by omega), stepsC_get hst hf (by omega), stepC_set _ _ hcl, UInt8.ofNat_toNat]
            have hci : (c.toNat : Int) < 256 := by have := c.toNat_lt; omega
            clear hP5 hf hkx
            cases hsc : st.set c with
            | false =>
              rw [hsc] at hc6
              have HMISS : ∀ st', S[kx]? = some st' → st'.set c = false := fun st' h' => by rw [hst] at h'; injection h' with h'; rw [← h']; exact hsc
              go_upto_region 13 with fail
              try simp only [List.append_eq, List.cons_append, List.nil_append]
              refine region_class (fun w' => w' = wn.drew ∧ w'.cell? ⟨G, 1, none⟩ = some (.slice (some ⟨Gs, 0, none⟩) S.length cV) ∧ w'.cell? ⟨Gs, kx * 257 + c.toNat, none⟩ = some (.bool false)) (by kernel_rfl) (by kernel_rfl) (⟨rfl, c5, hc6⟩) ?_
              repeat
                first
                | go_big_quiet_skip
                | (go_big_quiet_want
                   refine quiet_val ?_
                   apply Exists.intro
                   refine ⟨fun w' hw' => ?_, ?_⟩
                   · obtain ⟨_, e0, e1⟩ := hw'
                     go_simp
                     first | done | rfl | exact ⟨rfl, rfl⟩
                   simp only [Act.put, List.setIfInBounds_toArray, List.set_cons_zero, List.set_cons_succ]
                   go_big_quiet_on)
                | (go_big_quiet_want
                   refine quiet_call ?_
                   apply Exists.intro
                   apply Exists.intro
                   refine ⟨fun w' => ?_, ?_⟩
                   · go_simp
                     first | done | rfl | exact ⟨rfl, rfl⟩
                   apply Exists.intro
                   refine ⟨fun w' hw' => ?_, ?_⟩
                   · first
                     | fail
                   simp only [Act.put, List.setIfInBounds_toArray, List.set_cons_zero, List.set_cons_succ]
                   go_big_quiet_on)
              refine wpQuiet_nil ?_
              intro w5 hw5
              have hw6 := hw5.1
              have hb6 : Below wn.heap.size wn w5 := by rw [hw6]; exact (Below.refl _ _).drew
              have hrg6 := hrg5.kept (grown_below hb6) (by simp) (by simp)
              have hBq6 := hBq5.trans (hb6.mono hBq5.size)
              have hoq6 := own_asdS (S := fun _ => False) hoq5 (Asd.of_below hb6) (fun _ _ e => e)
              have hr6 : r < w5.heap.size := by have := hb6.size; omega
              clear hb6 hoq5 hBq5 c5
              clear hw5 hw6 hc6
              go_wp2_with fail
              go_roundw
              case rel => exact ⟨_, cnt5, xs, hrg6, hAh.miss HMISS, hoq6, hav, by omega, hBq6, hr6⟩
              case measure => rw [hrq.left_eq, hrg6.left_eq]; exact hlt5
            | true =>
              rw [hsc] at hc6
              go_upto_region 13 with fail
              try simp only [List.append_eq, List.cons_append, List.nil_append]
              refine region_class (fun w' => w' = wn.drew ∧ w'.cell? ⟨G, 1, none⟩ = some (.slice (some ⟨Gs, 0, none⟩) S.length cV) ∧ w'.cell? ⟨Gs, kx * 257 + c.toNat, none⟩ = some (.bool true)) (by kernel_rfl) (by kernel_rfl) (⟨rfl, c5, hc6⟩) ?_
              repeat
                first
                | go_big_quiet_skip
                | (go_big_quiet_want
                   refine quiet_val ?_
                   apply Exists.intro
                   refine ⟨fun w' hw' => ?_, ?_⟩
                   · obtain ⟨_, e0, e1⟩ := hw'
                     go_simp
                     first | done | rfl | exact ⟨rfl, rfl⟩
                   simp only [Act.put, List.setIfInBounds_toArray, List.set_cons_zero, List.set_cons_succ]
                   go_big_quiet_on)
                | (go_big_quiet_want
                   refine quiet_call ?_
                   apply Exists.intro
                   apply Exists.intro
                   refine ⟨fun w' => ?_, ?_⟩
                   · go_simp
                     first | done | rfl | exact ⟨rfl, rfl⟩
                   apply Exists.intro
                   refine ⟨fun w' hw' => ?_, ?_⟩
                   · first
                     | fail
                   simp only [Act.put, List.setIfInBounds_toArray, List.set_cons_zero, List.set_cons_succ]
                   go_big_quiet_on)
              refine wpQuiet_nil ?_
              intro w5 hw5
              have hw6 := hw5.1
              have hb6 : Below wn.heap.size wn w5 := by rw [hw6]; exact (Below.refl _ _).drew
              have hrg6 := hrg5.kept (grown_below hb6) (by simp) (by simp)
              have hBq6 := hBq5.trans (hb6.mono hBq5.size)
              have hoq6 := own_asdS (S := fun _ => False) hoq5 (Asd.of_below hb6) (fun _ _ e => e)
              have hr6 : r < w5.heap.size := by have := hb6.size; omega
              clear hb6 hoq5 hBq5 c5
              clear hw5 hw6 hc6
              obtain ⟨aA, cA, eA, _⟩ := own_slice hoq6
              subst eA
              go_wp2_with (refine wpList_row_int (.int .i64 ((kx : Int) + 1)) rfl _ rfl rfl rfl ?_)
              intro Y w7 rY hb7
              have hoq7 := own_asdS (S := fun _ => False) hoq6 (Asd.of_below hb7) (fun _ _ e => e)
              have hrg7 := hrg6.kept (grown_below hb7) (by simp) (by simp)
              have hBq7 := hBq6.trans (hb7.mono hBq6.size)
              have hr7 : r < w7.heap.size := by have := hb7.size; omega
              have hm7 := hBq7.size
              clear hoq6 hrg6 hBq6 hr6 hb7
              go_wp2_with (refine wpList_own_int (.tmp 53) (.tmp 56) rfl rfl (mb + 1) _ _ _ rfl hoq7 Y (.int .i64 ((kx : Int) + 1)) rfl rY rfl (by omega) (by omega) ?_)
              intro v8 w8 hO8 hg8 hl8
              have hrg8 := hrg7.kept hg8 (fun e => by have := (hoq7.lt _ e.symm).1; omega) (fun e => hav e.symm)
              have hBq8 := hBq7.grown hg8 hm7 (fun j e => by have := (hoq7.lt j e).1; omega)
              have hs8 := hg8.size
              have hav8 : v8.ownBlock ≠ some r := by
                rcases hl8 with e | e
                · rw [e]; exact hav
                · rw [e]; intro e2; injection e2 with e2; omega
              have hO9 : w8.ownsRow (mb + 1) 3 1 v8 (xs ++ [kx + 1]).length ((xs ++ [kx + 1]).map intV) := by
                rw [List.length_append, List.map_append]
                exact hO8
              clear hO8 hg8 hl8 hoq7 hrg7 hBq7 rY
              go_wp2_with fail
              go_roundw
              case rel => exact ⟨_, cnt5, xs ++ [kx + 1], hrg8, hAh.hit hhas hst hsc, hO9, hav8, by rw [List.length_append]; simp only [List.length_singleton]; omega, hBq8, by omega⟩
              case measure => rw [hrq.left_eq, hrg8.left_eq]; exact hlt5
          · have hkNi : ¬ ((kx : Int) < (S.length : Int)) := by omega
            have HMISS : ∀ st', S[kx]? = some st' → st'.set c = false := fun st' h' => by have := (List.getElem?_eq_some_iff.1 h').1; omega
            go_upto_region 13 with fail
            try simp only [List.append_eq, List.cons_append, List.nil_append]
            refine region_class (fun w' => w' = wn.drew ∧ w'.cell? ⟨G, 1, none⟩ = some (.slice aV S.length cV)) (by kernel_rfl) (by kernel_rfl) (⟨rfl, c5⟩) ?_
            repeat
              first
              | go_big_quiet_skip
              | (go_big_quiet_want
                 refine quiet_val ?_
                 apply Exists.intro
                 refine ⟨fun w' hw' => ?_, ?_⟩
                 · obtain ⟨_, e0⟩ := hw'
                   go_simp
                   first | done | rfl | exact ⟨rfl, rfl⟩
                 simp only [Act.put, List.setIfInBounds_toArray, List.set_cons_zero, List.set_cons_succ]
                 go_big_quiet_on)
              | (go_big_quiet_want
                 refine quiet_call ?_
                 apply Exists.intro
                 apply Exists.intro
                 refine ⟨fun w' => ?_, ?_⟩
                 · go_simp
                   first | done | rfl | exact ⟨rfl, rfl⟩
                 apply Exists.intro
                 refine ⟨fun w' hw' => ?_, ?_⟩
                 · first
                   | fail
                 simp only [Act.put, List.setIfInBounds_toArray, List.set_cons_zero, List.set_cons_succ]
                 go_big_quiet_on)
            refine wpQuiet_nil ?_
            intro w5 hw5
            have hw6 := hw5.1
            have hb6 : Below wn.heap.size wn w5 := by rw [hw6]; exact (Below.refl _ _).drew
            have hrg6 := hrg5.kept (grown_below hb6) (by simp) (by simp)
            have hBq6 := hBq5.trans (hb6.mono hBq5.size)
            have hoq6 := own_asdS (S := fun _ => False) hoq5 (Asd.of_below hb6) (fun _ _ e => e)
            have hr6 : r < w5.heap.size := by have := hb6.size; omega
            clear hb6 hoq5 hBq5 c5
            clear hw5 hw6
            go_wp2_with fail
            go_roundw
            case rel => exact ⟨_, cnt5, xs, hrg6, hAh.miss HMISS, hoq6, hav, by omega, hBq6, hr6⟩
            case measure => rw [hrq.left_eq, hrg6.left_eq]; exact hlt5
    · have hke : k = s.length := by omega
      have hki : ¬ ((k : Int) < (T.size : Int)) := by rw [HS ()]; omega
      have hAll : ∀ j, InM D j ↔ At S s j := fun j => by rw [HD3 (), hke, List.take_length]
      have HAll : Unit → ∀ j, InM D j ↔ At S s j := fun _ => hAll
      obtain ⟨⟨nm, hown, hnm⟩, hup⟩ := hM3
      have hkey := key_int (x := (S.length : Int)) (by omega) (by omega)
      have c3 : wr.cell? ⟨G, 1, none⟩ = some (.slice aV S.length cV) := Rw.cell hP3.row 1
      have hki' : ¬ ((k : Int) < (s.length : Int)) := by omega
      clear hAll hke HD3 HR' HI ho3 hP3 hup
      go_wp2_with (at_lookup; refine wpList_lookup_own_unit _ rfl _ _ 133 rfl 3 137 law_int Tryd.underlying133 (zero_unit _) mb nm D rfl hown _ _ rfl hkey ?_)
      go_ret
      exact ⟨⟨_, rfl, HAll () S.length⟩, hB3.alloc hB3.size _⟩
end Go.Proofs.YteooofakpkbgoaaDoor
/- Patterns: what the callers see. -/
namespace Go.Proofs.YteooofakpkbgoaaDoor
open Go.ChangeShapes Go.WideShapes Go.RowKit

theorem patM_ok {p : Bs} {a : Al} (h : patM p = some a) : okA a ∧ lenA a ≤ 101 ∧ p.length ≤ 100 ∧ readN p = .ok a [] := by
  unfold patM at h
  split at h
  · cases h
  · rename_i hl
    cases hr : readN p with
    | er e => rw [hr] at h; cases h
    | ok a' r =>
      rw [hr] at h
      injection h with h
      subst h
      obtain ⟨rfl, h2, h3⟩ := readN_ok hr
      have := ((reads_good _).1 _ _ _ _ h2).2.2
      simp only [List.length_nil] at this
      exact ⟨h3, by omega, by omega, rfl⟩
theorem fits_meth {G base : Nat} {p : Bs} {a : Al} {V : Value} {F : List Value} (ho : okA a) (hl : lenA a ≤ 101) (s : Bs) (w : World) (hP : PatAt w G base p (stepsM a) V F) (hs : s.length ≤ 100000) :
    Calls Tryd.prog 79 #[.pointer (some ⟨G, 0, none⟩), .string ⟨s.toArray⟩] w fun e w' => (∃ b, e = .returned (.bool b) ∧ (b = true ↔ langA a s)) ∧ Below w.heap.size w w' :=
  (fitsm_any G base p (stepsM a) V F (tame_steps ho (by omega)) s w hP hs).mono fun e w' ⟨⟨b, he, hb⟩, hB⟩ => ⟨⟨b, he, hb.trans (runs ho s)⟩, hB⟩
theorem fits_none (T : ByteArray) (w : World) : Calls Tryd.prog 79 #[.pointer none, .string T] w fun e w' => e = .returned (.bool false) ∧ w' = w := by
  go_enter Tryd.func79, Tryd.ntmps79
  go_wp2_with fail
  go_ret
  exact ⟨rfl, rfl⟩
/-- A text fits a pattern that may be. -/
def FitP (p s : Bs) : Prop := ∃ a, patM p = some a ∧ langA a s
set_option maxHeartbeats 800000 in
set_option maxRecDepth 100000 in
theorem fits_any (p s : Bs) (w : World) (hp : p.length ≤ 100000) (hs : s.length ≤ 100000) :
    Calls Tryd.prog 64 #[.string ⟨p.toArray⟩, .string ⟨s.toArray⟩] w fun e w' => (∃ b, e = .returned (.bool b) ∧ (b = true ↔ FitP p s)) ∧ Below w.heap.size w w' := by
  have K := Lib.hid (read_any p w hp)
  have HM := fun (a : Al) (h : patM p = some a) (G base : Nat) (V : Value) (F : List Value) (w : World) (hP : PatAt w G base p (stepsM a) V F) => fits_meth (patM_ok h).1 (patM_ok h).2.1 s w hP hs
  have H0 := Lib.hid fun w => fits_none ⟨s.toArray⟩ w
  generalize (⟨p.toArray⟩ : ByteArray) = T at *
  generalize (⟨s.toArray⟩ : ByteArray) = U at *
  cases hm : patM p with
  | none =>
    unfold ReadQ at K
    rw [hm] at K
    have HF : Unit → ¬ FitP p s := fun _ ⟨a, h, _⟩ => by rw [hm] at h; cases h
    clear HM hm
    go_enter Tryd.func64, Tryd.ntmps64
    go_wp2_with fail
    refine K.out.mono ?_
    rintro e w1 ⟨hB, rfl⟩
    clear K
    go_wp2_with fail
    refine (H0.out _).mono ?_
    rintro e w2 ⟨rfl, hw2⟩
    obtain rfl : w1 = w2 := hw2.symm
    clear H0
    go_wp2_with fail
    go_ret
    exact ⟨⟨false, rfl, ⟨fun e => (by cases e), fun h => absurd h (HF ())⟩⟩, hB⟩
  | some a =>
    unfold ReadQ at K
    rw [hm] at K
    have HF : Unit → (FitP p s ↔ langA a s) := fun _ => ⟨fun ⟨a', h, h'⟩ => by rw [hm] at h; injection h with h; rw [h]; exact h', fun h => ⟨a, hm, h⟩⟩
    have HM2 := Lib.hid (HM a hm)
    clear HM hm H0
    go_enter Tryd.func64, Tryd.ntmps64
    go_wp2_with fail
    refine K.out.mono ?_
    rintro e w1 ⟨hB, G, V, F, rfl, hG, hP⟩
    clear K
    have K2 := Lib.hid (HM2.out G _ V F w1 hP)
    clear HM2 hP hG
    go_wp2_with fail
    refine K2.out.mono ?_
    rintro e w2 ⟨⟨b, rfl, hb⟩, hB2⟩
    clear K2
    go_wp2_with fail
    go_ret
    exact ⟨⟨b, rfl, hb.trans (HF ()).symm⟩, hB.trans (hB2.mono hB.size)⟩
theorem take_text (l : Bs) (m : Nat) (z : Int) (hz : z = (m : Int)) : (⟨l.toArray⟩ : ByteArray).extract 0 (min (l.length : Int) z).toNat = ⟨(l.take m).toArray⟩ := by
  subst hz
  rw [extract_text, List.drop_zero, show (min (l.length : Int) (m : Int)).toNat = min l.length m by omega]
  congr 2
  rw [Nat.min_comm, ← List.take_take, List.take_length]
theorem truth_of {b c : Bool} (h : b = true ↔ c = true) : b = c := by cases b <;> cases c <;> simp_all
/-- Whether a text fits, as a truth. -/
noncomputable def fb (r u : Bs) : Bool := @decide (FitP r u) (Classical.propDecidable _)
theorem fb_iff (r u : Bs) : fb r u = true ↔ FitP r u := by unfold fb; exact @decide_eq_true_iff _ (Classical.propDecidable _)
theorem fits_fb (r u : Bs) (hr : r.length ≤ 100000) (hu : u.length ≤ 100000) (w : World) : Calls Tryd.prog 64 #[.string ⟨r.toArray⟩, .string ⟨u.toArray⟩] w fun e w' => e = .returned (.bool (fb r u)) ∧ Below w.heap.size w w' :=
  (fits_any r u w hr hu).mono fun e w' ⟨⟨b, he, hb⟩, hB⟩ => ⟨by rw [he, truth_of (hb.trans (fb_iff r u).symm)], hB⟩
theorem fb_eq {r u : Bs} {b : Bool} (h : FitP r u ↔ b = true) : fb r u = b := truth_of ((fb_iff r u).trans h)
end Go.Proofs.YteooofakpkbgoaaDoor
