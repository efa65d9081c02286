/- The reader: an atom. -/
import Derived.Test.YtakkcofmbafneaaPOut
namespace Go.Proofs.Ytakkcofmbafneaa
open Go.ChangeShapes Go.WideShapes Go.RowKit

def spcI (c : UInt8) : Int := Lib.indexByte [42, 43, 63, 124, 40, 41, 91, 93, 92, 46] c
theorem spc_all : ∀ n : Fin 256, (decide (0 ≤ spcI (UInt8.ofNat n.val)) == spcB (UInt8.ofNat n.val)) = true := by decide +kernel
theorem spc_of (c : UInt8) : decide (0 ≤ spcI c) = spcB c := by
  have h := spc_all ⟨c.toNat, c.toNat_lt⟩
  simp only [UInt8.ofNat_toNat] at h
  exact eq_of_beq h
theorem spc_any (c : UInt8) (w : World) : Calls Try.prog 27 #[.string ⟨#[42, 43, 63, 124, 40, 41, 91, 93, 92, 46]⟩, .int .u8 (c.toNat : Int)] w fun e w' => e = .returned (.int .i64 (spcI c)) ∧ w' = w :=
  (Try.strings_IndexByte ⟨#[42, 43, 63, 124, 40, 41, 91, 93, 92, 46]⟩ (c.toNat : Int) w).mono fun e w' h => by
    rw [show ((c.toNat : Int)).toNat.toUInt8 = c from UInt8.ofNat_toNat] at h
    exact h
theorem plus_one (x : UInt8) : (fun b => noSet b || (decide (x ≤ b) && decide (b ≤ x))) = fun b => b == x := by
  funext b
  by_cases h : b = x
  · subst h; simp [noSet]
  · rw [show (b == x) = false by simpa using h]
    simp only [noSet, Bool.false_or, Bool.and_eq_false_iff, decide_eq_false_iff_not]
    by_cases h1 : x ≤ b
    · exact .inr fun h2 => h (UInt8.le_antisymm h2 h1)
    · exact .inl h1
theorem OutQ.ret {α : Type} {R : Nat} {V : Value} {F : List Value} {w w' : World} {X : List Stp} {lay : α → List Stp} {o : Res α} {e : Ending} (h : OutQ R V F w X lay o e w') : ∃ E, e = .returned (.int .i64 E) := by
  cases o with
  | er er => exact ⟨_, h.1⟩
  | ok x r => exact ⟨_, h.1⟩
theorem out_set {R : Nat} {V : Value} {F : List Value} {w w' : World} {X : List Stp} {p : UInt8 → Bool} {r : Bx} (h : RdQ w R V F r (X ++ [⟨p, []⟩]) w') : OutQ R V F w X (fun x => stR x X.length) (.ok (.set p) r) (.returned (.int .i64 0)) w' :=
  ⟨rfl, by simp only [stR]; exact h⟩
theorem atom_open (n d : Nat) (l : Bx) : atomN (n + 1) d (40 :: l) = groupN n d l := by
  rw [atomN, if_pos rfl, groupN]
  split
  · rfl
  · unfold grpO
    cases altN n (d + 1) l with
    | er e => rfl
    | ok a r => cases r <;> rfl
theorem OutQ.of {α : Type} {R : Nat} {V : Value} {F : List Value} {w w' : World} {X : List Stp} {lay : α → List Stp} {o o' : Res α} {e : Ending} (h : o' = o) (hq : OutQ R V F w X lay o e w') : OutQ R V F w X lay o' e w' := h ▸ hq
def clsR : Option ((UInt8 → Bool) × Bx) → Res Re
  | none => .er .form
  | some (p, r) => .ok (.set p) r
def sgnR : Option (UInt8 × Bx) → Res Re
  | none => .er .form
  | some (x, r) => .ok (.set fun b => b == x) r
theorem atom_class (n d : Nat) (l : Bx) : atomN (n + 1) d (91 :: l) = clsR (classN l) := by
  rw [atomN, if_neg (by decide), if_pos rfl]
  cases classN l <;> rfl
theorem atom_dot (n d : Nat) (l : Bx) : atomN (n + 1) d (46 :: l) = .ok (.set fun _ => true) l := by
  rw [atomN, if_neg (by decide), if_neg (by decide), if_pos rfl]
theorem atom_spc {c : UInt8} (n d : Nat) (l : Bx) (h1 : c ≠ 40) (h2 : c ≠ 91) (h3 : c ≠ 46) (h4 : c ≠ 92) (h5 : spcB c = true) : atomN (n + 1) d (c :: l) = .er .form := by
  rw [atomN, if_neg h1, if_neg h2, if_neg h3, if_pos ⟨h4, h5⟩]
theorem atom_sign {c : UInt8} (n d : Nat) (l : Bx) (h1 : c ≠ 40) (h2 : c ≠ 91) (h3 : c ≠ 46) (h4 : c = 92 ∨ spcB c = false) : atomN (n + 1) d (c :: l) = sgnR (signN (c :: l)) := by
  rw [atomN, if_neg h1, if_neg h2, if_neg h3, if_neg (fun ⟨h5, h6⟩ => h4.elim (fun e => h5 e) (fun e => by rw [e] at h6; cases h6))]
  cases signN (c :: l) <;> rfl
set_option maxHeartbeats 3200000 in
set_option maxRecDepth 100000 in
theorem atom_group (n : Nat) (HA : AltC n) (R d : Nat) (l : Bs) (X : List Stp) (V : Value) (F : List Value) (w : World) (D : Int) (hD : D = (d : Int)) (hd : d ≤ 8) (hf : Fb X) (hXl : X.length + l.length + 1 ≤ 300) (hn : 4 * l.length + 4 ≤ n) (h : RdAt w R (40 :: l) X V F) (_hX : X.length ≤ 1000) :
    Calls Try.prog 44 #[.pointer (some ⟨R, 0, none⟩), .int .i64 D] w (OutQ R V F w X (fun x => stR x X.length) (groupN n d l)) := by
  have KG := Lib.hid fun w2 h2 => group_any n HA R d l X V F w2 D h2 hD hd hXl hf hn
  clear HA hf hXl hn hd hD
  have hzc := zero_class
  have hlZ := setRow_len noSet
  obtain ⟨Z, eZ⟩ : ∃ Z, setRow noSet = Z := ⟨_, rfl⟩
  rw [eZ] at hzc hlZ
  have EZ : Unit → setRow noSet = Z := fun _ => eZ
  clear eZ
  have hal := (Below.refl w.heap.size w).alloc (Nat.le_refl _) (.cells Z.toArray 64)
  have hRT : R ≠ w.heap.size := by have := Rw.lt h.q; omega
  have hFT : ¬ Foot V F w.heap.size := fun e => by have := (h.st.lt e).2; omega
  have h1 := h.stay hal
  have g1 : Grow R V F V F w (w.alloc (.cells Z.toArray 64)) := Grow.below hal
  have r1 : Rw (w.alloc (.cells Z.toArray 64)) w.heap.size 64 (setRow noSet) := by rw [EZ ()]; exact Rw.new w _ Z
  clear h
  go_enter Try.func44, Try.ntmps44
  go_upto_region 3 with fail
  generalize w.alloc (.cells Z.toArray 64) = w1 at *
  clear hal hzc
  have c0 := h1.q.rest
  have hi0 := at_text (40 :: l) 0 40 rfl 0 rfl
  generalize (⟨(40 :: l).toArray⟩ : ByteArray) = Y at c0 hi0
  go_wp2_with fail
  clear c0 hi0
  refine (take_hit R 40 l V w1 h1.q).mono ?_
  rintro e w2 ⟨rfl, q2, hA2⟩
  have h2 := h1.turn q2 hA2
  have g2 := g1.trans (Grow.turn hA2)
  have r2 := r1.keep hA2 (fun e : w.heap.size = R => hRT e.symm)
  clear q2 hA2 h1 g1 r1
  go_wp2_with fail
  refine (KG.out w2 h2).mono ?_
  clear KG
  rintro e w3 hq
  obtain ⟨E, rfl⟩ := hq.ret
  have hfin := hq.go g2
  clear hq
  go_wp2_with fail
  go_ret
  exact hfin
set_option maxHeartbeats 3200000 in
set_option maxRecDepth 100000 in
theorem atom_cls (R _d : Nat) (l : Bs) (X : List Stp) (V : Value) (F : List Value) (w : World) (D : Int) (h : RdAt w R (91 :: l) X V F) (hX : X.length ≤ 1000) :
    Calls Try.prog 44 #[.pointer (some ⟨R, 0, none⟩), .int .i64 D] w (OutQ R V F w X (fun x => stR x X.length) (clsR (classN l))) := by
  have hzc := zero_class
  have hlZ := setRow_len noSet
  obtain ⟨Z, eZ⟩ : ∃ Z, setRow noSet = Z := ⟨_, rfl⟩
  rw [eZ] at hzc hlZ
  have EZ : Unit → setRow noSet = Z := fun _ => eZ
  clear eZ
  have hal := (Below.refl w.heap.size w).alloc (Nat.le_refl _) (.cells Z.toArray 64)
  have hRT : R ≠ w.heap.size := by have := Rw.lt h.q; omega
  have hFT : ¬ Foot V F w.heap.size := fun e => by have := (h.st.lt e).2; omega
  have h1 := h.stay hal
  have g1 : Grow R V F V F w (w.alloc (.cells Z.toArray 64)) := Grow.below hal
  have r1 : Rw (w.alloc (.cells Z.toArray 64)) w.heap.size 64 (setRow noSet) := by rw [EZ ()]; exact Rw.new w _ Z
  clear h
  go_enter Try.func44, Try.ntmps44
  go_upto_region 3 with fail
  generalize w.alloc (.cells Z.toArray 64) = w1 at *
  clear hal hzc
  have c0 := h1.q.rest
  have hi0 := at_text (91 :: l) 0 91 rfl 0 rfl
  generalize (⟨(91 :: l).toArray⟩ : ByteArray) = Y at c0 hi0
  go_wp2_with fail
  clear c0 hi0
  refine (take_miss R 40 (91 :: l) V w1 h1.q (by simp) 40 rfl).mono ?_
  rintro e w2 ⟨rfl, hw2⟩
  obtain rfl : w1 = w2 := hw2.symm
  go_wp2_with fail
  refine (take_hit R 91 l V w1 h1.q).mono ?_
  rintro e w2 ⟨rfl, q2, hA2⟩
  have h2 := h1.turn q2 hA2
  have g2 := g1.trans (Grow.turn hA2)
  have r2 := r1.keep hA2 (fun e : w.heap.size = R => hRT e.symm)
  clear q2 hA2 h1 g1 r1
  go_wp2_with fail
  have K := class_any R l V w2 h2.q
  obtain ⟨o, ho⟩ : ∃ o, classN l = o := ⟨_, rfl⟩
  rw [ho] at K
  have HO : Unit → classN l = o := fun _ => ho
  clear ho
  cases o with
  | none =>
    refine K.mono ?_
    rintro e w3 ⟨⟨⟨q, rfl⟩, l3, q3⟩, hA3⟩
    have g3 := g2.trans (Grow.turn hA3)
    have r3 := r2.keep hA3 (fun e : w.heap.size = R => hRT e.symm)
    clear K h2 g2 r2
    have r4 : Rw (w3.setRow w.heap.size (setRow q).toArray) w.heap.size 64 (setRow q) := r3.setRow
    have hA4 : Asd (· = w.heap.size) w3 (w3.setRow w.heap.size (setRow q).toArray) := (Asd.refl _ _).setRow (.inl rfl)
    have g4 := g3.apart hA4 (Nat.le_refl _)
    go_wp2_with (refine store_arr w.heap.size 64 _ r3 256 (setRow_len _) 64 (by kernel_rfl) (setRow q) (setRow_len _) (setRow_cell _) _ _ rfl rfl rfl rfl ?_)
    go_ret
    exact OutQ.of (o := .er .form) (by rw [HO ()]; rfl) ⟨rfl, g4.asd⟩
  | some x =>
    obtain ⟨p, r⟩ := x
    refine K.mono ?_
    rintro e w3 ⟨⟨rfl, q3⟩, hA3⟩
    have h3 := h2.turn q3 hA3
    have g3 := g2.trans (Grow.turn hA3)
    have r3 := r2.keep hA3 (fun e : w.heap.size = R => hRT e.symm)
    clear K h2 g2 r2 q3 hA3
    have r4 : Rw (w3.setRow w.heap.size (setRow p).toArray) w.heap.size 64 (setRow p) := r3.setRow
    have hA4 : Asd (· = w.heap.size) w3 (w3.setRow w.heap.size (setRow p).toArray) := (Asd.refl _ _).setRow (.inl rfl)
    have g4 := g3.apart hA4 (Nat.le_refl _)
    have h4 := h3.apart hA4 hRT hFT
    clear g3 h3
    go_upto_region 16 with (refine store_arr w.heap.size 64 _ r3 256 (setRow_len _) 64 (by kernel_rfl) (setRow p) (setRow_len _) (setRow_cell _) _ _ rfl rfl rfl rfl ?_)
    clear r3 hA4
    generalize w3.setRow w.heap.size (setRow p).toArray = w4 at *
    have K9 := addStep_any R p r X V F w4 h4 hX
    have s9 := setRow_len p
    have cl9 : Cls w4 w.heap.size 0 (setRow p) := fun j v hv => by rw [Nat.zero_add, r4.cell]; exact hv
    replace K9 := Lib.hid K9
    go_wp2_with (refine load_at w.heap.size 0 _ cl9 256 s9 64 (.array 256 4) (by kernel_rfl) rfl (by kernel_rfl) _ rfl rfl rfl ?_)
    refine K9.out.mono ?_
    rintro e w9 ⟨rfl, hq⟩
    clear K9 cl9 s9
    go_wp2_with fail
    go_ret
    exact OutQ.of (o := .ok (.set p) r) (by rw [HO ()]; rfl) (out_set (hq.go g4))
set_option maxHeartbeats 3200000 in
set_option maxRecDepth 100000 in
theorem atom_all (R _d : Nat) (l : Bs) (X : List Stp) (V : Value) (F : List Value) (w : World) (D : Int) (h : RdAt w R (46 :: l) X V F) (hX : X.length ≤ 1000) :
    Calls Try.prog 44 #[.pointer (some ⟨R, 0, none⟩), .int .i64 D] w (OutQ R V F w X (fun x => stR x X.length) (.ok (.set fun _ => true) l)) := by
  have hzc := zero_class
  have hlZ := setRow_len noSet
  obtain ⟨Z, eZ⟩ : ∃ Z, setRow noSet = Z := ⟨_, rfl⟩
  rw [eZ] at hzc hlZ
  have EZ : Unit → setRow noSet = Z := fun _ => eZ
  clear eZ
  have hal := (Below.refl w.heap.size w).alloc (Nat.le_refl _) (.cells Z.toArray 64)
  have hRT : R ≠ w.heap.size := by have := Rw.lt h.q; omega
  have hFT : ¬ Foot V F w.heap.size := fun e => by have := (h.st.lt e).2; omega
  have h1 := h.stay hal
  have g1 : Grow R V F V F w (w.alloc (.cells Z.toArray 64)) := Grow.below hal
  have r1 : Rw (w.alloc (.cells Z.toArray 64)) w.heap.size 64 (setRow noSet) := by rw [EZ ()]; exact Rw.new w _ Z
  clear h
  go_enter Try.func44, Try.ntmps44
  go_upto_region 3 with fail
  generalize w.alloc (.cells Z.toArray 64) = w1 at *
  clear hal hzc
  have c0 := h1.q.rest
  have hi0 := at_text (46 :: l) 0 46 rfl 0 rfl
  generalize (⟨(46 :: l).toArray⟩ : ByteArray) = Y at c0 hi0
  go_wp2_with fail
  clear c0 hi0
  refine (take_miss R 40 (46 :: l) V w1 h1.q (by simp) 40 rfl).mono ?_
  rintro e w2 ⟨rfl, hw2⟩
  obtain rfl : w1 = w2 := hw2.symm
  go_wp2_with fail
  refine (take_miss R 91 (46 :: l) V w1 h1.q (by simp) 91 rfl).mono ?_
  rintro e w2 ⟨rfl, hw2⟩
  obtain rfl : w1 = w2 := hw2.symm
  go_wp2_with fail
  refine (take_hit R 46 l V w1 h1.q).mono ?_
  rintro e w2 ⟨rfl, q2, hA2⟩
  have h2 := h1.turn q2 hA2
  have g2 := g1.trans (Grow.turn hA2)
  have r2 := r1.keep hA2 (fun e : w.heap.size = R => hRT e.symm)
  clear q2 hA2 h1 g1 r1
  go_wp2_with fail
  refine (invert_any w.heap.size 64 noSet w2 r2).mono ?_
  rintro e w3 ⟨rfl, r3, hA3⟩
  have h3 := h2.apart hA3 hRT hFT
  have g3 := g2.apart hA3 (Nat.le_refl _)
  clear h2 g2 r2 hA3
  have K9 := addStep_any R (fun x => !noSet x) l X V F w3 h3 hX
  have s9 := setRow_len (fun x => !noSet x)
  have cl9 : Cls w3 w.heap.size 0 (setRow (fun x => !noSet x)) := fun j v hv => by rw [Nat.zero_add, r3.cell]; exact hv
  replace K9 := Lib.hid K9
  go_wp2_with (refine load_at w.heap.size 0 _ cl9 256 s9 64 (.array 256 4) (by kernel_rfl) rfl (by kernel_rfl) _ rfl rfl rfl ?_)
  refine K9.out.mono ?_
  rintro e w9 ⟨rfl, hq⟩
  clear K9 cl9 s9
  go_wp2_with fail
  go_ret
  exact out_set (p := fun x => !noSet x) (hq.go g3)
set_option maxHeartbeats 3200000 in
set_option maxRecDepth 100000 in
theorem atom_odd (c : UInt8) (R _d : Nat) (l : Bs) (X : List Stp) (V : Value) (F : List Value) (w : World) (D : Int) (h40 : c ≠ 40) (h91 : c ≠ 91) (h46 : c ≠ 46) (h92 : c ≠ 92) (hs : spcB c = true) (h : RdAt w R (c :: l) X V F) (_hX : X.length ≤ 1000) :
    Calls Try.prog 44 #[.pointer (some ⟨R, 0, none⟩), .int .i64 D] w (OutQ R V F w X (fun x => stR x X.length) (.er .form)) := by
  have hk : 0 ≤ spcI c := of_decide_eq_true ((spc_of c).trans hs)
  have e92 : ((c.toNat : Int) != 92) = true := by rw [bne, show (92 : Int) = ((92 : UInt8).toNat : Int) from rfl, u8_eq c 92]; simpa using h92
  have KI := Lib.hid fun w => spc_any c w
  generalize spcI c = k at *
  have hzc := zero_class
  have hlZ := setRow_len noSet
  obtain ⟨Z, eZ⟩ : ∃ Z, setRow noSet = Z := ⟨_, rfl⟩
  rw [eZ] at hzc hlZ
  have EZ : Unit → setRow noSet = Z := fun _ => eZ
  clear eZ
  have hal := (Below.refl w.heap.size w).alloc (Nat.le_refl _) (.cells Z.toArray 64)
  have hRT : R ≠ w.heap.size := by have := Rw.lt h.q; omega
  have hFT : ¬ Foot V F w.heap.size := fun e => by have := (h.st.lt e).2; omega
  have h1 := h.stay hal
  have g1 : Grow R V F V F w (w.alloc (.cells Z.toArray 64)) := Grow.below hal
  have r1 : Rw (w.alloc (.cells Z.toArray 64)) w.heap.size 64 (setRow noSet) := by rw [EZ ()]; exact Rw.new w _ Z
  clear h
  go_enter Try.func44, Try.ntmps44
  go_upto_region 3 with fail
  generalize w.alloc (.cells Z.toArray 64) = w1 at *
  clear hal hzc
  have c0 := h1.q.rest
  have hi0 := at_text (c :: l) 0 c rfl 0 rfl
  generalize (⟨(c :: l).toArray⟩ : ByteArray) = Y at c0 hi0
  go_wp2_with fail
  clear c0 hi0
  refine (take_miss R 40 (c :: l) V w1 h1.q (by simpa using h40) 40 rfl).mono ?_
  rintro e w2 ⟨rfl, hw2⟩
  obtain rfl : w1 = w2 := hw2.symm
  go_wp2_with fail
  refine (take_miss R 91 (c :: l) V w1 h1.q (by simpa using h91) 91 rfl).mono ?_
  rintro e w2 ⟨rfl, hw2⟩
  obtain rfl : w1 = w2 := hw2.symm
  go_wp2_with fail
  refine (take_miss R 46 (c :: l) V w1 h1.q (by simpa using h46) 46 rfl).mono ?_
  rintro e w2 ⟨rfl, hw2⟩
  obtain rfl : w1 = w2 := hw2.symm
  go_wp2_with fail
  refine (KI.out _).mono ?_
  rintro e w2 ⟨rfl, hw2⟩
  obtain rfl : w1 = w2 := hw2.symm
  clear KI
  go_wp2_with fail
  go_ret
  exact ⟨rfl, g1.asd⟩
set_option maxHeartbeats 3200000 in
set_option maxRecDepth 100000 in
theorem atom_any1 (c : UInt8) (R _d : Nat) (l : Bs) (X : List Stp) (V : Value) (F : List Value) (w : World) (D : Int) (h40 : c ≠ 40) (h91 : c ≠ 91) (h46 : c ≠ 46) (h92 : c ≠ 92) (hs : spcB c = false) (h : RdAt w R (c :: l) X V F) (hX : X.length ≤ 1000) :
    Calls Try.prog 44 #[.pointer (some ⟨R, 0, none⟩), .int .i64 D] w (OutQ R V F w X (fun x => stR x X.length) (sgnR (signN (c :: l)))) := by
  have hk : ¬ 0 ≤ spcI c := of_decide_eq_false ((spc_of c).trans hs)
  have e92 : ((c.toNat : Int) != 92) = true := by rw [bne, show (92 : Int) = ((92 : UInt8).toNat : Int) from rfl, u8_eq c 92]; simpa using h92
  have KI := Lib.hid fun w => spc_any c w
  generalize spcI c = k at *
  have hzc := zero_class
  have hlZ := setRow_len noSet
  obtain ⟨Z, eZ⟩ : ∃ Z, setRow noSet = Z := ⟨_, rfl⟩
  rw [eZ] at hzc hlZ
  have EZ : Unit → setRow noSet = Z := fun _ => eZ
  clear eZ
  have hal := (Below.refl w.heap.size w).alloc (Nat.le_refl _) (.cells Z.toArray 64)
  have hRT : R ≠ w.heap.size := by have := Rw.lt h.q; omega
  have hFT : ¬ Foot V F w.heap.size := fun e => by have := (h.st.lt e).2; omega
  have h1 := h.stay hal
  have g1 : Grow R V F V F w (w.alloc (.cells Z.toArray 64)) := Grow.below hal
  have r1 : Rw (w.alloc (.cells Z.toArray 64)) w.heap.size 64 (setRow noSet) := by rw [EZ ()]; exact Rw.new w _ Z
  clear h
  go_enter Try.func44, Try.ntmps44
  go_upto_region 3 with fail
  generalize w.alloc (.cells Z.toArray 64) = w1 at *
  clear hal hzc
  have c0 := h1.q.rest
  have hi0 := at_text (c :: l) 0 c rfl 0 rfl
  generalize (⟨(c :: l).toArray⟩ : ByteArray) = Y at c0 hi0
  go_wp2_with fail
  clear c0 hi0
  refine (take_miss R 40 (c :: l) V w1 h1.q (by simpa using h40) 40 rfl).mono ?_
  rintro e w2 ⟨rfl, hw2⟩
  obtain rfl : w1 = w2 := hw2.symm
  go_wp2_with fail
  refine (take_miss R 91 (c :: l) V w1 h1.q (by simpa using h91) 91 rfl).mono ?_
  rintro e w2 ⟨rfl, hw2⟩
  obtain rfl : w1 = w2 := hw2.symm
  go_wp2_with fail
  refine (take_miss R 46 (c :: l) V w1 h1.q (by simpa using h46) 46 rfl).mono ?_
  rintro e w2 ⟨rfl, hw2⟩
  obtain rfl : w1 = w2 := hw2.symm
  go_wp2_with fail
  refine (KI.out _).mono ?_
  rintro e w2 ⟨rfl, hw2⟩
  obtain rfl : w1 = w2 := hw2.symm
  clear KI
  go_wp2_with fail
  have KS := sign_any R (c :: l) V w1 h1.q
  obtain ⟨o, ho⟩ : ∃ o, signN (c :: l) = o := ⟨_, rfl⟩
  rw [ho] at KS
  have HO : Unit → signN (c :: l) = o := fun _ => ho
  clear ho
  cases o with
  | none =>
    simp only [signV, signL] at KS
    refine KS.mono ?_
    rintro e w2 ⟨rfl, q2, hA2⟩
    have g2 := g1.trans (Grow.turn hA2)
    have r2 := r1.keep hA2 (fun e : w.heap.size = R => hRT e.symm)
    clear KS h1 g1 r1
    have KP := Lib.hid (plus_any w.heap.size 64 noSet 0 0 w2 r2)
    go_wp2_with fail
    refine KP.out.mono ?_
    rintro e w3 ⟨rfl, r3, hA3⟩
    have g3 := g2.apart hA3 (Nat.le_refl _)
    clear KP g2 r2
    go_wp2_with fail
    go_ret
    exact OutQ.of (o := .er .form) (by rw [HO ()]; rfl) ⟨rfl, g3.asd⟩
  | some z =>
    obtain ⟨x, r⟩ := z
    simp only [signV, signL] at KS
    refine KS.mono ?_
    rintro e w2 ⟨rfl, q2, hA2⟩
    have h2 := h1.turn q2 hA2
    have g2 := g1.trans (Grow.turn hA2)
    have r2 := r1.keep hA2 (fun e : w.heap.size = R => hRT e.symm)
    clear KS h1 g1 r1 q2 hA2
    have KP := plus_any w.heap.size 64 noSet x x w2 r2
    rw [plus_one x] at KP
    replace KP := Lib.hid KP
    go_wp2_with fail
    refine KP.out.mono ?_
    rintro e w3 ⟨rfl, r3, hA3⟩
    have h3 := h2.apart hA3 hRT hFT
    have g3 := g2.apart hA3 (Nat.le_refl _)
    clear KP h2 g2 r2 hA3
    have K9 := addStep_any R (fun b => b == x) r X V F w3 h3 hX
    have s9 := setRow_len (fun b => b == x)
    have cl9 : Cls w3 w.heap.size 0 (setRow (fun b => b == x)) := fun j v hv => by rw [Nat.zero_add, r3.cell]; exact hv
    replace K9 := Lib.hid K9
    go_wp2_with (refine load_at w.heap.size 0 _ cl9 256 s9 64 (.array 256 4) (by kernel_rfl) rfl (by kernel_rfl) _ rfl rfl rfl ?_)
    refine K9.out.mono ?_
    rintro e w9 ⟨rfl, hq⟩
    clear K9 cl9 s9
    go_wp2_with fail
    go_ret
    exact OutQ.of (o := .ok (.set fun b => b == x) r) (by rw [HO ()]; rfl) (out_set (p := fun b => b == x) (hq.go g3))
set_option maxHeartbeats 3200000 in
set_option maxRecDepth 100000 in
theorem atom_any2 (R _d : Nat) (l : Bs) (X : List Stp) (V : Value) (F : List Value) (w : World) (D : Int) (h : RdAt w R (92 :: l) X V F) (hX : X.length ≤ 1000) :
    Calls Try.prog 44 #[.pointer (some ⟨R, 0, none⟩), .int .i64 D] w (OutQ R V F w X (fun x => stR x X.length) (sgnR (signN (92 :: l)))) := by
  have hzc := zero_class
  have hlZ := setRow_len noSet
  obtain ⟨Z, eZ⟩ : ∃ Z, setRow noSet = Z := ⟨_, rfl⟩
  rw [eZ] at hzc hlZ
  have EZ : Unit → setRow noSet = Z := fun _ => eZ
  clear eZ
  have hal := (Below.refl w.heap.size w).alloc (Nat.le_refl _) (.cells Z.toArray 64)
  have hRT : R ≠ w.heap.size := by have := Rw.lt h.q; omega
  have hFT : ¬ Foot V F w.heap.size := fun e => by have := (h.st.lt e).2; omega
  have h1 := h.stay hal
  have g1 : Grow R V F V F w (w.alloc (.cells Z.toArray 64)) := Grow.below hal
  have r1 : Rw (w.alloc (.cells Z.toArray 64)) w.heap.size 64 (setRow noSet) := by rw [EZ ()]; exact Rw.new w _ Z
  clear h
  go_enter Try.func44, Try.ntmps44
  go_upto_region 3 with fail
  generalize w.alloc (.cells Z.toArray 64) = w1 at *
  clear hal hzc
  have c0 := h1.q.rest
  have hi0 := at_text (92 :: l) 0 92 rfl 0 rfl
  generalize (⟨(92 :: l).toArray⟩ : ByteArray) = Y at c0 hi0
  go_wp2_with fail
  clear c0 hi0
  refine (take_miss R 40 (92 :: l) V w1 h1.q (by simp) 40 rfl).mono ?_
  rintro e w2 ⟨rfl, hw2⟩
  obtain rfl : w1 = w2 := hw2.symm
  go_wp2_with fail
  refine (take_miss R 91 (92 :: l) V w1 h1.q (by simp) 91 rfl).mono ?_
  rintro e w2 ⟨rfl, hw2⟩
  obtain rfl : w1 = w2 := hw2.symm
  go_wp2_with fail
  refine (take_miss R 46 (92 :: l) V w1 h1.q (by simp) 46 rfl).mono ?_
  rintro e w2 ⟨rfl, hw2⟩
  obtain rfl : w1 = w2 := hw2.symm
  go_wp2_with fail
  have KS := sign_any R (92 :: l) V w1 h1.q
  obtain ⟨o, ho⟩ : ∃ o, signN (92 :: l) = o := ⟨_, rfl⟩
  rw [ho] at KS
  have HO : Unit → signN (92 :: l) = o := fun _ => ho
  clear ho
  cases o with
  | none =>
    simp only [signV, signL] at KS
    refine KS.mono ?_
    rintro e w2 ⟨rfl, q2, hA2⟩
    have g2 := g1.trans (Grow.turn hA2)
    have r2 := r1.keep hA2 (fun e : w.heap.size = R => hRT e.symm)
    clear KS h1 g1 r1
    have KP := Lib.hid (plus_any w.heap.size 64 noSet 0 0 w2 r2)
    go_wp2_with fail
    refine KP.out.mono ?_
    rintro e w3 ⟨rfl, r3, hA3⟩
    have g3 := g2.apart hA3 (Nat.le_refl _)
    clear KP g2 r2
    go_wp2_with fail
    go_ret
    exact OutQ.of (o := .er .form) (by rw [HO ()]; rfl) ⟨rfl, g3.asd⟩
  | some z =>
    obtain ⟨x, r⟩ := z
    simp only [signV, signL] at KS
    refine KS.mono ?_
    rintro e w2 ⟨rfl, q2, hA2⟩
    have h2 := h1.turn q2 hA2
    have g2 := g1.trans (Grow.turn hA2)
    have r2 := r1.keep hA2 (fun e : w.heap.size = R => hRT e.symm)
    clear KS h1 g1 r1 q2 hA2
    have KP := plus_any w.heap.size 64 noSet x x w2 r2
    rw [plus_one x] at KP
    replace KP := Lib.hid KP
    go_wp2_with fail
    refine KP.out.mono ?_
    rintro e w3 ⟨rfl, r3, hA3⟩
    have h3 := h2.apart hA3 hRT hFT
    have g3 := g2.apart hA3 (Nat.le_refl _)
    clear KP h2 g2 r2 hA3
    have K9 := addStep_any R (fun b => b == x) r X V F w3 h3 hX
    have s9 := setRow_len (fun b => b == x)
    have cl9 : Cls w3 w.heap.size 0 (setRow (fun b => b == x)) := fun j v hv => by rw [Nat.zero_add, r3.cell]; exact hv
    replace K9 := Lib.hid K9
    go_wp2_with (refine load_at w.heap.size 0 _ cl9 256 s9 64 (.array 256 4) (by kernel_rfl) rfl (by kernel_rfl) _ rfl rfl rfl ?_)
    refine K9.out.mono ?_
    rintro e w9 ⟨rfl, hq⟩
    clear K9 cl9 s9
    go_wp2_with fail
    go_ret
    exact OutQ.of (o := .ok (.set fun b => b == x) r) (by rw [HO ()]; rfl) (out_set (p := fun b => b == x) (hq.go g3))
theorem atom_step (n : Nat) (HA : AltC n) : AtomC (n + 1) := fun R d c l X V F w D h hD hd hX hf hn => by
  simp only [List.length_cons] at hX hn
  by_cases h40 : c = 40
  · subst h40
    rw [atom_open]
    exact atom_group n HA R d l X V F w D hD hd hf (by omega) (by omega) h (by omega)
  · by_cases h91 : c = 91
    · subst h91
      rw [atom_class]
      exact atom_cls R d l X V F w D h (by omega)
    · by_cases h46 : c = 46
      · subst h46
        rw [atom_dot]
        exact atom_all R d l X V F w D h (by omega)
      · by_cases h92 : c = 92
        · subst h92
          rw [atom_sign n d l h40 h91 h46 (.inl rfl)]
          exact atom_any2 R d l X V F w D h (by omega)
        · cases hs : spcB c with
          | true =>
            rw [atom_spc n d l h40 h91 h46 h92 hs]
            exact atom_odd c R d l X V F w D h40 h91 h46 h92 hs h (by omega)
          | false =>
            rw [atom_sign n d l h40 h91 h46 (.inr hs)]
            exact atom_any1 c R d l X V F w D h40 h91 h46 h92 hs h (by omega)
end Go.Proofs.Ytakkcofmbafneaa
