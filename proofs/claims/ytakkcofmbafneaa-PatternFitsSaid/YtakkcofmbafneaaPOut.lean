/- The reader: what its functions hand back; a group. -/
import Derived.Test.YtakkcofmbafneaaPLead
import Derived.Test.YtakkcofmbafneaaPClassW
import Derived.Test.YtakkcofmbafneaaShelf
namespace Go.Proofs.Ytakkcofmbafneaa
open Go.ChangeShapes Go.WideShapes Go.RowKit

def erV : Er → Int
  | .form => 2
  | .deep => 3
theorem erV_ne (e : Er) : (erV e != 0) = true := by cases e <;> rfl
/-- What a function of the reader hands back: an error, or more steps. -/
def OutQ {α : Type} (R : Nat) (V : Value) (F : List Value) (w : World) (X : List Stp) (lay : α → List Stp) (o : Res α) (e : Ending) (w' : World) : Prop :=
  match o with
  | .er er => e = .returned (.int .i64 (erV er)) ∧ Asd (fun k => k = R ∨ Foot V F k) w w'
  | .ok x r => e = .returned (.int .i64 0) ∧ RdQ w R V F r (X ++ lay x) w'
theorem RdAt.apart {w w' : World} {R T : Nat} {l : Bs} {S : List Stp} {V : Value} {F : List Value} (h : RdAt w R l S V F) (k : Asd (· = T) w w') (hR : R ≠ T) (hT : ¬ Foot V F T) : RdAt w' R l S V F :=
  ⟨Rw.keep h.q k hR, h.st.keep k (fun _ hi e => hT (e ▸ hi))⟩
theorem Grow.below {w w' : World} {R : Nat} {V : Value} {F : List Value} (k : Below w.heap.size w w') : Grow R V F V F w w' := ⟨fun _ h => .inl h, Asd.of_below k⟩
theorem Grow.apart {w w1 w2 : World} {R T : Nat} {V V' : Value} {F F' : List Value} (h : Grow R V F V' F' w w1) (k : Asd (· = T) w1 w2) (hT : w.heap.size ≤ T) : Grow R V F V' F' w w2 :=
  ⟨h.foot, h.asd.trans k (fun i hi hlt => by have hi : i = T := hi; omega)⟩
theorem Grow.andAsd {w w1 w2 : World} {R : Nat} {V V1 : Value} {F F1 : List Value} (h : Grow R V F V1 F1 w w1) (k : Asd (fun k => k = R ∨ Foot V1 F1 k) w1 w2) : Asd (fun k => k = R ∨ Foot V F k) w w2 :=
  h.asd.trans k fun i hi hlt => by
    rcases hi with hi | hi
    · exact .inl hi
    · rcases h.foot i hi with q | q
      · exact .inr q
      · omega
theorem RdQ.go {w w1 w2 : World} {R : Nat} {V V1 : Value} {F F1 : List Value} {l : Bs} {S : List Stp} (h : Grow R V F V1 F1 w w1) (k : RdQ w1 R V1 F1 l S w2) : RdQ w R V F l S w2 := by
  obtain ⟨V2, F2, h2, g2⟩ := k
  exact ⟨V2, F2, h2, h.trans g2⟩
theorem OutQ.go {α : Type} {w w1 w2 : World} {R : Nat} {V V1 : Value} {F F1 : List Value} {X : List Stp} {lay : α → List Stp} {o : Res α} {e : Ending} (h : Grow R V F V1 F1 w w1) (k : OutQ R V1 F1 w1 X lay o e w2) : OutQ R V F w X lay o e w2 := by
  cases o with
  | er er => exact ⟨k.1, h.andAsd k.2⟩
  | ok x r => exact ⟨k.1, k.2.go h⟩
/-- The reader reads alternatives. -/
def AltC (n : Nat) : Prop := ∀ (R d : Nat) (l : Bs) (X : List Stp) (V : Value) (F : List Value) (w : World) (D : Int), RdAt w R l X V F → D = (d : Int) → d ≤ 8 → X.length + l.length + 1 ≤ 300 → Fb X → 4 * l.length + 4 ≤ n →
  Calls Try.prog 23 #[.pointer (some ⟨R, 0, none⟩), .int .i64 D] w (OutQ R V F w X (fun a => stR (.grp a) X.length) (altN n d l))
def SeqC (n : Nat) : Prop := ∀ (R d : Nat) (l : Bs) (X : List Stp) (V : Value) (F : List Value) (w : World) (D : Int), RdAt w R l X V F → D = (d : Int) → d ≤ 8 → X.length + l.length ≤ 300 → Fb X → 4 * l.length + 3 ≤ n →
  Calls Try.prog 32 #[.pointer (some ⟨R, 0, none⟩), .int .i64 D] w (OutQ R V F w X (fun q => stS q X.length) (seqN n d l))
def PartC (n : Nat) : Prop := ∀ (R d : Nat) (c : UInt8) (l : Bs) (X : List Stp) (V : Value) (F : List Value) (w : World) (D : Int), RdAt w R (c :: l) X V F → D = (d : Int) → d ≤ 8 → X.length + (c :: l).length ≤ 300 → Fb X → 4 * (c :: l).length + 2 ≤ n →
  Calls Try.prog 40 #[.pointer (some ⟨R, 0, none⟩), .int .i64 D] w (OutQ R V F w X (fun x => stR x X.length) (partN n d (c :: l)))
def AtomC (n : Nat) : Prop := ∀ (R d : Nat) (c : UInt8) (l : Bs) (X : List Stp) (V : Value) (F : List Value) (w : World) (D : Int), RdAt w R (c :: l) X V F → D = (d : Int) → d ≤ 8 → X.length + (c :: l).length ≤ 300 → Fb X → 4 * (c :: l).length + 1 ≤ n →
  Calls Try.prog 44 #[.pointer (some ⟨R, 0, none⟩), .int .i64 D] w (OutQ R V F w X (fun x => stR x X.length) (atomN n d (c :: l)))
/-- Behind a (. -/
def grpO : Res Al → Res Re
  | .er e => .er e
  | .ok _ [] => .er .form
  | .ok a (x :: r') => if x = 41 then .ok (.grp a) r' else .er .form
def groupN (n d : Nat) (s : Bx) : Res Re := if d = 8 then .er .deep else grpO (altN n (d + 1) s)
set_option maxHeartbeats 1600000 in
set_option maxRecDepth 100000 in
theorem group_any (n : Nat) (HA : AltC n) (R d : Nat) (l : Bs) (X : List Stp) (V : Value) (F : List Value) (w : World) (D : Int) (h : RdAt w R l X V F) (hD : D = (d : Int)) (hd : d ≤ 8) (hX : X.length + l.length + 1 ≤ 300) (hf : Fb X) (hn : 4 * l.length + 4 ≤ n) :
    Calls Try.prog 46 #[.pointer (some ⟨R, 0, none⟩), .int .i64 D] w (OutQ R V F w X (fun x => stR x X.length) (groupN n d l)) := by
  by_cases h8 : d = 8
  · have e : groupN n d l = .er .deep := by unfold groupN; rw [if_pos h8]
    rw [e]
    have hD8 : (D == 8) = true := by rw [beq_iff_eq]; omega
    clear HA h hX hf
    go_enter Try.func46, Try.ntmps46
    go_wp2_with fail
    go_ret
    exact ⟨rfl, Asd.refl _ _⟩
  · have hD8 : (D == 8) = false := by rw [beq_eq_false_iff_ne]; omega
    obtain ⟨o, ho⟩ : ∃ o, altN n (d + 1) l = o := ⟨_, rfl⟩
    have K := HA R (d + 1) l X V F w (D + 1) h (by omega) (by omega) hX hf hn
    have e : groupN n d l = grpO o := by unfold groupN; rw [if_neg h8, ho]
    rw [e]
    rw [ho] at K
    replace K := Lib.hid K
    have hD0 : 0 ≤ D := by omega
    have hD1 : D ≤ 8 := by omega
    clear e ho HA h hX hf hn hd h8 hD
    cases o with
    | er er =>
      go_enter Try.func46, Try.ntmps46
      go_wp2_with fail
      refine K.out.mono ?_
      rintro e w1 ⟨rfl, hA⟩
      have hne := erV_ne er
      clear K
      go_wp2_with fail
      go_ret
      exact ⟨rfl, hA⟩
    | ok a r =>
      go_enter Try.func46, Try.ntmps46
      go_wp2_with fail
      refine K.out.mono ?_
      rintro e w1 ⟨rfl, V1, F1, h1, g1⟩
      clear K
      have K2 := Lib.hid (take_any R 41 r V1 w1 h1.q 41 rfl)
      go_wp2_with fail
      refine K2.out.mono ?_
      rintro e w2 ⟨rfl, q2, hA2⟩
      clear K2
      have h2 := h1.turn q2 hA2
      have g2 := g1.trans (Grow.turn hA2)
      clear h1 g1 q2 hA2
      cases r with
      | nil =>
        rw [show nextIs 41 [] = false from rfl]
        go_wp2_with fail
        go_ret
        exact ⟨rfl, g2.asd⟩
      | cons x r' =>
        by_cases hx : x = 41
        · subst hx
          rw [show nextIs 41 (41 :: r') = true by simp [nextIs]]
          rw [show dropIf 41 (41 :: r') = r' by simp [dropIf]] at h2
          go_wp2_with fail
          go_ret
          exact ⟨rfl, V1, F1, h2, g2⟩
        · rw [show nextIs 41 (x :: r') = false by simp [nextIs, hx]]
          go_wp2_with fail
          go_ret
          show OutQ R V F w X _ (grpO (.ok a (x :: r'))) _ _
          rw [show grpO (.ok a (x :: r')) = .er .form by simp [grpO, hx]]
          exact ⟨rfl, g2.asd⟩
end Go.Proofs.Ytakkcofmbafneaa
