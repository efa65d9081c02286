/- The document's ends: a set, any number of times, once and more; and of any pattern (written by wip/tools/genends.py). -/
import Derived.Test.YteooofakpkbgoaaDoorQEnds
namespace Go.Proofs.YteooofakpkbgoaaDoor.Dn
open Go.ChangeShapes Go.WideShapes Go.RowKit

def stepB (s : Bx) (p : UInt8 → Bool) (f : Nat → Bool) : Nat → Bool
  | 0 => false
  | i + 1 => f i && (match s[i]? with | some c => p c | none => false)
theorem step_places (s : Bx) (p : UInt8 → Bool) (f : Nat → Bool) (j : Nat) : Pl (s.length + 1) (stepB s p f) j ↔ Ends (fun u => ∃ c, u = [c] ∧ p c = true) s (Pl (s.length + 1) f) j := by
  rw [ends_set]
  unfold Pl
  cases j with
  | zero => simp [stepB]
  | succ i =>
    constructor
    · rintro ⟨h, h1⟩
      unfold stepB at h1
      rw [Bool.and_eq_true] at h1
      refine ⟨i, rfl, ⟨by omega, h1.1⟩, ?_⟩
      have h2 := h1.2
      split at h2
      · rename_i c hc
        exact ⟨c, hc, h2⟩
      · cases h2
    · rintro ⟨k, e, ⟨h, h1⟩, c, hc, h2⟩
      obtain rfl : i = k := by omega
      have := (List.getElem?_eq_some_iff.1 hc).1
      refine ⟨by omega, ?_⟩
      rw [show stepB s p f (i + 1) = (f i && (match s[i]? with | some c => p c | none => false)) from rfl, h1, hc, Bool.true_and]
      exact h2
theorem upB_one (s : Bx) (p : UInt8 → Bool) (f : Nat → Bool) : upB 1 (stepB s p f) = fun _ => false := by
  funext j
  unfold upB
  cases j with
  | zero => simp [stepB]
  | succ i => simp
/-- How many are not there yet. -/
def cntB (n : Nat) (f : Nat → Bool) : Nat := ((List.range n).filter fun j => !f j).length
def openN (w : World) (v : Value) : Nat := match v with
  | .slice (some a) n _ => ((List.range n).filter fun j => match w.cell? ⟨a.block, j, none⟩ with | some (.bool true) => false | _ => true).length
  | _ => 0
def moreN (v : Value) (n : Nat) : Nat := match v with
  | .bool true => n + 1
  | _ => 0
theorem open_is {w : World} {v : Value} {n : Nat} {f : Nat → Bool} (h : BAt w v n f) : openN w v = cntB n f := by
  obtain ⟨g, rfl, hr⟩ := h
  refine congrArg List.length (List.filter_congr (l := List.range n) (p := fun j => match w.cell? ⟨g, j, none⟩ with | some (.bool true) => false | _ => true) (q := fun j => !f j) (fun j hj => ?_))
  have := (hr.cell j).trans (rowB_get f (List.mem_range.1 hj))
  rw [this]
  cases f j <;> rfl
theorem cnt_lt {n : Nat} {fo f3 : Nat → Bool} {k : Nat} (hk : k < n) (h1 : f3 k = true) (h2 : fo k = false) : cntB n (fun j => fo j || f3 j) < cntB n fo := by
  have hle : ∀ l : List Nat, (l.filter fun j => !(fo j || f3 j)).length ≤ (l.filter fun j => !fo j).length := fun l => by
    induction l with
    | nil => exact Nat.le_refl _
    | cons a l ih =>
      rw [List.filter_cons, List.filter_cons]
      cases fo a <;> cases f3 a <;> simp only [Bool.not_true, Bool.not_false, Bool.or_true, Bool.or_false, Bool.or_self, List.length_cons, Bool.false_eq_true, if_true, if_false] <;> omega
  have hlt : ∀ l : List Nat, k ∈ l → (l.filter fun j => !(fo j || f3 j)).length < (l.filter fun j => !fo j).length := fun l => by
    induction l with
    | nil => intro h; cases h
    | cons a l ih =>
      intro h
      rw [List.filter_cons, List.filter_cons]
      rcases List.mem_cons.1 h with rfl | h
      · have := hle l
        rw [h1, h2]
        simp only [Bool.or_true, Bool.not_true, Bool.not_false, List.length_cons, Bool.false_eq_true, if_true, if_false]
        omega
      · have := ih h
        cases fo a <;> cases f3 a <;> simp only [Bool.not_true, Bool.not_false, Bool.or_true, Bool.or_false, Bool.or_self, List.length_cons, Bool.false_eq_true, if_true, if_false] <;> omega
  exact hlt _ (List.mem_range.2 hk)
theorem more_step (f3 fo : Nat → Bool) (i : Nat) (m : Bool) (h : m = true ↔ ∃ j, j < i ∧ f3 j = true ∧ fo j = false) : ((m || (f3 i && !fo i)) = true ↔ ∃ j, j < i + 1 ∧ f3 j = true ∧ fo j = false) := by
  rw [Bool.or_eq_true, h]
  constructor
  · rintro (⟨j, hj, h1⟩ | h1)
    · exact ⟨j, by omega, h1⟩
    · simp only [Bool.and_eq_true, Bool.not_eq_true'] at h1
      exact ⟨i, by omega, h1⟩
  · rintro ⟨j, hj, h1, h2⟩
    by_cases e : j = i
    · subst e
      right
      rw [h1, h2]
      rfl
    · exact .inl ⟨j, by omega, h1, h2⟩
set_option maxHeartbeats 3200000 in
set_option maxRecDepth 100000 in
theorem ends_bytes (d : Nat) (p : UInt8 → Bool) : EndsC (d + 1) (.mk 0 p []) (fun u => ∃ c, u = [c] ∧ p c = true) := by
  intro P w cs s v f hs ht hv
  obtain ⟨vk, css, rfl, hr, hkl, hk⟩ := ht
  obtain ⟨gA, rfl, rA⟩ := hv
  obtain ⟨a0, c0, rfl⟩ := hr.shape
  obtain ⟨N, hNN⟩ : ∃ N, s.length + 1 = N := ⟨_, rfl⟩
  rw [hNN] at rA ⊢
  have hN : N ≤ 1001 := by omega
  have hmk := make_bool N (by omega) (N : Int) rfl
  obtain ⟨X, eX⟩ : ∃ X, nodeC 0 p (.slice a0 css.length c0) = X := ⟨_, rfl⟩
  have hlX := nodeC_len 0 p (.slice a0 css.length c0)
  have x0 := nodeC_kind 0 p (.slice a0 css.length c0)
  have x257 := nodeC_kids 0 p (.slice a0 css.length c0)
  have xb : ∀ b, b < 256 → X[1 + b]? = some (.bool (p (UInt8.ofNat b))) := fun b hb => by rw [← eX]; exact nodeC_bit 0 p _ hb
  rw [eX] at hlX x0 x257
  simp only [eX]
  clear eX
  have hX : (Value.agg X.toArray).cells = X.toArray := rfl
  go_enter Tryd.func66, Tryd.ntmps66
  go_upto_region 1 with fail
  have rN := Rw.new w 61 X
  have A := Asd.of_below (S := fun _ => False) ((Below.refl w.heap.size w).alloc (Nat.le_refl _) (.cells X.toArray 61))
  generalize w.alloc (.cells X.toArray 61) = w1 at *
  obtain ⟨bN, hbN, eN⟩ : ∃ bN, w.heap.size ≤ bN ∧ w.heap.size = bN := ⟨_, Nat.le_refl _, rfl⟩
  rw [eN] at rN
  simp only [eN]
  have hsz1 := A.size
  have hlN := Rw.lt rN
  have hlA := Rw.lt rA
  go_upto_region 2 with fail
  have ro := Rw.new w1 4 (rowB N (fun _ => false))
  have hb1 := (Below.refl w1.heap.size w1).alloc (Nat.le_refl _) (.cells (rowB N (fun _ => false)).toArray 4)
  replace A := A.below hb1
  replace rN := rN.stay hb1
  have hNB := Rw.lt rN
  generalize w1.alloc (.cells (rowB N (fun _ => false)).toArray 4) = w2 at *
  obtain ⟨gO, eO⟩ : ∃ gO, w1.heap.size = gO := ⟨_, rfl⟩
  rw [eO] at ro hsz1 hlN
  simp only [eO]
  have k0 := (rN.cell 0).trans x0
  have k257 := (rN.cell 257).trans x257
  clear hmk hb1 hX
  replace rA := rA.keep A (fun e => e)
  replace hr := hr.keepN A (fun _ _ _ e => e)
  replace hk := fun (i : Nat) c t h1 h2 => (hk i c t h1 h2).keep A (fun _ _ _ e => e)
  have hss : (⟨s.toArray⟩ : ByteArray).size = s.length := by simp [ByteArray.size]
  have hsi := fun (k : Nat) c (h : s[k]? = some c) => at_text s k c h (k : Int) rfl
  obtain ⟨S9, eS⟩ : ∃ S9, (⟨s.toArray⟩ : ByteArray) = S9 := ⟨_, rfl⟩
  simp only [eS] at hss hsi ⊢
  clear eS
  rw [← upB_one s p f] at ro
  go_wp2_with fail
  go_loopw [8] (fun iv wr => ∃ k : Nat, k ≤ s.length ∧ iv = .int .i64 (k : Int) ∧ Rw wr gO 4 (rowB N (upB (k + 1) (stepB s p f))) ∧ Asd (fun j => j = gO) w2 wr) (fun iv _ => s.length - (intOf iv).toNat)
  case atStart => exact ⟨0, by omega, rfl, ro, Asd.refl _ _⟩
  case round =>
    clear ro
    obtain ⟨k, hkl2, rfl, ro, A2⟩ := hrel
    by_cases hlt : k < s.length
    · have hli : (k : Int) < (s.length : Int) := by omega
      obtain ⟨c, hc⟩ : ∃ c, s[k]? = some c := ⟨_, List.getElem?_eq_getElem hlt⟩
      have hi := hsi k c hc
      have hcb := c.toNat_lt
      have ca := ((rA.keep A2 (by omega)).cell k).trans (rowB_get f (by omega))
      have cx := ((rN.keep A2 (by omega)).cell (1 + c.toNat)).trans (xb c.toNat hcb)
      rw [UInt8.ofNat_toNat] at cx
      have co := (ro.cell (k + 1)).trans (rowB_get _ (by omega))
      have fo := ro.frozen (k + 1)
      have hst := upB_step (k + 1) (stepB s p f)
      have hwr : IntKind.i64.wrap ((k : Int) + 1) = (k : Int) + 1 := wrap_i64 (by omega) (by omega)
      have hsb : stepB s p f (k + 1) = (f k && p c) := by rw [stepB, hc]
      clear hc hsi
      cases hf : f k with
      | false =>
        rw [hf] at ca hsb
        rw [Bool.false_and] at hsb
        rw [hsb] at hst
        go_wp2_with fail
        go_roundw
        case rel =>
          refine ⟨k + 1, by omega, by go_num, ?_, A2.setCell (p := ⟨gO, k + 1, none⟩) (.inl rfl) _⟩
          have := ro.setCell (k + 1) (.bool false)
          rw [rowB_set, hst] at this
          exact this
        case measure => simp [intOf]; omega
      | true =>
        rw [hf] at ca hsb
        rw [Bool.true_and] at hsb
        obtain ⟨b, hb⟩ : ∃ b, p c = b := ⟨_, rfl⟩
        rw [hb] at cx hsb
        rw [hsb] at hst
        go_wp2_with fail
        go_roundw
        case rel =>
          refine ⟨k + 1, by omega, by go_num, ?_, A2.setCell (p := ⟨gO, k + 1, none⟩) (.inl rfl) _⟩
          have := ro.setCell (k + 1) (.bool b)
          rw [rowB_set, hst] at this
          exact this
        case measure => simp [intOf]; omega
    · have hli : ¬ (k : Int) < (s.length : Int) := by omega
      obtain rfl : k = s.length := by omega
      rw [hNN, upB_end] at ro
      go_wp2_with fail
      go_ret
      refine ⟨by rw [← eN]; exact below_asd (A.trans A2 (fun i e hl => by omega)), _, rfl, _, ⟨gO, rfl, ro⟩, fun j => ?_⟩
      rw [← hNN]
      exact step_places s p f j
set_option maxHeartbeats 6400000 in
set_option maxRecDepth 100000 in
theorem ends_star3 (d : Nat) (t0 : T) (L0 : Bx → Prop) (H0 : EndsC d t0 L0) : EndsC (d + 1) (.mk 3 noSet [t0]) (Star L0) := by
  intro P w cs s v f hs ht hv
  obtain ⟨vk, css, rfl, hr, hkl, hk⟩ := ht
  obtain ⟨gA, rfl, rA⟩ := hv
  obtain ⟨a0, c0, rfl⟩ := hr.shape
  obtain ⟨N, hNN⟩ : ∃ N, s.length + 1 = N := ⟨_, rfl⟩
  rw [hNN] at rA ⊢
  have hN : N ≤ 1001 := by omega
  have hmk := make_bool N (by omega) (N : Int) rfl
  obtain ⟨X, eX⟩ : ∃ X, nodeC 3 noSet (.slice a0 css.length c0) = X := ⟨_, rfl⟩
  have hlX := nodeC_len 3 noSet (.slice a0 css.length c0)
  have x0 := nodeC_kind 3 noSet (.slice a0 css.length c0)
  have x257 := nodeC_kids 3 noSet (.slice a0 css.length c0)
  rw [eX] at hlX x0 x257
  simp only [eX]
  clear eX
  have hX : (Value.agg X.toArray).cells = X.toArray := rfl
  go_enter Tryd.func66, Tryd.ntmps66
  go_upto_region 1 with fail
  have rN := Rw.new w 61 X
  have A := Asd.of_below (S := fun _ => False) ((Below.refl w.heap.size w).alloc (Nat.le_refl _) (.cells X.toArray 61))
  generalize w.alloc (.cells X.toArray 61) = w1 at *
  obtain ⟨bN, hbN, eN⟩ : ∃ bN, w.heap.size ≤ bN ∧ w.heap.size = bN := ⟨_, Nat.le_refl _, rfl⟩
  rw [eN] at rN
  simp only [eN]
  have hsz1 := A.size
  have hlN := Rw.lt rN
  have hlA := Rw.lt rA
  go_upto_region 2 with fail
  have ro := Rw.new w1 4 (rowB N (fun _ => false))
  have hb1 := (Below.refl w1.heap.size w1).alloc (Nat.le_refl _) (.cells (rowB N (fun _ => false)).toArray 4)
  replace A := A.below hb1
  replace rN := rN.stay hb1
  have hNB := Rw.lt rN
  generalize w1.alloc (.cells (rowB N (fun _ => false)).toArray 4) = w2 at *
  obtain ⟨gO, eO⟩ : ∃ gO, w1.heap.size = gO := ⟨_, rfl⟩
  rw [eO] at ro hsz1 hlN
  simp only [eO]
  have k0 := (rN.cell 0).trans x0
  have k257 := (rN.cell 257).trans x257
  clear hmk hb1 hX
  replace rA := rA.keep A (fun e => e)
  replace hr := hr.keepN A (fun _ _ _ e => e)
  replace hk := fun (i : Nat) c t h1 h2 => (hk i c t h1 h2).keep A (fun _ _ _ e => e)
  have hc1 : css.length = 1 := by simpa using hkl
  obtain ⟨c, hc⟩ : ∃ c, css[0]? = some c := ⟨_, List.getElem?_eq_getElem (by omega)⟩
  have hT := hk 0 c t0 hc rfl
  have hcl := hT.node.1
  obtain ⟨g, o, rfl, _, hg, hcc⟩ := hr.part hc
  obtain ⟨J, hJd⟩ : ∃ J : (Nat → Prop) → (Nat → Prop) → Prop, J = Rep L0 s (Pl N f) := ⟨_, rfl⟩
  obtain ⟨G, hGd⟩ : ∃ G : Nat → Prop, G = Ends (Star L0) s (Pl N f) := ⟨_, rfl⟩
  have hGG : ∀ j, G j ↔ Ends (Star L0) s (Pl N f) j := fun j => by rw [hGd]
  have hPN : ∀ i, Pl N f i → i ≤ s.length := fun i hi => by have := hi.1; omega
  have J0 : J (Pl N f) (Pl N f) := by rw [hJd]; exact Rep.start hPN
  have Jn : ∀ out stp, J out stp → J (fun j => out j ∨ Ends L0 s stp j) (Ends L0 s stp) := fun out stp h => by rw [hJd] at *; exact h.step
  have Jx : ∀ out stp, J out stp → (∀ j, Ends L0 s stp j → out j) → ∀ j, (out j ∨ Ends L0 s stp j) ↔ G j := fun out stp h hx j => by
    rw [hJd] at h
    rw [hGd, h.stop hPN hx j]
    exact ⟨fun e => e.elim id (hx j), .inl⟩
  have HGG : Unit → _ := fun _ => hGG
  have HJn : Unit → _ := fun _ => Jn
  have HJx : Unit → _ := fun _ => Jx
  clear hJd hGd hGG Jn Jx
  go_wp2_with fail
  go_loopw [7, 11, 12] (fun u7 u11 u12 wr => ∃ (fo fs : Nat → Bool) (mo : Bool), BAt wr u7 N fo ∧ BAt wr u11 N fs ∧ u12 = .bool mo ∧ Asd (fun _ => False) w2 wr ∧ (mo = true → J (Pl N fo) (Pl N fs)) ∧ (mo = false → ∀ j, Pl N fo j ↔ G j)) (fun u7 _ u12 wr => moreN u12 (openN wr u7))
  case atStart => exact ⟨f, f, true, ⟨gA, rfl, rA⟩, ⟨gA, rfl, rA⟩, rfl, Asd.refl _ _, fun _ => J0, fun e => by cases e⟩
  case round =>
    obtain ⟨fo, fs, mo, hBo, hBs, rfl, A2, hJ, hG⟩ := hrel
    have k2 := ((rN.keep A2 (fun e => e)).cell 257).trans x257
    rw [hc1] at k2
    cases mo with
    | false =>
      have hG2 := hG rfl
      clear hJ hG
      go_wp2_with fail
      go_ret
      exact ⟨below_asd (A.andThen A2), _, fo, rfl, hBo, fun j => by rw [hG2 j, HGG () j]⟩
    | true =>
      have hJ2 := hJ rfl
      have hmu := open_is hBo
      clear hJ hG
      have hrg : wr.rangeAt g o c := fun j u hu => by
        have := cell_asd A2 (fun e => e) (hcc j u hu)
        simpa using this
      have KE := Lib.hid (H0 P wr c s u11 fs hs (hT.keep A2 (fun _ _ _ e => e)) (by rw [hNN]; exact hBs))
      rw [hNN] at KE
      go_wp2_with (refine wpList_load_mid rfl 61 _ rfl g o rfl c _ hrg Tryd.underlying61 rfl (by rw [size_node]; simp [hcl]) ?_)
      refine KE.out.mono ?_
      rintro e w3 ⟨hb3, v3, f3, rfl, hB3, hE3⟩
      replace hBo := hBo.stay hb3
      obtain ⟨go, rfl, rO⟩ := hBo
      obtain ⟨g3, rfl, r3⟩ := hB3
      replace A2 := A2.below hb3
      clear KE hb3 hrg hBs k2
      go_wp2_with fail
      go_loopw [12, 13] (fun u12 iv wx => ∃ (i : Nat) (m : Bool), i ≤ N ∧ iv = .int .i64 (i : Int) ∧ u12 = .bool m ∧ (m = true ↔ ∃ j, j < i ∧ f3 j = true ∧ fo j = false) ∧ Asd (fun _ => False) w3 wx) (fun _ iv _ => N - (intOf iv).toNat)
      case atStart => exact ⟨0, false, by omega, rfl, rfl, by simp, Asd.refl _ _⟩
      case round =>
        obtain ⟨i, m, hi, rfl, rfl, hm, A3⟩ := hrel
        have HM : Unit → _ := fun _ => hm
        clear hm
        by_cases hlt : i < N
        · have hli : (i : Int) < (N : Int) := by omega
          have ca := ((r3.keep A3 (fun e => e)).cell i).trans (rowB_get f3 hlt)
          have cb := ((rO.keep A3 (fun e => e)).cell i).trans (rowB_get fo hlt)
          have hst := more_step f3 fo i m (HM ())
          cases m with
          | true =>
            simp only [Bool.true_or] at hst
            have HST : Unit → _ := fun _ => hst
            clear hst
            go_wp2_with fail
            go_roundw
            case rel => exact ⟨i + 1, true, by omega, by go_num, rfl, ⟨fun _ => (HST ()).1 trivial, fun _ => rfl⟩, A3⟩
            case measure => simp [intOf]; omega
          | false =>
            cases hf3 : f3 i with
            | false =>
              rw [hf3] at ca hst
              simp only [Bool.false_or, Bool.false_and] at hst
              have HST : Unit → _ := fun _ => hst
              clear hst
              go_wp2_with fail
              go_roundw
              case rel => exact ⟨i + 1, false, by omega, by go_num, rfl, HST (), A3⟩
              case measure => simp [intOf]; omega
            | true =>
              cases hfo : fo i with
              | true =>
                rw [hf3, hfo] at hst
                rw [hf3] at ca
                rw [hfo] at cb
                simp only [Bool.false_or, Bool.true_and, Bool.not_true] at hst
                have HST : Unit → _ := fun _ => hst
                clear hst
                go_wp2_with fail
                go_roundw
                case rel => exact ⟨i + 1, false, by omega, by go_num, rfl, HST (), A3⟩
                case measure => simp [intOf]; omega
              | false =>
                rw [hf3, hfo] at hst
                rw [hf3] at ca
                rw [hfo] at cb
                simp only [Bool.false_or, Bool.true_and, Bool.not_false] at hst
                have HST : Unit → _ := fun _ => hst
                clear hst
                go_wp2_with fail
                go_roundw
                case rel => exact ⟨i + 1, true, by omega, by go_num, rfl, ⟨fun _ => (HST ()).1 trivial, fun _ => rfl⟩, A3⟩
                case measure => simp [intOf]; omega
        · have hli : ¬ (i : Int) < (N : Int) := by omega
          obtain rfl : i = N := by omega
          have KB := Lib.hid (fun w' (h : BAt w' (.slice (some ⟨go, 0, none⟩) i i) i fo) (k : BAt w' (.slice (some ⟨g3, 0, none⟩) i i) i f3) => both_any i fo f3 _ _ w' h k (by omega))
          have hE4 : Pl i f3 = Ends L0 s (Pl i fs) := funext fun j => propext (hE3 j)
          have hO4 : Pl i (fun j => fo j || f3 j) = fun j => Pl i fo j ∨ Pl i f3 j := funext fun j => propext (pl_or i j fo f3)
          go_wp2_with fail
          refine (KB.out _ ⟨go, rfl, rO.keep A3 (fun e => e)⟩ ⟨g3, rfl, r3.keep A3 (fun e => e)⟩).mono ?_
          rintro e w4 ⟨hb4, v4, rfl, hB4⟩
          have r34 := (r3.keep A3 (fun e => e)).stay hb4
          clear KB
          go_wp2_with fail
          go_roundw
          case rel =>
            refine ⟨_, f3, m, hB4, ⟨g3, rfl, r34⟩, rfl, (A2.andThen A3).below hb4, fun em => ?_, fun em j => ?_⟩
            · rw [hO4, hE4]
              exact HJn () _ _ hJ2
            · rw [hO4, hE4]
              refine HJx () _ _ hJ2 (fun k hk => ?_) j
              rw [← hE4] at hk
              by_cases hko : fo k = true
              · exact ⟨hk.1, hko⟩
              · have := (HM ()).2 ⟨k, hk.1, hk.2, by simpa using hko⟩
                rw [em] at this
                cases this
          case measure =>
            rw [hmu, open_is hB4]
            cases m with
            | false => simp only [moreN]; omega
            | true =>
              obtain ⟨k, hk, h1, h2⟩ := (HM ()).1 rfl
              have := cnt_lt (n := i) (fo := fo) (f3 := f3) hk h1 h2
              simp only [moreN]
              omega

set_option maxHeartbeats 6400000 in
set_option maxRecDepth 100000 in
theorem ends_plus (d : Nat) (t0 : T) (L0 : Bx → Prop) (H0 : EndsC d t0 L0) : EndsC (d + 1) (.mk 4 noSet [t0]) (fun u => ∃ u1 u2, u = u1 ++ u2 ∧ L0 u1 ∧ Star L0 u2) := by
  intro P w cs s v f hs ht hv
  obtain ⟨vk, css, rfl, hr, hkl, hk⟩ := ht
  obtain ⟨gA, rfl, rA⟩ := hv
  obtain ⟨a0, c0, rfl⟩ := hr.shape
  obtain ⟨N, hNN⟩ : ∃ N, s.length + 1 = N := ⟨_, rfl⟩
  rw [hNN] at rA ⊢
  have hN : N ≤ 1001 := by omega
  have hmk := make_bool N (by omega) (N : Int) rfl
  obtain ⟨X, eX⟩ : ∃ X, nodeC 4 noSet (.slice a0 css.length c0) = X := ⟨_, rfl⟩
  have hlX := nodeC_len 4 noSet (.slice a0 css.length c0)
  have x0 := nodeC_kind 4 noSet (.slice a0 css.length c0)
  have x257 := nodeC_kids 4 noSet (.slice a0 css.length c0)
  rw [eX] at hlX x0 x257
  simp only [eX]
  clear eX
  have hX : (Value.agg X.toArray).cells = X.toArray := rfl
  go_enter Tryd.func66, Tryd.ntmps66
  go_upto_region 1 with fail
  have rN := Rw.new w 61 X
  have A := Asd.of_below (S := fun _ => False) ((Below.refl w.heap.size w).alloc (Nat.le_refl _) (.cells X.toArray 61))
  generalize w.alloc (.cells X.toArray 61) = w1 at *
  obtain ⟨bN, hbN, eN⟩ : ∃ bN, w.heap.size ≤ bN ∧ w.heap.size = bN := ⟨_, Nat.le_refl _, rfl⟩
  rw [eN] at rN
  simp only [eN]
  have hsz1 := A.size
  have hlN := Rw.lt rN
  have hlA := Rw.lt rA
  go_upto_region 2 with fail
  have ro := Rw.new w1 4 (rowB N (fun _ => false))
  have hb1 := (Below.refl w1.heap.size w1).alloc (Nat.le_refl _) (.cells (rowB N (fun _ => false)).toArray 4)
  replace A := A.below hb1
  replace rN := rN.stay hb1
  have hNB := Rw.lt rN
  generalize w1.alloc (.cells (rowB N (fun _ => false)).toArray 4) = w2 at *
  obtain ⟨gO, eO⟩ : ∃ gO, w1.heap.size = gO := ⟨_, rfl⟩
  rw [eO] at ro hsz1 hlN
  simp only [eO]
  have k0 := (rN.cell 0).trans x0
  have k257 := (rN.cell 257).trans x257
  clear hmk hb1 hX
  replace rA := rA.keep A (fun e => e)
  replace hr := hr.keepN A (fun _ _ _ e => e)
  replace hk := fun (i : Nat) c t h1 h2 => (hk i c t h1 h2).keep A (fun _ _ _ e => e)
  have hc1 : css.length = 1 := by simpa using hkl
  obtain ⟨c, hc⟩ : ∃ c, css[0]? = some c := ⟨_, List.getElem?_eq_getElem (by omega)⟩
  have hT := hk 0 c t0 hc rfl
  have hcl := hT.node.1
  obtain ⟨g, o, rfl, _, hg, hcc⟩ := hr.part hc
  obtain ⟨P1, hP1⟩ : ∃ P1 : Nat → Prop, P1 = Ends L0 s (Pl N f) := ⟨_, rfl⟩
  obtain ⟨J, hJd⟩ : ∃ J : (Nat → Prop) → (Nat → Prop) → Prop, J = fun out stp => (out = (fun _ => False) ∧ stp = Pl N f) ∨ Rep L0 s P1 out stp := ⟨_, rfl⟩
  obtain ⟨G, hGd⟩ : ∃ G : Nat → Prop, G = Ends (Star L0) s P1 := ⟨_, rfl⟩
  have hGG : ∀ j, G j ↔ Ends (fun u => ∃ u1 u2, u = u1 ++ u2 ∧ L0 u1 ∧ Star L0 u2) s (Pl N f) j := fun j => by rw [hGd, hP1]; exact ends_then.symm
  have hPN : ∀ i, P1 i → i ≤ s.length := fun i hi => by rw [hP1] at hi; exact hi.le
  have J0 : J (Pl N (fun _ => false)) (Pl N f) := by rw [hJd]; exact .inl ⟨funext fun j => propext (pl_none N j), rfl⟩
  have Jn : ∀ out stp, J out stp → J (fun j => out j ∨ Ends L0 s stp j) (Ends L0 s stp) := fun out stp h => by
    rw [hJd] at *
    rcases h with ⟨rfl, rfl⟩ | h
    · right
      rw [← hP1, show (fun j => False ∨ P1 j) = P1 from funext fun j => propext (by simp)]
      exact Rep.start hPN
    · exact .inr h.step
  have Jx : ∀ out stp, J out stp → (∀ j, Ends L0 s stp j → out j) → ∀ j, (out j ∨ Ends L0 s stp j) ↔ G j := fun out stp h hx j => by
    rw [hJd] at h
    rcases h with ⟨rfl, rfl⟩ | h
    · rw [hGd]
      constructor
      · rintro (e | e)
        · exact e.elim
        · exact (hx j e).elim
      · rintro ⟨i, hi, _⟩
        rw [hP1] at hi
        exact (hx i hi).elim
    · rw [hGd, h.stop hPN hx j]
      exact ⟨fun e => e.elim id (hx j), .inl⟩
  have HGG : Unit → _ := fun _ => hGG
  have HJn : Unit → _ := fun _ => Jn
  have HJx : Unit → _ := fun _ => Jx
  clear hJd hGd hGG Jn Jx
  go_wp2_with fail
  go_loopw [7, 11, 12] (fun u7 u11 u12 wr => ∃ (fo fs : Nat → Bool) (mo : Bool), BAt wr u7 N fo ∧ BAt wr u11 N fs ∧ u12 = .bool mo ∧ Asd (fun _ => False) w2 wr ∧ (mo = true → J (Pl N fo) (Pl N fs)) ∧ (mo = false → ∀ j, Pl N fo j ↔ G j)) (fun u7 _ u12 wr => moreN u12 (openN wr u7))
  case atStart => exact ⟨fun _ => false, f, true, ⟨gO, rfl, ro⟩, ⟨gA, rfl, rA⟩, rfl, Asd.refl _ _, fun _ => J0, fun e => by cases e⟩
  case round =>
    obtain ⟨fo, fs, mo, hBo, hBs, rfl, A2, hJ, hG⟩ := hrel
    have k2 := ((rN.keep A2 (fun e => e)).cell 257).trans x257
    rw [hc1] at k2
    cases mo with
    | false =>
      have hG2 := hG rfl
      clear hJ hG
      go_wp2_with fail
      go_ret
      exact ⟨below_asd (A.andThen A2), _, fo, rfl, hBo, fun j => by rw [hG2 j, HGG () j]⟩
    | true =>
      have hJ2 := hJ rfl
      have hmu := open_is hBo
      clear hJ hG
      have hrg : wr.rangeAt g o c := fun j u hu => by
        have := cell_asd A2 (fun e => e) (hcc j u hu)
        simpa using this
      have KE := Lib.hid (H0 P wr c s u11 fs hs (hT.keep A2 (fun _ _ _ e => e)) (by rw [hNN]; exact hBs))
      rw [hNN] at KE
      go_wp2_with (refine wpList_load_mid rfl 61 _ rfl g o rfl c _ hrg Tryd.underlying61 rfl (by rw [size_node]; simp [hcl]) ?_)
      refine KE.out.mono ?_
      rintro e w3 ⟨hb3, v3, f3, rfl, hB3, hE3⟩
      replace hBo := hBo.stay hb3
      obtain ⟨go, rfl, rO⟩ := hBo
      obtain ⟨g3, rfl, r3⟩ := hB3
      replace A2 := A2.below hb3
      clear KE hb3 hrg hBs k2
      go_wp2_with fail
      go_loopw [12, 13] (fun u12 iv wx => ∃ (i : Nat) (m : Bool), i ≤ N ∧ iv = .int .i64 (i : Int) ∧ u12 = .bool m ∧ (m = true ↔ ∃ j, j < i ∧ f3 j = true ∧ fo j = false) ∧ Asd (fun _ => False) w3 wx) (fun _ iv _ => N - (intOf iv).toNat)
      case atStart => exact ⟨0, false, by omega, rfl, rfl, by simp, Asd.refl _ _⟩
      case round =>
        obtain ⟨i, m, hi, rfl, rfl, hm, A3⟩ := hrel
        have HM : Unit → _ := fun _ => hm
        clear hm
        by_cases hlt : i < N
        · have hli : (i : Int) < (N : Int) := by omega
          have ca := ((r3.keep A3 (fun e => e)).cell i).trans (rowB_get f3 hlt)
          have cb := ((rO.keep A3 (fun e => e)).cell i).trans (rowB_get fo hlt)
          have hst := more_step f3 fo i m (HM ())
          cases m with
          | true =>
            simp only [Bool.true_or] at hst
            have HST : Unit → _ := fun _ => hst
            clear hst
            go_wp2_with fail
            go_roundw
            case rel => exact ⟨i + 1, true, by omega, by go_num, rfl, ⟨fun _ => (HST ()).1 trivial, fun _ => rfl⟩, A3⟩
            case measure => simp [intOf]; omega
          | false =>
            cases hf3 : f3 i with
            | false =>
              rw [hf3] at ca hst
              simp only [Bool.false_or, Bool.false_and] at hst
              have HST : Unit → _ := fun _ => hst
              clear hst
              go_wp2_with fail
              go_roundw
              case rel => exact ⟨i + 1, false, by omega, by go_num, rfl, HST (), A3⟩
              case measure => simp [intOf]; omega
            | true =>
              cases hfo : fo i with
              | true =>
                rw [hf3, hfo] at hst
                rw [hf3] at ca
                rw [hfo] at cb
                simp only [Bool.false_or, Bool.true_and, Bool.not_true] at hst
                have HST : Unit → _ := fun _ => hst
                clear hst
                go_wp2_with fail
                go_roundw
                case rel => exact ⟨i + 1, false, by omega, by go_num, rfl, HST (), A3⟩
                case measure => simp [intOf]; omega
              | false =>
                rw [hf3, hfo] at hst
                rw [hf3] at ca
                rw [hfo] at cb
                simp only [Bool.false_or, Bool.true_and, Bool.not_false] at hst
                have HST : Unit → _ := fun _ => hst
                clear hst
                go_wp2_with fail
                go_roundw
                case rel => exact ⟨i + 1, true, by omega, by go_num, rfl, ⟨fun _ => (HST ()).1 trivial, fun _ => rfl⟩, A3⟩
                case measure => simp [intOf]; omega
        · have hli : ¬ (i : Int) < (N : Int) := by omega
          obtain rfl : i = N := by omega
          have KB := Lib.hid (fun w' (h : BAt w' (.slice (some ⟨go, 0, none⟩) i i) i fo) (k : BAt w' (.slice (some ⟨g3, 0, none⟩) i i) i f3) => both_any i fo f3 _ _ w' h k (by omega))
          have hE4 : Pl i f3 = Ends L0 s (Pl i fs) := funext fun j => propext (hE3 j)
          have hO4 : Pl i (fun j => fo j || f3 j) = fun j => Pl i fo j ∨ Pl i f3 j := funext fun j => propext (pl_or i j fo f3)
          go_wp2_with fail
          refine (KB.out _ ⟨go, rfl, rO.keep A3 (fun e => e)⟩ ⟨g3, rfl, r3.keep A3 (fun e => e)⟩).mono ?_
          rintro e w4 ⟨hb4, v4, rfl, hB4⟩
          have r34 := (r3.keep A3 (fun e => e)).stay hb4
          clear KB
          go_wp2_with fail
          go_roundw
          case rel =>
            refine ⟨_, f3, m, hB4, ⟨g3, rfl, r34⟩, rfl, (A2.andThen A3).below hb4, fun em => ?_, fun em j => ?_⟩
            · rw [hO4, hE4]
              exact HJn () _ _ hJ2
            · rw [hO4, hE4]
              refine HJx () _ _ hJ2 (fun k hk => ?_) j
              rw [← hE4] at hk
              by_cases hko : fo k = true
              · exact ⟨hk.1, hko⟩
              · have := (HM ()).2 ⟨k, hk.1, hk.2, by simpa using hko⟩
                rw [em] at this
                cases this
          case measure =>
            rw [hmu, open_is hB4]
            cases m with
            | false => simp only [moreN]; omega
            | true =>
              obtain ⟨k, hk, h1, h2⟩ := (HM ()).1 rfl
              have := cnt_lt (n := i) (fo := fo) (f3 := f3) hk h1 h2
              simp only [moreN]
              omega

end Go.Proofs.YteooofakpkbgoaaDoor.Dn
