/- Teams by their numbers: the statement's own function returns true, of whatever two labels. -/
import Derived.Test.YtkmbllnnaljepaaDoorPair
import Derived.Test.YtkmbllnnaljepaaDoorBack
import Derived.Test.YtkmbllnnaljepaaDoorSized
import Derived.Deep.RegionHeld3
import Derived.Deep.DrawnRows
import Derived.Deep.DeepCutAuto
import Derived.RegionTactic
namespace Go.Proofs.YtkmbllnnaljepaaDoor
open Go.ChangeShapes Go.WideShapes Go.RowKit
attribute [local go_sem ↓] Go.wp_at_zero Go.wp_at_succ

/-- What holds once the four lists are there. -/
def Lists (N : Nat) (w : World) (ca cb : Int) (x y j m : Value) (w' : World) : Prop :=
  Below N w w' ∧ IntsAt w' x (tms ca 32) ∧ IntsAt w' y (tms cb 32) ∧ IntsAt w' j (tms ((ca.toNat ||| cb.toNat : Nat) : Int) 32) ∧ IntsAt w' m (tms ((ca.toNat &&& cb.toNat : Nat) : Int) 32)

theorem has_bit (c : Int) (x : Nat) (h : x < 32) : decide (∃ y ∈ tms c 32, (y : Int) = (x : Int)) = c.toNat.testBit x := by
  rw [Bool.eq_iff_iff, decide_eq_true_iff]
  constructor
  · rintro ⟨y, hy, e⟩
    obtain rfl : y = x := by omega
    exact ((tms_mem c 32 y).1 hy).2
  · intro hb
    exact ⟨x, (tms_mem c 32 x).2 ⟨h, hb⟩, rfl⟩
/-- The two labels, and the first two lists. -/
abbrev T4 (N : Nat) (w : World) (la ca lb cb : Int) (x y : Value) (w' : World) : Prop := S2 N w la ca lb cb w' ∧ IntsAt w' x (tms ca 32) ∧ IntsAt w' y (tms cb 32)
theorem T4.keep {N : Nat} {w w1 w2 : World} {la ca lb cb : Int} {x y : Value} (h : T4 N w la ca lb cb x y w1) (hb : Below w1.heap.size w1 w2) : T4 N w la ca lb cb x y w2 := ⟨h.1.keep hb, h.2.1.keep hb, h.2.2.keep hb⟩
theorem T4.drew {N : Nat} {w w1 : World} {la ca lb cb : Int} {x y : Value} (h : T4 N w la ca lb cb x y w1) : T4 N w la ca lb cb x y w1.drew := ⟨h.1.drew, h.2⟩

set_option maxHeartbeats 2000000 in
set_option maxRecDepth 100000 in
theorem teamsLaw_any (la ca lb cb : Int) (ha0 : 0 ≤ ca) (ha1 : ca < 4294967296) (hb0 : 0 ≤ cb) (hb1 : cb < 4294967296) (w : World) (he : Errs w) :
    Calls Tryd.prog 8 #[.agg #[.int .i64 la, .int .u32 ca], .agg #[.int .i64 lb, .int .u32 cb]] w fun e w' => e = .returned (.bool true) ∧ Below w.heap.size w w' := by
  have h0 := U2.start w la ca lb cb
  have he1 := he.keep ((((Below.refl _ w).alloc (Nat.le_refl _) (.cells #[.int .i64 la, .int .u32 ca] 24)).alloc (by simp) (.cells #[.int .i64 lb, .int .u32 cb] 24)))
  go_enter Tryd.func8, Tryd.ntmps8
  go_wp2_with fail
  refine (lives_any _ he1).mono ?_
  rintro e w1 ⟨rfl, hb⟩
  have hS := h0.keep hb
  clear h0 hb he1
  generalize hN : w.heap.size = N at *
  have HN := Lib.hid hN
  clear hN
  go_upto_region 3 with fail
  go_cut [4] (fun s4 wx => s4 = .bool false ∧ S2 N w (la % 8) ca (lb % 8) cb wx)
  case first =>
    go_region
    go_wp2_with fail
    go_meet
    rw [lev8, lev8]
    exact ⟨rfl, hS.levels⟩
  case rest =>
    obtain ⟨rfl, hS1⟩ := hcut
    clear hS
    have hra := rB_true.2 (show 0 ≤ la % 8 ∧ la % 8 < 8 by omega)
    have hrb := rB_true.2 (show 0 ≤ lb % 8 ∧ lb % 8 < 8 by omega)
    generalize la % 8 = la at *
    generalize lb % 8 = lb at *
    have hor := or_range ca cb ha1 hb1
    have han := and_range ca cb ha1
    go_upto_region 4 with fail
    go_cut [5, 6] (fun x y wx => S2 N w la ca lb cb wx ∧ IntsAt wx x (tms ca 32) ∧ IntsAt wx y (tms cb 32))
    case first =>
      go_region_held3 (fun w' => S2 N w la ca lb cb w') (first | exact S2.drew (by assumption) | exact S2.keep (by assumption) hb)
        (first | (go_at_call 21; refine (teams_ints _ _ (by omega) (by omega) _).mono ?_; rintro e w' ⟨v, rfl, hI, hb⟩; (try have hI1 := hI0.keep hb); have hI0 := hI))
      go_wp2_with fail
      go_meet
      exact ⟨by assumption, hI1, hI0⟩
    case rest =>
      clear hS1
      go_upto_region 5 with fail
      go_cut [7, 8] (fun j m wx => Lists N w ca cb u5 u6 j m wx)
      case first =>
        go_region_held3 (fun w' => T4 N w la ca lb cb u5 u6 w') (first | exact T4.drew (by assumption) | exact T4.keep (by assumption) hb)
          (first
            | (go_at_call 16; refine (join_five _ _ _ _ hra hrb (by omega) (by omega) (by omega) (by omega) _).mono ?_; rintro e w' ⟨rfl, hb, _⟩)
            | (go_at_call 18; refine (meet_five _ _ _ _ hra hrb (by omega) (by omega) (by omega) (by omega) _).mono ?_; rintro e w' ⟨rfl, hb, _⟩; have hI1 := hI0.keep hb)
            | (go_at_call 21; refine (teams_ints _ _ (by omega) (by omega) _).mono ?_; rintro e w' ⟨v, rfl, hI, hb⟩; (try have hI2 := hI1.keep hb); have hI0 := hI))
        go_wp2_with fail
        go_meet
        have hT := ‹T4 N w la ca lb cb u5 u6 _›
        exact ⟨hT.1.1, hT.2.1, hT.2.2, hI2, hI0⟩
      case rest =>
        have hL := hcut
        clear hcut
        clear hcut
        obtain ⟨ax, px, rfl, _⟩ := hL.2.1
        obtain ⟨ay, py, rfl, _⟩ := hL.2.2.1
        obtain ⟨aj, pj, rfl, _⟩ := hL.2.2.2.1
        obtain ⟨am, pm, rfl, _⟩ := hL.2.2.2.2
        have nx := tms_le ca 32
        have ny := tms_le cb 32
        have nj := tms_le ((ca.toNat ||| cb.toNat : Nat) : Int) 32
        have nm := tms_le ((ca.toNat &&& cb.toNat : Nat) : Int) 32
        go_wp2
        go_loopw [9] (fun i wr => ∃ k : Nat, k ≤ (tms ca 32).length ∧ i = .int .i64 k ∧ Lists N w ca cb (.slice ax (tms ca 32).length px) (.slice ay (tms cb 32).length py) (.slice aj (tms ((ca.toNat ||| cb.toNat : Nat) : Int) 32).length pj) (.slice am (tms ((ca.toNat &&& cb.toNat : Nat) : Int) 32).length pm) wr)
          (fun i _ => (tms ca 32).length - (intOf i).toNat)
        case atStart => exact ⟨0, Nat.zero_le _, rfl, hL⟩
        case round =>
          clear hL
          obtain ⟨k, hk, rfl, hL⟩ := hrel
          by_cases hlt : k < (tms ca 32).length
          · obtain ⟨x, hx⟩ : ∃ x, (tms ca 32)[k]? = some x := ⟨_, List.getElem?_eq_getElem hlt⟩
            have hmem := (tms_mem ca 32 x).1 (List.mem_of_getElem? hx)
            obtain ⟨_, _, e1, hcx⟩ := hL.2.1
            injection e1 with e1 _ e2
            subst e1 e2
            obtain ⟨g, rfl, hc⟩ := hcx k x hx
            have cJ : Hid (∀ n, Calls Tryd.prog 29 #[.slice aj (tms ((ca.toNat ||| cb.toNat : Nat) : Int) 32).length pj, .int .i64 (x : Int)] (wr.drewN n) fun e w'' => e = .returned (.bool true) ∧ ∃ m, w'' = wr.drewN m) := fun n => by
              have h := has_any _ _ (x : Int) (by omega) (wr.drewN n) (show IntsAt (wr.drewN n) _ _ from hL.2.2.2.1)
              rw [has_bit _ _ hmem.1, Int.toNat_natCast, Nat.testBit_or, hmem.2, Bool.true_or] at h
              exact h.mono fun e w' ⟨he, hw⟩ => ⟨he, n, hw.symm⟩
            have cM : Hid (∀ n, Calls Tryd.prog 29 #[.slice am (tms ((ca.toNat &&& cb.toNat : Nat) : Int) 32).length pm, .int .i64 (x : Int)] (wr.drewN n) fun e w'' => e = .returned (.bool (cb.toNat.testBit x)) ∧ ∃ m, w'' = wr.drewN m) := fun n => by
              have h := has_any _ _ (x : Int) (by omega) (wr.drewN n) (show IntsAt (wr.drewN n) _ _ from hL.2.2.2.2)
              rw [has_bit _ _ hmem.1, Int.toNat_natCast, Nat.testBit_and, hmem.2, Bool.true_and] at h
              exact h.mono fun e w' ⟨he, hw⟩ => ⟨he, n, hw.symm⟩
            have cY : Hid (∀ n, Calls Tryd.prog 29 #[.slice ay (tms cb 32).length py, .int .i64 (x : Int)] (wr.drewN n) fun e w'' => e = .returned (.bool (cb.toNat.testBit x)) ∧ ∃ m, w'' = wr.drewN m) := fun n => by
              have h := has_any _ _ (x : Int) (by omega) (wr.drewN n) (show IntsAt (wr.drewN n) _ _ from hL.2.2.1)
              rw [has_bit _ _ hmem.1] at h
              exact h.mono fun e w' ⟨he, hw⟩ => ⟨he, n, hw.symm⟩
            generalize cb.toNat.testBit x = t at cM cY
            have b1 : decide ((x : Int) < 0) = false := by simp
            have b2 : decide (31 < (x : Int)) = false := by have := hmem.1; simp; omega
            clear hmem
            have Hcx := Lib.hid hcx
            have Hx := Lib.hid hx
            clear hcx hx
            have HL := Lib.hid hL
            clear hL
            cases k with
            | zero =>
              go_wp2_with fail
              go_quiet (first
                | (go_at_call_of 29 (Value.slice aj (tms ((ca.toNat ||| cb.toNat : Nat) : Int) 32).length pj); exact cJ.out _)
                | (go_at_call_of 29 (Value.slice am (tms ((ca.toNat &&& cb.toNat : Nat) : Int) 32).length pm); exact cM.out _)
                | (go_at_call_of 29 (Value.slice ay (tms cb 32).length py); exact cY.out _))
              go_wp2
              go_roundw
              case rel => exact ⟨0 + 1, hlt, by go_num, below_drewN HL.out.1 _, HL.out.2⟩
              case measure => simp [intOf]; omega
            | succ k =>
              obtain ⟨y, hy⟩ : ∃ y, (tms ca 32)[k]? = some y := ⟨_, List.getElem?_eq_getElem (by omega)⟩
              have hyx : y < x := by
                have h1 := List.getElem?_eq_some_iff.1 hy
                have h2 := List.getElem?_eq_some_iff.1 Hx.out
                obtain ⟨i1, e1⟩ := h1
                obtain ⟨i2, e2⟩ := h2
                rw [← e1, ← e2]
                exact List.pairwise_iff_getElem.1 (tms_asc ca 32) k (k + 1) i1 i2 (by omega)
              have hcy : wr.cell? ⟨g, k, none⟩ = some (.int .i64 (y : Int)) := by
                obtain ⟨g', e1, h1⟩ := Hcx.out k y hy
                injection e1 with e1
                injection e1 with e1
                rw [e1]
                exact h1
              have b3 : decide (x ≤ y) = false := by simp; omega
              have b4 : decide (0 < (k : Int) + 1) = true := by rw [decide_eq_true_iff]; omega
              have b5 : IntKind.i64.wrap ((k : Int) + 1 - 1) = (k : Int) := by rw [IntWalk.i64_in _ (by omega)]; omega
              have b12 : IntKind.i64.wrap (k : Int) = (k : Int) := IntWalk.i64_in _ (by omega)
              have b8 : (0 : Int) ≤ (k : Int) + 1 := by omega
              have b9 : (k : Int) + 1 < ((tms ca 32).length : Int) := by omega
              have b10 : ((k : Int) + 1).toNat = k + 1 := by omega
              have b6 : (0 : Int) ≤ (k : Int) := by omega
              have b7 : k < (tms ca 32).length := by omega
              clear hy hyx
              go_wp2_with fail
              go_quiet (first
                | (go_at_call_of 29 (Value.slice aj (tms ((ca.toNat ||| cb.toNat : Nat) : Int) 32).length pj); exact cJ.out _)
                | (go_at_call_of 29 (Value.slice am (tms ((ca.toNat &&& cb.toNat : Nat) : Int) 32).length pm); exact cM.out _)
                | (go_at_call_of 29 (Value.slice ay (tms cb 32).length py); exact cY.out _))
              go_wp2
              go_roundw
              case rel => exact ⟨k + 1 + 1, hlt, by go_num, below_drewN HL.out.1 _, HL.out.2⟩
              case measure => simp [intOf]; omega
          · have hke : k = (tms ca 32).length := by omega
            subst hke
            clear hlt hk
            go_wp2
            go_loopw [10] (fun i wr => ∃ k : Nat, k ≤ (tms ((ca.toNat ||| cb.toNat : Nat) : Int) 32).length ∧ i = .int .i64 k ∧ Lists N w ca cb (.slice ax (tms ca 32).length px) (.slice ay (tms cb 32).length py) (.slice aj (tms ((ca.toNat ||| cb.toNat : Nat) : Int) 32).length pj) (.slice am (tms ((ca.toNat &&& cb.toNat : Nat) : Int) 32).length pm) wr)
              (fun i _ => (tms ((ca.toNat ||| cb.toNat : Nat) : Int) 32).length - (intOf i).toNat)
            case atStart => exact ⟨0, Nat.zero_le _, rfl, hL⟩
            case round =>
              clear hL
              obtain ⟨k, hk, rfl, hL⟩ := hrel
              by_cases hlt : k < (tms ((ca.toNat ||| cb.toNat : Nat) : Int) 32).length
              · obtain ⟨x, hx⟩ : ∃ x, (tms ((ca.toNat ||| cb.toNat : Nat) : Int) 32)[k]? = some x := ⟨_, List.getElem?_eq_getElem hlt⟩
                have hmem := (tms_mem ((ca.toNat ||| cb.toNat : Nat) : Int) 32 x).1 (List.mem_of_getElem? hx)
                obtain ⟨_, _, e1, hcx⟩ := hL.2.2.2.1
                injection e1 with e1 _ e2
                subst e1 e2
                obtain ⟨g, rfl, hc⟩ := hcx k x hx
                have cX := Lib.hid (show Calls Tryd.prog 29 #[.slice ax (tms ca 32).length px, .int .i64 (x : Int)] wr fun e w'' => e = .returned (.bool (ca.toNat.testBit x)) ∧ wr = w'' by
                  have h := has_any _ _ (x : Int) (by omega) wr hL.2.1
                  rwa [has_bit _ _ hmem.1] at h)
                have cY := Lib.hid (show Calls Tryd.prog 29 #[.slice ay (tms cb 32).length py, .int .i64 (x : Int)] wr fun e w'' => e = .returned (.bool (cb.toNat.testBit x)) ∧ wr = w'' by
                  have h := has_any _ _ (x : Int) (by omega) wr hL.2.2.1
                  rwa [has_bit _ _ hmem.1] at h)
                have hor2 := hmem.2
                rw [Int.toNat_natCast, Nat.testBit_or] at hor2
                have HL := Lib.hid hL
                clear hL hcx hx hmem
                generalize ca.toNat.testBit x = t1 at cX hor2
                generalize cb.toNat.testBit x = t2 at cY hor2
                cases t1
                · obtain rfl : t2 = true := by simpa using hor2
                  clear hor2
                  go_wp2_with fail
                  refine cX.out.mono ?_
                  rintro e w2 ⟨rfl, rfl⟩
                  clear cX
                  go_wp2_with fail
                  refine cY.out.mono ?_
                  rintro e w2 ⟨rfl, rfl⟩
                  clear cY
                  go_wp2
                  go_roundw
                  case rel => exact ⟨k + 1, by omega, by go_num, HL.out⟩
                  case measure => simp [intOf]; omega
                · clear hor2
                  go_wp2_with fail
                  refine cX.out.mono ?_
                  rintro e w2 ⟨rfl, rfl⟩
                  clear cX
                  go_wp2
                  go_roundw
                  case rel => exact ⟨k + 1, by omega, by go_num, HL.out⟩
                  case measure => simp [intOf]; omega
              · have hcount : (((tms ((ca.toNat ||| cb.toNat : Nat) : Int) 32).length : Int) + ((tms ((ca.toNat &&& cb.toNat : Nat) : Int) 32).length : Int) == ((tms ca 32).length : Int) + ((tms cb 32).length : Int)) = true := by
                  have := tms_count ca cb 32
                  rw [beq_iff_eq]; omega
                go_wp2
                go_ret
                exact ⟨rfl, by rw [HN.out]; exact hL.1⟩
end Go.Proofs.YtkmbllnnaljepaaDoor
