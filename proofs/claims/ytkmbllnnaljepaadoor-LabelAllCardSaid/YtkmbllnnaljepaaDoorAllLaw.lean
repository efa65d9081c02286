/- All that are joined: the statement's own function returns true, of whatever labels. -/
import Derived.Test.YtkmbllnnaljepaaDoorAllPlain
import Derived.Test.YtkmbllnnaljepaaDoorLives
import Derived.Deep.DeepCutAuto
namespace Go.Proofs.YtkmbllnnaljepaaDoor
open Go.ChangeShapes Go.WideShapes Go.RowKit
attribute [local go_sem ↓] Go.wp_at_zero Go.wp_at_succ

/-- A label in block N, another in block g; what lay below N lies as it lay. -/
abbrev SA (N : Nat) (w : World) (la ca : Int) (g : Nat) (lj cj : Int) (w' : World) : Prop :=
  Below N w w' ∧ N ≤ w'.heap.size ∧ w'.cell? ⟨N, 0, none⟩ = some (.int .i64 la) ∧ w'.cell? ⟨N, 1, none⟩ = some (.int .u32 ca) ∧ w'.cell? ⟨g, 0, none⟩ = some (.int .i64 lj) ∧ w'.cell? ⟨g, 1, none⟩ = some (.int .u32 cj)
theorem SA.keep {N g : Nat} {w w1 w2 : World} {la ca lj cj : Int} (h : SA N w la ca g lj cj w1) (hb : Below w1.heap.size w1 w2) : SA N w la ca g lj cj w2 :=
  ⟨h.1.trans (hb.mono h.2.1), Nat.le_trans h.2.1 hb.size, Below.keeps hb h.2.2.1, Below.keeps hb h.2.2.2.1, Below.keeps hb h.2.2.2.2.1, Below.keeps hb h.2.2.2.2.2⟩
theorem SA.drew {N g : Nat} {w w1 : World} {la ca lj cj : Int} (h : SA N w la ca g lj cj w1) : SA N w la ca g lj cj w1.drew := ⟨h.1.drew, h.2⟩
/-- And the labels of a slice; one of them at two cells. -/
abbrev SX (N : Nat) (w : World) (la ca : Int) (g : Nat) (lj cj : Int) (a : Option Addr) (ys : List (Int × Int)) (h o : Nat) (lx cx : Int) (w' : World) : Prop :=
  SA N w la ca g lj cj w' ∧ LabsAt w' a ys ∧ w'.cell? ⟨h, o, none⟩ = some (.int .i64 lx) ∧ w'.cell? ⟨h, o + 1, none⟩ = some (.int .u32 cx)
theorem SX.keep {N g h o : Nat} {w w1 w2 : World} {la ca lj cj lx cx : Int} {a : Option Addr} {ys : List (Int × Int)} (k : SX N w la ca g lj cj a ys h o lx cx w1) (hb : Below w1.heap.size w1 w2) : SX N w la ca g lj cj a ys h o lx cx w2 :=
  ⟨k.1.keep hb, k.2.1.keep hb, Below.keeps hb k.2.2.1, Below.keeps hb k.2.2.2⟩
theorem SX.drew {N g h o : Nat} {w w1 : World} {la ca lj cj lx cx : Int} {a : Option Addr} {ys : List (Int × Int)} (k : SX N w la ca g lj cj a ys h o lx cx w1) : SX N w la ca g lj cj a ys h o lx cx w1.drew := ⟨k.1.drew, k.2⟩

/-- And a list of numbers. -/
abbrev SY (N : Nat) (w : World) (la ca : Int) (g : Nat) (lj cj : Int) (a : Option Addr) (ys : List (Int × Int)) (h o : Nat) (lx cx : Int) (v : Value) (ns : List Nat) (w' : World) : Prop :=
  SX N w la ca g lj cj a ys h o lx cx w' ∧ IntsAt w' v ns
theorem SY.keep {N g h o : Nat} {w w1 w2 : World} {la ca lj cj lx cx : Int} {a : Option Addr} {ys : List (Int × Int)} {v : Value} {ns : List Nat} (k : SY N w la ca g lj cj a ys h o lx cx v ns w1) (hb : Below w1.heap.size w1 w2) : SY N w la ca g lj cj a ys h o lx cx v ns w2 := ⟨k.1.keep hb, k.2.keep hb⟩
theorem SY.drew {N g h o : Nat} {w w1 : World} {la ca lj cj lx cx : Int} {a : Option Addr} {ys : List (Int × Int)} {v : Value} {ns : List Nat} (k : SY N w la ca g lj cj a ys h o lx cx v ns w1) : SY N w la ca g lj cj a ys h o lx cx v ns w1.drew := ⟨k.1.drew, k.2⟩

set_option maxHeartbeats 4000000 in
set_option maxRecDepth 100000 in
theorem all_law (ad : Addr) (n cap : Nat) (ys : List (Int × Int)) (la ca : Int) (ha0 : 0 ≤ ca) (ha1 : ca < 4294967296) (hn : n ≤ cap) (hy : ys.length = min n 50) (hr : ∀ x ∈ ys, 0 ≤ x.2 ∧ x.2 < 4294967296) (w : World) (he : Errs w) (hc : LabsAt w (some ad) ys) :
    Calls Tryd.prog 7 #[.slice (some ad) n cap, .agg #[.int .i64 la, .int .u32 ca]] w fun e w' => e = .returned (.bool true) ∧ Below w.heap.size w w' := by
  have Hr := Lib.hid hr
  clear hr
  have hB0 := (Below.refl _ w).alloc (Nat.le_refl _) (.cells #[.int .i64 la, .int .u32 ca] 24)
  have h0 := LabU.one w la ca
  have he1 := he.keep hB0
  have hc1 := hc.keep hB0
  have hmin : min (n : Int) 50 = (ys.length : Int) := by omega
  have hle : ys.length ≤ cap := by omega
  have h50 : ys.length ≤ 50 := by omega
  clear hc he
  go_enter Tryd.func7, Tryd.ntmps7
  go_wp2_with fail
  refine (lives_any _ he1).mono ?_
  rintro e w1 ⟨rfl, hb⟩
  have hL := hc1.keep hb
  have hU := h0.keep hb
  have hB := hB0.trans (hb.mono hB0.size)
  clear hc1 h0 hB0 hb he1
  go_wp2_with fail
  rw [← hy]
  clear hy hmin
  refine (all_any (some ad) cap ys (by omega) Hr.out w1 hL).mono ?_
  rintro e w2 ⟨rfl, hb⟩
  have hjr := allP_range ys Hr.out ys.length
  have hjt := Lib.hid (all_right ys ys.length)
  have hjf := Lib.hid (all_top ys Hr.out ys.length)
  have hys := Lib.hid (List.take_length (l := ys))
  rw [hys.out] at hjr hjt hjf
  have hL2 := hL.keep hb
  have hU2 := hU.keep hb
  have hB2 := hB.trans (hb.mono hB.size)
  clear hL hU hB hb
  generalize allP ys = p at *
  obtain ⟨lj, cj⟩ := p
  simp only at hjr
  have hlt : w.heap.size < w2.heap.size := World.block_lt_of_cell? _ _ hU2.1
  have hL3 := hL2.keep ((Below.refl _ w2).alloc (Nat.le_refl _) (.cells #[.int .i64 lj, .int .u32 cj] 24))
  have hU3 := hU2.later (.cells #[.int .i64 lj, .int .u32 cj] 24)
  have hJ3 := LabU.one w2 lj cj
  have hB3 := hB2.alloc (by omega) (.cells #[.int .i64 lj, .int .u32 cj] 24)
  clear hL2 hB2
  obtain ⟨u0, u1, u2, u3⟩ := hU2
  go_wp2_with fail
  refine (right_any la ca _).mono ?_
  rintro e w3 ⟨rfl, hb⟩
  have hS : SA w.heap.size w la ca w2.heap.size lj cj w3 := ⟨hB3.trans (hb.mono hB3.size), Nat.le_trans (Nat.le_of_lt hlt) (Nat.le_trans (by simp) hb.size), Below.keeps hb hU3.1, Below.keeps hb hU3.2.1, Below.keeps hb hJ3.1, Below.keeps hb hJ3.2.1⟩
  have hL := hL3.keep hb
  clear hL3 hU3 hJ3 hB3 hb u0 u1 u2 u3
  generalize hN : w.heap.size = N at *
  have HN := Lib.hid hN
  clear hN
  generalize w2.heap.size = g at *
  generalize some ad = a at *
  go_wp2
  go_loopw [6, 7, 8] (fun r u i wr => ∃ k : Nat, k ≤ ys.length ∧ r = .bool (rtB ys k) ∧ u = .bool (upB la ca ys k) ∧ i = .int .i64 k ∧ SA N w la ca g lj cj wr ∧ LabsAt wr a ys)
    (fun _ _ i _ => ys.length - (intOf i).toNat)
  case atStart => exact ⟨0, Nat.zero_le _, rfl, by simp [upB], rfl, hS, hL⟩
  case round =>
    clear hS hL
    obtain ⟨k, hk, rfl, rfl, rfl, hS, hL⟩ := hrel
    by_cases hlt2 : k < ys.length
    · obtain ⟨x, hx⟩ : ∃ x, ys[k]? = some x := ⟨_, List.getElem?_eq_getElem hlt2⟩
      have hr1 := Hr.out x (List.mem_of_getElem? hx)
      obtain ⟨h, o, rfl, c0, c1⟩ := hL k x hx
      have hs1 := rtB_step hx
      have hs2 := upB_step (l := la) (c := ca) hx
      obtain ⟨lx, cx⟩ := x
      simp only at c0 c1 hr1 hs1 hs2
      have Hs1 := Lib.hid hs1
      have Hs2 := Lib.hid hs2
      have hX : SX N w la ca g lj cj (some ⟨h, o, none⟩) ys h (o + k * 2) lx cx wr := ⟨hS, hL, c0, c1⟩
      have Hx := Lib.hid hx
      clear hs1 hs2 hx hS hL
      cases hrt : rtB ys k <;> cases hup : upB la ca ys k
      all_goals
        have b1 : (0 : Int) ≤ (k : Int) := by omega
        have b3 : IntKind.i64.wrap (k : Int) = (k : Int) := IntWalk.i64_in _ (by omega)
        go_wp2_with (go_at_call 12; refine (right_any _ _ _).mono ?_; rintro e w' ⟨rfl, hb⟩; replace hX := hX.keep hb; clear hb)
        clear c0 c1
        try simp only [List.append_eq, List.cons_append, List.nil_append]
        refine region_class (fun w' => SX N w la ca g lj cj (some ⟨h, o, none⟩) ys h (o + k * 2) lx cx w') (by kernel_rfl) (by kernel_rfl) (hX.drew) ?_
        repeat
          first
          | go_big_quiet_skip
          | (go_big_quiet_want
             refine quiet_val ?_
             apply Exists.intro
             refine ⟨fun w' hw' => ?_, ?_⟩
             · obtain ⟨⟨_, _, q0, q1, q2, q3⟩, _, q4, q5⟩ := hw'
               go_simp
               first | done | rfl | exact ⟨rfl, rfl⟩
             simp only [Act.put, List.setIfInBounds_toArray, List.set_cons_zero, List.set_cons_succ]
             go_big_quiet_on)
          | (go_big_quiet_want
             refine quiet_call ?_
             apply Exists.intro
             apply Exists.intro
             refine ⟨fun w' => ?_, ?_⟩
             · go_simp
               first | done | rfl | exact ⟨rfl, rfl⟩
             apply Exists.intro
             refine ⟨fun w' hw' => ?_, ?_⟩
             · first
               | (go_at_call 14; exact (flows_any _ _ _ _ (by omega) (by omega) (by omega) (by omega) w').mono fun e w2 ⟨he, hb⟩ => ⟨he, hw'.keep hb⟩)
             simp only [Act.put, List.setIfInBounds_toArray, List.set_cons_zero, List.set_cons_succ]
             go_big_quiet_on)
        refine wpQuiet_nil ?_
        intro w5 hw5
        clear b1 b3 hX
        go_wp2
        go_roundw
        case rel => exact ⟨k + 1, hlt2, by rw [Hs1.out, hrt]; rfl, by rw [Hs2.out, hup]; rfl, by go_num, hw5.1, hw5.2.1⟩
        case measure => simp [intOf]; omega
    · obtain rfl : k = ys.length := by omega
      clear hlt2 hk
      generalize hu : upB la ca ys ys.length = tu at *
      have Hu := Lib.hid hu
      clear hu
      go_wp2
      go_loopw [9] (fun i wr => ∃ k : Nat, k ≤ ys.length ∧ i = .int .i64 k ∧ SA N w la ca g lj cj wr ∧ LabsAt wr a ys)
        (fun i _ => ys.length - (intOf i).toNat)
      case atStart => exact ⟨0, Nat.zero_le _, rfl, hS, hL⟩
      case round =>
        clear hS hL
        obtain ⟨k, hk, rfl, hS, hL⟩ := hrel
        by_cases hlt2 : k < ys.length
        · cases hrt : rtB ys ys.length
          · go_wp2_with fail
            clear hlt2 hk
            refine (above_any la ca a cap ys (by omega) (by omega) (by omega) Hr.out _ hL).mono ?_
            rintro e w4 ⟨v, rfl, hI, hb⟩
            have hS4 := hS.keep hb
            have hL4 := hL.keep hb
            clear hS hL hb
            obtain ⟨av, pv, rfl, hcv⟩ := hI
            have hI4 : IntsAt w4 (.slice av (abv la ca ys ys.length).length pv) (abv la ca ys ys.length) := ⟨av, pv, rfl, hcv⟩
            clear hcv
            have hal := abv_le la ca ys ys.length
            go_wp2
            go_loopw [11, 12] (fun nn i wr => ∃ k : Nat, k ≤ ys.length ∧ nn = .int .i64 ((abv la ca ys k).length : Int) ∧ i = .int .i64 k ∧ SA N w la ca g lj cj wr ∧ LabsAt wr a ys ∧ IntsAt wr (.slice av (abv la ca ys ys.length).length pv) (abv la ca ys ys.length))
              (fun _ i _ => ys.length - (intOf i).toNat)
            case atStart => exact ⟨0, Nat.zero_le _, rfl, rfl, hS4, hL4, hI4⟩
            case round =>
              clear hS4 hL4 hI4
              obtain ⟨k, hk, rfl, rfl, hS, hL, hI⟩ := hrel
              by_cases hlt2 : k < ys.length
              · obtain ⟨x, hx⟩ : ∃ x, ys[k]? = some x := ⟨_, List.getElem?_eq_getElem hlt2⟩
                have hr1 := Hr.out x (List.mem_of_getElem? hx)
                obtain ⟨h, o, rfl, c0, c1⟩ := hL k x hx
                obtain ⟨lx, cx⟩ := x
                simp only at c0 c1 hr1
                have hX : SY N w la ca g lj cj (some ⟨h, o, none⟩) ys h (o + k * 2) lx cx (.slice av (abv la ca ys ys.length).length pv) (abv la ca ys ys.length) wr := ⟨⟨hS, hL, c0, c1⟩, hI⟩
                have Hx := Lib.hid hx
                clear hx hS hL hI c0 c1
                have b1 : (0 : Int) ≤ (k : Int) := by omega
                have b3 : IntKind.i64.wrap (k : Int) = (k : Int) := IntWalk.i64_in _ (by omega)
                cases hf : flB la ca lx cx
                case' false => have Hm := Lib.hid (abv_miss Hx.out hf)
                case' true =>
                  have Hm := Lib.hid (abv_hit Hx.out hf)
                  obtain ⟨rr, hrr⟩ := abv_more la ca ys (Nat.succ_le_of_lt hlt2)
                  have hat : (abv la ca ys ys.length)[(abv la ca ys k).length]? = some k := by rw [hrr, Hm.out]; simp
                  have hnl : (abv la ca ys k).length < (abv la ca ys ys.length).length := by rw [hrr, Hm.out]; simp
                  clear hrr rr
                all_goals
                  go_wp2_with fail
                  try simp only [List.append_eq, List.cons_append, List.nil_append]
                  refine region_class (fun w' => SY N w la ca g lj cj (some ⟨h, o, none⟩) ys h (o + k * 2) lx cx (.slice av (abv la ca ys ys.length).length pv) (abv la ca ys ys.length) w') (by kernel_rfl) (by kernel_rfl) (hX.drew) ?_
                  repeat
                    first
                    | go_big_quiet_skip
                    | (go_big_quiet_want
                       refine quiet_val ?_
                       apply Exists.intro
                       refine ⟨fun w' hw' => ?_, ?_⟩
                       · obtain ⟨⟨⟨_, _, q0, q1, q2, q3⟩, _, q4, q5⟩, _⟩ := hw'
                         go_simp
                         first | done | rfl | exact ⟨rfl, rfl⟩
                       simp only [Act.put, List.setIfInBounds_toArray, List.set_cons_zero, List.set_cons_succ]
                       go_big_quiet_on)
                    | (go_big_quiet_want
                       refine quiet_call ?_
                       apply Exists.intro
                       apply Exists.intro
                       refine ⟨fun w' => ?_, ?_⟩
                       · go_simp
                         first | done | rfl | exact ⟨rfl, rfl⟩
                       apply Exists.intro
                       refine ⟨fun w' hw' => ?_, ?_⟩
                       · first
                         | (go_at_call 14; exact (flows_any _ _ _ _ (by omega) (by omega) (by omega) (by omega) w').mono fun e w2 ⟨he, hb⟩ => ⟨he, hw'.keep hb⟩)
                       simp only [Act.put, List.setIfInBounds_toArray, List.set_cons_zero, List.set_cons_succ, hf]
                       go_big_quiet_on)
                  refine wpQuiet_nil ?_
                  intro w5 hw5
                  clear hX b1 b3
                · obtain ⟨_, _, e1, hcx⟩ := hw5.2
                  injection e1 with e1 _ e2
                  subst e1 e2
                  obtain ⟨g2, rfl, hcc⟩ := hcx _ _ hat
                  clear hcx hat
                  have hkl := abv_le la ca ys k
                  have Hw5 := Lib.hid hw5
                  clear hw5
                  have hm2 : (abv la ca ys (k + 1)).length = (abv la ca ys k).length + 1 := by rw [Hm.out]; simp
                  generalize (abv la ca ys k).length = nk at *
                  go_wp2
                  go_roundw
                  case rel => exact ⟨k + 1, hlt2, by rw [hm2]; go_num, by go_num, Hw5.out.1.1, Hw5.out.1.2.1, Hw5.out.2⟩
                  case measure => simp [intOf]; omega
                · go_wp2
                  go_roundw
                  case rel => exact ⟨k + 1, hlt2, by rw [Hm.out], by go_num, hw5.1.1, hw5.1.2.1, hw5.2⟩
                  case measure => simp [intOf]; omega
              · obtain rfl : k = ys.length := by omega
                clear hlt2 hk
                obtain ⟨rfl, rfl⟩ : lj = 7 ∧ cj = 4294967295 := by have := hjf.out hrt; injection this with e1 e2; exact ⟨e1, e2⟩
                obtain ⟨hBf, hz, q0, q1, q2, q3⟩ := hS
                go_wp2
                go_ret
                exact ⟨rfl, by rw [HN.out]; exact hBf⟩
          · obtain ⟨x, hx⟩ : ∃ x, ys[k]? = some x := ⟨_, List.getElem?_eq_getElem hlt2⟩
            have hr1 := Hr.out x (List.mem_of_getElem? hx)
            have hfl := (hjt.out hrt).2.1 x (List.mem_of_getElem? hx)
            obtain ⟨h, o, rfl, c0, c1⟩ := hL k x hx
            obtain ⟨lx, cx⟩ := x
            simp only at c0 c1 hr1 hfl
            have hX : SX N w la ca g lj cj (some ⟨h, o, none⟩) ys h (o + k * 2) lx cx wr := ⟨hS, hL, c0, c1⟩
            clear hx hS hL c0 c1
            have b1 : (0 : Int) ≤ (k : Int) := by omega
            have b3 : IntKind.i64.wrap (k : Int) = (k : Int) := IntWalk.i64_in _ (by omega)
            go_wp2_with fail
            try simp only [List.append_eq, List.cons_append, List.nil_append]
            refine region_class (fun w' => SX N w la ca g lj cj (some ⟨h, o, none⟩) ys h (o + k * 2) lx cx w') (by kernel_rfl) (by kernel_rfl) (hX.drew) ?_
            repeat
              first
              | go_big_quiet_skip
              | (go_big_quiet_want
                 refine quiet_val ?_
                 apply Exists.intro
                 refine ⟨fun w' hw' => ?_, ?_⟩
                 · obtain ⟨⟨_, _, q0, q1, q2, q3⟩, _, q4, q5⟩ := hw'
                   go_simp
                   first | done | rfl | exact ⟨rfl, rfl⟩
                 simp only [Act.put, List.setIfInBounds_toArray, List.set_cons_zero, List.set_cons_succ]
                 go_big_quiet_on)
              | (go_big_quiet_want
                 refine quiet_call ?_
                 apply Exists.intro
                 apply Exists.intro
                 refine ⟨fun w' => ?_, ?_⟩
                 · go_simp
                   first | done | rfl | exact ⟨rfl, rfl⟩
                 apply Exists.intro
                 refine ⟨fun w' hw' => ?_, ?_⟩
                 · first
                   | (go_at_call 14; exact (flows_any _ _ _ _ (by omega) (by omega) (by omega) (by omega) w').mono fun e w2 ⟨he, hb⟩ => ⟨he, hw'.keep hb⟩)
                 simp only [Act.put, List.setIfInBounds_toArray, List.set_cons_zero, List.set_cons_succ, hfl]
                 go_big_quiet_on)
            refine wpQuiet_nil ?_
            intro w5 hw5
            clear b1 b3 hX
            go_wp2
            go_roundw
            case rel => exact ⟨k + 1, hlt2, by go_num, hw5.1, hw5.2.1⟩
            case measure => simp [intOf]; omega
        · obtain rfl : k = ys.length := by omega
          clear hlt2 hk
          go_wp2_with fail
          refine (above_any la ca a cap ys (by omega) (by omega) (by omega) Hr.out _ hL).mono ?_
          rintro e w4 ⟨v, rfl, hI, hb⟩
          have hS4 := hS.keep hb
          have hL4 := hL.keep hb
          clear hS hL hb
          obtain ⟨av, pv, rfl, hcv⟩ := hI
          have hI4 : IntsAt w4 (.slice av (abv la ca ys ys.length).length pv) (abv la ca ys ys.length) := ⟨av, pv, rfl, hcv⟩
          clear hcv
          have hal := abv_le la ca ys ys.length
          go_wp2
          go_loopw [11, 12] (fun nn i wr => ∃ k : Nat, k ≤ ys.length ∧ nn = .int .i64 ((abv la ca ys k).length : Int) ∧ i = .int .i64 k ∧ SA N w la ca g lj cj wr ∧ LabsAt wr a ys ∧ IntsAt wr (.slice av (abv la ca ys ys.length).length pv) (abv la ca ys ys.length))
            (fun _ i _ => ys.length - (intOf i).toNat)
          case atStart => exact ⟨0, Nat.zero_le _, rfl, rfl, hS4, hL4, hI4⟩
          case round =>
            clear hS4 hL4 hI4
            obtain ⟨k, hk, rfl, rfl, hS, hL, hI⟩ := hrel
            by_cases hlt2 : k < ys.length
            · obtain ⟨x, hx⟩ : ∃ x, ys[k]? = some x := ⟨_, List.getElem?_eq_getElem hlt2⟩
              have hr1 := Hr.out x (List.mem_of_getElem? hx)
              obtain ⟨h, o, rfl, c0, c1⟩ := hL k x hx
              obtain ⟨lx, cx⟩ := x
              simp only at c0 c1 hr1
              have hX : SY N w la ca g lj cj (some ⟨h, o, none⟩) ys h (o + k * 2) lx cx (.slice av (abv la ca ys ys.length).length pv) (abv la ca ys ys.length) wr := ⟨⟨hS, hL, c0, c1⟩, hI⟩
              have Hx := Lib.hid hx
              clear hx hS hL hI c0 c1
              have b1 : (0 : Int) ≤ (k : Int) := by omega
              have b3 : IntKind.i64.wrap (k : Int) = (k : Int) := IntWalk.i64_in _ (by omega)
              cases hf : flB la ca lx cx
              case' false => have Hm := Lib.hid (abv_miss Hx.out hf)
              case' true =>
                have Hm := Lib.hid (abv_hit Hx.out hf)
                obtain ⟨rr, hrr⟩ := abv_more la ca ys (Nat.succ_le_of_lt hlt2)
                have hat : (abv la ca ys ys.length)[(abv la ca ys k).length]? = some k := by rw [hrr, Hm.out]; simp
                have hnl : (abv la ca ys k).length < (abv la ca ys ys.length).length := by rw [hrr, Hm.out]; simp
                clear hrr rr
              all_goals
                go_wp2_with fail
                try simp only [List.append_eq, List.cons_append, List.nil_append]
                refine region_class (fun w' => SY N w la ca g lj cj (some ⟨h, o, none⟩) ys h (o + k * 2) lx cx (.slice av (abv la ca ys ys.length).length pv) (abv la ca ys ys.length) w') (by kernel_rfl) (by kernel_rfl) (hX.drew) ?_
                repeat
                  first
                  | go_big_quiet_skip
                  | (go_big_quiet_want
                     refine quiet_val ?_
                     apply Exists.intro
                     refine ⟨fun w' hw' => ?_, ?_⟩
                     · obtain ⟨⟨⟨_, _, q0, q1, q2, q3⟩, _, q4, q5⟩, _⟩ := hw'
                       go_simp
                       first | done | rfl | exact ⟨rfl, rfl⟩
                     simp only [Act.put, List.setIfInBounds_toArray, List.set_cons_zero, List.set_cons_succ]
                     go_big_quiet_on)
                  | (go_big_quiet_want
                     refine quiet_call ?_
                     apply Exists.intro
                     apply Exists.intro
                     refine ⟨fun w' => ?_, ?_⟩
                     · go_simp
                       first | done | rfl | exact ⟨rfl, rfl⟩
                     apply Exists.intro
                     refine ⟨fun w' hw' => ?_, ?_⟩
                     · first
                       | (go_at_call 14; exact (flows_any _ _ _ _ (by omega) (by omega) (by omega) (by omega) w').mono fun e w2 ⟨he, hb⟩ => ⟨he, hw'.keep hb⟩)
                     simp only [Act.put, List.setIfInBounds_toArray, List.set_cons_zero, List.set_cons_succ, hf]
                     go_big_quiet_on)
                refine wpQuiet_nil ?_
                intro w5 hw5
                clear hX b1 b3
              · obtain ⟨_, _, e1, hcx⟩ := hw5.2
                injection e1 with e1 _ e2
                subst e1 e2
                obtain ⟨g2, rfl, hcc⟩ := hcx _ _ hat
                clear hcx hat
                have hkl := abv_le la ca ys k
                have Hw5 := Lib.hid hw5
                clear hw5
                have hm2 : (abv la ca ys (k + 1)).length = (abv la ca ys k).length + 1 := by rw [Hm.out]; simp
                generalize (abv la ca ys k).length = nk at *
                go_wp2
                go_roundw
                case rel => exact ⟨k + 1, hlt2, by rw [hm2]; go_num, by go_num, Hw5.out.1.1, Hw5.out.1.2.1, Hw5.out.2⟩
                case measure => simp [intOf]; omega
              · go_wp2
                go_roundw
                case rel => exact ⟨k + 1, hlt2, by rw [Hm.out], by go_num, hw5.1.1, hw5.1.2.1, hw5.2⟩
                case measure => simp [intOf]; omega
            · obtain rfl : k = ys.length := by omega
              clear hlt2 hk
              cases hrt : rtB ys ys.length
              · obtain ⟨rfl, rfl⟩ : lj = 7 ∧ cj = 4294967295 := by have := hjf.out hrt; injection this with e1 e2; exact ⟨e1, e2⟩
                obtain ⟨hBf, hz, q0, q1, q2, q3⟩ := hS
                go_wp2
                go_ret
                exact ⟨rfl, by rw [HN.out]; exact hBf⟩
              · have hfl := (hjt.out hrt).2.2 la ca
                rw [Hu.out] at hfl
                obtain ⟨hBf, hz, q0, q1, q2, q3⟩ := id hS
                go_wp2_with fail
                refine (flows_any lj cj la ca (by omega) (by omega) (by omega) (by omega) _).mono ?_
                rintro e w6 ⟨rfl, hb⟩
                rw [hfl]
                have hBf2 := (hS.keep hb).1
                go_wp2
                go_ret
                exact ⟨rfl, by rw [HN.out]; exact hBf2⟩
set_option maxHeartbeats 1000000 in
set_option maxRecDepth 100000 in
theorem all_law_nil (la ca : Int) (ha0 : 0 ≤ ca) (ha1 : ca < 4294967296) (w : World) (he : Errs w) :
    Calls Tryd.prog 7 #[.slice none 0 0, .agg #[.int .i64 la, .int .u32 ca]] w fun e w' => e = .returned (.bool true) ∧ Below w.heap.size w w' := by
  have hB0 := (Below.refl _ w).alloc (Nat.le_refl _) (.cells #[.int .i64 la, .int .u32 ca] 24)
  have h0 := LabU.one w la ca
  have he1 := he.keep hB0
  have hnil : ∀ w' : World, LabsAt w' none [] := fun _ j x hx => by simp at hx
  have Hnil := Lib.hid hnil
  clear he hnil
  go_enter Tryd.func7, Tryd.ntmps7
  go_wp2_with fail
  refine (lives_any _ he1).mono ?_
  rintro e w1 ⟨rfl, hb⟩
  have hU := h0.keep hb
  have hB := hB0.trans (hb.mono hB0.size)
  clear h0 hB0 hb he1
  go_wp2_with fail
  refine (all_any none 0 [] (by simp) (fun x hx => by simp at hx) w1 (Hnil.out _)).mono ?_
  rintro e w2 ⟨rfl, hb⟩
  have hU2 := hU.keep hb
  have hB2 := hB.trans (hb.mono hB.size)
  clear hU hB hb
  rw [show allP [] = (0, 0) from rfl]
  have hlt : w.heap.size < w2.heap.size := World.block_lt_of_cell? _ _ hU2.1
  have hU3 := hU2.later (.cells #[.int .i64 0, .int .u32 0] 24)
  have hJ3 := LabU.one w2 0 0
  have hB3 := hB2.alloc (by omega) (.cells #[.int .i64 0, .int .u32 0] 24)
  clear hB2
  obtain ⟨u0, u1, u2, u3⟩ := hU2
  go_wp2_with fail
  refine (right_any la ca _).mono ?_
  rintro e w3 ⟨rfl, hb⟩
  have hS : SA w.heap.size w la ca w2.heap.size 0 0 w3 := ⟨hB3.trans (hb.mono hB3.size), Nat.le_trans (Nat.le_of_lt hlt) (Nat.le_trans (by simp) hb.size), Below.keeps hb hU3.1, Below.keeps hb hU3.2.1, Below.keeps hb hJ3.1, Below.keeps hb hJ3.2.1⟩
  clear hU3 hJ3 hB3 hb u0 u1 u2 u3
  generalize hN : w.heap.size = N at *
  have HN := Lib.hid hN
  clear hN
  generalize w2.heap.size = g at *
  go_wp2
  go_loopw [6, 7, 8] (fun r u i wr => r = .bool true ∧ u = .bool (rB la) ∧ i = .int .i64 0 ∧ SA N w la ca g 0 0 wr) (fun _ _ _ _ => 0)
  case atStart => exact ⟨rfl, rfl, rfl, hS⟩
  case round =>
    clear hS
    obtain ⟨rfl, rfl, rfl, hS⟩ := hrel
    go_wp2
    go_loopw [9] (fun i wr => i = .int .i64 0 ∧ SA N w la ca g 0 0 wr) (fun _ _ => 0)
    case atStart => exact ⟨rfl, hS⟩
    case round =>
      clear hS
      obtain ⟨rfl, hS⟩ := hrel
      obtain ⟨_, _, q0, q1, q2, q3⟩ := id hS
      go_wp2_with fail
      refine (above_any la ca none 0 [] (by omega) (by omega) (by simp) (fun x hx => by simp at hx) _ (Hnil.out _)).mono ?_
      rintro e w4 ⟨v, rfl, hI, hb⟩
      have hS4 := hS.keep hb
      clear hS hb q0 q1 q2 q3
      obtain ⟨av, pv, rfl, _⟩ := hI
      rw [show (abv la ca [] ([] : List (Int × Int)).length).length = 0 from rfl]
      go_wp2
      go_loopw [11, 12] (fun nn i wr => nn = .int .i64 0 ∧ i = .int .i64 0 ∧ SA N w la ca g 0 0 wr) (fun _ _ _ => 0)
      case atStart => exact ⟨rfl, rfl, hS4⟩
      case round =>
        clear hS4
        obtain ⟨rfl, rfl, hS⟩ := hrel
        obtain ⟨_, _, q0, q1, q2, q3⟩ := id hS
        go_wp2_with fail
        refine (flows_any 0 0 la ca (by omega) (by omega) (by omega) (by omega) _).mono ?_
        rintro e w6 ⟨rfl, hb⟩
        rw [flB_low]
        have hBf := (hS.keep hb).1
        go_wp2
        go_ret
        exact ⟨rfl, by rw [HN.out]; exact hBf⟩
end Go.Proofs.YtkmbllnnaljepaaDoor
