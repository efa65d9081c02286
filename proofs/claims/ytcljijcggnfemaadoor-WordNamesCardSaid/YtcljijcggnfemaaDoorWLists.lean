/- WordLists returns true: the walk. -/
import Derived.Test.YtcljijcggnfemaaDoorWListsP
import Derived.Test.YtcljijcggnfemaaDoorHeld
namespace Go.Proofs.YtcljijcggnfemaaDoor
open Go.ChangeShapes Go.WideShapes Go.RowKit

theorem grown_asd {w w' : World} {row : Option Nat} (hg : w.grownBy w' row) : Asd (fun k => row = some k) w w' := ⟨hg.os, hg.tape, hg.output, hg.size, fun k hk hn => hg.block k hk (fun e => hn e.symm)⟩
theorem own_stay2 {w w' : World} {base : Nat} {e : TypeId} {s n : Nat} {v : Value} {xs : List Value} (h : w.ownsRow base e s v n xs) (k : Below w.heap.size w w') : w'.ownsRow base e s v n xs := own_asdS h (Asd.of_below k (S := fun _ => False)) (fun _ _ e => e)
theorem at_len (a : Int) (n : Nat) (h0 : 0 < n) (hn : n ≤ 1000000) : ∃ q : Nat, q < n ∧ wrap64 ((IntKind.u64.wrap a).tmod (n : Int)) = (q : Int) := by
  have h1 : 0 ≤ IntKind.u64.wrap a := by simp only [IntKind.wrap, IntKind.signed, IntKind.bits]; simp; omega
  rw [Int.tmod_eq_emod_of_nonneg h1]
  have h2 := Int.emod_nonneg (IntKind.u64.wrap a) (show (n : Int) ≠ 0 by omega)
  have h3 := Int.emod_lt_of_pos (IntKind.u64.wrap a) (show (0 : Int) < (n : Int) by omega)
  generalize IntKind.u64.wrap a % (n : Int) = r at *
  refine ⟨r.toNat, by omega, ?_⟩
  simp only [wrap64]
  omega
theorem contains_snoc (l : List Bs) (x y : Bs) : (l ++ [y]).contains x = (l.contains x || (y == x)) := by
  by_cases e : y = x
  · subst e; simp
  · have e1 : (y == x) = false := by rw [beq_eq_false_iff_ne]; exact e
    rw [e1]
    simp [Ne.symm e]
/-- Two texts that are looked at. -/
def C2 (b : World) (p q : Addr) (x y : ByteArray) (w : World) : Prop := Below b.heap.size b w ∧ w.cell? p = some (.string x) ∧ w.cell? q = some (.string y)
theorem take15 (l : Bs) (m : Nat) (z : Int) (hz : z = (m : Int)) (w : World) : (Instr.slice 9 (.string ⟨l.toArray⟩) none (some (.int .i64 (min (l.length : Int) z))) none).run Tryd.prog w = .ok (.string ⟨(l.take m).toArray⟩) w := by
  subst hz
  have h := cut_upto l (min l.length m) (Nat.min_le_left _ _) (min (l.length : Int) (m : Int)) (by omega) w
  rw [h, Nat.min_comm, ← List.take_take, List.take_length]
set_option maxHeartbeats 6400000 in
set_option maxRecDepth 100000 in
theorem lists_any (P : Nat → Prop) (v : Value) (ss : List Bs) (at0 : Int) (m : Int) (w : World) (hv : StrsAt P w v ss) (hes : ∀ s ∈ ss, s.length ≤ 9223372036854775807) (hln : ss.length ≤ 9223372036854775807) (hm : w.cell? ⟨0, 0, none⟩ = some (.int .i64 m)) :
    Calls Tryd.prog 5 #[v, .int .i64 at0] w fun e w' => e = .returned (.bool true) ∧ Below w.heap.size w w' := by
  have hg0 := World.block_lt_of_cell? w _ hm
  simp only at hg0
  have K := Lib.hid (lives_any w)
  have KM : Unit → ∀ w', Below w.heap.size w w' → w'.cell? ⟨0, 0, none⟩ = some (.int .i64 m) := fun _ w' h => (h.cell (p := ⟨0, 0, none⟩) hg0).trans hm
  have HE : Unit → ∀ s ∈ ss, s.length ≤ 9223372036854775807 := fun _ => hes
  clear hes hm
  obtain ⟨aS, cS, rfl⟩ := hv.shape
  obtain ⟨n, hn⟩ : ∃ n, ss.length = n := ⟨_, rfl⟩
  rw [hn] at hv hln ⊢
  have HN : Unit → ss.length = n := fun _ => hn
  clear hn
  obtain ⟨i0, hi, hz0, hz1, hz2⟩ := info_parts0 info_str
  have hni : (n : Int) ≤ 9223372036854775807 := by omega
  go_enter Tryd.func5, Tryd.ntmps5
  go_wp2_with fail
  refine K.out.mono ?_
  rintro e w1 ⟨rfl, hB1⟩
  clear K
  have hsz1 := hB1.size
  go_upto_region 5 with fail
  go_loopw [5, 6] (fun u5 u6 wr => ∃ (i : Nat) (vO : Value) (O : List Bs), u6 = .int .i64 (i : Int) ∧ u5 = vO ∧ i ≤ n ∧ i ≤ 10 ∧ GoodO O ∧ O.length ≤ 16 * i ∧ wr.ownsRow w1.heap.size 9 1 vO O.length (O.map sv) ∧ Below w1.heap.size w1 wr) (fun _ u6 _ => 10 - (intOf u6).toNat)
  case atStart => exact ⟨0, _, [], rfl, rfl, Nat.zero_le _, Nat.zero_le _, GoodO.nil, Nat.le_refl _, World.ownsRow_nil _ _ _ _, Below.refl _ _⟩
  case round =>
    obtain ⟨i, vO, O, rfl, rfl, hin, hi10, hO, hOl, hown, hB⟩ := hrel
    obtain ⟨aO, cO, rfl, _⟩ := own_slice hown
    have hszr := hB.size
    have hBw : Below w.heap.size w wr := hB1.trans (hB.mono hsz1)
    by_cases hgo : i < n ∧ i < 10
    · obtain ⟨hlt, h10⟩ := hgo
      have hki : (i : Int) < (n : Int) := by omega
      have h10i : (i : Int) < 10 := by omega
      obtain ⟨s, hs⟩ : ∃ s, ss[i]? = some s := ⟨_, List.getElem?_eq_getElem (by have := HN (); omega)⟩
      have hsl := HE () s (List.mem_of_getElem? hs)
      obtain ⟨g, o, rfl, hg, hc⟩ := (hv.stay hBw).text hs
      have hcut := take15 s 15 15 rfl
      have hsz : (⟨s.toArray⟩ : ByteArray).size = s.length := by simp [ByteArray.size]
      have hsli : (s.length : Int) ≤ 9223372036854775807 := by omega
      have hc15 : (s.take 15).length ≤ 15 := by rw [List.length_take]; omega
      have KN : Hid (∀ w', Below wr.heap.size wr w' → Calls Tryd.prog 9 #[.string ⟨(s.take 15).toArray⟩] w' (NamesP w' (namesN (s.take 15)))) := Lib.hid fun w' h => names_any _ m w' (by omega) (KM () w' (hBw.trans (h.mono hBw.size)))
      have hNs : (wSp (namesN (s.take 15))).length ≤ 16 ∧ ∀ x ∈ wSp (namesN (s.take 15)), nameB x = true := by
        cases h : namesN (s.take 15) with
        | none => exact ⟨Nat.zero_le _, fun x hx => by cases hx⟩
        | some ns => exact ⟨by have := (names_size h).1; show ns.length ≤ 16; omega, names_each h⟩
      have hNe : (wSp (namesN (s.take 15))).length = 0 ∨ eSp (namesN (s.take 15)) = 0 := by cases namesN (s.take 15) <;> simp [eSp, wSp]
      clear hc15
      generalize namesN (s.take 15) = oN at *
      generalize (⟨(s.take 15).toArray⟩ : ByteArray) = t15 at *
      generalize (⟨s.toArray⟩ : ByteArray) = tS at *
      generalize s.length = lS at *
      go_upto_region 7 with fail
      refine wp_region_held (S := fun w' => Below wr.heap.size wr w') (by kernel_rfl) ?_
      have hS : Below wr.heap.size wr { wr with drawn := wr.drawn + 1 } := (Below.refl _ _).drew
      have hD1 : ({ wr with drawn := wr.drawn + 1 } : World).heap.size = wr.heap.size := rfl
      generalize { wr with drawn := wr.drawn + 1 } = D1 at *
      refine held_val 0 rfl (by kernel_rfl) (by kernel_rfl) (by kernel_rfl) (fun _ _ _ _ h => h) (by rfl) hS ?_
      apply Exists.intro
      refine ⟨fun w' hw' => ?_, ?_⟩
      · skip
        go_simp
        first | done | rfl | exact ⟨rfl, rfl⟩
      simp only [Act.put, List.setIfInBounds_toArray, List.set_cons_zero, List.set_cons_succ]
      refine held_val 1 rfl (by kernel_rfl) (by kernel_rfl) (by kernel_rfl) (fun _ _ _ _ h => h) (by rfl) hS ?_
      apply Exists.intro
      refine ⟨fun w' hw' => ?_, ?_⟩
      · skip
        go_simp
        first | done | rfl | exact ⟨rfl, rfl⟩
      simp only [Act.put, List.setIfInBounds_toArray, List.set_cons_zero, List.set_cons_succ]
      refine held_val 2 rfl (by kernel_rfl) (by kernel_rfl) (by kernel_rfl) (fun _ _ _ _ h => h) (by rfl) hS ?_
      apply Exists.intro
      refine ⟨fun w' hw' => ?_, ?_⟩
      · skip
        go_simp
        first | done | rfl | exact ⟨rfl, rfl⟩
      simp only [Act.put, List.setIfInBounds_toArray, List.set_cons_zero, List.set_cons_succ]
      refine held_val 3 rfl (by kernel_rfl) (by kernel_rfl) (by kernel_rfl) (fun _ _ _ _ h => h) (by rfl) hS ?_
      apply Exists.intro
      refine ⟨fun w' hw' => ?_, ?_⟩
      · have e1 : w'.cell? ⟨g, o + i, none⟩ = some (.string tS) := (hw'.cell hg).trans hc
        go_simp
        first | done | rfl | exact ⟨rfl, rfl⟩
      simp only [Act.put, List.setIfInBounds_toArray, List.set_cons_zero, List.set_cons_succ]
      refine held_val 4 rfl (by kernel_rfl) (by kernel_rfl) (by kernel_rfl) (fun _ _ _ _ h => h) (by rfl) hS ?_
      apply Exists.intro
      refine ⟨fun w' hw' => ?_, ?_⟩
      · skip
        go_simp
        first | done | rfl | exact ⟨rfl, rfl⟩
      simp only [Act.put, List.setIfInBounds_toArray, List.set_cons_zero, List.set_cons_succ]
      refine held_val 5 rfl (by kernel_rfl) (by kernel_rfl) (by kernel_rfl) (fun _ _ _ _ h => h) (by rfl) hS ?_
      apply Exists.intro
      refine ⟨fun w' hw' => ?_, ?_⟩
      · skip
        go_simp
        first | done | rfl | exact ⟨rfl, rfl⟩
      simp only [Act.put, List.setIfInBounds_toArray, List.set_cons_zero, List.set_cons_succ]
      refine held_val 6 rfl (by kernel_rfl) (by kernel_rfl) (by kernel_rfl) (fun _ _ _ _ h => h) (by rfl) hS ?_
      apply Exists.intro
      refine ⟨fun w' hw' => ?_, ?_⟩
      · skip
        go_simp
        first | done | rfl | exact ⟨rfl, rfl⟩
      simp only [Act.put, List.setIfInBounds_toArray, List.set_cons_zero, List.set_cons_succ]
      refine held_val 7 rfl (by kernel_rfl) (by kernel_rfl) (by kernel_rfl) (fun _ _ _ _ h => h) (by rfl) hS ?_
      apply Exists.intro
      refine ⟨fun w' hw' => ?_, ?_⟩
      · have e1 : w'.cell? ⟨g, o + i, none⟩ = some (.string tS) := (hw'.cell hg).trans hc
        go_simp
        first | done | rfl | exact ⟨rfl, rfl⟩
      simp only [Act.put, List.setIfInBounds_toArray, List.set_cons_zero, List.set_cons_succ]
      refine held_val 8 rfl (by kernel_rfl) (by kernel_rfl) (by kernel_rfl) (fun _ _ _ _ h => h) (by rfl) hS ?_
      apply Exists.intro
      refine ⟨fun w' hw' => ?_, ?_⟩
      · skip
        go_simp
        first | done | rfl | exact ⟨rfl, rfl⟩
      simp only [Act.put, List.setIfInBounds_toArray, List.set_cons_zero, List.set_cons_succ]
      refine held_val 9 rfl (by kernel_rfl) (by kernel_rfl) (by kernel_rfl) (fun _ _ _ _ h => h) (by rfl) hS ?_
      apply Exists.intro
      refine ⟨fun w' hw' => ?_, ?_⟩
      · skip
        go_simp
        first | done | rfl | exact ⟨rfl, rfl⟩
      simp only [Act.put, List.setIfInBounds_toArray, List.set_cons_zero, List.set_cons_succ]
      refine held_val 10 rfl (by kernel_rfl) (by kernel_rfl) (by kernel_rfl) (fun _ _ _ _ h => h) (by rfl) hS ?_
      apply Exists.intro
      refine ⟨fun w' hw' => ?_, ?_⟩
      · skip
        go_simp
        first | done | rfl | exact ⟨rfl, rfl⟩
      simp only [Act.put, List.setIfInBounds_toArray, List.set_cons_zero, List.set_cons_succ]
      refine held_call 11 (by kernel_rfl) rfl (by rfl) ?_
      apply Exists.intro
      apply Exists.intro
      refine ⟨?_, ?_⟩
      · go_simp
        first | done | rfl | exact ⟨rfl, rfl⟩
      refine (KN.out _ hS).mono ?_
      intro e w3 he
      obtain ⟨aN, cN, rfl, hN, hB3⟩ := he.at
      replace hS := hS.trans (hB3.mono hS.size)
      refine ⟨_, rfl, hS, ?_⟩
      simp only [Act.put, List.setIfInBounds_toArray, List.set_cons_zero, List.set_cons_succ]
      refine held_val 12 rfl (by kernel_rfl) (by kernel_rfl) (by kernel_rfl) (fun _ _ _ _ h => h) (by rfl) hS ?_
      apply Exists.intro
      refine ⟨fun w' hw' => ?_, ?_⟩
      · skip
        go_simp
        first | done | rfl | exact ⟨rfl, rfl⟩
      simp only [Act.put, List.setIfInBounds_toArray, List.set_cons_zero, List.set_cons_succ]
      refine held_val 13 rfl (by kernel_rfl) (by kernel_rfl) (by kernel_rfl) (fun _ _ _ _ h => h) (by rfl) hS ?_
      apply Exists.intro
      refine ⟨fun w' hw' => ?_, ?_⟩
      · skip
        go_simp
        first | done | rfl | exact ⟨rfl, rfl⟩
      simp only [Act.put, List.setIfInBounds_toArray, List.set_cons_zero, List.set_cons_succ]
      refine held_val 14 rfl (by kernel_rfl) (by kernel_rfl) (by kernel_rfl) (fun _ _ _ _ h => h) (by rfl) hS ?_
      apply Exists.intro
      refine ⟨fun w' hw' => ?_, ?_⟩
      · skip
        go_simp
        first | done | rfl | exact ⟨rfl, rfl⟩
      simp only [Act.put, List.setIfInBounds_toArray, List.set_cons_zero, List.set_cons_succ]
      refine held_val 15 rfl (by kernel_rfl) (by kernel_rfl) (by kernel_rfl) (fun _ _ _ _ h => h) (by rfl) hS ?_
      apply Exists.intro
      refine ⟨fun w' hw' => ?_, ?_⟩
      · skip
        go_simp
        first | done | rfl | exact ⟨rfl, rfl⟩
      simp only [Act.put, List.setIfInBounds_toArray, List.set_cons_zero, List.set_cons_succ]
      refine held_val 16 rfl (by kernel_rfl) (by kernel_rfl) (by kernel_rfl) (fun _ _ _ _ h => h) (by rfl) hS ?_
      apply Exists.intro
      refine ⟨fun w' hw' => ?_, ?_⟩
      · skip
        go_simp
        first | done | rfl | exact ⟨rfl, rfl⟩
      simp only [Act.put, List.setIfInBounds_toArray, List.set_cons_zero, List.set_cons_succ]
      refine wpAnyH_done (by kernel_rfl) ?_ _
      clear he KN hcut hc hsl hsli hsz
      generalize wSp oN = NS at *
      generalize eSp oN = eN at *
      obtain ⟨hNl, hNn⟩ := hNs
      obtain ⟨q, hq⟩ : ∃ q, NS.length = q := ⟨_, rfl⟩
      rw [hq] at hN hNl hNe
      rw [hq]
      have HQ : Unit → NS.length = q := fun _ => hq
      have HNN : Unit → ∀ x ∈ NS, nameB x = true := fun _ => hNn
      clear hq hNn
      have hown3 := own_stay2 hown hS
      have hN3 : StrsAt (fun b => (Value.slice aO O.length cO).ownBlock ≠ some b) w3 (.slice aN q cN) NS := hN.mono (fun b hb _ e => by have := (hown.lt b e).2; omega)
      have hB' : Below w1.heap.size w1 w3 := hB.trans (hS.mono hszr)
      clear hown hN hB3 hS hD1 hBw
      have hqi : (q : Int) ≤ 16 := by omega
      clear hB
      go_upto_region 9 with fail
      go_loopw [5, 9] (fun u5 u9 wr2 => ∃ (k : Nat) (vO : Value) (O : List Bs), u9 = .int .i64 (k : Int) ∧ u5 = vO ∧ k ≤ q ∧ GoodO O ∧ O.length ≤ 16 * i + k ∧ wr2.ownsRow w1.heap.size 9 1 vO O.length (O.map sv) ∧ StrsAt (fun b => vO.ownBlock ≠ some b) wr2 (.slice aN q cN) NS ∧ Below w1.heap.size w1 wr2) (fun _ u9 _ => q - (intOf u9).toNat)
      case atStart => exact ⟨0, _, O, rfl, rfl, Nat.zero_le _, hO, by omega, hown3, hN3, hB'⟩
      case round =>
        clear hO hOl hown3 hN3 hB'
        obtain ⟨k, vO2, O2, rfl, rfl, hkq, hO2, hO2l, hown2, hN2, hB2⟩ := hrel
        obtain ⟨aO2, cO2, rfl, _⟩ := own_slice hown2
        obtain ⟨w5, rfl⟩ : ∃ w5, w5 = wr := ⟨_, rfl⟩
        have hsz5 := hB2.size
        by_cases hlk : k < q
        · obtain rfl : eN = 0 := by omega
          have hkqi : (k : Int) < (q : Int) := by omega
          obtain ⟨x, hx⟩ : ∃ x, NS[k]? = some x := ⟨_, List.getElem?_eq_getElem (by have := HQ (); omega)⟩
          have hxn := HNN () x (List.mem_of_getElem? hx)
          obtain ⟨gN, oN, rfl, hgN, hcN⟩ := hN2.text hx
          obtain ⟨p, hp⟩ : ∃ p, O2.length = p := ⟨_, rfl⟩
          rw [hp] at hown2 hN2
          rw [hp]
          have HP : Unit → O2.length = p := fun _ => hp
          have hpl : p ≤ 16 * i + k := by omega
          clear hp
          have hpi : (p : Int) ≤ 200 := by omega
          go_upto_region 13 with fail
          go_loopw [10, 11] (fun u10 u11 w6 => ∃ j : Nat, u11 = .int .i64 (j : Int) ∧ j ≤ p ∧ u10 = .bool ((O2.take j).contains x) ∧ Below w5.heap.size w5 w6) (fun _ u11 _ => p - (intOf u11).toNat)
          case atStart => exact ⟨0, rfl, Nat.zero_le _, rfl, Below.refl _ _⟩
          case round =>
            obtain ⟨j, rfl, hjp, rfl, hB6⟩ := hrel
            have hsz6 := hB6.size
            by_cases hlj : j < p
            · have hji : (j : Int) < (p : Int) := by omega
              obtain ⟨y, hy⟩ : ∃ y, O2[j]? = some y := ⟨_, List.getElem?_eq_getElem (by have := HP (); omega)⟩
              have hsO := own_strs (w := w5) (ss := O2) (by rw [HP ()]; exact hown2)
              obtain ⟨gO, oO, rfl, hgO, hcO⟩ := hsO.text hy
              have hcO' : wr.cell? ⟨gO, oO + j, none⟩ = some (.string ⟨y.toArray⟩) := (hB6.cell hgO).trans hcO
              have hcN' : wr.cell? ⟨gN, oN + k, none⟩ = some (.string ⟨x.toArray⟩) := (hB6.cell hgN).trans hcN
              have hsame := same_text y x
              have HT : Unit → (O2.take (j + 1)).contains x = ((O2.take j).contains x || (y == x)) := fun _ => by
                rw [List.take_add_one, hy]
                exact contains_snoc _ x y
              have hex : ∃ ct, (O2.take j).contains x = ct := ⟨_, rfl⟩
              obtain ⟨ct, hct⟩ := hex
              rw [hct] at HT ⊢
              clear hct hsO hcO
              cases ct with
              | true =>
                go_upto_region 15 with fail
                try simp only [List.append_eq, List.cons_append, List.nil_append]
                refine region_class (fun w' => C2 wr ⟨gO, oO + j, none⟩ ⟨gN, oN + k, none⟩ ⟨y.toArray⟩ ⟨x.toArray⟩ w') (by kernel_rfl) (by kernel_rfl) (⟨(Below.refl _ _).drew, hcO', hcN'⟩) ?_
                repeat
                  first
                  | go_big_quiet_skip
                  | (go_big_quiet_want
                     refine quiet_val ?_
                     apply Exists.intro
                     refine ⟨fun w' hw' => ?_, ?_⟩
                     · obtain ⟨_, e0, e1⟩ := hw'
                       go_simp
                       first | done | rfl | exact ⟨rfl, rfl⟩
                     simp only [Act.put, List.setIfInBounds_toArray, List.set_cons_zero, List.set_cons_succ]
                     go_big_quiet_on)
                  | (go_big_quiet_want
                     refine quiet_call ?_
                     apply Exists.intro
                     apply Exists.intro
                     refine ⟨fun w' => ?_, ?_⟩
                     · go_simp
                       first | done | rfl | exact ⟨rfl, rfl⟩
                     apply Exists.intro
                     refine ⟨fun w' hw' => ?_, ?_⟩
                     · first
                       | fail
                     simp only [Act.put, List.setIfInBounds_toArray, List.set_cons_zero, List.set_cons_succ]
                     go_big_quiet_on)
                refine wpQuiet_nil ?_
                intro w5 hw5
                have hb5 := hw5.1
                replace hB6 := hB6.trans (hb5.mono hsz6)
                clear hb5 hw5
                go_wp2_with fail
                go_roundw
                case rel => exact ⟨j + 1, by simp, by omega, by rw [HT ()]; rfl, hB6⟩
                case measure => simp [intOf]; omega
              | false =>
                go_upto_region 15 with fail
                try simp only [List.append_eq, List.cons_append, List.nil_append]
                refine region_class (fun w' => C2 wr ⟨gO, oO + j, none⟩ ⟨gN, oN + k, none⟩ ⟨y.toArray⟩ ⟨x.toArray⟩ w') (by kernel_rfl) (by kernel_rfl) (⟨(Below.refl _ _).drew, hcO', hcN'⟩) ?_
                repeat
                  first
                  | go_big_quiet_skip
                  | (go_big_quiet_want
                     refine quiet_val ?_
                     apply Exists.intro
                     refine ⟨fun w' hw' => ?_, ?_⟩
                     · obtain ⟨_, e0, e1⟩ := hw'
                       go_simp
                       first | done | rfl | exact ⟨rfl, rfl⟩
                     simp only [Act.put, List.setIfInBounds_toArray, List.set_cons_zero, List.set_cons_succ]
                     go_big_quiet_on)
                  | (go_big_quiet_want
                     refine quiet_call ?_
                     apply Exists.intro
                     apply Exists.intro
                     refine ⟨fun w' => ?_, ?_⟩
                     · go_simp
                       first | done | rfl | exact ⟨rfl, rfl⟩
                     apply Exists.intro
                     refine ⟨fun w' hw' => ?_, ?_⟩
                     · first
                       | fail
                     simp only [Act.put, List.setIfInBounds_toArray, List.set_cons_zero, List.set_cons_succ]
                     go_big_quiet_on)
                refine wpQuiet_nil ?_
                intro w5 hw5
                have hb5 := hw5.1
                replace hB6 := hB6.trans (hb5.mono hsz6)
                clear hb5 hw5
                go_wp2_with fail
                go_roundw
                case rel => exact ⟨j + 1, by simp, by omega, by rw [HT (), Bool.false_or, ← hsame], hB6⟩
                case measure => simp [intOf]; omega
            · obtain rfl : p = j := by omega
              have hall : (O2.take p).contains x = O2.contains x := by rw [← HP (), List.take_length]
              have hex : ∃ ct, O2.contains x = ct := ⟨_, rfl⟩
              obtain ⟨ct, hct⟩ := hex
              rw [hall, hct]
              have HCT : Unit → O2.contains x = ct := fun _ => hct
              have hown6 := own_stay2 hown2 hB6
              have hN6 := hN2.stay hB6
              have hB26 := hB2.trans (hB6.mono hsz5)
              have hcN' : wr.cell? ⟨gN, oN + k, none⟩ = some (.string ⟨x.toArray⟩) := (hB6.cell hgN).trans hcN
              clear hct hall hown2 hN2 hB2 hB6 hcN
              cases ct with
              | true =>
                go_wp2_with fail
                go_roundw
                case rel => exact ⟨k + 1, _, O2, by simp, rfl, by omega, hO2, by have := HP (); omega, by rw [HP ()]; exact hown6, hN6, hB26⟩
                case measure => simp [intOf]; omega
              | false =>
                have hxl := name_short hxn
                generalize hX : (⟨x.toArray⟩ : ByteArray) = X at *
                have HX : Unit → (⟨x.toArray⟩ : ByteArray) = X := fun _ => hX
                clear hX
                go_upto_region 17 with fail
                go_wp2_with (at_builtin; refine wpList_append_own_at _ rfl _ _ 22 rfl w1.heap.size 9 i0 (.string ⟨#[]⟩) 1 16 Tryd.underlying22 hi hz0 hz1 hz2 rfl (by decide) _ p _ rfl (World.ownsRow.alloc hown6 _) ⟨wr.heap.size, 0, none⟩ 1 1 [.string X] rfl rfl (cell_one_new _ _ _) (fun u hu => by simp at hu; subst hu; rfl) (by unfold maxLen; omega) (by omega) (by simp; omega) ?_)
                intro v' w8 hO' hg8 _ hloc
                have hal := (Below.refl wr.heap.size wr).alloc (Nat.le_refl _) (.cells #[.string X] 9)
                have hN7 : StrsAt (fun b => (Value.slice aO2 p cO2).ownBlock ≠ some b ∧ b < (wr.alloc (.cells #[.string X] 9)).heap.size) (wr.alloc (.cells #[.string X] 9)) (.slice (some ⟨gN, oN, none⟩) q cN) NS := (hN6.stay hal).mono (fun b hb hlt => ⟨hb, hlt⟩)
                have hN8 : StrsAt (fun b => v'.ownBlock ≠ some b) w8 (.slice (some ⟨gN, oN, none⟩) q cN) NS := (hN7.keepN (grown_asd hg8) (fun b hb _ e => hb.1 e)).mono (fun b hb _ => by
                  rcases hloc with e | e
                  · rw [e]; exact hb.1
                  · rw [e]; intro e2; injection e2 with e2; have h9 := hb.2; rw [World.size_alloc] at h9; omega)
                have hB8 : Below w1.heap.size w1 w8 := (hB26.alloc (by omega) _).grown hg8 (by simp; omega) (fun b e => (hown6.lt b e).1)
                obtain ⟨g9, c9, rfl⟩ := own_succ hO'
                clear hN7 hN6 hal hg8 hown6 hB26 hcN' hloc
                go_wp2_with fail
                go_roundw
                case rel => exact ⟨k + 1, _, O2 ++ [x], by simp, rfl, by omega, hO2.snoc (HCT ()) hxn, by rw [List.length_append]; simp; have := HP (); omega, by rw [List.length_append, List.map_append, HP ()]; rw [← HX ()] at hO'; exact hO', hN8, hB8⟩
                case measure => simp [intOf]; omega
        · have hqk : ¬ (k : Int) < (q : Int) := by omega
          clear hN2
          go_wp2_with fail
          go_roundw
          case rel => exact ⟨i + 1, _, O2, by simp, rfl, by omega, by omega, hO2, by omega, hown2, hB2⟩
          case measure => simp [intOf]; omega
    · by_cases hlt : i < n
      · have hki : (i : Int) < (n : Int) := by omega
        have h10i : ¬ (i : Int) < 10 := by omega
        have hOs := own_strs hown
        have hOw := own_len O hO
        have hjl := join_len [44] O
        simp only [List.length_cons, List.length_nil] at hjl
        have hTl : (ntextN O).length ≤ 3000 := by
          unfold ntextN
          split
          · decide
          · omega
        have KT := Lib.hid (ntext_any _ _ O wr hOs (by omega) (by omega))
        have KN : Hid (∀ w', Below w.heap.size w w' → Calls Tryd.prog 9 #[.string ⟨(ntextN O).toArray⟩] w' (NamesP w' (some O))) := Lib.hid fun w' h => by
          have := names_any (ntextN O) m w' (by omega) (KM () w' h)
          rwa [own_text O hO] at this
        have hOl2 : O.length ≤ 160 := by omega
        clear hOw hjl hown
        by_cases hnil : O = []
        · subst hnil
          rw [show ntextN [] = [45] from rfl] at KT KN
          clear hTl
          go_wp2_with fail
          refine KT.out.mono ?_
          rintro e w4 ⟨rfl, hB4⟩
          clear KT
          replace hBw := hBw.trans (hB4.mono hBw.size)
          replace hOs := hOs.stay hB4
          go_wp2_with fail
          refine (KN.out w4 hBw).mono ?_
          rintro e w5 ⟨⟨v5, rfl, h5⟩, hB5⟩
          clear KN
          obtain ⟨a5, c5, rfl⟩ := h5.shape
          replace hBw := hBw.trans (hB5.mono hBw.size)
          replace hOs := hOs.stay hB5
          have KQ := Lib.hid (same_any _ _ _ _ _ _ w5 h5 hOs (by simp))
          rw [decide_eq_true rfl] at KQ
          go_wp2_with fail
          refine KQ.out.mono ?_
          rintro e w6 ⟨rfl, hB6⟩
          clear KQ
          go_wp2_with fail
          go_ret
          exact ⟨rfl, hBw.trans (hB6.mono hBw.size)⟩
        · obtain ⟨p, hp⟩ : ∃ p, O.length = p + 1 := ⟨O.length - 1, by have := List.length_pos_iff.2 hnil; omega⟩
          have hsz : (⟨(ntextN O).toArray⟩ : ByteArray).size = (ntextN O).length := by simp [ByteArray.size]
          have hTi : ((ntextN O).length : Int) ≤ 3000 := by omega
          obtain ⟨q, hq, hqe⟩ := at_len at0 (p + 1) (by omega) (by omega)
          obtain ⟨x, hx⟩ : ∃ x, O[q]? = some x := ⟨_, List.getElem?_eq_getElem (by omega)⟩
          have hxl := name_short (hO.each x (List.mem_of_getElem? hx))
          have KL : Hid (∀ w', Below w.heap.size w w' → Calls Tryd.prog 9 #[.string (⟨(ntextN O).toArray⟩ ++ ⟨#[44]⟩ ++ ⟨x.toArray⟩)] w' (NamesP w' none)) := Lib.hid fun w' h => by
            have := names_any (ntextN O ++ 44 :: x) m w' (by simp; omega) (KM () w' h)
            rw [own_twice O hO (List.mem_of_getElem? hx)] at this
            have e1 : (⟨(ntextN O).toArray⟩ : ByteArray) ++ ⟨#[44]⟩ = ⟨(ntextN O ++ [44]).toArray⟩ := cat_text _ [44]
            rw [e1, cat_text, List.append_assoc]
            exact this
          rw [hp] at hOs hOl2 KT ⊢
          have hxz : (⟨x.toArray⟩ : ByteArray).size = x.length := by simp [ByteArray.size]
          have hxi : (x.length : Int) ≤ 12 := by omega
          generalize (⟨(ntextN O).toArray⟩ : ByteArray) = tT at *
          generalize (ntextN O).length = lT at *
          have hne : (((p + 1 : Nat) : Int) == 0) = false := by rw [beq_eq_false_iff_ne]; omega
          go_wp2_with fail
          refine KT.out.mono ?_
          rintro e w4 ⟨rfl, hB4⟩
          clear KT
          replace hBw := hBw.trans (hB4.mono hBw.size)
          replace hOs := hOs.stay hB4
          go_wp2_with fail
          refine (KN.out w4 hBw).mono ?_
          rintro e w5 ⟨⟨v5, rfl, h5⟩, hB5⟩
          clear KN
          obtain ⟨a5, c5, rfl⟩ := h5.shape
          replace hBw := hBw.trans (hB5.mono hBw.size)
          replace hOs := hOs.stay hB5
          have KQ := Lib.hid (same_any _ _ _ _ _ _ w5 h5 hOs (by omega))
          rw [decide_eq_true rfl] at KQ
          rw [hp] at KQ ⊢
          clear h5
          go_wp2_with fail
          refine KQ.out.mono ?_
          rintro e w6 ⟨rfl, hB6⟩
          clear KQ
          replace hBw := hBw.trans (hB6.mono hBw.size)
          replace hOs := hOs.stay hB6
          obtain ⟨gO, oO, rfl, hgO, hcO⟩ := hOs.text hx
          have hqi2 : (q : Int) < (p : Int) + 1 := by omega
          have hqe2 : wrap64 ((IntKind.u64.wrap at0).tmod ((p : Int) + 1)) = (q : Int) := hqe
          have hq0 : ¬ ((p : Int) + 1 = 0) := by omega
          clear hqe
          clear hOs hO
          go_upto_region 24 with fail
          go_wp2_with fail
          refine (KL.out w6 hBw).mono ?_
          rintro e w7 ⟨rfl, hB7⟩
          go_wp2_with fail
          go_ret
          exact ⟨rfl, hBw.trans (hB7.mono hBw.size)⟩
      · have hki : ¬ (i : Int) < (n : Int) := by omega
        have hOs := own_strs hown
        have hOw := own_len O hO
        have hjl := join_len [44] O
        simp only [List.length_cons, List.length_nil] at hjl
        have hTl : (ntextN O).length ≤ 3000 := by
          unfold ntextN
          split
          · decide
          · omega
        have KT := Lib.hid (ntext_any _ _ O wr hOs (by omega) (by omega))
        have KN : Hid (∀ w', Below w.heap.size w w' → Calls Tryd.prog 9 #[.string ⟨(ntextN O).toArray⟩] w' (NamesP w' (some O))) := Lib.hid fun w' h => by
          have := names_any (ntextN O) m w' (by omega) (KM () w' h)
          rwa [own_text O hO] at this
        have hOl2 : O.length ≤ 160 := by omega
        clear hOw hjl hown
        by_cases hnil : O = []
        · subst hnil
          rw [show ntextN [] = [45] from rfl] at KT KN
          clear hTl
          go_wp2_with fail
          refine KT.out.mono ?_
          rintro e w4 ⟨rfl, hB4⟩
          clear KT
          replace hBw := hBw.trans (hB4.mono hBw.size)
          replace hOs := hOs.stay hB4
          go_wp2_with fail
          refine (KN.out w4 hBw).mono ?_
          rintro e w5 ⟨⟨v5, rfl, h5⟩, hB5⟩
          clear KN
          obtain ⟨a5, c5, rfl⟩ := h5.shape
          replace hBw := hBw.trans (hB5.mono hBw.size)
          replace hOs := hOs.stay hB5
          have KQ := Lib.hid (same_any _ _ _ _ _ _ w5 h5 hOs (by simp))
          rw [decide_eq_true rfl] at KQ
          go_wp2_with fail
          refine KQ.out.mono ?_
          rintro e w6 ⟨rfl, hB6⟩
          clear KQ
          go_wp2_with fail
          go_ret
          exact ⟨rfl, hBw.trans (hB6.mono hBw.size)⟩
        · obtain ⟨p, hp⟩ : ∃ p, O.length = p + 1 := ⟨O.length - 1, by have := List.length_pos_iff.2 hnil; omega⟩
          have hsz : (⟨(ntextN O).toArray⟩ : ByteArray).size = (ntextN O).length := by simp [ByteArray.size]
          have hTi : ((ntextN O).length : Int) ≤ 3000 := by omega
          obtain ⟨q, hq, hqe⟩ := at_len at0 (p + 1) (by omega) (by omega)
          obtain ⟨x, hx⟩ : ∃ x, O[q]? = some x := ⟨_, List.getElem?_eq_getElem (by omega)⟩
          have hxl := name_short (hO.each x (List.mem_of_getElem? hx))
          have KL : Hid (∀ w', Below w.heap.size w w' → Calls Tryd.prog 9 #[.string (⟨(ntextN O).toArray⟩ ++ ⟨#[44]⟩ ++ ⟨x.toArray⟩)] w' (NamesP w' none)) := Lib.hid fun w' h => by
            have := names_any (ntextN O ++ 44 :: x) m w' (by simp; omega) (KM () w' h)
            rw [own_twice O hO (List.mem_of_getElem? hx)] at this
            have e1 : (⟨(ntextN O).toArray⟩ : ByteArray) ++ ⟨#[44]⟩ = ⟨(ntextN O ++ [44]).toArray⟩ := cat_text _ [44]
            rw [e1, cat_text, List.append_assoc]
            exact this
          rw [hp] at hOs hOl2 KT ⊢
          have hxz : (⟨x.toArray⟩ : ByteArray).size = x.length := by simp [ByteArray.size]
          have hxi : (x.length : Int) ≤ 12 := by omega
          generalize (⟨(ntextN O).toArray⟩ : ByteArray) = tT at *
          generalize (ntextN O).length = lT at *
          have hne : (((p + 1 : Nat) : Int) == 0) = false := by rw [beq_eq_false_iff_ne]; omega
          go_wp2_with fail
          refine KT.out.mono ?_
          rintro e w4 ⟨rfl, hB4⟩
          clear KT
          replace hBw := hBw.trans (hB4.mono hBw.size)
          replace hOs := hOs.stay hB4
          go_wp2_with fail
          refine (KN.out w4 hBw).mono ?_
          rintro e w5 ⟨⟨v5, rfl, h5⟩, hB5⟩
          clear KN
          obtain ⟨a5, c5, rfl⟩ := h5.shape
          replace hBw := hBw.trans (hB5.mono hBw.size)
          replace hOs := hOs.stay hB5
          have KQ := Lib.hid (same_any _ _ _ _ _ _ w5 h5 hOs (by omega))
          rw [decide_eq_true rfl] at KQ
          rw [hp] at KQ ⊢
          clear h5
          go_wp2_with fail
          refine KQ.out.mono ?_
          rintro e w6 ⟨rfl, hB6⟩
          clear KQ
          replace hBw := hBw.trans (hB6.mono hBw.size)
          replace hOs := hOs.stay hB6
          obtain ⟨gO, oO, rfl, hgO, hcO⟩ := hOs.text hx
          have hqi2 : (q : Int) < (p : Int) + 1 := by omega
          have hqe2 : wrap64 ((IntKind.u64.wrap at0).tmod ((p : Int) + 1)) = (q : Int) := hqe
          have hq0 : ¬ ((p : Int) + 1 = 0) := by omega
          clear hqe
          clear hOs hO
          go_upto_region 24 with fail
          go_wp2_with fail
          refine (KL.out w6 hBw).mono ?_
          rintro e w7 ⟨rfl, hB7⟩
          go_wp2_with fail
          go_ret
          exact ⟨rfl, hBw.trans (hB7.mono hBw.size)⟩
end Go.Proofs.YtcljijcggnfemaaDoor
