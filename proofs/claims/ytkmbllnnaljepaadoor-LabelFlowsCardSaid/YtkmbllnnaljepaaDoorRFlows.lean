/- The document's own Flows: what each call returns; and the statement about which labels flow where. -/
import Derived.Test.YtkmbllnnaljepaaDoorRJoin
import Derived.RegionTactic
namespace Go.Proofs.YtkmbllnnaljepaaDoor
open Go.ChangeShapes Go.WideShapes Go.RowKit
attribute [local go_sem ↓] Go.wp_at_zero Go.wp_at_succ

theorem sub_iff (c d : Int) (h1 : c < 4294967296) : subB c d = true ↔ ∀ x ∈ tms c 32, d.toNat.testBit x = true := by
  unfold subB
  rw [decide_eq_true_iff]
  constructor
  · intro h x hx
    have hb := ((tms_mem c 32 x).1 hx).2
    rw [← h, Nat.testBit_and, Bool.and_eq_true] at hb
    exact hb.2
  · intro h
    apply Nat.eq_of_testBit_eq
    intro i
    rw [Nat.testBit_and]
    cases hb : c.toNat.testBit i
    · rfl
    · have hi : i < 32 := by
        rcases Nat.lt_or_ge i 32 with h2 | h2
        · exact h2
        · rw [Nat.testBit_lt_two_pow (Nat.lt_of_lt_of_le (show c.toNat < 2 ^ 32 by omega) (Nat.pow_le_pow_right (by omega) h2))] at hb
          cases hb
      rw [h i ((tms_mem c 32 i).2 ⟨hi, hb⟩)]
      rfl
theorem flB_no {la ca lb cb : Int} (h : subB ca cb = false) : flB la ca lb cb = false := by unfold flB; rw [h]; simp

/-- Two labels, and a number in a cell. -/
abbrev S2x (N : Nat) (w : World) (la ca lb cb : Int) (v : Value) (xs : List Nat) (g k : Nat) (x : Nat) (w' : World) : Prop := S2 N w la ca lb cb w' ∧ IntsAt w' v xs ∧ w'.cell? ⟨g, k, none⟩ = some (.int .i64 (x : Int))
theorem S2x.keep {N g k x : Nat} {w w1 w2 : World} {la ca lb cb : Int} {v : Value} {xs : List Nat} (h : S2x N w la ca lb cb v xs g k x w1) (hb : Below w1.heap.size w1 w2) : S2x N w la ca lb cb v xs g k x w2 := ⟨h.1.keep hb, h.2.1.keep hb, Below.keeps hb h.2.2⟩
theorem S2x.drew {N g k x : Nat} {w w1 : World} {la ca lb cb : Int} {v : Value} {xs : List Nat} (h : S2x N w la ca lb cb v xs g k x w1) : S2x N w la ca lb cb v xs g k x w1.drew := ⟨h.1.drew, h.2⟩

set_option maxHeartbeats 1000000 in
set_option maxRecDepth 100000 in
theorem rflows_any (la ca lb cb : Int) (ha0 : 0 ≤ ca) (ha1 : ca < 4294967296) (hb0 : 0 ≤ cb) (hb1 : cb < 4294967296) (w : World) :
    Calls Tryd.prog 15 #[.agg #[.int .i64 la, .int .u32 ca], .agg #[.int .i64 lb, .int .u32 cb]] w fun e w' => e = .returned (.bool (flB la ca lb cb)) ∧ Below w.heap.size w w' := by
  have hS := S2.start w la ca lb cb
  have hsub := Lib.hid (sub_iff ca cb ha1)
  go_enter Tryd.func15, Tryd.ntmps15
  go_wp2_with fail
  refine (rteams_ints la ca ha0 ha1 _).mono ?_
  rintro e w1 ⟨v, rfl, hI, hb⟩
  replace hS := hS.keep hb
  clear hb
  generalize hN : w.heap.size = N at *
  have HN := Lib.hid hN
  clear hN
  have hxl := tms_le ca 32
  have Hmem := Lib.hid (fun x => tms_mem ca 32 x)
  generalize tms ca 32 = xs at *
  obtain ⟨av, cap, rfl, hcx⟩ := hI
  have hI : IntsAt w1 (.slice av xs.length cap) xs := ⟨av, cap, rfl, hcx⟩
  clear hcx
  go_wp2
  go_loopw [6] (fun i wr => ∃ k : Nat, k ≤ xs.length ∧ i = .int .i64 k ∧ Hid (∀ x ∈ xs.take k, cb.toNat.testBit x = true) ∧ S2 N w la ca lb cb wr ∧ IntsAt wr (.slice av xs.length cap) xs) (fun i _ => xs.length - (intOf i).toNat)
  case atStart => exact ⟨0, Nat.zero_le _, rfl, fun x hx => (by simp at hx), hS, hI⟩
  case round =>
    clear hS hI
    obtain ⟨k, hk, rfl, hall, hS, hI⟩ := hrel
    by_cases hlt : k < xs.length
    · obtain ⟨x, hx⟩ : ∃ x, xs[k]? = some x := ⟨_, List.getElem?_eq_getElem hlt⟩
      have hx32 := ((Hmem.out x).1 (List.mem_of_getElem? hx)).1
      obtain ⟨_, _, e1, hcx⟩ := id hI
      injection e1 with e1 _ e2
      subst e1 e2
      obtain ⟨g, rfl, hc⟩ := hcx k x hx
      have hX : S2x N w la ca lb cb (.slice (some ⟨g, 0, none⟩) xs.length cap) xs g k x wr := ⟨hS, hI, hc⟩
      have Hx := Lib.hid hx
      clear hcx hx hc hS hI
      have b1 : (0 : Int) ≤ (k : Int) := by omega
      have b3 : IntKind.i64.wrap (k : Int) = (k : Int) := IntWalk.i64_in _ (by omega)
      go_wp2_with fail
      go_region_held3 (fun w' => S2x N w la ca lb cb (.slice (some ⟨g, 0, none⟩) xs.length cap) xs g k x w') (first | assumption | exact S2x.drew (by assumption) | exact S2x.keep (by assumption) hb)
        (first
          | (go_at_call 22; refine (rteams_ints lb cb hb0 hb1 _).mono ?_; rintro e w' ⟨vb, rfl, hIb, hb⟩)
          | (go_at_call 30; refine (rhas_any vb (tms cb 32) x (by have := tms_le cb 32; omega) _ hIb).mono ?_; rw [has_bit _ _ hx32]; rintro e w' ⟨rfl, rfl⟩))
      have hHeld := ‹S2x N w la ca lb cb _ xs g k x _›
      cases ht : cb.toNat.testBit x
      · have Hno := Lib.hid (flB_no (la := la) (lb := lb) (show subB ca cb = false by
          cases h : subB ca cb
          · rfl
          · have := hsub.out.1 h x (List.mem_of_getElem? Hx.out)
            rw [ht] at this
            cases this))
        clear ht
        go_wp2
        go_ret
        exact ⟨ret_bool (by rw [Hno.out]), by rw [HN.out]; exact hHeld.1.1⟩
      · have Hht := Lib.hid ht
        clear ht
        go_wp2
        go_roundw
        case rel => exact ⟨k + 1, hlt, by go_num, fun y hy => (by
          rw [List.take_add_one, Hx.out] at hy
          rcases List.mem_append.1 hy with h | h
          · exact hall y h
          · simp at h; subst h; exact Hht.out), hHeld.1, hHeld.2.1⟩
        case measure => simp [intOf]; omega
    · obtain rfl : k = xs.length := by omega
      have Hs := Lib.hid (hsub.out.2 (fun x hx => hall x (by rw [List.take_length]; exact hx)))
      have Hf := Lib.hid (show flB la ca lb cb = (rB la && (rB lb && decide (la ≤ lb))) by unfold flB; rw [Hs.out, Bool.and_true])
      go_wp2_with fail
      refine (rright_any _ _ _).mono ?_
      rintro e w2 ⟨rfl, hb⟩
      replace hS := hS.keep hb
      clear hb hI Hs hall
      cases hra : rB la
      · rw [hra, Bool.false_and] at Hf
        go_wp2
        go_ret
        exact ⟨ret_bool (by rw [Hf.out]), by rw [HN.out]; exact hS.1⟩
      · rw [hra, Bool.true_and] at Hf
        obtain ⟨hB, hsz, a0, a1, b0, b1⟩ := hS
        go_wp2_with fail
        refine (rright_any _ _ _).mono ?_
        rintro e w3 ⟨rfl, hb⟩
        have hS := S2.keep (w1 := w2) ⟨hB, hsz, a0, a1, b0, b1⟩ hb
        clear hb hB hsz a0 a1 b0 b1
        cases hrb : rB lb
        · rw [hrb, Bool.false_and] at Hf
          go_wp2
          go_ret
          exact ⟨ret_bool (by rw [Hf.out]), by rw [HN.out]; exact hS.1⟩
        · rw [hrb, Bool.true_and] at Hf
          obtain ⟨hB, hsz, a0, a1, b0, b1⟩ := hS
          go_wp2
          go_ret
          exact ⟨ret_bool (by rw [Hf.out]), by rw [HN.out]; exact hB⟩
end Go.Proofs.YtkmbllnnaljepaaDoor
