/- What sameText and Fits return. -/
import Derived.Test.YtidiallphmocdaaDoorSParts
namespace Go.Proofs.YtidiallphmocdaaDoor
open Go.ChangeShapes Go.WideShapes Go.RowKit

theorem b8_or {a b : Nat} (ha : U8 a) (hb : U8 b) : bits .or .u8 (a : Int) (b : Int) = ((a ||| b : Nat) : Int) := u8_or_nat a b ha hb
theorem u8_or {a b : Nat} (ha : U8 a) (hb : U8 b) : U8 (a ||| b) := Nat.or_lt_two_pow (n := 8) ha hb
theorem xor_zero {a b : Nat} (h : a ^^^ b = 0) : a = b := by
  have := congrArg (· ^^^ b) h
  simpa [Nat.xor_assoc, Nat.xor_self] using this
/-- All differences of the first n bytes. -/
def dfN (a b : List Nat) : Nat → Nat
  | 0 => 0
  | n + 1 => dfN a b n ||| (a[n]?.getD 0 ^^^ b[n]?.getD 0)
theorem dfN_u {a b : List Nat} (ha : ∀ x ∈ a, U8 x) (hb : ∀ x ∈ b, U8 x) (n : Nat) : U8 (dfN a b n) := by
  induction n with
  | zero => exact (show 0 < 256 by omega)
  | succ n ih => exact u8_or ih (u8_xor (u8_get ha n) (u8_get hb n))
theorem dfN_zero {a b : List Nat} {n : Nat} (h : dfN a b n = 0) : ∀ j, j < n → a[j]?.getD 0 = b[j]?.getD 0 := by
  induction n with
  | zero => intro j hj; omega
  | succ n ih =>
    rw [dfN, Nat.or_eq_zero_iff] at h
    intro j hj
    rcases Nat.lt_or_eq_of_le (Nat.le_of_lt_succ hj) with h1 | rfl
    · exact ih h.1 j h1
    · exact xor_zero h.2
theorem dfN_same (a : List Nat) (n : Nat) : dfN a a n = 0 := by
  induction n with
  | zero => rfl
  | succ n ih => rw [dfN, ih, Nat.xor_self]; rfl
theorem dfN_eq {a b : List Nat} (hl : a.length = b.length) : dfN a b a.length = 0 ↔ a = b := by
  constructor
  · intro h
    apply List.ext_getElem? 
    intro j
    rcases Nat.lt_or_ge j a.length with hj | hj
    · have := dfN_zero h j hj
      rw [List.getElem?_eq_getElem hj, List.getElem?_eq_getElem (by omega)] at this ⊢
      exact congrArg some this
    · rw [List.getElem?_eq_none hj, List.getElem?_eq_none (by omega)]
  · rintro rfl; exact dfN_same a _
theorem sl_inj {s t : ByteArray} : sl s = sl t ↔ s = t := ⟨fun h => by rw [← bs_sl s, h, bs_sl], fun h => by rw [h]⟩

set_option maxRecDepth 100000 in
set_option maxHeartbeats 1600000 in
theorem same_any (s t : ByteArray) (hs : s.size ≤ 100000) (r : Bool) (hr : decide (t = s) = r) (w : World) :
    Calls Tryd.prog 50 #[.string s, .string t] w fun e w' => e = .returned (.bool r) ∧ Drew w w' := by
  have Hr : Unit → decide (t = s) = r := fun _ => hr
  clear hr
  by_cases hl : s.size = t.size
  · have Heq : Unit → (dfN (sl s) (sl t) s.size = 0 ↔ s = t) := fun _ => by rw [← sl_len s]; rw [dfN_eq (by rw [sl_len, sl_len]; exact hl)]; exact sl_inj
    have us := sl_u s
    have ut := sl_u t
    have hls := sl_len s
    have hlt := sl_len t
    have hne : ((s.size : Int) == (t.size : Int)) = true := by rw [beq_iff_eq, hl]
    have hne' : ((s.size : Int) != (t.size : Int)) = false := by rw [bne, hne]; rfl
    go_enter Tryd.func50, Tryd.ntmps50
    go_upto_region 5 with fail
    clear hne hne'
    have H0 : Unit → dfN (sl s) (sl t) 0 = 0 := fun _ => rfl
    go_loopw [5, 14] (fun d i wr => ∃ k : Nat, k ≤ s.size ∧ i = .int .i64 (k : Int) ∧ d = .int .u8 (dfN (sl s) (sl t) k : Int) ∧ Drew w wr) (fun _ i _ => s.size - (intOf i).toNat)
    case atStart => exact ⟨0, by omega, rfl, by rw [H0 ()]; rfl, Drew.refl w⟩
    case round =>
      obtain ⟨k, hk, rfl, rfl, hd⟩ := hrel
      by_cases hlt' : k < s.size
      · obtain ⟨x, hx⟩ : ∃ x, (sl s)[k]? = some x := ⟨_, List.getElem?_eq_getElem (by omega)⟩
        obtain ⟨y, hy⟩ : ∃ y, (sl t)[k]? = some y := ⟨_, List.getElem?_eq_getElem (by omega)⟩
        have ux := us x (List.mem_of_getElem? hx)
        have uy := ut y (List.mem_of_getElem? hy)
        have i1 := fun w => sl_index s .i64 k x (k : Int) rfl hx w
        have i2 := fun w => sl_index t .i64 k y (k : Int) rfl hy w
        have uD := dfN_u us ut k
        have hxo := b8_xor ux uy
        have hor := b8_or uD (u8_xor ux uy)
        have Hnx : Unit → dfN (sl s) (sl t) (k + 1) = dfN (sl s) (sl t) k ||| (x ^^^ y) := fun _ => by rw [dfN, hx, hy]; rfl
        have hki : (k : Int) < (s.size : Int) := by omega
        generalize dfN (sl s) (sl t) k = D at *
        clear hx hy ux uy uD
        go_upto_region 7 with fail
        try simp only [List.append_eq, List.cons_append, List.nil_append]
        refine region_class (fun w' => Drew wr w') (by kernel_rfl) (by kernel_rfl) (⟨_, rfl⟩) ?_
        repeat
          first
          | go_big_quiet_skip
          | (go_big_quiet_want
             refine quiet_val ?_
             apply Exists.intro
             refine ⟨fun w' hw' => ?_, ?_⟩
             · obtain hhh := hw'
               go_simp
               first | done | rfl | exact ⟨rfl, rfl⟩
             simp only [Act.put, List.setIfInBounds_toArray, List.set_cons_zero, List.set_cons_succ]
             go_big_quiet_on)
          | (go_big_quiet_want
             refine quiet_call ?_
             apply Exists.intro
             apply Exists.intro
             refine ⟨fun w' => ?_, ?_⟩
             · go_simp
               first | done | rfl | exact ⟨rfl, rfl⟩
             apply Exists.intro
             refine ⟨fun w' hw' => ?_, ?_⟩
             · first
               | fail
             simp only [Act.put, List.setIfInBounds_toArray, List.set_cons_zero, List.set_cons_succ]
             go_big_quiet_on)
        refine wpQuiet_nil ?_
        intro w5 hw5
        replace hd := hd.trans hw5
        clear hw5 i1 i2 hxo hor
        go_wp2_with fail
        exact ⟨⟨k + 1, by omega, by simp, by rw [Hnx ()], hd⟩, by simp [intOf]; omega⟩
      · obtain rfl : k = s.size := by omega
        have hni : ¬ (s.size : Int) < (s.size : Int) := by omega
        by_cases hst : s = t
        · have hz := (Heq ()).2 hst
          rw [hz]
          go_wp2_with fail
          go_ret
          exact ⟨by rw [← Hr (), hst]; simp, hd⟩
        · have hz : dfN (sl s) (sl t) s.size ≠ 0 := fun h => hst ((Heq ()).1 h)
          generalize dfN (sl s) (sl t) s.size = D at *
          have hz' : ((D : Int) == 0) = false := by rw [beq_eq_false_iff_ne]; omega
          go_wp2_with fail
          go_ret
          exact ⟨by rw [← Hr (), decide_eq_false (fun e => hst e.symm)]; rfl, hd⟩
  · have hne : ((s.size : Int) == (t.size : Int)) = false := by rw [beq_eq_false_iff_ne]; omega
    have hne' : ((s.size : Int) != (t.size : Int)) = true := by rw [bne, hne]; rfl
    go_enter Tryd.func50, Tryd.ntmps50
    go_wp2_with fail
    go_ret
    exact ⟨by rw [← Hr (), decide_eq_false (fun e => hl (by rw [e]))]; rfl, Drew.refl w⟩

set_option maxRecDepth 100000 in
set_option maxHeartbeats 1600000 in
theorem fits_any (v u : Value) (t : ByteArray) (k b : List Nat) (w : World) (ht : Tabs w) (hv : BytesAt w v k) (hu : BytesAt w u b) (uk : ∀ x ∈ k, U8 x) (ub : ∀ x ∈ b, U8 x) (hl : k.length ≤ 1000000) (hl2 : b.length ≤ 1000000) (r : Bool) (hr : decide (t = bs (headN k b)) = r) :
    Calls Tryd.prog 35 #[v, u, .string t] w fun e w' => e = .returned (.bool r) ∧ Below w.heap.size w w' := by
  have K1 := Lib.hid (header_any v u k b w ht hv hu uk ub hl hl2)
  have hHl : (bs (headN k b)).size ≤ 100000 := by rw [bs_size, headN_len]; omega
  have K2 := Lib.hid (same_any (bs (headN k b)) t hHl r hr)
  generalize bs (headN k b) = H at *
  clear hr hHl
  go_enter Tryd.func35, Tryd.ntmps35
  go_wp2_with fail
  refine (K1.out).mono ?_
  rintro e w1 ⟨rfl, hB⟩
  clear K1
  go_wp2_with fail
  refine (K2.out _).mono ?_
  rintro e w2 ⟨rfl, hd⟩
  replace hB := hB.trans (hd.below.mono hB.size)
  clear K2 hd
  go_wp2_with fail
  go_ret
  exact ⟨rfl, hB⟩
end Go.Proofs.YtidiallphmocdaaDoor
