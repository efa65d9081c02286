/- The document's own Bytes: what it returns. -/
import Derived.Test.YtlhgpnkhfahlbaaDoorRHex
namespace Go.Proofs.YtlhgpnkhfahlbaaDoor
open Go.ChangeShapes Go.WideShapes Go.RowKit

/-- A number with one sign more; a sign of another kind tells nothing. -/
def st (n c : Nat) : Nat := if 0 ≤ ix c then n * 16 + (ix c).toNat else n
/-- The same, the signs below d looked at. -/
def inn (n c d : Nat) : Nat := if 0 ≤ ix c ∧ ix c < (d : Int) then n * 16 + (ix c).toNat else n
theorem ix_lt (c : Nat) : ix c < 16 := by unfold ix; split <;> (try split) <;> omega
theorem inn_zero (n c : Nat) : inn n c 0 = n := by unfold inn; rw [if_neg (by omega)]
theorem inn_hit {n c d : Nat} (h : ix c = (d : Int)) : inn n c d = n ∧ inn n c (d + 1) = n * 16 + d := by
  unfold inn
  constructor
  · rw [if_neg (by omega)]
  · rw [if_pos (by omega), h, Int.toNat_natCast]
theorem inn_miss {n c d : Nat} (h : ix c ≠ (d : Int)) : inn n c (d + 1) = inn n c d := by
  unfold inn
  by_cases h1 : 0 ≤ ix c ∧ ix c < (d : Int)
  · rw [if_pos h1, if_pos (by omega)]
  · rw [if_neg h1, if_neg (by omega)]
theorem inn_all (n c : Nat) : inn n c 16 = st n c := by
  have := ix_lt c
  unfold inn st
  by_cases h : 0 ≤ ix c
  · rw [if_pos h, if_pos ⟨h, by omega⟩]
  · rw [if_neg h, if_neg (by omega)]
theorem inn_le (n c d : Nat) : inn n c d ≤ n * 16 + 15 := by have := ix_lt c; unfold inn; split <;> omega
theorem hd_eq {c d : Nat} (hd16 : d < 16) : ((hd d : Int) == (c : Int)) = decide (ix c = (d : Int)) := by
  rw [Bool.eq_iff_iff, beq_iff_eq, decide_eq_true_iff]
  constructor
  · intro h
    have : hd d = c := by omega
    rw [← this]; exact ix_hd hd16
  · intro h
    rw [(hd_ix h).1]
/-- The number of the first t signs from place j on. -/
def md (l : List Nat) (j : Nat) : Nat → Nat
  | 0 => 0
  | t + 1 => st (md l j t) (l[j + t]?.getD 0)
theorem st_le (n c : Nat) : st n c ≤ n * 16 + 15 := by have := ix_lt c; unfold st; split <;> omega
theorem md_le (l : List Nat) (j t : Nat) (h : t ≤ 2) : md l j t ≤ 255 ∧ (t ≤ 1 → md l j t ≤ 15) := by
  match t, h with
  | 0, _ => exact ⟨by simp [md], fun _ => by simp [md]⟩
  | 1, _ =>
    have h1 := st_le 0 (l[j + 0]?.getD 0)
    exact ⟨by simp only [md]; omega, fun _ => by simp only [md]; omega⟩
  | 2, _ =>
    have h1 := st_le 0 (l[j + 0]?.getD 0)
    have h2 := st_le (st 0 (l[j + 0]?.getD 0)) (l[j + 1]?.getD 0)
    exact ⟨by simp only [md]; omega, fun h => absurd h (by omega)⟩
def outl (l : List Nat) : Nat → List Nat
  | 0 => []
  | k + 1 => outl l k ++ [md l (2 * k) 2]
theorem outl_len (l : List Nat) (k : Nat) : (outl l k).length = k := by induction k with
  | zero => rfl
  | succ k ih => simp [outl, ih]
theorem outl_u (l : List Nat) (k : Nat) : ∀ x ∈ outl l k, U8 x := by
  induction k with
  | zero => simp [outl]
  | succ k ih =>
    intro x hx
    rcases List.mem_append.1 hx with h | h
    · exact ih x h
    · rw [List.mem_singleton.1 h]
      exact Nat.lt_of_le_of_lt (md_le l (2 * k) 2 (by omega)).1 (by omega)
/-- Signs of bytes give these bytes. -/
theorem outl_hex {b : List Nat} (ub : ∀ x ∈ b, U8 x) (k : Nat) (hk : k ≤ b.length) : outl (hexN b) k = b.take k := by
  induction k with
  | zero => simp [outl]
  | succ k ih =>
    obtain ⟨x, hx⟩ : ∃ x, b[k]? = some x := ⟨_, List.getElem?_eq_getElem (by omega)⟩
    have ux : x < 256 := ub x (List.mem_of_getElem? hx)
    obtain ⟨h1, h2⟩ := hexN_get hx
    rw [outl, ih (by omega), List.take_add_one, hx]
    have e : md (hexN b) (2 * k) 2 = x := by
      simp only [md, Nat.add_zero, h1, h2, Option.getD_some]
      unfold st
      rw [ix_hd (by omega), ix_hd (by omega), if_pos (by omega), if_pos (by omega)]
      omega
    rw [e]
    rfl
theorem info_parts {e : TypeId} {z : Value} {s b : Nat} (h : (Tryd.prog.info? e).map (fun i => (i.zero, i.size, i.bytes)) = some (some z, s, b)) : ∃ i, Tryd.prog.info? e = some i ∧ i.zero = some z ∧ i.size = s ∧ i.bytes = b := by
  cases hq : Tryd.prog.info? e with
  | none => rw [hq] at h; cases h
  | some i =>
    rw [hq] at h
    simp only [Option.map_some, Option.some.injEq, Prod.mk.injEq] at h
    exact ⟨i, rfl, h.1, h.2.1, h.2.2⟩
/-- A slice that owns its row holds its bytes. -/
theorem bytes_of_own {w : World} {base : Nat} {v : Value} {xs : List Nat} (h : w.ownsRow base 5 1 v xs.length (xs.map v8)) : BytesAt w v xs := by
  have hc := h
  rcases h.2 with ⟨rfl, h0⟩ | ⟨g, cap, cur, rfl, hb, hg, hn, _⟩
  · exact ⟨none, 0, by rw [h0], by omega, fun hne => absurd (List.eq_nil_of_length_eq_zero h0) hne⟩
  · refine ⟨_, cap, rfl, hn, fun _ => ⟨g, 0, rfl, fun j u hu => ?_⟩⟩
    have h1 := hc.cells (g := g) rfl j u hu
    rw [add_off] at h1
    rw [Nat.zero_add]; exact h1

theorem own_drew {w w' : World} {base : Nat} {e : TypeId} {v : Value} {n : Nat} {xs : List Value} (h : w.ownsRow base e 1 v n xs) (hd : Drew w w') : w'.ownsRow base e 1 v n xs := by obtain ⟨d, rfl⟩ := hd; exact h

set_option maxHeartbeats 1600000 in
theorem rbytes_any (s : ByteArray) (hs : s.size ≤ 100000) (w : World) :
    Calls Tryd.prog 14 #[.string s] w fun e w' => ∃ v er, e = .returned (.tuple #[v, .int .i64 er]) ∧ ReadAs (sl s) w' v er ∧ Below w.heap.size w w' := by
  have hsl := sl_len s
  obtain ⟨n, hn⟩ : ∃ n, n = s.size / 2 := ⟨_, rfl⟩
  have Hsl : Unit → (sl s).length = s.size := fun _ => hsl
  obtain ⟨i0, hi, hz0, hz1, hz2⟩ := info_parts info_u8
  clear hsl
  go_enter Tryd.func14, Tryd.ntmps14
  go_upto_region 3 with fail
  go_loopw [4, 5] (fun v i wr => ∃ k : Nat, k ≤ n ∧ i = .int .i64 (2 * (k : Int)) ∧ wr.ownsRow w.heap.size 5 1 v k ((outl (sl s) k).map v8) ∧ Below w.heap.size w wr) (fun _ i _ => s.size - (intOf i).toNat)
  case atStart => exact ⟨0, by omega, rfl, World.ownsRow_nil _ _ _ _, Below.refl _ _⟩
  case round =>
    obtain ⟨k, hk, rfl, hown, hB⟩ := hrel
    by_cases hlt : k < n
    · go_upto_region 7 with fail
      generalize wr = wo at *
      go_loopw [6, 7] (fun v j wm => ∃ t : Nat, t ≤ 2 ∧ v = .int .i64 (md (sl s) (2 * k) t : Int) ∧ j = .int .i64 (2 * (k : Int) + (t : Int)) ∧ Drew wo wm) (fun _ j _ => (2 * (k : Int) + 2 - intOf j).toNat)
      case atStart => exact ⟨0, by omega, rfl, by simp, Drew.refl _⟩
      case round =>
        obtain ⟨t, ht, rfl, rfl, hd⟩ := hrel
        by_cases hlt2 : t < 2
        · obtain ⟨ch, hch⟩ : ∃ ch, (sl s)[2 * k + t]? = some ch := ⟨_, List.getElem?_eq_getElem (by rw [Hsl ()]; omega)⟩
          have ic := sl_index s .i64 (2 * k + t) ch (2 * (k : Int) + (t : Int)) (by omega) hch
          have Hmd : Unit → md (sl s) (2 * k) (t + 1) = inn (md (sl s) (2 * k) t) ch 16 := fun _ => by rw [md, hch, inn_all]; rfl
          have hmd := (md_le (sl s) (2 * k) t ht).2 (by omega)
          clear hch
          generalize hM : md (sl s) (2 * k) t = M at *
          have hjl : 2 * (k : Int) + (t : Int) < 2 * (k : Int) + 2 := by omega
          go_upto_region 10 with fail
          generalize wr = wm at *
          go_loopw [6, 8] (fun v d wi => ∃ e : Nat, e ≤ 16 ∧ v = .int .i64 (inn M ch e : Int) ∧ d = .int .i64 (e : Int) ∧ Drew wo wi) (fun _ d _ => 16 - (intOf d).toNat)
          case atStart => exact ⟨0, by omega, by rw [inn_zero], rfl, hd⟩
          case round =>
            clear hd
            obtain ⟨e, he, rfl, rfl, hd⟩ := hrel
            by_cases hlt3 : e < 16
            · have dg := digit_run (k := .i64) (d := e) (i := (e : Int)) rfl hlt3
              have heq := hd_eq (c := ch) hlt3
              have hin := inn_le M ch e
              by_cases hx : ix ch = (e : Int)
              · rw [decide_eq_true hx] at heq
                obtain ⟨Hh1, Hh2⟩ := inn_hit (n := M) hx
                have HH2 : Unit → inn M ch (e + 1) = M * 16 + e := fun _ => Hh2
                rw [Hh1]
                clear Hh1 Hh2 hin hx
                go_upto_region 12 with fail
                try simp only [List.append_eq, List.cons_append, List.nil_append]
                refine region_class (fun w' => Drew wr w') (by kernel_rfl) (by kernel_rfl) (⟨_, rfl⟩) ?_
                repeat
                  first
                  | go_big_quiet_skip
                  | (go_big_quiet_want
                     refine quiet_val ?_
                     apply Exists.intro
                     refine ⟨fun w' hw' => ?_, ?_⟩
                     · obtain hhh := hw'
                       go_simp
                       first | done | rfl | exact ⟨rfl, rfl⟩
                     simp only [Act.put, List.setIfInBounds_toArray, List.set_cons_zero, List.set_cons_succ]
                     go_big_quiet_on)
                  | (go_big_quiet_want
                     refine quiet_call ?_
                     apply Exists.intro
                     apply Exists.intro
                     refine ⟨fun w' => ?_, ?_⟩
                     · go_simp
                       first | done | rfl | exact ⟨rfl, rfl⟩
                     apply Exists.intro
                     refine ⟨fun w' hw' => ?_, ?_⟩
                     · first
                       | fail
                     simp only [Act.put, List.setIfInBounds_toArray, List.set_cons_zero, List.set_cons_succ]
                     go_big_quiet_on)
                refine wpQuiet_nil ?_
                intro w5 hw5
                replace hd := hd.trans hw5
                clear hw5 dg ic
                go_wp2_with fail
                exact ⟨⟨e + 1, by omega, by rw [HH2 ()]; simp, by go_num, hd⟩, by simp [intOf]; omega⟩
              · rw [decide_eq_false hx] at heq
                have HH2 : Unit → inn M ch (e + 1) = inn M ch e := fun _ => inn_miss hx
                clear hx
                generalize inn M ch e = I at *
                go_upto_region 12 with fail
                try simp only [List.append_eq, List.cons_append, List.nil_append]
                refine region_class (fun w' => Drew wr w') (by kernel_rfl) (by kernel_rfl) (⟨_, rfl⟩) ?_
                repeat
                  first
                  | go_big_quiet_skip
                  | (go_big_quiet_want
                     refine quiet_val ?_
                     apply Exists.intro
                     refine ⟨fun w' hw' => ?_, ?_⟩
                     · obtain hhh := hw'
                       go_simp
                       first | done | rfl | exact ⟨rfl, rfl⟩
                     simp only [Act.put, List.setIfInBounds_toArray, List.set_cons_zero, List.set_cons_succ]
                     go_big_quiet_on)
                  | (go_big_quiet_want
                     refine quiet_call ?_
                     apply Exists.intro
                     apply Exists.intro
                     refine ⟨fun w' => ?_, ?_⟩
                     · go_simp
                       first | done | rfl | exact ⟨rfl, rfl⟩
                     apply Exists.intro
                     refine ⟨fun w' hw' => ?_, ?_⟩
                     · first
                       | fail
                     simp only [Act.put, List.setIfInBounds_toArray, List.set_cons_zero, List.set_cons_succ]
                     go_big_quiet_on)
                refine wpQuiet_nil ?_
                intro w5 hw5
                replace hd := hd.trans hw5
                clear hw5 dg ic
                go_wp2_with fail
                exact ⟨⟨e + 1, by omega, by rw [HH2 ()], by go_num, hd⟩, by simp [intOf]; omega⟩
            · obtain rfl : e = 16 := by omega
              rw [← Hmd ()]
              go_wp2_with fail
              exact ⟨⟨t + 1, by omega, rfl, by rw [show 2 * (k : Int) + (t : Int) + 1 = 2 * (k : Int) + ((t + 1 : Nat) : Int) by omega], hd⟩, by simp only [intOf]; omega⟩
        · obtain rfl : t = 2 := by omega
          have hmd := (md_le (sl s) (2 * k) 2 (by omega)).1
          have Hout : Unit → (outl (sl s) (k + 1)).map v8 = (outl (sl s) k).map v8 ++ [.int .u8 (md (sl s) (2 * k) 2 : Int)] := fun _ => by simp [outl, v8]
          generalize md (sl s) (2 * k) 2 = M2 at *
          have hw8 : IntKind.u8.wrap (M2 : Int) = (M2 : Int) := by rw [IntKind.wrap_u8']; omega
          have hw8' : (M2 : Int) % 256 = (M2 : Int) := by omega
          replace hown := own_drew hown hd
          replace hB := hB.trans (hd.below.mono hB.size)
          clear hd
          go_upto_region 14 with fail
          go_wp2_with (at_builtin; refine wpList_append_own _ rfl _ _ 22 rfl w.heap.size 5 i0 (.int .u8 0) 1 1 Tryd.underlying22 hi hz0 hz1 hz2 rfl (by decide) _ _ _ rfl (World.ownsRow.alloc hown _) ⟨wr.heap.size, 0, none⟩ 1 1 [.int .u8 (M2 : Int)] rfl rfl ?c1 ?c2 ?c3 ?c4 ?c5 ?_)
          case c1 =>
            intro j u hj
            match j, hj with
            | 0, hj => simp at hj; subst hj; exact (World.cell?_alloc_at _ _ _ _ rfl).trans rfl
          case c2 => intro u hu; simp at hu; subst hu; rfl
          case c3 => unfold maxLen; omega
          case c4 => omega
          case c5 => have := hB.size; simp; omega
          intro v' w6 hown' hgrow _
          rw [← Hout ()] at hown'
          have hlt4 := hown.lt
          have hB6 := (hB.alloc hB.size (.cells #[.int .u8 (M2 : Int)] 5)).grown hgrow (by simp; have := hB.size; omega) (fun j e => (hlt4 j e).1)
          clear hown hgrow hB
          go_wp2_with fail
          exact ⟨⟨k + 1, by omega, by rw [show 2 * (k : Int) + 2 = 2 * ((k + 1 : Nat) : Int) by omega], hown', hB6⟩, by simp only [intOf]; omega⟩
    · obtain rfl : k = n := by omega
      have hown2 : wr.ownsRow w.heap.size 5 1 u4 (outl (sl s) k).length ((outl (sl s) k).map v8) := by rw [outl_len]; exact hown
      have hby := bytes_of_own hown2
      have hol := outl_len (sl s) k
      have Kh := Lib.hid (rhex_any u4 (outl (sl s) k) wr hby (outl_u _ _) (by omega))
      have Hno : Unit → ∀ b, (∀ x ∈ b, U8 x) → hexN b = sl s → hexN (outl (sl s) k) = sl s := fun _ b ub e => by
        have h1 := hexN_len b
        rw [e, Hsl ()] at h1
        rw [← e, outl_hex ub k (by omega), List.take_of_length_le (by omega)]
      by_cases heq : hexN (outl (sl s) k) = sl s
      · have Hyes : Unit → hexN (outl (sl s) k) = sl s := fun _ => heq
        have Hbs : Unit → bs (hexN (outl (sl s) k)) = s := fun _ => by rw [heq, bs_sl]
        rw [heq, bs_sl] at Kh
        clear heq hown hown2
        go_upto_region 15 with fail
        go_wp2_with fail
        refine Kh.out.mono ?_
        rintro e w7 ⟨rfl, hb7⟩
        replace hby := hby.keep hb7
        replace hB := hB.trans (hb7.mono hB.size)
        clear hb7 Kh
        go_wp2_with fail
        exact bodyPost_ret (results_tmp2 rfl _ _ _) rfl ⟨_, _, rfl, .inl ⟨rfl, _, Hyes (), outl_u _ _, hby⟩, hB⟩
      · have Hnone : Unit → ∀ b, (∀ x ∈ b, U8 x) → hexN b ≠ sl s := fun _ b ub e => heq (Hno () b ub e)
        have hneq : ((bs (hexN (outl (sl s) k))).toList == s.toList) = false := by
          rw [beq_eq_false_iff_ne]
          intro h
          apply heq
          rw [← sl_bs (hexN_u (outl_u (sl s) k))]
          congr 1
          rw [ByteArray.toList_eq, ByteArray.toList_eq] at h
          exact ByteArray.ext (Array.ext' h)
        generalize bs (hexN (outl (sl s) k)) = T at *
        clear heq hown hown2 hby
        go_upto_region 15 with fail
        go_wp2_with fail
        refine Kh.out.mono ?_
        rintro e w7 ⟨rfl, hb7⟩
        replace hB := hB.trans (hb7.mono hB.size)
        clear hb7 Kh
        go_wp2_with fail
        exact bodyPost_ret (results_tmp2 rfl _ _ _) rfl ⟨_, _, rfl, .inr ⟨rfl, rfl, Hnone ()⟩, hB⟩
end Go.Proofs.YtlhgpnkhfahlbaaDoor
