/- MatchBack returns true: whether matchers are the same; the law. -/
import Derived.Test.YteooofakpkbgoaaDoorMFew
namespace Go.Proofs.YteooofakpkbgoaaDoor
open Go.ChangeShapes Go.WideShapes Go.RowKit

def sameB (x y : Mt) : Bool := x.n == y.n && x.op == y.op && x.v == y.v
theorem same_iff (x y : Mt) : sameB x y = true ↔ x = y := by
  obtain ⟨a, b, c⟩ := x
  obtain ⟨d, e, f⟩ := y
  simp [sameB, and_assoc]
set_option maxHeartbeats 3200000 in
set_option maxRecDepth 100000 in
/-- SameAll of equal matchers. -/
theorem all_same (P P' : Nat → Prop) (v v' : Value) (ms : List Mt) (w : World) (h : MtsAt P w v ms) (h' : MtsAt P' w v' ms) (hl : ms.length ≤ 1000000) :
    Calls Tryd.prog 23 #[v, v'] w fun e w' => e = .returned (.bool true) ∧ Below w.heap.size w w' := by
  obtain ⟨a, c, rfl⟩ := h.shape
  obtain ⟨a', c', rfl⟩ := h'.shape
  obtain ⟨n, hn⟩ : ∃ n, ms.length = n := ⟨_, rfl⟩
  rw [hn] at hl h h' ⊢
  have HN : Unit → ms.length = n := fun _ => hn
  clear hn
  have hnn : ((n : Int) != (n : Int)) = false := by simp
  go_enter Tryd.func23, Tryd.ntmps23
  go_upto_region 3 with fail
  go_upto_region 4 with fail
  go_loopw [5] (fun u5 wr => ∃ k : Nat, k ≤ n ∧ u5 = .int .i64 (k : Int) ∧ Below w.heap.size w wr) (fun u5 _ => n - (intOf u5).toNat)
  case atStart => exact ⟨0, by omega, rfl, Below.refl _ _⟩
  case round =>
    clear hnn
    obtain ⟨k, hk, rfl, hB⟩ := hrel
    by_cases hlt : k < n
    · obtain ⟨m, hm⟩ : ∃ m, ms[k]? = some m := ⟨_, List.getElem?_eq_getElem (by have := HN (); omega)⟩
      obtain ⟨g, o, rfl, _, hg, c0, c1, c2⟩ := (h.stay hB).part hm
      obtain ⟨g', o', rfl, _, hg', d0, d1, d2⟩ := (h'.stay hB).part hm
      have hki : (k : Int) < (n : Int) := by omega
      have hne := fun w => neq_mt m m w
      have hself : (!(m.n == m.n && m.op == m.op && m.v == m.v)) = false := by simp
      simp only [hself] at hne
      clear hself
      go_upto_region 6 with fail
      try simp only [List.append_eq, List.cons_append, List.nil_append]
      refine region_class (fun w' => Below wr.heap.size wr w' ∧ (w'.cell? ⟨g, o + k * 3, none⟩ = some (.string ⟨m.n.toArray⟩) ∧ w'.cell? ⟨g, o + k * 3 + 1, none⟩ = some (.int .i64 m.op) ∧ w'.cell? ⟨g, o + k * 3 + 2, none⟩ = some (.string ⟨m.v.toArray⟩)) ∧ w'.cell? ⟨g', o' + k * 3, none⟩ = some (.string ⟨m.n.toArray⟩) ∧ w'.cell? ⟨g', o' + k * 3 + 1, none⟩ = some (.int .i64 m.op) ∧ w'.cell? ⟨g', o' + k * 3 + 2, none⟩ = some (.string ⟨m.v.toArray⟩)) (by kernel_rfl) (by kernel_rfl) (⟨(Below.refl _ _).drew, ⟨c0, c1, c2⟩, d0, d1, d2⟩) ?_
      repeat
        first
        | go_big_quiet_skip
        | (go_big_quiet_want
           refine quiet_val ?_
           apply Exists.intro
           refine ⟨fun w' hw' => ?_, ?_⟩
           · obtain ⟨_, ⟨e0, e1, e2⟩, e3, e4, e5⟩ := hw'
             go_simp
             first | done | rfl | exact ⟨rfl, rfl⟩
           simp only [Act.put, List.setIfInBounds_toArray, List.set_cons_zero, List.set_cons_succ]
           go_big_quiet_on)
        | (go_big_quiet_want
           refine quiet_call ?_
           apply Exists.intro
           apply Exists.intro
           refine ⟨fun w' => ?_, ?_⟩
           · go_simp
             first | done | rfl | exact ⟨rfl, rfl⟩
           apply Exists.intro
           refine ⟨fun w' hw' => ?_, ?_⟩
           · first
             | fail
           simp only [Act.put, List.setIfInBounds_toArray, List.set_cons_zero, List.set_cons_succ]
           go_big_quiet_on)
      refine wpQuiet_nil ?_
      intro w5 hw5
      have hb5 := hw5.1
      replace hB := hB.trans (hb5.mono hB.size)
      clear hb5 hw5 c0 c1 c2 d0 d1 d2
      go_wp2_with fail
      go_roundw
      case rel => exact ⟨k + 1, by omega, by simp, hB⟩
      case measure => simp [intOf]; omega
    · have hki : ¬ (k : Int) < (n : Int) := by omega
      go_wp2_with fail
      go_ret
      exact ⟨rfl, hB⟩
theorem text_len {ms : List Mt} {t : Bs} (h : textM ms = some t) : t.length ≤ 5052 := by
  unfold textM at h
  split at h
  · cases h
  · rename_i hl
    split at h
    · rename_i ha
      injection h with h
      subst h
      have hc := comma_len (ms.map oneM) 420 (fun x hx => by
        obtain ⟨m, hm, rfl⟩ := List.mem_map.1 hx
        exact one_len (List.all_eq_true.1 ha m hm))
      rw [List.length_map] at hc
      have : (420 + 1) * ms.length ≤ 421 * 12 := Nat.mul_le_mul (by omega) (by omega)
      omega
    · cases h
theorem read_fine {s : Bs} {ms : List Mt} (h : readM s = some ms) : ms.length ≤ 12 ∧ ∀ m ∈ ms, fineB m = true := by
  unfold readM at h
  split at h
  · injection h with h
    subst h
    exact ⟨by simp, by simp⟩
  · obtain ⟨_, h2, h3, _⟩ := go_some h
    exact ⟨h2, h3⟩
theorem fine_sizes {ms : List Mt} (h : ∀ m ∈ ms, fineB m = true) : ∀ m ∈ ms, m.n.length ≤ 9223372036854775807 ∧ m.v.length ≤ 9223372036854775807 := fun m hm => ⟨by have := (name_len12 (fine_name (h m hm))).2; omega, by have := fine_len (h m hm); omega⟩
set_option maxHeartbeats 6400000 in
set_option maxRecDepth 100000 in
theorem back_law (P : Nat → Prop) (v : Value) (ms : List Mt) (s0 : Bs) (w : World) (h : MtsAt P w v ms) (hl : ms.length ≤ 9223372036854775807) (hml : ∀ m ∈ ms, m.n.length ≤ 9223372036854775807 ∧ m.v.length ≤ 9223372036854775807) (hs : s0.length ≤ 9223372036854775807) (hg : SgAt w) :
    Calls Tryd.prog 6 #[v, .string ⟨s0.toArray⟩] w fun e w' => e = .returned (.bool true) ∧ Below w.heap.size w w' := by
  have KL := Lib.hid (lives_any w hg)
  have hsz : ((⟨s0.toArray⟩ : ByteArray).size : Int) = (s0.length : Int) := by simp [ByteArray.size]
  have hcut := takeN s0 600 600 rfl
  have hln : (s0.take 600).length ≤ 600 := by rw [List.length_take]; omega
  have hlei : (s0.length : Int) ≤ 9223372036854775807 := by omega
  have KF := Lib.hid fun w' (hb : Below w.heap.size w w') => few_any P v ms w' (h.stay hb) hl (fun m hm => (hml m hm).2)
  have hfl := few_len ms
  have hfe := few_each (fun m hm => (hml m hm).1)
  obtain ⟨a, c, rfl⟩ := h.shape
  generalize s0.take 600 = s at *
  generalize (⟨s0.toArray⟩ : ByteArray) = T0 at *
  generalize s0.length = l0 at *
  generalize fewM ms = F at *
  clear h hml hl
  generalize ms.length = n0 at *
  have hfz : ∀ m ∈ F, m.n.length ≤ 9223372036854775807 ∧ m.v.length ≤ 9223372036854775807 := fun m hm => ⟨(hfe m hm).1, by have := (hfe m hm).2; omega⟩
  go_enter Tryd.func6, Tryd.ntmps6
  go_wp2_with fail
  refine KL.out.mono ?_
  rintro e w1 ⟨rfl, hB1⟩
  clear KL
  go_wp2_with fail
  refine (KF.out _ hB1).mono ?_
  rintro e w2 ⟨v2, rfl, hown, hb⟩
  clear KF
  have hM2 := own_mts hown
  have hB2 := hB1.trans (hb.mono hB1.size)
  have hg2 := hg.keep hB2 hg.lt
  clear hown hb
  have KT := Lib.hid (text_any _ v2 F w2 hM2 (by omega) hfz hg2)
  obtain ⟨aF, cF, rfl⟩ := hM2.shape
  cases ht : textM F with
  | none =>
    rw [ht] at KT
    go_wp2_with fail
    refine KT.out.mono ?_
    rintro e w3 ⟨rfl, hb⟩
    have hB3 := hB2.trans (hb.mono hB2.size)
    simp only [textT]
    clear KT hb hM2 hB1 hB2 hg2 hfe hfz ht
    have KR := mread_any s w3 (by omega) (hg.keep hB3 hg.lt)
    cases hr : readM s with
    | none =>
      rw [hr] at KR
      replace KR := Lib.hid KR
      go_wp2_with fail
      refine KR.out.mono ?_
      rintro e w5 ⟨hb5, rfl⟩
      have hB5 := hB3.trans (hb5.mono hB3.size)
      go_wp2_with fail
      go_ret
      exact ⟨rfl, hB5⟩
    | some X =>
      rw [hr] at KR
      replace KR := Lib.hid KR
      go_wp2_with fail
      refine KR.out.mono ?_
      rintro e w5 ⟨hb5, v5, rfl, hown5⟩
      have hB5 := hB3.trans (hb5.mono hB3.size)
      have hM5 := own_mts hown5
      obtain ⟨hx1, hx2⟩ := read_fine hr
      have KT5 := text_any _ v5 X w5 hM5 (by omega) (fine_sizes hx2) (hg.keep hB5 hg.lt)
      rw [text_read hr] at KT5
      replace KT5 := Lib.hid KT5
      obtain ⟨a5, c5, rfl⟩ := hM5.shape
      clear KR hown5 hM5 hr hx2 hb5
      have hTT : ((⟨s.toArray⟩ : ByteArray).toList == (⟨s.toArray⟩ : ByteArray).toList) = true := by simp
      go_wp2_with fail
      refine KT5.out.mono ?_
      rintro e w6 ⟨rfl, hb6⟩
      have hB6 := hB5.trans (hb6.mono hB5.size)
      simp only [textT]
      go_wp2_with fail
      go_ret
      exact ⟨by simp, hB6⟩
  | some t =>
    rw [ht] at KT
    have htl := text_len ht
    have hrt := read_text ht
    go_wp2_with fail
    refine KT.out.mono ?_
    rintro e w3 ⟨rfl, hb⟩
    have hB3 := hB2.trans (hb.mono hB2.size)
    have hM3 := hM2.stay hb
    have KR0 := mread_any t w3 (by omega) (hg.keep hB3 hg.lt)
    rw [hrt] at KR0
    replace KR0 := Lib.hid KR0
    simp only [textT]
    clear KT hb hM2 hB1 hB2 hg2 hfe hfz ht hrt
    go_wp2_with fail
    refine KR0.out.mono ?_
    rintro e w4 ⟨hb4, v4, rfl, hown4⟩
    have hB4 := hB3.trans (hb4.mono hB3.size)
    have hM4 := own_mts hown4
    have hM3b := hM3.stay hb4
    have KS := Lib.hid (all_same _ _ v4 _ F w4 hM4 hM3b (by omega))
    obtain ⟨a4, c4, rfl⟩ := hM4.shape
    clear KR0 hb4 hown4 hM4 hM3 hM3b hB3
    go_wp2_with fail
    refine KS.out.mono ?_
    rintro e w7 ⟨rfl, hb7⟩
    have hB7 := hB4.trans (hb7.mono hB4.size)
    clear KS hb7 hB4
    have KR := mread_any s w7 (by omega) (hg.keep hB7 hg.lt)
    cases hr : readM s with
    | none =>
      rw [hr] at KR
      replace KR := Lib.hid KR
      go_wp2_with fail
      refine KR.out.mono ?_
      rintro e w5 ⟨hb5, rfl⟩
      have hB5 := hB7.trans (hb5.mono hB7.size)
      go_wp2_with fail
      go_ret
      exact ⟨rfl, hB5⟩
    | some X =>
      rw [hr] at KR
      replace KR := Lib.hid KR
      go_wp2_with fail
      refine KR.out.mono ?_
      rintro e w5 ⟨hb5, v5, rfl, hown5⟩
      have hB5 := hB7.trans (hb5.mono hB7.size)
      have hM5 := own_mts hown5
      obtain ⟨hx1, hx2⟩ := read_fine hr
      have KT5 := text_any _ v5 X w5 hM5 (by omega) (fine_sizes hx2) (hg.keep hB5 hg.lt)
      rw [text_read hr] at KT5
      replace KT5 := Lib.hid KT5
      obtain ⟨a5, c5, rfl⟩ := hM5.shape
      clear KR hown5 hM5 hr hx2 hb5
      have hTT : ((⟨s.toArray⟩ : ByteArray).toList == (⟨s.toArray⟩ : ByteArray).toList) = true := by simp
      go_wp2_with fail
      refine KT5.out.mono ?_
      rintro e w6 ⟨rfl, hb6⟩
      have hB6 := hB5.trans (hb6.mono hB5.size)
      simp only [textT]
      go_wp2_with fail
      go_ret
      exact ⟨by simp, hB6⟩
end Go.Proofs.YteooofakpkbgoaaDoor
