/- Signs that are read: the statement's own function returns true, of whatever text and place. -/
import Derived.Test.YtlhgpnkhfahlbaaDoorBytes
import Derived.Laws.Strings2
import Derived.Laws.Strings3
namespace Go.Proofs.YtlhgpnkhfahlbaaDoor
open Go.ChangeShapes Go.WideShapes Go.RowKit

theorem sl_append (s t : ByteArray) : sl (s ++ t) = sl s ++ sl t := by unfold sl; simp
/-- Bytes that are read have as many signs as twice their number. -/
theorem ReadAs.odd {l : List Nat} {w : World} {v : Value} {er : Int} (h : ReadAs l w v er) (ho : l.length % 2 = 1) : er = 2 := by
  rcases h with ⟨_, b, hb, _⟩ | ⟨h, _⟩
  · have := hexN_len b; rw [hb] at this; omega
  · exact h
theorem ReadAs.bad {l : List Nat} {w : World} {v : Value} {er : Int} (h : ReadAs l w v er) {k c : Nat} (hc : l[k]? = some c) (hi : ix c < 0) : er = 2 := by
  rcases h with ⟨_, b, hb, ub, _⟩ | ⟨h, _⟩
  · exact absurd hb (no_bytes hc hi b ub)
  · exact h
theorem ReadAs.keep {l : List Nat} {w w' : World} {v : Value} {er : Int} (h : ReadAs l w v er) (hb : Below w.heap.size w w') : ReadAs l w' v er := by
  rcases h with ⟨h1, b, h2, h3, h4⟩ | h
  · exact .inl ⟨h1, b, h2, h3, h4.keep hb⟩
  · exact .inr h

set_option maxHeartbeats 600000 in
theorem onlyLaw_any (s : ByteArray) (at_ : Int) (hs : s.size ≤ 9223372036854775807) (w : World) (ht : Tabs w) :
    Calls Tryd.prog 7 #[.string s, .int .i64 at_] w fun e w' => e = .returned (.bool true) ∧ Below w.heap.size w w' := by
  go_enter Tryd.func7, Tryd.ntmps7
  go_wp2_with fail
  refine (lives_any _ ht).mono ?_
  rintro e w1 ⟨rfl, hB⟩
  go_upto_region 3 with fail
  go_cut [0] (fun s0 wx => ∃ t : ByteArray, s0 = .string t ∧ t.size ≤ 300 ∧ Below w.heap.size w wx)
  case first =>
    go_wp2_with fail
    · go_meet
      exact ⟨_, rfl, by rw [ByteArray.size_extract]; omega, hB⟩
    · go_meet
      exact ⟨_, rfl, by omega, hB⟩
  case rest =>
    obtain ⟨t, rfl, ht3, qB⟩ := hcut
    clear hB hs
    go_wp2_with fail
    refine (bytes_any t (by omega) _).mono ?_
    rintro e w2 ⟨v, er, rfl, hr, hb2⟩
    replace qB := qB.trans (hb2.mono qB.size)
    clear hb2
    rcases hr with ⟨rfl, b, hb, ub, a, cap, rfl, hc, hk⟩ | ⟨rfl, rfl, hno⟩
    · have hlen : t.size = 2 * b.length := by rw [← sl_len, ← hb, hexN_len]
      have Hb : Unit → hexN b = sl t := fun _ => hb
      have Hk : Unit → BytesAt w2 (.slice a b.length cap) b := fun _ => ⟨a, cap, rfl, hc, hk⟩
      clear hb hk
      obtain ⟨t0, ht0⟩ : ∃ t0, t ++ (⟨#[48]⟩ : ByteArray) = t0 := ⟨_, rfl⟩
      have hz0 : t0.size = t.size + 1 := by rw [← ht0, ByteArray.size_append]; rfl
      have K0 := Lib.hid (bytes_any t0 (by omega))
      go_wp2_with fail
      refine (K0.out _).mono ?_
      rintro e w3 ⟨v2, e2, rfl, hr2, hb3⟩
      clear K0
      have hodd : e2 = 2 := hr2.odd (by rw [sl_len, hz0]; omega)
      subst hodd
      replace qB := qB.trans (hb3.mono qB.size)
      have Hk3 : Unit → BytesAt w3 (.slice a b.length cap) b := fun _ => (Hk ()).keep hb3
      clear hr2 hb3 Hk
      obtain ⟨u, hu⟩ : ∃ u : Nat, IntKind.u64.wrap at_ = (u : Int) := ⟨(IntKind.u64.wrap at_).toNat, by have := wrap_u64_nonneg at_; omega⟩
      have hu' : at_ % 18446744073709551616 = (u : Int) := by rw [← hu]; simp [IntKind.wrap, IntKind.bits, IntKind.signed]
      obtain ⟨k, hk⟩ : ∃ k, k = u % (t.size + 1) := ⟨_, rfl⟩
      have hkt : k ≤ t.size := by have := Nat.mod_lt u (show 0 < t.size + 1 by omega); omega
      have htm : (u : Int).tmod ((t.size : Int) + 1) = (k : Int) := by rw [hk]; rfl
      have hw64 : wrap64 ((u : Int) % (2 * (b.length : Int) + 1)) = (k : Int) := by
        have h1 : (u : Int) % (2 * (b.length : Int) + 1) = (k : Int) := by
          rw [hk, hlen]
          simp
        rw [h1]
        simp only [wrap64]
        omega
      clear hk
      go_upto_region 9 with fail
      rw [hw64]
      clear hw64 htm hu hu'
      go_cut [11] (fun s11 wx => s11 = .int .i64 2 ∧ Below w.heap.size w wx ∧ BytesAt wx (.slice a b.length cap) b)
      case first =>
        obtain ⟨g0, hg0⟩ : ∃ g0, t.extract 0 k = g0 := ⟨_, rfl⟩
        have hs0 : g0.size = k := by rw [← hg0, ByteArray.size_extract]; omega
        obtain ⟨g1, hg1⟩ : ∃ g1, g0 ++ (⟨#[71, 48]⟩ : ByteArray) = g1 := ⟨_, rfl⟩
        have hs1 : g1.size = k + 2 := by rw [← hg1, ByteArray.size_append, hs0]; rfl
        obtain ⟨g2, hg2⟩ : ∃ g2, t.extract k (2 * b.length) = g2 := ⟨_, rfl⟩
        have hs2 : g2.size = t.size - k := by rw [← hg2, ByteArray.size_extract, hlen]; omega
        obtain ⟨g3, hg3⟩ : ∃ g3, g1 ++ g2 = g3 := ⟨_, rfl⟩
        have hs3 : g3.size = t.size + 2 := by rw [← hg3, ByteArray.size_append, hs1, hs2]; omega
        have H71 : Unit → (sl g3)[k]? = some 71 := fun _ => by
          have h1 : (sl g0).length = k := by rw [sl_len, hs0]
          rw [← hg3, ← hg1, sl_append, sl_append, List.append_assoc, List.getElem?_append_right (by omega), h1, Nat.sub_self]
          rfl
        have K3 := Lib.hid (bytes_any g3 (by omega))
        have hkl : (k : Int) ≤ 2 * (b.length : Int) := by omega
        have c1 : ∀ w, (Op.stringOp .add g0 ⟨#[71, 48]⟩).run Tryd.prog w = .ok (.string g1) w := fun w => by rw [run_string_add_sum w _ _ (by rw [hs0]; show k + 2 ≤ _; omega), hg1]
        have c2 : ∀ w, (Op.stringOp .add g1 g2).run Tryd.prog w = .ok (.string g3) w := fun w => by rw [run_string_add_sum w _ _ (by rw [hs1, hs2]; omega), hg3]
        clear hs0 hs1 hs2 hs3
        refine region_loose (fun _ w' => Drew w3 w') 8 8 6 #[true, true, true, true, true, true, true, true, false, false, false, false, false, false] rfl (by kernel_rfl) (by kernel_rfl) (by kernel_rfl) (⟨_, rfl⟩) ?_
        simp only [List.take_succ_cons, List.take_zero]
        repeat
          first
          | (refine loose_val (by decide) rfl ?_
             apply Exists.intro
             refine ⟨fun L' w' hw' => ?_, ?_⟩
             · obtain hhh := hw'
               go_simp
               first | done | rfl | exact ⟨rfl, rfl⟩
             simp only [Act.put, List.setIfInBounds_toArray, List.set_cons_zero, List.set_cons_succ])
          | (refine loose_call (by decide) rfl ?_
             apply Exists.intro
             apply Exists.intro
             refine ⟨fun w' => ?_, ?_⟩
             · go_simp
               first | done | rfl | exact ⟨rfl, rfl⟩
             apply Exists.intro
             refine ⟨fun L' w' hw' => ?_, ?_⟩
             · first
               | fail
             simp only [Act.put, List.setIfInBounds_toArray, List.set_cons_zero, List.set_cons_succ])
          | (refine loose_new (by decide) rfl (fun L' w' hw' => ?_) (fun v => ?_)
             · fail
             simp only [Act.put, List.setIfInBounds_toArray, List.set_cons_zero, List.set_cons_succ])
        intro w5 hw5
        replace qB := qB.trans (hw5.below.mono qB.size)
        have hby := (Hk3 ()).keep hw5.below
        clear hw5 Hk3 c1 c2 hg0 hg1 hg2 hg3
        refine wpAny_ready (rs := [8]) (by kernel_rfl) (by simp) ?_
        refine AllReady.cons rfl (fun K hK => ?_) AllReady.nil
        go_simp
        refine (K3.out _).mono ?_
        rintro e w6 ⟨v3, e3, rfl, hr3, hb6⟩
        have hbad : e3 = 2 := hr3.bad (H71 ()) (by decide)
        subst hbad
        replace qB := qB.trans (hb6.mono qB.size)
        replace hby := hby.keep hb6
        clear hb6 hr3 K3
        go_simp
        refine hK _ _ ?_
        clear hK K
        refine wpAny_ready (rs := [9]) (by kernel_rfl) (by simp) ?_
        refine AllReady.cons rfl (fun K hK => ?_) AllReady.nil
        go_simp
        refine hK _ _ ?_
        clear hK K
        have Hend : Unit → Below w.heap.size w w6 ∧ BytesAt w6 (.slice a b.length cap) b := fun _ => ⟨qB, hby⟩
        clear qB hby
        refine wpAny_ready (rs := [10, 11]) (by kernel_rfl) (by simp) ?_
        refine AllReady.cons rfl (fun K hK => ?_) (AllReady.cons rfl (fun K hK => ?_) AllReady.nil)
        · go_simp
          refine hK _ _ ?_
          clear hK K
          refine wpAny_ready (rs := [11, 12]) (by kernel_rfl) (by simp) ?_
          refine AllReady.cons rfl (fun K hK => ?_) (AllReady.cons rfl (fun K hK => ?_) AllReady.nil)
          · go_simp
            refine hK _ _ ?_
            clear hK K
            refine wpAny_ready (rs := [12]) (by kernel_rfl) (by simp) ?_
            refine AllReady.cons rfl (fun K hK => ?_) AllReady.nil
            go_simp
            refine hK _ _ ?_
            clear hK K
            refine wpAny_ready (rs := [13]) (by kernel_rfl) (by simp) ?_
            refine AllReady.cons rfl (fun K hK => ?_) AllReady.nil
            go_simp
            refine hK _ _ ?_
            clear hK K
            refine wpAny_done (by kernel_rfl) ?_ _
            go_wp2_with fail
            go_meet
            exact ⟨rfl, Hend ()⟩
          · go_simp
            refine hK _ _ ?_
            clear hK K
            refine wpAny_ready (rs := [11]) (by kernel_rfl) (by simp) ?_
            refine AllReady.cons rfl (fun K hK => ?_) AllReady.nil
            go_simp
            refine hK _ _ ?_
            clear hK K
            refine wpAny_ready (rs := [13]) (by kernel_rfl) (by simp) ?_
            refine AllReady.cons rfl (fun K hK => ?_) AllReady.nil
            go_simp
            refine hK _ _ ?_
            clear hK K
            refine wpAny_done (by kernel_rfl) ?_ _
            go_wp2_with fail
            go_meet
            exact ⟨rfl, Hend ()⟩
        · go_simp
          refine hK _ _ ?_
          clear hK K
          refine wpAny_ready (rs := [10]) (by kernel_rfl) (by simp) ?_
          refine AllReady.cons rfl (fun K hK => ?_) AllReady.nil
          go_simp
          refine hK _ _ ?_
          clear hK K
          refine wpAny_ready (rs := [12]) (by kernel_rfl) (by simp) ?_
          refine AllReady.cons rfl (fun K hK => ?_) AllReady.nil
          go_simp
          refine hK _ _ ?_
          clear hK K
          refine wpAny_ready (rs := [13]) (by kernel_rfl) (by simp) ?_
          refine AllReady.cons rfl (fun K hK => ?_) AllReady.nil
          go_simp
          refine hK _ _ ?_
          clear hK K
          refine wpAny_done (by kernel_rfl) ?_ _
          go_wp2_with fail
          go_meet
          exact ⟨rfl, Hend ()⟩
      case rest =>
        obtain ⟨rfl, qC, hby⟩ := hcut
        clear qB Hk3
        have Kh := Lib.hid (hex_any _ b _ hby ub (by omega))
        have Hbs : Unit → bs (hexN b) = t := fun _ => by rw [Hb (), bs_sl]
        go_wp2_with fail
        refine Kh.out.mono ?_
        rintro e w7 ⟨rfl, hb7⟩
        rw [Hbs ()]
        replace qC := qC.trans (hb7.mono qC.size)
        clear hb7 Kh hby
        go_wp2_with fail
        go_ret
        exact ⟨rfl, qC⟩
    · clear hno
      go_wp2_with fail
      go_ret
      exact ⟨rfl, qB⟩
end Go.Proofs.YtlhgpnkhfahlbaaDoor
