/- In whatever pieces: the statement's own function returns true, of whatever bytes and cuts. -/
import Derived.Test.YtlhgpnkhfahlbaaDoorSame
namespace Go.Proofs.YtlhgpnkhfahlbaaDoor
open Go.ChangeShapes Go.WideShapes Go.RowKit

theorem sz8 (w : World) : (sizeOf 5).run Tryd.prog w = .ok 1 w := by
  have h : (Tryd.prog.info? 5).map (·.size) = some 1 := by kernel_rfl
  cases hq : Tryd.prog.info? 5 with
  | none => rw [hq] at h; cases h
  | some i => rw [hq] at h; simp at h; simp [sizeOf, typeInfo, hq, h]
theorem el8 : Tryd.prog.elem 22 = 5 := by kernel_rfl
theorem un8 : Tryd.prog.underlying 22 = some (.slice (Tryd.prog.elem 22)) := by kernel_rfl
theorem BytesAt.part {w : World} {v : Value} {b : List Nat} (h : BytesAt w v b) (l m : Nat) (hl : l + m ≤ b.length) (i j : Int) (hi : i = (l : Int)) (hj : j = ((l + m : Nat) : Int)) :
    ∃ u, (∀ w', (Instr.slice 22 v (some (.int .i64 i)) (some (.int .i64 j)) none).run Tryd.prog w' = .ok u w') ∧ BytesAt w u ((b.drop l).take m) := by
  subst hi hj
  obtain ⟨a, cap, rfl, hc, hk⟩ := h
  have hlen : ((b.drop l).take m).length = m := by simp; omega
  refine ⟨sliced a l (l + m) cap 1, fun w' => ?_, if cap = l then a else a.map (·.add (l * 1)), cap - l, by simp only [sliced, hlen]; congr 1; omega, by rw [hlen]; omega, fun hn => ?_⟩
  · rw [run_slice_lh w' _ a b.length cap un8 .i64 .i64 _ _ (by omega) (by omega) (by omega), el8, sz8, Result.andThen_ok, Int.toNat_natCast, Int.toNat_natCast]
  · have hb : b ≠ [] := by intro e; subst e; simp at hn
    obtain ⟨g, o, rfl, hcl⟩ := hk hb
    have h0 : 0 < m := by rcases Nat.eq_zero_or_pos m with h | h; exact absurd (List.eq_nil_of_length_eq_zero (by rw [hlen]; exact h)) hn; exact h
    refine ⟨g, o + l, by simp [add_any, show ¬ cap = l by omega], ?_⟩
    rw [List.map_take, List.map_drop]
    exact (hcl.drop l).take m
theorem BytesAt.first {w : World} {v : Value} {b : List Nat} (h : BytesAt w v b) (m : Nat) (hl : m ≤ b.length) (j : Int) (hj : j = (m : Int)) :
    ∃ u, (∀ w', (Instr.slice 22 v none (some (.int .i64 j)) none).run Tryd.prog w' = .ok u w') ∧ BytesAt w u (b.take m) := by
  subst hj
  obtain ⟨a, cap, rfl, hc, hk⟩ := h
  have hlen : (b.take m).length = m := by simp; omega
  refine ⟨sliced a 0 m cap 1, fun w' => ?_, if cap = 0 then a else a.map (·.add (0 * 1)), cap, by simp only [sliced, hlen]; rfl, by rw [hlen]; omega, fun hn => ?_⟩
  · rw [run_slice_h w' _ a b.length cap un8 .i64 _ (by omega) (by omega), el8, sz8, Result.andThen_ok, Int.toNat_natCast]
  · have hb : b ≠ [] := by intro e; subst e; simp at hn
    obtain ⟨g, o, rfl, hcl⟩ := hk hb
    refine ⟨g, o, by simp [add_any], ?_⟩
    rw [List.map_take]
    exact hcl.take m
theorem BytesAt.rest {w : World} {v : Value} {b : List Nat} (h : BytesAt w v b) (l : Nat) (hl : l ≤ b.length) (i : Int) (hi : i = (l : Int)) :
    ∃ u, (∀ w', (Instr.slice 22 v (some (.int .i64 i)) none none).run Tryd.prog w' = .ok u w') ∧ BytesAt w u (b.drop l) := by
  subst hi
  obtain ⟨a, cap, rfl, hc, hk⟩ := h
  have hlen : (b.drop l).length = b.length - l := by simp
  refine ⟨sliced a l b.length cap 1, fun w' => ?_, if cap = l then a else a.map (·.add (l * 1)), cap - l, by simp only [sliced, hlen], by rw [hlen]; omega, fun hn => ?_⟩
  · rw [run_slice_l w' _ a b.length cap un8 .i64 _ (by omega) (by omega), el8, sz8, Result.andThen_ok, Int.toNat_natCast]
  · have hb : b ≠ [] := by intro e; subst e; simp at hn
    obtain ⟨g, o, rfl, hcl⟩ := hk hb
    have h0 : l < b.length := by rcases Nat.lt_or_ge l b.length with h | h; exact h; exact absurd (List.drop_eq_nil_of_le h) hn
    refine ⟨g, o + l, by simp [add_any, show ¬ cap = l by omega], ?_⟩
    rw [List.map_drop]
    exact hcl.drop l

/-- Bytes are added to a Sum of one's own. -/
theorem add_own (S : Nat) (l b : List Nat) (u : Value) (w0 w : World) (ht : Tabs w0) (hB : Below w0.heap.size w0 w) (hS : w0.heap.size ≤ S) (hp : PtrAt w (some ⟨S, 0, none⟩) l) (hu : BytesAt w0 u b) (ub : ∀ x ∈ b, U8 x) (hlen : l.length + b.length < 4611686018427387904) :
    Calls Tryd.prog 18 #[.pointer (some ⟨S, 0, none⟩), u] w fun e w' => e = .returned (.int .i64 ((l ++ b).length : Int)) ∧ PtrAt w' (some ⟨S, 0, none⟩) (l ++ b) ∧ Below w0.heap.size w0 w' := by
  rcases hp with ⟨h, _⟩ | ⟨s, ws, bf, e, h1, h2, h3, h4, h5⟩
  · cases h
  · obtain rfl : S = s := by injection e with e; injection e
    obtain ⟨a, cap, rfl, hc, hk⟩ := hu
    have htl := ht.lt
    refine (add_bytes S ws bf l b a cap w (ht.keep hB) (by omega) (by omega) h1 h2 h3 h4 h5 ub hc hlen (fun hn => ?_)).mono ?_
    · obtain ⟨g, o, e, hcl⟩ := hk hn
      exact ⟨g, o, e, by have := hcl.lt hn; omega, hcl.keep hB⟩
    · rintro e w' ⟨rfl, ws', bf', cs, k1, k2, k3, k4⟩
      exact ⟨rfl, .inr ⟨S, ws', bf', rfl, k1, k2.ulen, k2.len, fun _ => k2, k3⟩, (below_setRow hB hS cs).trans (k4.mono hB.size)⟩
theorem PtrAt.new (w : World) : PtrAt (w.alloc (.cells zsum.toArray 55)) (some ⟨w.heap.size, 0, none⟩) [] :=
  .inr ⟨_, List.replicate 8 0, List.replicate 64 0, rfl, Rw.new w _ _, rfl, rfl, fun h => absurd rfl h, rep_u8 64⟩

/-- The slice v holds n numbers. -/
def NumsAt (w : World) (v : Value) (n : Nat) : Prop := ∃ a cap, v = .slice a n cap ∧ ∀ i, i < n → ∃ g o x, a = some ⟨g, o, none⟩ ∧ w.cell? ⟨g, o + i, none⟩ = some (.int .i64 x)

set_option maxHeartbeats 1600000 in
theorem piecesLaw_any (v cv : Value) (b : List Nat) (nc : Nat) (w : World) (ht : Tabs w) (hv : BytesAt w v b) (hn : NumsAt w cv nc) (ub : ∀ x ∈ b, U8 x) (hl : b.length ≤ 9223372036854775807) :
    Calls Tryd.prog 5 #[v, cv] w fun e w' => e = .returned (.bool true) ∧ Below w.heap.size w w' := by
  go_enter Tryd.func5, Tryd.ntmps5
  go_wp2_with fail
  refine (lives_any _ ht).mono ?_
  rintro e w1 ⟨rfl, hB⟩
  go_wp2_with fail
  refine (early_any _ b _ (hv.keep hB) hl).mono ?_
  rintro e w2 ⟨⟨u, rfl, hu⟩, rfl⟩
  have ub' : ∀ x ∈ b.take 300, U8 x := fun x hx => ub x (List.mem_of_mem_take hx)
  have hl' : (b.take 300).length ≤ 300 := by simp; omega
  clear hv ub hl
  generalize b.take 300 = c at *
  replace ht := ht.keep hB
  obtain ⟨ca, ccap, rfl, hcells⟩ := hn
  have Hcell : Unit → ∀ i, i < nc → ∃ g o x, ca = some ⟨g, o, none⟩ ∧ w2.cell? ⟨g, o + i, none⟩ = some (.int .i64 x) := fun _ i hi => by
    obtain ⟨g, o, x, e, hx⟩ := hcells i hi
    exact ⟨g, o, x, e, by rw [hB.cell (World.block_lt_of_cell? w _ hx)]; exact hx⟩
  clear hcells
  have HB : Unit → Below w.heap.size w w2 := fun _ => hB
  go_wp2_with fail
  refine (new_any _).mono ?_
  rintro e w3 ⟨rfl, rfl⟩
  have hp := PtrAt.new w2
  have qB := (Below.refl _ w2).alloc (Nat.le_refl _) (.cells zsum.toArray 55)
  obtain ⟨S, hS⟩ : ∃ S, S = w2.heap.size := ⟨_, rfl⟩
  have hS' : w2.heap.size ≤ S := by omega
  rw [← hS] at hp ⊢
  generalize w2.alloc (.cells zsum.toArray 55) = w3 at *
  clear hS hB
  obtain ⟨ua, ucap, rfl, huc, huk⟩ := hu
  have HU : Unit → BytesAt w2 (.slice ua c.length ucap) c := fun _ => ⟨ua, ucap, rfl, huc, huk⟩
  clear huk
  go_upto_region 7 with fail
  go_loopw [6, 7] (fun p i wr => ∃ k q : Nat, k ≤ 20 ∧ q ≤ c.length ∧ p = .int .i64 (q : Int) ∧ i = .int .i64 (k : Int) ∧ PtrAt wr (some ⟨S, 0, none⟩) (c.take q) ∧ Below w2.heap.size w2 wr) (fun _ i _ => 20 - (intOf i).toNat)
  case atStart => exact ⟨0, 0, by omega, by omega, rfl, rfl, hp, qB⟩
  case round =>
    clear hp qB
    obtain ⟨k, q, hk, hq, rfl, rfl, hp, qB⟩ := hrel
    by_cases hlt : k < nc ∧ k < 20
    · obtain ⟨g, o, x, rfl, hx⟩ := Hcell () k hlt.1
      have cx : wr.cell? ⟨g, o + k, none⟩ = some (.int .i64 x) := by rw [qB.cell (World.block_lt_of_cell? w2 _ hx)]; exact hx
      obtain ⟨h1, h2⟩ := hlt
      have h1' : (k : Int) < (nc : Int) := by omega
      have h2' : (k : Int) < 20 := by omega
      clear hx
      obtain ⟨u, hu⟩ : ∃ u : Nat, IntKind.u64.wrap x = (u : Int) := ⟨(IntKind.u64.wrap x).toNat, by have := wrap_u64_nonneg x; omega⟩
      have hu' : x % 18446744073709551616 = (u : Int) := by rw [← hu]; simp [IntKind.wrap, IntKind.bits, IntKind.signed]
      obtain ⟨m, hm⟩ : ∃ m, m = u % (c.length - q + 1) := ⟨_, rfl⟩
      have hmt : q + m ≤ c.length := by have := Nat.mod_lt u (show 0 < c.length - q + 1 by omega); omega
      have hw64 : wrap64 ((u : Int) % ((c.length : Int) - (q : Int) + 1)) = (m : Int) := by
        have h5 : (u : Int) % ((c.length : Int) - (q : Int) + 1) = (m : Int) := by
          rw [hm, show (c.length : Int) - (q : Int) + 1 = ((c.length - q + 1 : Nat) : Int) by omega]
          rfl
        rw [h5]
        simp only [wrap64]
        omega
      clear hm
      go_upto_region 10 with fail
      rw [hw64]
      clear hw64 hu hu' cx h1' h2'
      obtain ⟨u1, hs1, hb1⟩ := (HU ()).part q m hmt (q : Int) ((q : Int) + (m : Int)) rfl (by omega)
      obtain ⟨u2, hs2, hb2⟩ := (HU ()).first (q + m) hmt ((q : Int) + (m : Int)) (by omega)
      have ub1 : ∀ x ∈ (c.drop q).take m, U8 x := fun x hx => ub' x (List.mem_of_mem_drop (List.mem_of_mem_take hx))
      have Hcat : Unit → c.take q ++ (c.drop q).take m = c.take (q + m) := fun _ => by rw [List.take_add]
      have Hlen : Unit → (c.take (q + m)).length = q + m := fun _ => by simp; omega
      have Ka := Lib.hid (add_own S (c.take q) ((c.drop q).take m) u1 w2 wr ht qB hS' hp hb1 ub1 (by simp; omega))
      rw [Hcat (), Hlen ()] at Ka
      clear hp hb1 ub1
      go_wp2_with fail
      refine Ka.out.mono ?_
      rintro e w4 ⟨rfl, hp, qB4⟩
      clear Ka hs1 qB
      go_upto_region 13 with fail
      have ubt : ∀ x ∈ c.take (q + m), U8 x := fun x hx => ub' x (List.mem_of_mem_take hx)
      have hlt' : (c.take (q + m)).length < 576460752303423488 := by rw [Hlen ()]; omega
      have KN := Lib.hid (fun (w' : World) (h : Below w4.heap.size w4 w') => now_any (some ⟨S, 0, none⟩) (c.take (q + m)) w' (ht.keep (qB4.trans (h.mono qB4.size))) (hp.keep h) hlt' ubt)
      have KO := Lib.hid (fun (w' : World) (h : Below w4.heap.size w4 w') => of_any u2 (c.take (q + m)) w' (ht.keep (qB4.trans (h.mono qB4.size))) (hb2.keep (qB4.trans (h.mono qB4.size))) ubt hlt')
      have hneq : ∀ w, _ := fun w => (same_sha (c.take (q + m)) w).2
      generalize ((shaN (c.take (q + m))).map v8).toArray = X at *
      clear ubt hlt' Hcat
      try simp only [List.append_eq, List.cons_append, List.nil_append]
      refine region_class (fun w' => Below w4.heap.size w4 w') (by kernel_rfl) (by kernel_rfl) ((Below.refl _ _).drew) ?_
      repeat
        first
        | go_big_quiet_skip
        | (go_big_quiet_want
           refine quiet_val ?_
           apply Exists.intro
           refine ⟨fun w' hw' => ?_, ?_⟩
           · obtain hhh := hw'
             go_simp
             first | done | rfl | exact ⟨rfl, rfl⟩
           simp only [Act.put, List.setIfInBounds_toArray, List.set_cons_zero, List.set_cons_succ]
           go_big_quiet_on)
        | (go_big_quiet_want
           refine quiet_call ?_
           apply Exists.intro
           apply Exists.intro
           refine ⟨fun w' => ?_, ?_⟩
           · go_simp
             first | done | rfl | exact ⟨rfl, rfl⟩
           apply Exists.intro
           refine ⟨fun w' hw' => ?_, ?_⟩
           · first
             | (with_reducible refine (KN.out _ hw').mono ?_); (rintro e w2 ⟨rfl, hdd⟩; exact ⟨rfl, hw'.trans (hdd.mono hw'.size)⟩)
             | (with_reducible refine (KO.out _ hw').mono ?_); (rintro e w2 ⟨rfl, hdd⟩; exact ⟨rfl, hw'.trans (hdd.mono hw'.size)⟩)
           simp only [Act.put, List.setIfInBounds_toArray, List.set_cons_zero, List.set_cons_succ]
           go_big_quiet_on)
      refine wpQuiet_nil ?_
      intro w5 hw5
      replace hp := hp.keep hw5
      replace qB4 := qB4.trans (hw5.mono qB4.size)
      clear hw5 KN KO hneq hs2 hb2
      go_wp2_with fail
      go_roundw
      case rel => exact ⟨k + 1, q + m, by omega, hmt, by go_num, by go_num, hp, qB4⟩
      case measure => simp [intOf]; omega
    · obtain ⟨u1, hs1, hb1⟩ := (HU ()).rest q hq (q : Int) rfl
      have ub1 : ∀ x ∈ c.drop q, U8 x := fun x hx => ub' x (List.mem_of_mem_drop hx)
      have Ka := Lib.hid (add_own S (c.take q) (c.drop q) u1 w2 wr ht qB hS' hp hb1 ub1 (by simp; omega))
      rw [List.take_append_drop] at Ka
      have heq : ∀ w, _ := fun w => (same_sha c w).1
      have HX : Unit → ((shaN c).map v8).toArray = ((shaN c).map v8).toArray := fun _ => rfl
      have KN := Lib.hid (fun (w' : World) (h : Below w2.heap.size w2 w') (hp : PtrAt w' (some ⟨S, 0, none⟩) c) => now_any (some ⟨S, 0, none⟩) c w' (ht.keep h) hp (by omega) ub')
      have KO := Lib.hid (fun (w' : World) (h : Below w2.heap.size w2 w') => of_any (.slice ua c.length ucap) c w' (ht.keep h) ((HU ()).keep h) ub' (by omega))
      generalize ((shaN c).map v8).toArray = X at *
      clear hp qB hb1 ub1 HX
      go_upto_region 15 with fail
      all_goals
        go_wp2_with fail
        refine Ka.out.mono ?_
        rintro e w4 ⟨rfl, hp, qB⟩
        go_wp2_with fail
        refine (KN.out _ qB hp).mono ?_
        rintro e w5 ⟨rfl, hb5⟩
        replace qB := qB.trans (hb5.mono qB.size)
        clear hb5 hp
        go_wp2_with fail
        refine (KO.out _ qB).mono ?_
        rintro e w6 ⟨rfl, hb6⟩
        replace qB := qB.trans (hb6.mono qB.size)
        clear hb6
        go_wp2_with fail
        go_ret
        exact ⟨rfl, (HB ()).trans (qB.mono (HB ()).size)⟩
end Go.Proofs.YtlhgpnkhfahlbaaDoor
