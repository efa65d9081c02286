/- SealKeys: the statement's own function returns true, of whatever key and bytes. -/
import Derived.Test.YtidiallphmocdaaDoorSLives
import Derived.Test.YtidiallphmocdaaDoorROf
import Derived.Test.YtidiallphmocdaaDoorSame
namespace Go.Proofs.YtidiallphmocdaaDoor
open Go.ChangeShapes Go.WideShapes Go.RowKit

/-- Thirty-two bytes are those bytes. -/
theorem same_arr (S : List Nat) (hS : S.length = 32) (w : World) : (binOp .eql 25 (.agg (S.map v8).toArray) (.agg (S.map v8).toArray)).run Tryd.prog w = .ok (.bool true) w ∧ (binOp .neq 25 (.agg (S.map v8).toArray) (.agg (S.map v8).toArray)).run Tryd.prog w = .ok (.bool false) w :=
  same_neq 25 5 32 .u8 _ (by kernel_rfl) (by kernel_rfl) (by kernel_rfl) (by rw [List.length_map, hS]) (ints8 _) w
/-- What an append to a slice of one's own leaves. -/
theorem below_app {N base : Nat} {w0 w w' : World} {v : Value} {n : Nat} {cs : List Value} (hb : Below N w0 w) (hown : w.ownsRow base 5 1 v n cs) (hN : N ≤ base) (hNw : N ≤ w.heap.size) (hg : w.grownBy w' v.ownBlock) : Below N w0 w' :=
  hb.grown hg hNw (fun j e => by have := (hown.lt j e).1; omega)
/-- One byte is appended to a slice of one's own: a slice of it was made just before. -/
theorem app_one {ops : Array Oper} {rest : List Oper} {o : Oper} {a : Act} {w : World} {Q : Exit → Act → World → Prop} (base : Nat) (v : Value) (xs : List Nat) (hown : w.ownsRow base 5 1 v xs.length (xs.map v8)) (x : Nat) (X : Int) (hX : X = (x : Int)) (hl : xs.length ≤ 50000) (hb : base ≤ w.heap.size)
    (s y : Operand) (hgd : o.guard = none) (ho : o.op = .call { callee := .builtin .append, args := #[s, y], argTypes := #[22, 22] }) (hs' : a.eval s = v) (hy : a.eval y = .slice (some ⟨w.heap.size, 0, none⟩) 1 1)
    (h : ∀ v' w', w'.ownsRow base 5 1 v' (xs ++ [x]).length ((xs ++ [x]).map v8) → (w.alloc (.cells #[.int .u8 X] 5)).grownBy w' v.ownBlock → wpList Tryd.prog ops Q rest (a.put o.dst v') w') : wpList Tryd.prog ops Q (o :: rest) a (w.alloc (.cells #[.int .u8 X] 5)) := by
  subst hX
  exact app_bytes base v (.slice (some ⟨w.heap.size, 0, none⟩) 1 1) xs [x] (World.ownsRow.alloc hown _) (Rw.bytes (xs := [x]) (Rw.new w 5 ([x].map v8)) 1 (Nat.le_refl _)) (by simp; omega) (by simp; omega) (by rintro ⟨_, e⟩; injection e with e; cases e) s y hgd ho hs' hy h
theorem u8_take {k : List Nat} (h : ∀ x ∈ k, U8 x) (n : Nat) : ∀ x ∈ k.take n, U8 x := fun x hx => h x (List.mem_of_mem_take hx)

set_option maxRecDepth 100000 in
set_option maxHeartbeats 1600000 in
theorem keysLaw_any (v u : Value) (k b : List Nat) (w : World) (ht : Tabs w) (hv : BytesAt w v k) (hu : BytesAt w u b) (uk : ∀ x ∈ k, U8 x) (ub : ∀ x ∈ b, U8 x) (hlk : k.length ≤ 9223372036854775807) (hlb : b.length ≤ 9223372036854775807) :
    Calls Tryd.prog 10 #[v, u] w fun e w' => e = .returned (.bool true) ∧ Below w.heap.size w w' := by
  go_enter Tryd.func10, Tryd.ntmps10
  go_wp2_with fail
  refine (slives_any _ ht).mono ?_
  rintro e w1 ⟨rfl, hB⟩
  go_wp2_with fail
  refine (searly_any _ k _ (hv.keep hB) hlk).mono ?_
  rintro e w2 ⟨⟨v1, rfl, hv1⟩, rfl⟩
  go_wp2_with fail
  refine (searly_any _ b _ (hu.keep hB) hlb).mono ?_
  rintro e w3 ⟨⟨u1, rfl, hu1⟩, rfl⟩
  have uk' := u8_take uk 200
  have ub' := u8_take ub 200
  have hl1 : (k.take 200).length ≤ 200 := by simp; omega
  have hl2 : (b.take 200).length ≤ 200 := by simp; omega
  generalize k.take 200 = c at *
  generalize b.take 200 = d at *
  clear hv hu uk ub hlk hlb
  obtain ⟨a1, c1, hve, hcv, _⟩ := id hv1
  subst hve
  have heq : ∀ w, _ := fun w => (same_arr (sealN c d) (sealN_len c d) w).1
  have Hlong : Unit → 64 < c.length → sealN (shaN c) d = sealN c d := fun _ h => seal_long h d
  have Hmore : Unit → c.length < 64 → sealN (c ++ [0]) d = sealN c d := fun _ h => seal_more h d
  by_cases h64 : 64 < c.length
  · have h64i : (64 : Int) < (c.length : Int) := by omega
    go_wp2_with fail
    refine (of_any _ c _ (ht.keep hB) hv1 uk' (by omega)).mono ?_
    rintro e w4 ⟨rfl, hb4⟩
    have hsl := shaN_len c
    have hsu := shaN_u c
    have Hl := Hlong () h64
    clear Hlong Hmore
    generalize shaN c = S at *
    have hs : (S.map v8).length = 32 := by rw [List.length_map, hsl]
    have h1 := one8 S
    go_upto_region 6 with (refine store_arr w4.heap.size 25 ((zs 32).map v8) (Rw.new w4 25 ((zs 32).map v8)) 32 rfl 25 (by kernel_rfl) _ hs h1 _ _ rfl rfl rfl rfl ?_)
    rw [World.setRow_alloc_new]
    have r2 := Rw.new w4 25 (S.map v8)
    replace hB := hB.trans (hb4.mono hB.size)
    have hb5 := hb4.alloc hb4.size (.cells (S.map v8).toArray 25)
    replace hB := hB.alloc hB.size (.cells (S.map v8).toArray 25)
    replace hv1 := hv1.keep hb5
    replace hu1 := hu1.keep hb5
    generalize w4.alloc (.cells (S.map v8).toArray 25) = W at *
    generalize w4.heap.size = D at *
    generalize (S.map v8).toArray = SA
    clear hb4 hb5 hs h1
    have hby := r2.bytes 32 (by omega)
    rw [hsl] at hby
    have ht2 := ht.keep hB
    have K1 := Lib.hid (fun w' (h : Below W.heap.size W w') => seal_any _ _ c d w' (ht2.keep h) (hv1.keep h) (hu1.keep h) uk' ub' (by omega) (by omega))
    have K2 := Lib.hid (fun w' (h : Below W.heap.size W w') => seal_any _ _ S d w' (ht2.keep h) (hby.keep h) (hu1.keep h) hsu ub' (by omega) (by omega))
    rw [Hl] at K2
    generalize (List.map v8 (sealN c d)).toArray = X at *
    have hca := cut_all (P := Tryd.prog) 25 5 32 D (by kernel_rfl) (by kernel_rfl)
    clear hv1 hu1 hby r2 Hl
    simp only [Act.put]
    try simp only [List.append_eq, List.cons_append, List.nil_append]
    refine region_class (fun w' => Below W.heap.size W w') (by kernel_rfl) (by kernel_rfl) ((Below.refl _ _).drew) ?_
    repeat
      first
      | go_big_quiet_skip
      | (go_big_quiet_want
         refine quiet_val ?_
         apply Exists.intro
         refine ⟨fun w' hw' => ?_, ?_⟩
         · obtain hhh := hw'
           go_simp
           first | done | rfl | exact ⟨rfl, rfl⟩
         simp only [Act.put, List.setIfInBounds_toArray, List.set_cons_zero, List.set_cons_succ]
         go_big_quiet_on)
      | (go_big_quiet_want
         refine quiet_call ?_
         apply Exists.intro
         apply Exists.intro
         refine ⟨fun w' => ?_, ?_⟩
         · go_simp
           first | done | rfl | exact ⟨rfl, rfl⟩
         apply Exists.intro
         refine ⟨fun w' hw' => ?_, ?_⟩
         · first
           | (with_reducible refine (K1.out _ hw').mono ?_); (rintro e w2 ⟨rfl, hdd⟩; exact ⟨rfl, hw'.trans (hdd.mono hw'.size)⟩)
           | (with_reducible refine (K2.out _ hw').mono ?_); (rintro e w2 ⟨rfl, hdd⟩; exact ⟨rfl, hw'.trans (hdd.mono hw'.size)⟩)
         simp only [Act.put, List.setIfInBounds_toArray, List.set_cons_zero, List.set_cons_succ]
         go_big_quiet_on)
    refine wpQuiet_nil ?_
    intro w5 hw5
    replace hB := hB.trans (hw5.mono hB.size)
    clear K1 K2 hw5
    go_wp2_with fail
    go_ret
    exact ⟨rfl, hB⟩
  · have h64i : ¬ (64 : Int) < (c.length : Int) := by omega
    by_cases h65 : c.length = 64
    · rw [h65]
      go_wp2_with fail
      go_ret
      exact ⟨rfl, hB⟩
    · have hne : ((c.length : Int) == 64) = false := by rw [beq_eq_false_iff_ne]; omega
      have Hm : Unit → (sealN (c ++ [0]) d).map v8 = (sealN c d).map v8 := fun _ => by rw [Hmore () (by omega)]
      clear Hlong Hmore
      have K1 := Lib.hid (seal_any _ _ c d _ (ht.keep hB) hv1 hu1 uk' ub' (by omega) (by omega))
      go_wp2_with fail
      refine (K1.out).mono ?_
      rintro e w4 ⟨rfl, hb4⟩
      replace hB := hB.trans (hb4.mono hB.size)
      replace hv1 := hv1.keep hb4
      replace hu1 := hu1.keep hb4
      clear K1 hb4
      generalize List.map v8 (sealN c d) = X at *
      go_wp2_with (at_builtin; refine app_bytes w4.heap.size (.slice none 0 0) _ [] c (World.ownsRow_nil _ _ _ _) hv1 (by simp; omega) (Nat.le_refl _) (fun _ => rfl) _ _ rfl rfl rfl rfl ?_)
      intro v5 w5 h1 h2
      have hb5 := below_app (Below.refl w4.heap.size w4) (World.ownsRow_nil w4 w4.heap.size 5 1) (Nat.le_refl _) (Nat.le_refl _) h2
      replace h1 : w5.ownsRow w4.heap.size 5 1 v5 c.length (c.map v8) := h1
      clear h2
      have hsz := hb5.size
      go_wp2_with (at_builtin; refine app_one w4.heap.size v5 c h1 0 _ rfl (by omega) hsz _ _ rfl rfl rfl rfl ?_)
      intro v6 w6 h6 h7
      have hb6 := below_app (hb5.alloc hsz _) (World.ownsRow.alloc h1 _) (Nat.le_refl _) (by simp; omega) h7
      clear h1 h7 hb5 hsz
      replace hB := hB.trans (hb6.mono hB.size)
      replace hu1 := hu1.keep hb6
      have hu6 := bytes_of_own (xs := c ++ [0]) (by rw [List.length_append, List.map_append]; exact h6)
      clear h6 hb6 hv1
      have uc6 : ∀ x ∈ c ++ [0], U8 x := fun x hx => by
        rcases List.mem_append.1 hx with h | h
        · exact uk' x h
        · rw [List.mem_singleton.1 h]; exact (show 0 < 256 by omega)
      have hl6 : (c ++ [0]).length ≤ 1000000 := by simp; omega
      have K1 := Lib.hid (seal_any _ _ (c ++ [0]) d _ (ht.keep hB) hu6 hu1 uc6 ub' hl6 (by omega))
      rw [Hm ()] at K1
      clear Hm uc6 hu6
      go_wp2_with fail
      refine (K1.out).mono ?_
      rintro e w8 ⟨rfl, hb8⟩
      replace hB := hB.trans (hb8.mono hB.size)
      clear K1 hb8
      go_wp2_with fail
      go_ret
      exact ⟨rfl, hB⟩
end Go.Proofs.YtidiallphmocdaaDoor
