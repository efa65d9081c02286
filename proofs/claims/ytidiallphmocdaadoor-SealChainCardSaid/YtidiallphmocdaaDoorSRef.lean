/- The document's own seal: what its Of returns. -/
import Derived.Test.YtidiallphmocdaaDoorSTwice
namespace Go.Proofs.YtidiallphmocdaaDoor
open Go.ChangeShapes Go.WideShapes Go.RowKit

theorem own_below {w w' : World} {base : Nat} {t : TypeId} {v : Value} {n : Nat} {xs : List Value} (h : w.ownsRow base t 1 v n xs) (hb : Below w.heap.size w w') : w'.ownsRow base t 1 v n xs :=
  h.kept (row := none) ⟨hb.os, hb.tape, hb.output, hb.size, fun k hk _ => hb.block k hk⟩ (by cases v.ownBlock <;> simp)
/-- Two slices of one's own, apart from each other. -/
def Two (base : Nat) (v : Value) (xs : List Nat) (u : Value) (ys : List Nat) (w : World) : Prop :=
  w.ownsRow base 5 1 v xs.length (xs.map v8) ∧ w.ownsRow base 5 1 u ys.length (ys.map v8) ∧ (∀ g, v.ownBlock = some g → u.ownBlock ≠ some g) ∧ base ≤ w.heap.size
theorem Two.swap {base : Nat} {v u : Value} {xs ys : List Nat} {w : World} (h : Two base v xs u ys w) : Two base u ys v xs w := ⟨h.2.1, h.1, fun g e k => h.2.2.1 g k e, h.2.2.2⟩
theorem Two.keep {base : Nat} {v u : Value} {xs ys : List Nat} {w w' : World} (h : Two base v xs u ys w) (hb : Below w.heap.size w w') : Two base v xs u ys w' := ⟨own_below h.1 hb, own_below h.2.1 hb, h.2.2.1, Nat.le_trans h.2.2.2 hb.size⟩
theorem list_two {ops : Array Oper} {rest : List Oper} {o : Oper} {a : Act} {w : World} {Q : Exit → Act → World → Prop} (base : Nat) (v u : Value) (xs ys : List Nat) (ht : Two base v xs u ys w) (x : Nat) (X : Int) (hX : X = (x : Int)) (hl : xs.length ≤ 50000)
    (s y : Operand) (hgd : o.guard = none) (ho : o.op = .call { callee := .builtin .append, args := #[s, y], argTypes := #[22, 22] }) (hs : a.eval s = v) (hy : a.eval y = .slice (some ⟨w.heap.size, 0, none⟩) 1 1)
    (h : ∀ v' w', Two base v' (xs ++ [x]) u ys w' → Below base w w' → wpList Tryd.prog ops Q rest (a.put o.dst v') w') : wpList Tryd.prog ops Q (o :: rest) a (w.alloc (.cells #[.int .u8 X] 5)) := by
  subst hX
  obtain ⟨t1, t2, t3, t4⟩ := ht
  obtain ⟨i0, hi, hz0, hz1, hz2⟩ := info_parts info_u8
  have hc : Cls (w.alloc (.cells #[.int .u8 (x : Int)] 5)) w.heap.size 0 ([x].map v8) := (Rw.new w 5 ([x].map v8)).cls 0 _ (fun j v hv => by rw [Nat.zero_add]; exact hv)
  have t1' := World.ownsRow.alloc t1 (.cells #[.int .u8 (x : Int)] 5)
  have t2' := World.ownsRow.alloc t2 (.cells #[.int .u8 (x : Int)] 5)
  have hb0 : Below base w (w.alloc (.cells #[.int .u8 (x : Int)] 5)) := (Below.refl _ w).alloc t4 _
  have hsz : base ≤ (w.alloc (.cells #[.int .u8 (x : Int)] 5)).heap.size := Nat.le_trans t4 hb0.size
  refine wpList_append_lies (w.alloc (.cells #[.int .u8 (x : Int)] 5)) hgd s y 22 ho base 5 i0 (.int .u8 0) 1 1 Tryd.underlying22 hi hz0 hz1 hz2 rfl (by decide) v xs.length (xs.map v8) hs t1' ⟨w.heap.size, 0, none⟩ 1 1 ([x].map v8) hy (by simp) (fun j u' hu' => by rw [add_any]; exact hc j u' hu') (one8 [x]) (by decide) (by unfold maxLen; omega) (by omega) hsz _ rfl ?_
  intro g cap w' h1 h2 h3 _
  refine h _ w' ⟨?_, t2'.kept h2 ?_, ?_, Nat.le_trans hsz h2.size⟩ (hb0.grown h2 hsz (fun k e => (t1'.lt k e).1))
  · rw [List.length_append, List.map_append]; exact h1
  · rcases hu : u.ownBlock with _ | g'
    · exact .inl rfl
    · exact .inr (fun e => t3 g' e.symm hu)
  · intro g' e
    simp [Value.ownBlock] at e
    subst e
    rcases h3 with h3 | h3
    · exact t3 g h3
    · intro e
      have := (t2.lt g e).2
      simp at h3
      omega
theorem mskN_snoc (m : Nat) (l : List Nat) (x : Nat) : mskN m (l ++ [x]) = mskN m l ++ [x ^^^ m] := by simp [mskN]
theorem kpad_at {k : List Nat} {j : Nat} (hj : j < 64) (hk : k.length ≤ 64) : (kpad k)[j]? = some (if h : j < k.length then k[j] else 0) := by
  unfold kpad
  split
  · rename_i h
    rw [List.getElem?_append_left h, List.getElem?_eq_getElem h]
  · rename_i h
    rw [List.getElem?_append_right (by omega), zs, List.getElem?_replicate, if_pos (by omega)]
/-- A key of at most 64 bytes whose 64 bytes are those of the key k. -/
def RKey (w : World) (Z : List Value) (k : List Nat) (v : Value) (wx : World) : Prop :=
  ∃ k', BytesAt wx v k' ∧ k'.length ≤ 64 ∧ (∀ x ∈ k', U8 x) ∧ kbN k = kpad k' ∧ Rw wx w.heap.size 25 Z ∧ Below w.heap.size w wx

set_option maxRecDepth 100000 in
set_option maxHeartbeats 1600000 in
theorem rseal_any (v u : Value) (k b : List Nat) (w : World) (hv : BytesAt w v k) (hu : BytesAt w u b) (uk : ∀ x ∈ k, U8 x) (ub : ∀ x ∈ b, U8 x) (hl : k.length ≤ 900) (hl2 : b.length ≤ 900) :
    Calls Tryd.prog 30 #[v, u] w fun e w' => e = .returned (.agg ((sealN k b).map v8).toArray) ∧ Below w.heap.size w w' := by
  obtain ⟨av, cv, hve, _, _⟩ := id hv
  subst hve
  obtain ⟨au, cu, hue, _, _⟩ := id hu
  subst hue
  go_enter Tryd.func30, Tryd.ntmps30
  go_upto_if 13 with fail
  have r0 := Rw.new w 25 ((zs 32).map v8)
  have hB := (Below.refl _ w).alloc (Nat.le_refl _) (.cells ((zs 32).map v8).toArray 25)
  change Code.wp _ _ _ _ (w.alloc (.cells ((zs 32).map v8).toArray 25))
  generalize w.alloc (.cells ((zs 32).map v8).toArray 25) = W at *
  generalize hZ : (zs 32).map v8 = Z at r0
  have HZ : Unit → Z.length = 32 := fun _ => by rw [← hZ]; rfl
  clear hZ
  have Hseal : Unit → sealN k b = shaN (mskN 92 (kbN k) ++ shaN (mskN 54 (kbN k) ++ b)) := fun _ => rfl
  go_cut [0] (fun s0 wx => RKey w Z k s0 wx)
  case first =>
    by_cases h64 : 64 < k.length
    · have h64i : (64 : Int) < (k.length : Int) := by omega
      have K1 := Lib.hid (rof_any _ k W (hv.keep hB) uk (by omega))
      have hsl := shaN_len k
      have hsu := shaN_u k
      have Hkb : Unit → kbN k = kpad (shaN k) := fun _ => by unfold kbN; rw [if_pos h64]
      generalize shaN k = S at *
      have hs : (S.map v8).length = 32 := by rw [List.length_map, hsl]
      have h1 := one8 S
      clear Hseal
      go_wp2_with fail
      refine (K1.out).mono ?_
      rintro e w1 ⟨rfl, hb1⟩
      clear K1
      replace r0 := r0.keep hb1
      replace hB := hB.trans (hb1.mono hB.size)
      have r2 := Rw.new w1 25 (S.map v8)
      replace r0 := r0.past (.cells (S.map v8).toArray 25)
      replace hB := hB.alloc hB.size (.cells (S.map v8).toArray 25)
      clear hb1
      have hca := cut_all (P := Tryd.prog) 25 5 32 w1.heap.size (by kernel_rfl) (by kernel_rfl)
      go_wp2_with (refine store_arr w1.heap.size 25 ((zs 32).map v8) (Rw.new w1 25 ((zs 32).map v8)) 32 rfl 25 (by kernel_rfl) _ hs h1 _ _ rfl rfl rfl rfl ?_)
      rw [World.setRow_alloc_new]
      go_meet
      have hby := r2.bytes 32 (by omega)
      rw [hsl] at hby
      exact ⟨S, hby, by omega, hsu, Hkb (), r0, hB⟩
    · have h64i : ¬ (64 : Int) < (k.length : Int) := by omega
      clear Hseal
      go_wp2_with fail
      go_meet
      exact ⟨k, hv.keep hB, by omega, uk, by unfold kbN; rw [if_neg h64], r0, hB⟩
  case rest =>
    clear r0 hB
    generalize wc = Wl at *
    obtain ⟨k', hv', h64, uk', hkb, r0, hB⟩ := hcut
    rw [hkb] at Hseal
    clear hkb uk hl hv
    have hu' := hu.keep hB
    obtain ⟨a', cap', rfl, hc', hk'⟩ := hv'
    have Hk' : Unit → k' ≠ [] → ∃ g o, a' = some ⟨g, o, none⟩ ∧ Cls Wl g o (k'.map v8) := fun _ => hk'
    clear hk'
    have hkl := kpad_len h64
    have ukp := kpad_u uk'
    have Hat : Unit → ∀ j, j < 64 → (kpad k')[j]? = some (if h : j < k'.length then k'[j] else 0) := fun _ j hj => kpad_at hj h64
    generalize kpad k' = kp at *
    have t0 : Two Wl.heap.size (.slice none 0 0) (mskN 54 (kp.take 0)) (.slice none 0 0) (mskN 92 (kp.take 0)) Wl := ⟨World.ownsRow_nil _ _ _ _, World.ownsRow_nil _ _ _ _, fun g e => (by cases e), Nat.le_refl _⟩
    clear hc'
    go_upto_region 6 with fail
    go_loopw [6, 7, 8] (fun vi vo i wr => ∃ j : Nat, j ≤ 64 ∧ i = .int .i64 (j : Int) ∧ Two Wl.heap.size vi (mskN 54 (kp.take j)) vo (mskN 92 (kp.take j)) wr ∧ Below Wl.heap.size Wl wr) (fun _ _ i _ => 64 - (intOf i).toNat)
    case atStart => exact ⟨0, by omega, rfl, t0, Below.refl _ _⟩
    case round =>
      clear t0
      obtain ⟨j, hj, rfl, tw, hb⟩ := hrel
      by_cases hlt : j < 64
      · have hji : (j : Int) < 64 := by omega
        obtain ⟨x, hx⟩ : ∃ x, kp[j]? = some x := ⟨_, List.getElem?_eq_getElem (by omega)⟩
        have ux := ukp x (List.mem_of_getElem? hx)
        have Hx : Unit → (if h : j < k'.length then k'[j] else 0) = x := fun _ => by have := Hat () j hlt; rw [hx] at this; exact (Option.some.inj this).symm
        have H5 : Unit → mskN 54 (kp.take (j + 1)) = mskN 54 (kp.take j) ++ [x ^^^ 54] := fun _ => by rw [take_snoc hx, mskN_snoc]
        have H9 : Unit → mskN 92 (kp.take (j + 1)) = mskN 92 (kp.take j) ++ [x ^^^ 92] := fun _ => by rw [take_snoc hx, mskN_snoc]
        have hl5 : (mskN 54 (kp.take j)).length ≤ 50000 := by rw [mskN_len, List.length_take]; omega
        have hl9 : (mskN 92 (kp.take j)).length ≤ 50000 := by rw [mskN_len, List.length_take]; omega
        have hx5 : bits .xor .u8 (x : Int) 54 = ((x ^^^ 54 : Nat) : Int) := b8_xor ux (show (54 : Nat) < 256 by omega)
        have hx9 : bits .xor .u8 (x : Int) 92 = ((x ^^^ 92 : Nat) : Int) := b8_xor ux (show (92 : Nat) < 256 by omega)
        generalize mskN 54 (kp.take j) = m5 at *
        generalize mskN 92 (kp.take j) = m9 at *
        clear hx ux
        go_upto_if 24 with fail
        go_cut [9] (fun s9 wx => s9 = .int .u8 (x : Int) ∧ wx = wr)
        case first =>
          by_cases hjk : j < k'.length
          · obtain ⟨g, o, rfl, hcl⟩ := Hk' () (by intro e; rw [e] at hjk; simp at hjk)
            have hxx := Hx ()
            rw [dif_pos hjk] at hxx
            have cx : wr.cell? ⟨g, o + j, none⟩ = some (.int .u8 (x : Int)) := by
              have h0 := hcl j (v8 x) (by rw [List.getElem?_map, List.getElem?_eq_getElem hjk, hxx]; rfl)
              rw [hb.cell (World.block_lt_of_cell? Wl _ h0)]; exact h0
            have hjki : (j : Int) < (k'.length : Int) := by omega
            clear hcl hxx
            go_wp2_with fail
            go_meet
            exact ⟨rfl, rfl⟩
          · have hxx := Hx ()
            rw [dif_neg hjk] at hxx
            have hjki : ¬ (j : Int) < (k'.length : Int) := by omega
            have HX : Unit → x = 0 := fun _ => hxx.symm
            clear hxx
            go_wp2_with fail
            go_meet
            exact ⟨by rw [HX ()]; rfl, rfl⟩
        case rest =>
          obtain ⟨rfl, rfl⟩ := hcut
          clear Hx
          go_upto_region 12 with (at_builtin; refine list_two Wl.heap.size _ _ m5 m9 tw (x ^^^ 54) _ rfl hl5 _ _ rfl rfl rfl rfl ?_)
          intro vi' w1 tw1 hb1
          rw [← H5 ()] at tw1
          replace hb := hb.trans hb1
          clear tw hb1 H5
          go_wp2_with (at_builtin; refine list_two Wl.heap.size _ _ m9 _ tw1.swap (x ^^^ 92) _ rfl hl9 _ _ rfl rfl rfl rfl ?_)
          intro vo' w2 tw2 hb2
          rw [← H9 ()] at tw2
          replace hb := hb.trans hb2
          replace tw2 := tw2.swap
          clear tw1 hb2 H9
          go_wp2_with fail
          go_roundw
          case rel => exact ⟨j + 1, by omega, by simp, tw2, hb⟩
          case measure => simp [intOf]; omega
      · obtain rfl : j = 64 := by omega
        have hni : ¬ ((64 : Nat) : Int) < 64 := by omega
        have htk : kp.take 64 = kp := List.take_of_length_le (by omega)
        rw [htk] at tw
        have u5 := mskN_u (show U8 54 from (show 54 < 256 by omega)) ukp
        have u9 := mskN_u (show U8 92 from (show 92 < 256 by omega)) ukp
        have h5l : (mskN 54 kp).length = 64 := by rw [mskN_len, hkl]
        have h9l : (mskN 92 kp).length = 64 := by rw [mskN_len, hkl]
        clear Hat Hk' htk hj hlt
        generalize mskN 54 kp = m5 at *
        generalize mskN 92 kp = m9 at *
        have hSz := tw.2.2.2
        go_wp2_with (at_builtin; refine list_own_bytes Wl.heap.size _ _ m5 b tw.1 (hu'.keep hb) (by omega) hSz _ _ rfl rfl rfl rfl ?_)
        intro v1 w1 h1 h2
        have hb1 := below_app hb tw.1 (Nat.le_refl _) hSz h2
        have o9 := tw.2.1.kept h2 (by
          rcases hw : u7.ownBlock with _ | g'
          · exact .inl rfl
          · exact .inr (fun e => tw.2.2.1 g' e.symm hw))
        have hy := bytes_of_own (xs := m5 ++ b) (by rw [List.length_append, List.map_append, h5l]; exact h1)
        have hl5 : (m5 ++ b).length ≤ 1000 := by rw [List.length_append, h5l]; omega
        have K1 := Lib.hid (rof_any _ (m5 ++ b) w1 hy (u8_app u5 ub) hl5)
        have hil := shaN_len (m5 ++ b)
        have uin := shaN_u (m5 ++ b)
        generalize shaN (m5 ++ b) = I at *
        have hs : (I.map v8).length = 32 := by rw [List.length_map, hil]
        have ho := one8 I
        clear h1 h2 tw hy hl5 hb
        go_wp2_with fail
        refine (K1.out).mono ?_
        rintro e w2 ⟨rfl, hb2⟩
        clear K1
        replace o9 := own_below o9 hb2
        replace hb1 := hb1.trans (hb2.mono hb1.size)
        clear hb2
        go_upto_region 14 with (refine store_arr w2.heap.size 25 ((zs 32).map v8) (Rw.new w2 25 ((zs 32).map v8)) 32 rfl 25 (by kernel_rfl) _ hs ho _ _ rfl rfl rfl rfl ?_)
        rw [World.setRow_alloc_new]
        have r2 := Rw.new w2 25 (I.map v8)
        replace o9 := World.ownsRow.alloc o9 (.cells (I.map v8).toArray 25)
        replace hb1 := hb1.alloc hb1.size (.cells (I.map v8).toArray 25)
        generalize w2.alloc (.cells (I.map v8).toArray 25) = W2 at *
        generalize w2.heap.size = D at *
        generalize (I.map v8).toArray = IA
        have hca := cut_all (P := Tryd.prog) 25 5 32 D (by kernel_rfl) (by kernel_rfl)
        have hby := r2.bytes 32 (by omega)
        rw [hil] at hby
        clear hs ho r2
        simp only [Act.put]
        go_wp2_with (at_builtin; refine list_own_bytes Wl.heap.size _ _ m9 I o9 hby (by omega) hb1.size _ _ rfl rfl rfl rfl ?_)
        intro v3 w3 h1 h2
        have hb3 := below_app hb1 o9 (Nat.le_refl _) hb1.size h2
        have hy := bytes_of_own (xs := m9 ++ I) (by rw [List.length_append, List.map_append, h9l, hil]; exact h1)
        have hl5 : (m9 ++ I).length ≤ 1000 := by rw [List.length_append, h9l, hil]; omega
        have K1 := Lib.hid (rof_any _ (m9 ++ I) w3 hy (u8_app u9 uin) hl5)
        clear h1 h2 hy hl5 hb1 o9 hby hca
        have hol := shaN_len (m9 ++ I)
        have hs : ((shaN (m9 ++ I)).map v8).length = 32 := by rw [List.length_map, hol]
        have ho := one8 (shaN (m9 ++ I))
        have Hcs : Unit → (sealN k b).map v8 = (shaN (m9 ++ I)).map v8 := fun _ => by rw [Hseal ()]
        generalize (shaN (m9 ++ I)).map v8 = cs at *
        clear Hseal hol
        go_wp2_with fail
        refine (K1.out).mono ?_
        rintro e w4 ⟨rfl, hb4⟩
        clear K1
        replace hb3 := hb3.trans (hb4.mono hb3.size)
        replace r0 := r0.keep hb3
        replace hB := hB.trans (hb3.mono hB.size)
        have hZl := HZ ()
        clear hb3 hb4
        go_wp2_with (refine store_arr _ _ _ r0 32 hZl 25 (by kernel_rfl) cs hs ho _ _ rfl rfl rfl rfl ?_)
        refine ret_arr w.heap.size 25 cs (r0.row cs) 32 hs 5 (by kernel_rfl) (by kernel_rfl) (by rfl) rfl rfl ?_
        exact ⟨by rw [Hcs ()], below_setRow hB (Nat.le_refl _) _⟩
end Go.Proofs.YtidiallphmocdaaDoor
