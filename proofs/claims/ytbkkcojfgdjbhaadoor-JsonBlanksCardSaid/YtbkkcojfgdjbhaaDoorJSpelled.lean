/- Texts, however they are spelled: the law. -/
import Derived.Test.YtbkkcojfgdjbhaaDoorJLives
import Derived.Test.YtbkkcojfgdjbhaaDoorJSpell
import Derived.Test.YtbkkcojfgdjbhaaDoorJNumbers
import Derived.Test.YtbkkcojfgdjbhaaDoorClass
namespace Go.Proofs.YtbkkcojfgdjbhaaDoor
open Go.ChangeShapes Go.WideShapes Go.RowKit

theorem cut_mid (l : Bs) (k : IntKind) (a b : Nat) (hab : a ≤ b) (hb : b ≤ l.length) (i j : Int) (hi : i = (a : Int)) (hj : j = (b : Int)) (w : World) : (Instr.slice 9 (.string ⟨l.toArray⟩) (some (.int k i)) (some (.int k j)) none).run Tryd.prog w = .ok (.string ⟨((l.take b).drop a).toArray⟩) w := by
  subst hi hj
  have hs : (⟨l.toArray⟩ : ByteArray).size = l.length := by simp [ByteArray.size]
  simp [Instr.slice, run_underlying Tryd.underlying9, Instr.sliceBounds, run_sliceBound, hs, show (a : Int) ≤ (b : Int) by omega, show (b : Int) ≤ (l.length : Int) by omega]
  rw [extract_text]
theorem lo_sp (n : Nat) (h : n < 8) (i : Int) (hi : i = (n : Int)) (w : World) : (Instr.slice 9 (.string { data := #[48, 49, 50, 51, 52, 53, 54, 55] }) (some (.int .u8 i)) (some (.int .u8 (i + 1))) none).run Tryd.prog w = .ok (.string ⟨[(48 + n).toUInt8].toArray⟩) w := by
  have := cut_mid [48, 49, 50, 51, 52, 53, 54, 55] .u8 n (n + 1) (by omega) (by simp; omega) i (i + 1) hi (by omega) w
  rw [show ((([48, 49, 50, 51, 52, 53, 54, 55] : Bs).take (n + 1)).drop n) = [(48 + n).toUInt8] from ?_] at this
  · exact this
  · have : ∀ m : Fin 8, ((([48, 49, 50, 51, 52, 53, 54, 55] : Bs).take (m.val + 1)).drop m.val) = [(48 + m.val).toUInt8] := by decide
    exact this ⟨n, h⟩
theorem up_sp (n : Nat) (h : n < 16) (i : Int) (hi : i = (n : Int)) (w : World) : (Instr.slice 9 (.string { data := #[48, 49, 50, 51, 52, 53, 54, 55, 56, 57, 65, 66, 67, 68, 69, 70] }) (some (.int .u8 i)) (some (.int .u8 (i + 1))) none).run Tryd.prog w = .ok (.string ⟨[upD n].toArray⟩) w := by
  have := cut_mid [48, 49, 50, 51, 52, 53, 54, 55, 56, 57, 65, 66, 67, 68, 69, 70] .u8 n (n + 1) (by omega) (by simp; omega) i (i + 1) hi (by omega) w
  rw [show ((([48, 49, 50, 51, 52, 53, 54, 55, 56, 57, 65, 66, 67, 68, 69, 70] : Bs).take (n + 1)).drop n) = [upD n] from ?_] at this
  · exact this
  · have : ∀ m : Fin 16, ((([48, 49, 50, 51, 52, 53, 54, 55, 56, 57, 65, 66, 67, 68, 69, 70] : Bs).take (m.val + 1)).drop m.val) = [upD m.val] := by decide
    exact this ⟨n, h⟩
set_option maxHeartbeats 3200000 in
set_option maxRecDepth 100000 in
theorem spelled_any (l0 : Bs) (hl0 : l0.length ≤ 9223372036854775807) (w : World) (hE : Env w) :
    Calls Tryd.prog 10 #[.string ⟨l0.toArray⟩] w fun e w' => e = .returned (.bool true) ∧ Below w.heap.size w w' := by
  have hbig := hE.big
  have KL := Lib.hid (lives_any w hE)
  have hs0 : (⟨l0.toArray⟩ : ByteArray).size = l0.length := by simp [ByteArray.size]
  have hx : (⟨l0.toArray⟩ : ByteArray).extract 0 (min (l0.length : Int) 200).toNat = ⟨(l0.take 200).toArray⟩ := by
    rw [extract_text, List.drop_zero, show (min (l0.length : Int) 200).toNat = min l0.length 200 by omega]
    congr 2
    rw [Nat.min_comm, ← List.take_take, List.take_length]
  have hlen : (l0.take 200).length ≤ 200 := by rw [List.length_take]; omega
  go_enter Tryd.func10, Tryd.ntmps10
  go_wp2_with fail
  refine KL.out.mono ?_
  rintro e w1 ⟨rfl, hb1⟩
  clear KL
  go_upto_region 4 with fail
  generalize l0.take 200 = l at *
  clear hx hs0
  have hE1 := hE.keep (hb1.mono hbig)
  have K1 : Hid (Calls Tryd.prog 16 #[.agg #[.int .i64 4, .int .i64 0, .string ⟨l.toArray⟩, .slice none 0 0, .slice none 0 0]] w1 fun e w' => e = .returned (.bool (textOk l)) ∧ Below w1.heap.size w1 w') := by
    have := right_any (fun _ => False) 1 (cells5 4 0 l (.slice none 0 0) (.slice none 0 0)) (.mk 4 0 l [] []) w1 (JAt.leaf _ _ 0 4 0 l) hE1 ⟨by omega, by simp, by simp, by simp, by simp⟩
    rw [text_right] at this
    exact this
  have HT : Unit → ∀ (k : Nat) (c : UInt8), l[k]? = some c → ∀ w', (Instr.index 9 (.string ⟨l.toArray⟩) (.int .i64 (k : Int))).run Tryd.prog w' = .ok (.int .u8 (c.toNat : Int)) w' := fun _ k c h w' => at_text l k c h _ rfl w'
  have HC : Unit → ∀ (k : Nat) (c : UInt8), l[k]? = some c → ∀ w', (Instr.slice 9 (.string ⟨l.toArray⟩) (some (.int .i64 (k : Int))) (some (.int .i64 ((k : Int) + 1))) none).run Tryd.prog w' = .ok (.string ⟨[c].toArray⟩) w' := fun _ k c h w' => by
    have hlt := (List.getElem?_eq_some_iff.1 h).1
    have := cut_mid l .i64 k (k + 1) (by omega) (by omega) (k : Int) ((k : Int) + 1) rfl (by omega) w'
    rw [show (l.take (k + 1)).drop k = [c] by rw [List.take_add_one, h, List.drop_append_of_le_length (by rw [List.length_take]; omega), List.drop_eq_nil_of_le (by rw [List.length_take]; omega)]; rfl] at this
    exact this
  have hsz : (⟨l.toArray⟩ : ByteArray).size = l.length := by simp [ByteArray.size]
  have HR : Unit → textOk l = true → readN ([34] ++ l.flatMap spW ++ [34]) = (.mk 4 0 l [] [], 0) := fun _ h => read_spelled l h
  have hsp := sp_ge l
  have heq : ((⟨l.toArray⟩ : ByteArray).toList == (⟨l.toArray⟩ : ByteArray).toList) = true := by simp
  cases hto : textOk l with
  | false =>
    rw [hto] at K1
    go_wp2_with fail
    refine K1.out.mono ?_
    rintro e w2 ⟨rfl, hb2⟩
    clear K1
    go_wp2_with fail
    go_ret
    exact ⟨rfl, hb1.trans (hb2.mono hb1.size)⟩
  | true =>
    rw [hto] at K1
    have HR2 : Unit → readN ([34] ++ l.flatMap spW ++ [34]) = (.mk 4 0 l [] [], 0) := fun _ => HR () hto
    clear HR hto
    go_wp2_with fail
    refine K1.out.mono ?_
    rintro e w2 ⟨rfl, hb2⟩
    replace hb2 := hb1.trans (hb2.mono hb1.size)
    clear K1 hb1
    go_upto_region 8 with fail
    have hl200 := hlen
    go_loopw [3, 4] (fun v i wr => ∃ k : Nat, k ≤ l.length ∧ i = .int .i64 (k : Int) ∧ v = .string ⟨([34] ++ (l.take k).flatMap spW).toArray⟩ ∧ Below w2.heap.size w2 wr) (fun _ i _ => l.length - (intOf i).toNat)
    case atStart => exact ⟨0, by omega, rfl, rfl, Below.refl _ _⟩
    case round =>
      obtain ⟨k, hk, rfl, rfl, hbr⟩ := hrel
      by_cases hlt : k < l.length
      · obtain ⟨c, hc⟩ : ∃ c, l[k]? = some c := ⟨_, List.getElem?_eq_getElem hlt⟩
        have ht := HT () k c hc
        have hcu := HC () k c hc
        have Hn : Unit → [34] ++ (l.take (k + 1)).flatMap spW = ([34] ++ (l.take k).flatMap spW) ++ spW c := fun _ => by rw [sp_snoc l k c hc]; simp only [List.append_assoc]
        have hki : (k : Int) < (l.length : Int) := by omega
        have hc8 := c.toNat_lt
        have hcat := cat_text ([34] ++ (l.take k).flatMap spW)
        have hAl : ([34] ++ (l.take k).flatMap spW).length ≤ 1201 := by
          have h1 := (sp_ge (l.take k)).2
          have h2 : (l.take k).length ≤ l.length := by rw [List.length_take]; omega
          rw [List.length_append]
          simp only [List.length_cons, List.length_nil]
          omega
        clear HT HC hc
        generalize [34] ++ (l.take k).flatMap spW = A at *
        by_cases h2 : c.toNat < 128
        · have He : Unit → spW c = [92, 117, 48, 48, (48 + c.toNat / 16).toUInt8, upD (c.toNat % 16)] := fun _ => by unfold spW; rw [if_pos h2]
          have h2i : (c.toNat : Int) < 128 := by omega
          have d1 := lo_sp (c.toNat / 16) (by omega) ((c.toNat : Int) / 16) (by omega)
          have d2 := up_sp (c.toNat % 16) (by omega) ((c.toNat : Int) % 16) (by omega)
          obtain ⟨z, hz⟩ : ∃ z, z = (48 + c.toNat / 16).toUInt8 := ⟨_, rfl⟩
          obtain ⟨z2, hz2⟩ : ∃ z, z = upD (c.toNat % 16) := ⟨_, rfl⟩
          rw [← hz] at d1 He
          rw [← hz2] at d2 He
          have e1 : ({ data := #[92, 117, 48, 48] } : ByteArray) ++ { data := #[z] } = { data := #[92, 117, 48, 48, z] } := cat_text [92, 117, 48, 48] [z]
          have e2 : ({ data := #[92, 117, 48, 48, z] } : ByteArray) ++ { data := #[z2] } = { data := #[92, 117, 48, 48, z, z2] } := cat_text [92, 117, 48, 48, z] [z2]
          have e3 := hcat [92, 117, 48, 48, z, z2]
          have hw1 : IntKind.u8.wrap ((c.toNat : Int) / 16) = (c.toNat : Int) / 16 := by rw [IntKind.wrap_u8']; omega
          have hw2 : IntKind.u8.wrap ((c.toNat : Int) / 16 + 1) = (c.toNat : Int) / 16 + 1 := by rw [IntKind.wrap_u8']; omega
          have hw3 : IntKind.u8.wrap ((c.toNat : Int) % 16) = (c.toNat : Int) % 16 := by rw [IntKind.wrap_u8']; omega
          have hw4 : IntKind.u8.wrap ((c.toNat : Int) % 16 + 1) = (c.toNat : Int) % 16 + 1 := by rw [IntKind.wrap_u8']; omega
          have hw6 : (c.toNat : Int).tmod 16 = (c.toNat : Int) % 16 := Int.tmod_eq_emod_of_nonneg (by omega)
          have hA6 : ¬ 9223372036854775807 < A.length + 6 := by omega
          clear hz hz2 hcat hcu
          go_upto_region 12 with fail
          try simp only [List.append_eq, List.cons_append, List.nil_append]
          refine region_class (fun w' => Drew wr w') (by kernel_rfl) (by kernel_rfl) (⟨_, rfl⟩) ?_
          repeat
            first
            | go_big_quiet_skip
            | (go_big_quiet_want
               refine quiet_val ?_
               apply Exists.intro
               refine ⟨fun w' hw' => ?_, ?_⟩
               · obtain hhh := hw'
                 go_simp
                 first | done | rfl | exact ⟨rfl, rfl⟩
               simp only [Act.put, List.setIfInBounds_toArray, List.set_cons_zero, List.set_cons_succ]
               go_big_quiet_on)
            | (go_big_quiet_want
               refine quiet_call ?_
               apply Exists.intro
               apply Exists.intro
               refine ⟨fun w' => ?_, ?_⟩
               · go_simp
                 first | done | rfl | exact ⟨rfl, rfl⟩
               apply Exists.intro
               refine ⟨fun w' hw' => ?_, ?_⟩
               · first
                 | fail
               simp only [Act.put, List.setIfInBounds_toArray, List.set_cons_zero, List.set_cons_succ]
               go_big_quiet_on)
          refine wpQuiet_nil ?_
          intro w5 hw5
          replace hbr := hbr.trans (hw5.below.mono hbr.size)
          clear hw5 d1 d2 e1 e2 e3 ht hw1 hw2 hw3 hw4 hw6
          go_wp2_with fail
          go_roundw
          case rel => exact ⟨k + 1, by omega, by go_num, by rw [Hn (), He ()], hbr⟩
          case measure => simp [intOf]; omega
        · have He : Unit → spW c = [c] := fun _ => by unfold spW; rw [if_neg h2]
          have h2i : ¬ (c.toNat : Int) < 128 := by omega
          have hcc := hcat [c]
          clear hcat
          go_wp2_with fail
          go_roundw
          case rel => exact ⟨k + 1, by omega, by go_num, by rw [Hn (), He ()], hbr⟩
          case measure => simp [intOf]; omega
      · obtain rfl : k = l.length := by omega
        rw [List.take_length]
        have hcc := cat_text ([34] ++ l.flatMap spW) [34]
        have hAl : ([34] ++ l.flatMap spW).length ≤ 1201 := by
          rw [List.length_append]
          simp only [List.length_cons, List.length_nil]
          omega
        have hbw := hb2.trans (hbr.mono hb2.size)
        have K : Hid (Calls Tryd.prog 19 #[.string ⟨([34] ++ l.flatMap spW ++ [34]).toArray⟩] wr fun e w' => ∃ cs, e = .returned (.tuple #[.agg cs.toArray, .int .i64 0]) ∧ JAt (fun k => wr.heap.size ≤ k) w' 7 cs (.mk 4 0 l [] []) ∧ Below wr.heap.size wr w') := by
          have := read_any ([34] ++ l.flatMap spW ++ [34]) wr (hE.keep (hbw.mono hbig)) (by rw [List.length_append]; simp only [List.length_cons, List.length_nil]; omega)
          rw [HR2 ()] at this
          exact this
        clear HT HC HR2
        generalize [34] ++ l.flatMap spW = A at *
        go_wp2_with fail
        refine K.out.mono ?_
        rintro e w6 ⟨cs2, rfl, hJ2, hb6⟩
        obtain ⟨h52, ho2⟩ := hJ2.five
        have rN := Rw.new w6 29 zero5
        clear K hcc
        go_upto_region 15 with (refine store_arr w6.heap.size 29 zero5 rN 5 rfl 29 (by kernel_rfl) cs2 h52 ho2 _ _ rfl rfl rfl rfl ?_)
        rw [World.setRow_alloc_new]
        have rT := Rw.new w6 29 cs2
        have hb7 : Below w.heap.size w (w6.alloc (.cells cs2.toArray 29)) := (hbw.trans (hb6.mono hbw.size)).alloc (Nat.le_trans hbw.size hb6.size) _
        clear rN hb6
        generalize w6.alloc (.cells cs2.toArray 29) = w7 at *
        generalize w6.heap.size = T at *
        obtain ⟨kv, dv, rfl, _, _⟩ := hJ2
        have c0 := Rw.cell rT 0
        have c2 := Rw.cell rT 2
        change _ = some (Value.int .i64 4) at c0
        change _ = some (Value.string ⟨l.toArray⟩) at c2
        go_wp2_with fail
        go_ret
        exact ⟨rfl, hb7⟩
end Go.Proofs.YtbkkcojfgdjbhaaDoor
