/- The document's own Hex: what it returns. -/
import Derived.Test.YtlhgpnkhfahlbaaDoorBytes
import Derived.Laws.Strings2
import Derived.Laws.Concat
namespace Go.Proofs.YtlhgpnkhfahlbaaDoor
open Go.ChangeShapes Go.WideShapes Go.RowKit

/-- A sign as a text of its own. -/
def one (d : Nat) : ByteArray := bs [hd d]
theorem one_tab (d : Nat) (h : d < 16) : (⟨#[48, 49, 50, 51, 52, 53, 54, 55, 56, 57, 97, 98, 99, 100, 101, 102]⟩ : ByteArray).extract d (d + 1) = one d := by
  match d, h with
  | 0, _ => rfl
  | 1, _ => rfl
  | 2, _ => rfl
  | 3, _ => rfl
  | 4, _ => rfl
  | 5, _ => rfl
  | 6, _ => rfl
  | 7, _ => rfl
  | 8, _ => rfl
  | 9, _ => rfl
  | 10, _ => rfl
  | 11, _ => rfl
  | 12, _ => rfl
  | 13, _ => rfl
  | 14, _ => rfl
  | 15, _ => rfl
  | n + 16, h => exact absurd h (by omega)
theorem cut_one (d : Nat) (h : d < 16) (i j : Int) (hi : i = (d : Int)) (hj : j = (d : Int) + 1) (w : World) :
    (Instr.slice 9 (.string ⟨#[48, 49, 50, 51, 52, 53, 54, 55, 56, 57, 97, 98, 99, 100, 101, 102]⟩) (some (.int .u8 i)) (some (.int .u8 j)) none).run Tryd.prog w = .ok (.string (one d)) w := by
  subst hi hj
  have e4 : ((d : Int) + 1).toNat = d + 1 := by omega
  have hs : (⟨#[48, 49, 50, 51, 52, 53, 54, 55, 56, 57, 97, 98, 99, 100, 101, 102]⟩ : ByteArray).size = 16 := rfl
  have e2 : (d : Int) + 1 ≤ ((⟨#[48, 49, 50, 51, 52, 53, 54, 55, 56, 57, 97, 98, 99, 100, 101, 102]⟩ : ByteArray).size : Int) := by rw [hs]; omega
  rw [run_slice_string w _ _ _ _ _ _ (by kernel_rfl) (by omega) (by omega) e2, Int.toNat_natCast, e4, one_tab d h]
theorem bs_append (xs ys : List Nat) : bs (xs ++ ys) = bs xs ++ bs ys := by
  apply ByteArray.ext
  simp [bs]
theorem bs_size (xs : List Nat) : (bs xs).size = xs.length := by simp [bs, ByteArray.size]

set_option maxHeartbeats 800000 in
theorem rhex_any (v : Value) (b : List Nat) (w : World) (hv : BytesAt w v b) (ub : ∀ x ∈ b, U8 x) (hl : b.length ≤ 100000) :
    Calls Tryd.prog 16 #[v] w fun e w' => e = .returned (.string (bs (hexN b))) ∧ Below w.heap.size w w' := by
  obtain ⟨a, cap, rfl, hc, hk⟩ := hv
  have Hk : Unit → (b ≠ [] → ∃ g o, a = some ⟨g, o, none⟩ ∧ Cls w g o (b.map v8)) := fun _ => hk
  have H0 : Unit → bs (hexN (b.take 0)) = ⟨#[]⟩ := fun _ => rfl
  clear hk
  go_enter Tryd.func16, Tryd.ntmps16
  go_upto_region 3 with fail
  go_loopw [3, 4] (fun s i wr => ∃ k : Nat, k ≤ b.length ∧ i = .int .i64 (k : Int) ∧ s = .string (bs (hexN (b.take k))) ∧ Drew w wr) (fun _ i _ => b.length - (intOf i).toNat)
  case atStart => exact ⟨0, by omega, rfl, by rw [H0 ()], Drew.refl w⟩
  case round =>
    obtain ⟨k, hk, rfl, rfl, hd0⟩ := hrel
    by_cases hlt : k < b.length
    · obtain ⟨x, hx⟩ : ∃ x, b[k]? = some x := ⟨_, List.getElem?_eq_getElem hlt⟩
      obtain ⟨g, o, rfl, hcl⟩ := Hk () (by intro e; rw [e] at hlt; simp at hlt)
      have ux : x < 256 := ub x (List.mem_of_getElem? hx)
      have cx : wr.cell? ⟨g, o + k, none⟩ = some (.int .u8 (x : Int)) := by rw [hd0.cell]; exact hcl k (v8 x) (by simp [hx])
      have hkb : (k : Int) < (b.length : Int) := by omega
      obtain ⟨y, hy⟩ : ∃ y, y = x / 16 := ⟨_, rfl⟩
      obtain ⟨z, hz⟩ : ∃ z, z = x % 16 := ⟨_, rfl⟩
      have ey : (x : Int).tdiv 16 = (y : Int) := by rw [hy]; rfl
      have ez : (x : Int).tmod 16 = (z : Int) := by rw [hz]; rfl
      have ey' : (x : Int) / 16 = (y : Int) := by rw [hy]; rfl
      have ez' : (x : Int) % 16 = (z : Int) := by rw [hz]; rfl
      have wy : IntKind.u8.wrap (y : Int) = (y : Int) := by rw [IntKind.wrap_u8']; omega
      have wz : IntKind.u8.wrap (z : Int) = (z : Int) := by rw [IntKind.wrap_u8']; omega
      have wy1 : IntKind.u8.wrap ((y : Int) + 1) = (y : Int) + 1 := by rw [IntKind.wrap_u8']; omega
      have wz1 : IntKind.u8.wrap ((z : Int) + 1) = (z : Int) + 1 := by rw [IntKind.wrap_u8']; omega
      have k1 := cut_one y (by omega) (y : Int) ((y : Int) + 1) rfl rfl
      have k2 := cut_one z (by omega) (z : Int) ((z : Int) + 1) rfl rfl
      obtain ⟨p, hp⟩ : ∃ p, one y ++ one z = p := ⟨_, rfl⟩
      have c1 : ∀ w, (Op.stringOp .add (one y) (one z)).run Tryd.prog w = .ok (.string p) w := fun w => by rw [run_string_add_sum w _ _ (by rw [one, one, bs_size, bs_size]; simp), hp]
      have c2 : ∀ w, (Op.stringOp .add (bs (hexN (b.take k))) p).run Tryd.prog w = .ok (.string (bs (hexN (b.take (k + 1))))) w := fun w => by
        have hps : p.size = 2 := by rw [← hp, ByteArray.size_append, one, one, bs_size, bs_size]; rfl
        rw [run_string_add_sum w _ _ (by rw [bs_size, hexN_len, hps, List.length_take]; omega), List.take_add_one, hx, Option.toList_some, hexN_snoc, bs_append, ← hp, hy, hz]
        rfl
      clear hy hz hx hp
      generalize hS1 : bs (hexN (b.take (k + 1))) = S1 at *
      have HS1 : Unit → bs (hexN (b.take (k + 1))) = S1 := fun _ => hS1
      clear hS1
      generalize bs (hexN (b.take k)) = S0 at *
      go_upto_region 5 with fail
      try simp only [List.append_eq, List.cons_append, List.nil_append]
      refine region_class (fun w' => Drew wr w' ∧ w'.cell? ⟨g, o + k, none⟩ = some (.int .u8 (x : Int))) (by kernel_rfl) (by kernel_rfl) (⟨⟨_, rfl⟩, cx⟩) ?_
      repeat
        first
        | go_big_quiet_skip
        | (go_big_quiet_want
           refine quiet_val ?_
           apply Exists.intro
           refine ⟨fun w' hw' => ?_, ?_⟩
           · obtain ⟨_, e0⟩ := hw'
             go_simp
             first | done | rfl | exact ⟨rfl, rfl⟩
           simp only [Act.put, List.setIfInBounds_toArray, List.set_cons_zero, List.set_cons_succ]
           go_big_quiet_on)
        | (go_big_quiet_want
           refine quiet_call ?_
           apply Exists.intro
           apply Exists.intro
           refine ⟨fun w' => ?_, ?_⟩
           · go_simp
             first | done | rfl | exact ⟨rfl, rfl⟩
           apply Exists.intro
           refine ⟨fun w' hw' => ?_, ?_⟩
           · first
             | fail
           simp only [Act.put, List.setIfInBounds_toArray, List.set_cons_zero, List.set_cons_succ]
           go_big_quiet_on)
      refine wpQuiet_nil ?_
      intro w5 hw5
      obtain ⟨hd5, _⟩ := hw5
      replace hd0 := hd0.trans hd5
      clear hd5 cx
      go_upto_region 6 with fail
      try simp only [List.append_eq, List.cons_append, List.nil_append]
      refine region_class (fun w' => Drew w5 w') (by kernel_rfl) (by kernel_rfl) (⟨_, rfl⟩) ?_
      repeat
        first
        | go_big_quiet_skip
        | (go_big_quiet_want
           refine quiet_val ?_
           apply Exists.intro
           refine ⟨fun w' hw' => ?_, ?_⟩
           · obtain hhh := hw'
             go_simp
             first | done | rfl | exact ⟨rfl, rfl⟩
           simp only [Act.put, List.setIfInBounds_toArray, List.set_cons_zero, List.set_cons_succ]
           go_big_quiet_on)
        | (go_big_quiet_want
           refine quiet_call ?_
           apply Exists.intro
           apply Exists.intro
           refine ⟨fun w' => ?_, ?_⟩
           · go_simp
             first | done | rfl | exact ⟨rfl, rfl⟩
           apply Exists.intro
           refine ⟨fun w' hw' => ?_, ?_⟩
           · first
             | fail
           simp only [Act.put, List.setIfInBounds_toArray, List.set_cons_zero, List.set_cons_succ]
           go_big_quiet_on)
      refine wpQuiet_nil ?_
      intro w5 hw5
      replace hd0 := hd0.trans hw5
      clear hw5 k1 k2 c1 c2 ey ez ey' ez' wy wz wy1 wz1
      go_wp2_with fail
      go_roundw
      case rel => exact ⟨k + 1, by omega, by go_num, by rw [HS1 ()], hd0⟩
      case measure => simp [intOf]; omega
    · obtain rfl : k = b.length := by omega
      have hfin : Unit → bs (hexN (b.take b.length)) = bs (hexN b) := fun _ => by rw [List.take_length]
      rw [hfin ()]
      go_wp2_with fail
      go_ret
      exact ⟨rfl, hd0.below⟩
end Go.Proofs.YtlhgpnkhfahlbaaDoor
