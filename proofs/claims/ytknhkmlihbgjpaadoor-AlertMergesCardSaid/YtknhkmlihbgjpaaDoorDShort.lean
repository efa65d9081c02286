/- The first of a digest. -/
import Derived.Test.YtknhkmlihbgjpaaDoorDNow
import Derived.Laws.BytesArg
import Derived.Laws.AppendOwn
import Derived.Laws.StructEq
namespace Go.Proofs.YtknhkmlihbgjpaaDoor.Dg
open Go.ChangeShapes Go.WideShapes Go.RowKit

/-- The slice v holds the bytes b. -/
def BytesAt (w : World) (v : Value) (b : List Nat) : Prop := ∃ a cap, v = .slice a b.length cap ∧ b.length ≤ cap ∧ (b ≠ [] → ∃ g o, a = some ⟨g, o, none⟩ ∧ Cls w g o (b.map v8))
theorem BytesAt.keep {w w' : World} {v : Value} {b : List Nat} (h : BytesAt w v b) (hb : Below w.heap.size w w') : BytesAt w' v b := by
  obtain ⟨a, cap, e, hc, hk⟩ := h
  refine ⟨a, cap, e, hc, fun hn => ?_⟩
  obtain ⟨g, o, e2, hcl⟩ := hk hn
  exact ⟨g, o, e2, hcl.keep hb⟩
theorem Cls.lt {w : World} {g o : Nat} {b : List Nat} (h : Cls w g o (b.map v8)) (hn : b ≠ []) : g < w.heap.size := by
  cases b with
  | nil => exact absurd rfl hn
  | cons x b => exact World.block_lt_of_cell? w _ (h 0 _ rfl)

set_option maxHeartbeats 800000 in
set_option maxRecDepth 100000 in
theorem of_any (v : Value) (b : List Nat) (w : World) (ht : Tabs w) (hv : BytesAt w v b) (ub : ∀ x ∈ b, U8 x) (hl : b.length < 576460752303423488) :
    Calls Tryd.prog 70 #[v] w fun e w' => e = .returned (.agg ((shaN b).map v8).toArray) ∧ Below w.heap.size w w' := by
  obtain ⟨a, cap, rfl, hc, hk⟩ := hv
  go_enter Tryd.func70, Tryd.ntmps70
  go_upto_region 1 with fail
  have r0 := Rw.new w 90 ((zs 32).map v8)
  have hB := (Below.refl _ w).alloc (Nat.le_refl _) (.cells ((zs 32).map v8).toArray 90)
  change Code.wp _ _ _ _ (w.alloc (.cells ((zs 32).map v8).toArray 90))
  generalize w.alloc (.cells ((zs 32).map v8).toArray 90) = W at *
  have hN := r0.lt
  go_wp2_with fail
  refine (new_any _).mono ?_
  rintro e w1 ⟨rfl, rfl⟩
  replace r0 := r0.past (.cells zsum.toArray 150)
  have r1 := Rw.new W 150 zsum
  replace hB := hB.alloc hB.size (.cells zsum.toArray 150)
  generalize W.alloc (.cells zsum.toArray 150) = W1 at *
  generalize W.heap.size = S at *
  have htl := ht.lt
  have ht1 := ht.keep hB
  go_wp2_with fail
  refine (add_bytes S (List.replicate 8 0) (List.replicate 64 0) [] b a cap W1 ht1 (by omega) (by omega) r1 rfl rfl (fun h => absurd rfl h) (rep_u8 64) ub hc (by simp; omega) (fun hn => ?_)).mono ?_
  · obtain ⟨g, o, e, hcl⟩ := hk hn
    exact ⟨g, o, e, by have := hcl.lt hn; omega, hcl.keep hB⟩
  rintro e w2 ⟨rfl, ws', bf', cs, k1, k2, k3, k4⟩
  have hN1 := r0.lt
  replace r0 := rw_below (r0.rowOther (by omega) cs) hN1 k4
  replace hB := (below_setRow hB (g := S) (by omega) cs).trans (k4.mono (by omega))
  have ht2 := ht.keep hB
  rw [List.nil_append] at k1 k2
  have hp : PtrAt w2 (some ⟨S, 0, none⟩) b := .inr ⟨S, ws', bf', rfl, k1, k2.ulen, k2.len, fun _ => k2, k3⟩
  clear k1 k2 k3 k4 r1 hk
  go_wp2_with fail
  refine (now_any _ b _ ht2 hp hl ub).mono ?_
  rintro e w3 ⟨rfl, hb3⟩
  replace r0 := r0.keep hb3
  replace hB := hB.trans (hb3.mono hB.size)
  have hs : ((shaN b).map v8).length = 32 := by rw [List.length_map, shaN_len]
  have hz : ((zs 32).map v8).length = 32 := by rw [List.length_map, zs_len]
  have h1 := one8 (shaN b)
  generalize hcs : (shaN b).map v8 = cs2 at *
  have Hcs : Unit → (shaN b).map v8 = cs2 := fun _ => hcs
  clear hcs ht2 hp hb3
  go_wp2_with (refine store_arr _ _ _ r0 32 hz 90 (by kernel_rfl) cs2 hs h1 _ _ rfl rfl rfl rfl ?_)
  refine ret_arr w.heap.size 90 cs2 (r0.row cs2) 32 hs 5 (by kernel_rfl) (by kernel_rfl) (by rfl) rfl rfl ?_
  exact ⟨by rw [Hcs ()], below_setRow hB (Nat.le_refl _) _⟩

theorem dg_u {ws : List Nat} (h : ∀ x ∈ ws, U32 x) (k : Nat) : ∀ x ∈ dg ws k, U8 x := by
  induction k with
  | zero => exact zs_u 32
  | succ k ih => exact put4L_u ih _ (u32_get h k)
theorem shaN_u (l : List Nat) : ∀ x ∈ shaN l, U8 x := dg_u (hsN_u _ _) 8
theorem Rw.bytes {w : World} {g : Nat} {t : TypeId} {xs : List Nat} (h : Rw w g t (xs.map v8)) (cap : Nat) (hc : xs.length ≤ cap) : BytesAt w (.slice (some ⟨g, 0, none⟩) xs.length cap) xs :=
  ⟨_, cap, rfl, hc, fun _ => ⟨g, 0, rfl, Rw.cls h 0 _ (fun j v hv => by rw [Nat.zero_add]; exact hv)⟩⟩

/-- The first eight bytes of a digest, as a number. -/
def n8 (s : List Nat) : Nat := wd (s[0]?.getD 0) (s[1]?.getD 0) (s[2]?.getD 0) (s[3]?.getD 0) * 4294967296 + wd (s[4]?.getD 0) (s[5]?.getD 0) (s[6]?.getD 0) (s[7]?.getD 0)
set_option maxHeartbeats 800000 in
set_option maxRecDepth 100000 in
theorem short_any (v : Value) (b : List Nat) (w : World) (ht : Tabs w) (hv : BytesAt w v b) (ub : ∀ x ∈ b, U8 x) (hl : b.length < 576460752303423488) :
    Calls Tryd.prog 47 #[v] w fun e w' => e = .returned (.int .u64 (n8 (shaN b) : Int)) ∧ Below w.heap.size w w' := by
  have hsl : (shaN b).length = 32 := shaN_len b
  have hsu := shaN_u b
  generalize hS : shaN b = S at *
  have HS : Unit → shaN b = S := fun _ => hS
  clear hS
  go_enter Tryd.func47, Tryd.ntmps47
  go_wp2_with fail
  refine (of_any _ b _ ht hv ub hl).mono ?_
  rintro e w1 ⟨rfl, hb1⟩
  rw [HS ()]
  have r0 := Rw.new w1 90 (S.map v8)
  have hB := hb1.alloc hb1.size (.cells (S.map v8).toArray 90)
  have hs : (S.map v8).length = 32 := by rw [List.length_map, hsl]
  have h1 := one8 S
  clear hb1 ht hv
  go_upto_region 2 with (refine store_arr w1.heap.size 90 ((zs 32).map v8) (Rw.new w1 90 ((zs 32).map v8)) 32 rfl 90 (by kernel_rfl) _ hs h1 _ _ rfl rfl rfl rfl ?_)
  rw [World.setRow_alloc_new]
  generalize w1.alloc (.cells (S.map v8).toArray 90) = W1 at *
  generalize w1.heap.size = D at *
  have hca := cut_all (P := Tryd.prog) 90 5 32 D (by kernel_rfl) (by kernel_rfl)
  have hcf := cut_from (P := Tryd.prog) 90 5 32 D 4 4 (by omega) (by omega) (by kernel_rfl) (by kernel_rfl)
  have F0 := r0.four 0 (by omega)
  have F4 := r0.four 4 (by omega)
  have K0 := Lib.hid (fun w' (h : Drew W1 w') => word_any D 0 32 32 (by omega) _ _ _ _ (u8_get hsu _) (u8_get hsu _) (u8_get hsu _) (u8_get hsu _) w' (F0.drew h))
  have K4 := Lib.hid (fun w' (h : Drew W1 w') => word_any D 4 28 28 (by omega) _ _ _ _ (u8_get hsu _) (u8_get hsu _) (u8_get hsu _) (u8_get hsu _) w' (F4.drew h))
  have hA := wd_u (u8_get hsu 0) (u8_get hsu (0 + 1)) (u8_get hsu (0 + 2)) (u8_get hsu (0 + 3))
  have hBu := wd_u (u8_get hsu 4) (u8_get hsu (4 + 1)) (u8_get hsu (4 + 2)) (u8_get hsu (4 + 3))
  have Hn : Unit → n8 S = wd (S[0]?.getD 0) (S[0 + 1]?.getD 0) (S[0 + 2]?.getD 0) (S[0 + 3]?.getD 0) * 4294967296 + wd (S[4]?.getD 0) (S[4 + 1]?.getD 0) (S[4 + 2]?.getD 0) (S[4 + 3]?.getD 0) := fun _ => rfl
  generalize wd (S[0]?.getD 0) (S[0 + 1]?.getD 0) (S[0 + 2]?.getD 0) (S[0 + 3]?.getD 0) = A at *
  generalize wd (S[4]?.getD 0) (S[4 + 1]?.getD 0) (S[4 + 2]?.getD 0) (S[4 + 3]?.getD 0) = B at *
  have a1 : IntKind.u64.wrap (A : Int) = (A : Int) := by unfold U32 at hA; simp [IntKind.wrap, IntKind.bits, IntKind.signed]; omega
  have b1 : IntKind.u64.wrap (B : Int) = (B : Int) := by unfold U32 at hBu; simp [IntKind.wrap, IntKind.bits, IntKind.signed]; omega
  have o1 : bits .or .u64 (IntKind.u64.wrap ((A : Int) * 4294967296)) (B : Int) = ((A * 4294967296 + B : Nat) : Int) := by
    unfold U32 at hA hBu
    rw [show IntKind.u64.wrap ((A : Int) * 4294967296) = ((A * 4294967296 : Nat) : Int) by simp [IntKind.wrap, IntKind.bits, IntKind.signed]; omega]
    rw [u64_or_nat _ _ (by omega) (by omega), nat_join 32 _ _ (by omega) (by omega)]
  clear F0 F4 hs h1 hA hBu
  simp only [Act.put]
  try simp only [List.append_eq, List.cons_append, List.nil_append]
  refine region_class (fun w' => Drew W1 w') (by kernel_rfl) (by kernel_rfl) (⟨_, rfl⟩) ?_
  repeat
    first
    | go_big_quiet_skip
    | (go_big_quiet_want
       refine quiet_val ?_
       apply Exists.intro
       refine ⟨fun w' hw' => ?_, ?_⟩
       · obtain hhh := hw'
         go_simp
         first | done | rfl | exact ⟨rfl, rfl⟩
       simp only [Act.put, List.setIfInBounds_toArray, List.set_cons_zero, List.set_cons_succ]
       go_big_quiet_on)
    | (go_big_quiet_want
       refine quiet_call ?_
       apply Exists.intro
       apply Exists.intro
       refine ⟨fun w' => ?_, ?_⟩
       · go_simp
         first | done | rfl | exact ⟨rfl, rfl⟩
       apply Exists.intro
       refine ⟨fun w' hw' => ?_, ?_⟩
       · first
         | (with_reducible refine (K0.out _ hw').mono ?_); (rintro e w2 ⟨rfl, hdd⟩; exact ⟨rfl, Drew.trans hw' hdd⟩)
         | (with_reducible refine (K4.out _ hw').mono ?_); (rintro e w2 ⟨rfl, hdd⟩; exact ⟨rfl, Drew.trans hw' hdd⟩)
       simp only [Act.put, List.setIfInBounds_toArray, List.set_cons_zero, List.set_cons_succ]
       go_big_quiet_on)
  refine wpQuiet_nil ?_
  intro w5 hw5
  go_wp2
  go_ret
  exact ⟨by rw [Hn ()]; rfl, hB.trans (hw5.below.mono hB.size)⟩
end Go.Proofs.YtknhkmlihbgjpaaDoor.Dg
