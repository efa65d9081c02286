/- Two arrays of the same numbers are equal. -/
import Derived.Test.YtlhgpnkhfahlbaaDoorLives
import Derived.Laws.StructEq
namespace Go.Proofs.YtlhgpnkhfahlbaaDoor
open Go.ChangeShapes Go.WideShapes Go.RowKit

theorem run_forIn_same {P : Program} {w : World} {β : Type} (l : List Nat) (b : β) (f : Nat → β → Sem (ForInStep β)) (h : ∀ i ∈ l, (f i b).run P w = .ok (.yield b) w) : (forIn l b f).run P w = .ok b w := by
  induction l with
  | nil => simp
  | cons i l ih =>
    rw [List.forIn_cons, Sem.run_bind, h i (List.mem_cons_self ..)]
    simp only [Result.andThen_ok]
    exact ih (fun j hj => h j (List.mem_cons_of_mem _ hj))
theorem run_equal_array {P : Program} (w : World) (d : Nat) (t e : TypeId) (n : Nat) (kd : IntKind) (cs : List Value) (ht : P.underlying t = some (.array n e)) (he : P.underlying e = some (.int kd)) (hz : (P.info? e).map (·.size) = some 1) (hn : cs.length = n) (hi : ∀ v ∈ cs, ∃ k x, v = Value.int k x) :
    (Op.equalIn (d + 2) t (.agg cs.toArray) (.agg cs.toArray)).run P w = .ok true w := by
  have hz : ∀ w, (sizeOf e).run P w = .ok 1 w := fun w => by
    cases hq : P.info? e with
    | none => simp [hq] at hz
    | some i => simp [hq] at hz; simp [sizeOf, typeInfo, hq, hz]
  have ha : ∀ w, (isAgg e).run P w = .ok false w := fun w => by
    unfold isAgg
    rw [Sem.run_bind, run_underlying he w]
    simp
  unfold Op.equalIn
  simp only [Sem.run_bind, run_underlying ht, Result.andThen_ok, hz]
  rw [Std.Legacy.Range.forIn_eq_forIn_range', run_forIn_same]
  · simp
  · intro i hm
    have hlt : i < cs.length := by
      simp [List.mem_range'] at hm
      omega
    obtain ⟨k, x, hv⟩ := hi cs[i] (List.getElem_mem hlt)
    have hp : ∀ w, (part e cs.toArray (i * 1)).run P w = .ok (.int k x) w := fun w => by
      simp [part, ha, hlt, hv]
    simp only [Sem.run_bind, hp, Result.andThen_ok, run_equalIn_int _ d e k kd x x he]
    simp
theorem same_neq {P : Program} (t e : TypeId) (n : Nat) (kd : IntKind) (cs : List Value) (ht : P.underlying t = some (.array n e)) (he : P.underlying e = some (.int kd)) (hz : (P.info? e).map (·.size) = some 1) (hn : cs.length = n) (hi : ∀ v ∈ cs, ∃ k x, v = Value.int k x) (w : World) :
    (binOp .eql t (.agg cs.toArray) (.agg cs.toArray)).run P w = .ok (.bool true) w ∧ (binOp .neq t (.agg cs.toArray) (.agg cs.toArray)).run P w = .ok (.bool false) w := by
  have h := run_equal_array (P := P) w 9998 t e n kd cs ht he hz hn hi
  constructor
  · rw [run_eql_struct, h]; rfl
  · rw [run_neq_struct, h]; rfl
theorem ints8 (xs : List Nat) : ∀ v ∈ xs.map v8, ∃ k x, v = Value.int k x := by intro v hv; obtain ⟨x, _, rfl⟩ := List.mem_map.1 hv; exact ⟨_, _, rfl⟩
/-- A digest is that digest. -/
theorem same_sha (l : List Nat) (w : World) : (binOp .eql 25 (.agg ((shaN l).map v8).toArray) (.agg ((shaN l).map v8).toArray)).run Tryd.prog w = .ok (.bool true) w ∧ (binOp .neq 25 (.agg ((shaN l).map v8).toArray) (.agg ((shaN l).map v8).toArray)).run Tryd.prog w = .ok (.bool false) w :=
  same_neq 25 5 32 .u8 _ (by kernel_rfl) (by kernel_rfl) (by kernel_rfl) (by rw [List.length_map, shaN_len]) (ints8 _) w

/-- The first eight bytes of a digest, as a number. -/
def n8 (s : List Nat) : Nat := wd (s[0]?.getD 0) (s[1]?.getD 0) (s[2]?.getD 0) (s[3]?.getD 0) * 4294967296 + wd (s[4]?.getD 0) (s[5]?.getD 0) (s[6]?.getD 0) (s[7]?.getD 0)
set_option maxHeartbeats 800000 in
theorem short_any (v : Value) (b : List Nat) (w : World) (ht : Tabs w) (hv : BytesAt w v b) (ub : ∀ x ∈ b, U8 x) (hl : b.length < 576460752303423488) :
    Calls Tryd.prog 20 #[v] w fun e w' => e = .returned (.int .u64 (n8 (shaN b) : Int)) ∧ Below w.heap.size w w' := by
  have hsl : (shaN b).length = 32 := shaN_len b
  have hsu := shaN_u b
  generalize hS : shaN b = S at *
  have HS : Unit → shaN b = S := fun _ => hS
  clear hS
  go_enter Tryd.func20, Tryd.ntmps20
  go_wp2_with fail
  refine (of_any _ b _ ht hv ub hl).mono ?_
  rintro e w1 ⟨rfl, hb1⟩
  rw [HS ()]
  have r0 := Rw.new w1 25 (S.map v8)
  have hB := hb1.alloc hb1.size (.cells (S.map v8).toArray 25)
  have hs : (S.map v8).length = 32 := by rw [List.length_map, hsl]
  have h1 := one8 S
  clear hb1 ht hv
  go_upto_region 2 with (refine store_arr w1.heap.size 25 ((zs 32).map v8) (Rw.new w1 25 ((zs 32).map v8)) 32 rfl 25 (by kernel_rfl) _ hs h1 _ _ rfl rfl rfl rfl ?_)
  rw [World.setRow_alloc_new]
  generalize w1.alloc (.cells (S.map v8).toArray 25) = W1 at *
  generalize w1.heap.size = D at *
  have hca := cut_all (P := Tryd.prog) 25 5 32 D (by kernel_rfl) (by kernel_rfl)
  have hcf := cut_from (P := Tryd.prog) 25 5 32 D 4 4 (by omega) (by omega) (by kernel_rfl) (by kernel_rfl)
  have F0 := r0.four 0 (by omega)
  have F4 := r0.four 4 (by omega)
  have K0 := Lib.hid (fun w' (h : Drew W1 w') => word_any D 0 32 32 (by omega) _ _ _ _ (u8_get hsu _) (u8_get hsu _) (u8_get hsu _) (u8_get hsu _) w' (F0.drew h))
  have K4 := Lib.hid (fun w' (h : Drew W1 w') => word_any D 4 28 28 (by omega) _ _ _ _ (u8_get hsu _) (u8_get hsu _) (u8_get hsu _) (u8_get hsu _) w' (F4.drew h))
  have hA := wd_u (u8_get hsu 0) (u8_get hsu (0 + 1)) (u8_get hsu (0 + 2)) (u8_get hsu (0 + 3))
  have hBu := wd_u (u8_get hsu 4) (u8_get hsu (4 + 1)) (u8_get hsu (4 + 2)) (u8_get hsu (4 + 3))
  have Hn : Unit → n8 S = wd (S[0]?.getD 0) (S[0 + 1]?.getD 0) (S[0 + 2]?.getD 0) (S[0 + 3]?.getD 0) * 4294967296 + wd (S[4]?.getD 0) (S[4 + 1]?.getD 0) (S[4 + 2]?.getD 0) (S[4 + 3]?.getD 0) := fun _ => rfl
  generalize wd (S[0]?.getD 0) (S[0 + 1]?.getD 0) (S[0 + 2]?.getD 0) (S[0 + 3]?.getD 0) = A at *
  generalize wd (S[4]?.getD 0) (S[4 + 1]?.getD 0) (S[4 + 2]?.getD 0) (S[4 + 3]?.getD 0) = B at *
  have a1 : IntKind.u64.wrap (A : Int) = (A : Int) := by unfold U32 at hA; simp [IntKind.wrap, IntKind.bits, IntKind.signed]; omega
  have b1 : IntKind.u64.wrap (B : Int) = (B : Int) := by unfold U32 at hBu; simp [IntKind.wrap, IntKind.bits, IntKind.signed]; omega
  have o1 : bits .or .u64 (IntKind.u64.wrap ((A : Int) * 4294967296)) (B : Int) = ((A * 4294967296 + B : Nat) : Int) := by
    unfold U32 at hA hBu
    rw [show IntKind.u64.wrap ((A : Int) * 4294967296) = ((A * 4294967296 : Nat) : Int) by simp [IntKind.wrap, IntKind.bits, IntKind.signed]; omega]
    rw [u64_or_nat _ _ (by omega) (by omega), nat_join 32 _ _ (by omega) (by omega)]
  clear F0 F4 hs h1 hA hBu
  simp only [Act.put]
  try simp only [List.append_eq, List.cons_append, List.nil_append]
  refine region_class (fun w' => Drew W1 w') (by kernel_rfl) (by kernel_rfl) (⟨_, rfl⟩) ?_
  repeat
    first
    | go_big_quiet_skip
    | (go_big_quiet_want
       refine quiet_val ?_
       apply Exists.intro
       refine ⟨fun w' hw' => ?_, ?_⟩
       · obtain hhh := hw'
         go_simp
         first | done | rfl | exact ⟨rfl, rfl⟩
       simp only [Act.put, List.setIfInBounds_toArray, List.set_cons_zero, List.set_cons_succ]
       go_big_quiet_on)
    | (go_big_quiet_want
       refine quiet_call ?_
       apply Exists.intro
       apply Exists.intro
       refine ⟨fun w' => ?_, ?_⟩
       · go_simp
         first | done | rfl | exact ⟨rfl, rfl⟩
       apply Exists.intro
       refine ⟨fun w' hw' => ?_, ?_⟩
       · first
         | (with_reducible refine (K0.out _ hw').mono ?_); (rintro e w2 ⟨rfl, hdd⟩; exact ⟨rfl, Drew.trans hw' hdd⟩)
         | (with_reducible refine (K4.out _ hw').mono ?_); (rintro e w2 ⟨rfl, hdd⟩; exact ⟨rfl, Drew.trans hw' hdd⟩)
       simp only [Act.put, List.setIfInBounds_toArray, List.set_cons_zero, List.set_cons_succ]
       go_big_quiet_on)
  refine wpQuiet_nil ?_
  intro w5 hw5
  go_wp2
  go_ret
  exact ⟨by rw [Hn ()]; rfl, hB.trans (hw5.below.mono hB.size)⟩
end Go.Proofs.YtlhgpnkhfahlbaaDoor
