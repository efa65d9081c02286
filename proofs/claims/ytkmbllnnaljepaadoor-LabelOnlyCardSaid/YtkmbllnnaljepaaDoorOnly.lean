/- Texts that are read: the statement's own function returns true, of whatever text and byte. -/
import Derived.Test.YtkmbllnnaljepaaDoorLives
namespace Go.Proofs.YtkmbllnnaljepaaDoor
open Go.ChangeShapes Go.WideShapes Go.RowKit

set_option maxHeartbeats 1000000 in
set_option maxRecDepth 100000 in
theorem only_none (s0 p : ByteArray) (c : Int) (hp : s0.extract 0 (min (s0.size : Int) 200).toNat = p) (hs : s0.size ≤ maxLen) (hp2 : p.size ≤ 200) (hr : rdAll p.data.toList = none) (w : World) (he : Errs w) :
    Calls Tryd.prog 10 #[.string s0, .int .u8 c] w fun e w' => e = .returned (.bool true) ∧ Below w.heap.size w w' := by
  unfold maxLen at hs
  have Hr := Lib.hid hr
  clear hr
  go_enter Tryd.func10, Tryd.ntmps10
  go_wp2_with fail
  refine (lives_any _ he).mono ?_
  rintro e w1 ⟨rfl, hb⟩
  have he1 := he.keep hb
  go_wp2_with fail
  refine (read_any p (by omega) _ he1).mono ?_
  rintro e w2 ⟨rfl, hb2⟩
  have hB := hb.trans (hb2.mono hb.size)
  rw [Hr.out]
  simp only [labRet]
  clear hb hb2 he1
  go_wp2
  go_ret
  exact ⟨rfl, hB.alloc hB.size _⟩

/-- A text with a sign more is read as another label, or as none. -/
theorem read_more {p : List UInt8} {b : UInt8} {l k : Nat} (h : rdAll p = some (l, k)) : rdAll (p ++ [b]) ≠ some (l, k) := by
  intro h2
  have e1 := ((rdAll_some p l k).1 h).2.2
  have e2 := ((rdAll_some _ l k).1 h2).2.2
  rw [← e1] at e2
  have := congrArg List.length e2
  simp at this

theorem conv_one (b : UInt8) (W : World) : (convert 45 9 (.slice (some ⟨W.heap.size, 0, none⟩) 1 1)).run Tryd.prog (W.alloc (.cells #[.int .u8 (b.toNat : Int)] 5)) = .ok (.string ⟨#[b]⟩) (W.alloc (.cells #[.int .u8 (b.toNat : Int)] 5)) :=
  run_convert_bytes_back _ _ _ 5 ⟨W.heap.size, 0, none⟩ 1 [b] Tryd.underlying45 Tryd.underlying5 Tryd.underlying9 (fun j hj => by
    match j, hj with
    | 0, _ => exact (World.cell?_alloc_at _ _ _ _ rfl).trans rfl)

set_option maxHeartbeats 1000000 in
set_option maxRecDepth 100000 in
theorem only_some (s0 p : ByteArray) (b : UInt8) (hp : s0.extract 0 (min (s0.size : Int) 200).toNat = p) (hs : s0.size ≤ maxLen) (hp2 : p.size ≤ 200) (l k : Nat) (hr : rdAll p.data.toList = some (l, k)) (w : World) (he : Errs w) :
    Calls Tryd.prog 10 #[.string s0, .int .u8 (b.toNat : Int)] w fun e w' => e = .returned (.bool true) ∧ Below w.heap.size w w' := by
  unfold maxLen at hs
  have Hr := Lib.hid hr
  have Hm := Lib.hid (read_more (b := b) hr)
  obtain ⟨hl, hk, ht⟩ := (rdAll_some _ _ _).1 hr
  have Ht := Lib.hid (show (⟨(txtL l (tms (k : Int) 32)).toArray⟩ : ByteArray) = p by rw [← ht])
  obtain ⟨q, hq⟩ : ∃ q : ByteArray, p ++ (⟨#[b]⟩ : ByteArray) = q := ⟨_, rfl⟩
  have Hpb := Lib.hid (show q.data.toList = p.data.toList ++ [b] by rw [← hq]; simp)
  have hpb2 : q.size ≤ 1000000 := by
    rw [← hq, ByteArray.size_append]; show p.size + 1 ≤ _; omega
  have hpb3 : ¬ 9223372036854775807 < p.size + 1 := by omega
  clear hr ht
  have hrl : rB (l : Int) = true := rB_true.2 (by omega)
  have hcv := conv_one b
  go_enter Tryd.func10, Tryd.ntmps10
  go_wp2_with fail
  refine (lives_any _ he).mono ?_
  rintro e w1 ⟨rfl, hb⟩
  have he1 := he.keep hb
  go_wp2_with fail
  refine (read_any p (by omega) _ he1).mono ?_
  rintro e w2 ⟨rfl, hb2⟩
  have he2 := he1.keep hb2
  have hB := hb.trans (hb2.mono hb.size)
  rw [Hr.out]
  simp only [labRet]
  clear hb hb2 he1 hp
  go_wp2_with fail
  refine (text_right l k hrl (by omega) (by omega) _).mono ?_
  rintro e w3 ⟨rfl, hb3⟩
  rw [show (l : Int).toNat = l from Int.toNat_natCast l, Ht.out]
  have hA := (LabAt.one w2 l k).keep hb3
  have he3 := (he2.keep ((Below.refl _ _).alloc (Nat.le_refl _) (.cells #[.int .i64 (l : Int), .int .u32 (k : Int)] 24))).keep hb3
  have hB3 := (hB.alloc hB.size (.cells #[.int .i64 (l : Int), .int .u32 (k : Int)] 24)).trans (hb3.mono (by have := hB.size; simp; omega))
  clear hb3 he2 hB
  go_wp2_with fail
  have he4 := he3.keep ((Below.refl _ _).alloc (Nat.le_refl _) (.cells #[.int .u8 (b.toNat : Int)] 5))
  have hA4 := hA.later (.cells #[.int .u8 (b.toNat : Int)] 5)
  have hB4 := hB3.alloc hB3.size (.cells #[.int .u8 (b.toNat : Int)] 5)
  refine (read_any q hpb2 _ he4).mono ?_
  rintro e w5 ⟨rfl, hb5⟩
  have hA5 := hA4.keep hb5
  have hB5 := hB4.trans (hb5.mono hB4.size)
  rw [Hpb.out]
  clear hA hA4 hb5 he3 he4 hB3 hB4 hcv hq
  cases hr2 : rdAll (p.data.toList ++ [b]) with
  | none =>
    clear hr2
    simp only [labRet]
    obtain ⟨a0, a1⟩ := hA5.later (.cells #[.int .i64 0, .int .u32 0] 24)
    have hB6 := hB5.alloc hB5.size (.cells #[.int .i64 0, .int .u32 0] 24)
    clear hA5 hB5
    go_wp2_with fail
    refine (right_any _ _ _).mono ?_
    rintro e w7 ⟨rfl, hb7⟩
    have hB7 := hB6.trans (hb7.mono hB6.size)
    go_wp2
    go_ret
    exact ⟨rfl, hB7⟩
  | some lk =>
    obtain ⟨l', k'⟩ := lk
    have hne : ¬ (l = l' ∧ k = k') := by rintro ⟨rfl, rfl⟩; exact Hm.out hr2
    clear hr2
    simp only [labRet]
    obtain ⟨a0, a1⟩ := hA5.later (.cells #[.int .i64 (l' : Int), .int .u32 (k' : Int)] 24)
    have hB6 := hB5.alloc hB5.size (.cells #[.int .i64 (l' : Int), .int .u32 (k' : Int)] 24)
    clear hA5 hB5
    go_wp2_with fail
    refine (right_any _ _ _).mono ?_
    rintro e w7 ⟨rfl, hb7⟩
    have hB7 := hB6.trans (hb7.mono hB6.size)
    obtain ⟨c0, c1⟩ := (LabAt.one w5 (l' : Int) (k' : Int)).keep hb7
    obtain ⟨d0, d1⟩ := (show LabAt _ w2.heap.size (l : Int) (k : Int) from ⟨a0, a1⟩).keep hb7
    clear a0 a1 hb7 hB6
    go_wp2
    all_goals go_ret
    all_goals exact ⟨rfl, hB7⟩

theorem take_size (s0 : ByteArray) : (s0.extract 0 (min (s0.size : Int) 200).toNat).size ≤ 200 := by
  rw [ByteArray.size_extract]; omega
theorem only_any (s0 : ByteArray) (c : Int) (hc0 : 0 ≤ c) (hc1 : c < 256) (hs : s0.size ≤ maxLen) (w : World) (he : Errs w) :
    Calls Tryd.prog 10 #[.string s0, .int .u8 c] w fun e w' => e = .returned (.bool true) ∧ Below w.heap.size w w' := by
  cases hr : rdAll (s0.extract 0 (min (s0.size : Int) 200).toNat).data.toList with
  | none => exact only_none s0 _ c rfl hs (take_size s0) hr w he
  | some lk =>
    obtain ⟨n, rfl⟩ := Int.eq_ofNat_of_zero_le hc0
    have e : (n : Int) = ((UInt8.ofNat n).toNat : Int) := by simp; omega
    rw [e]
    exact only_some s0 _ (UInt8.ofNat n) rfl hs (take_size s0) lk.1 lk.2 hr w he
end Go.Proofs.YtkmbllnnaljepaaDoor
