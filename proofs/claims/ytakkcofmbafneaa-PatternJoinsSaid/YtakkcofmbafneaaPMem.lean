/- A set of bytes in memory: bytes are added, it is turned, it is compared, its least byte is found. -/
import Derived.Test.YtakkcofmbafneaaPBase
import Derived.Test.YtakkcofmbafneaaPSet
import Derived.Test.YtakkcofmbafneaaLoose
namespace Go.Proofs.Ytakkcofmbafneaa
open Go.ChangeShapes Go.WideShapes Go.RowKit

set_option maxHeartbeats 800000 in
theorem plus_any (g : Nat) (t : TypeId) (p : UInt8 → Bool) (f l : UInt8) (w : World) (h : Rw w g t (setRow p)) :
    Calls Try.prog 50 #[.pointer (some ⟨g, 0, none⟩), .int .u8 (f.toNat : Int), .int .u8 (l.toNat : Int)] w fun e w' => e = .returned (.tuple #[]) ∧
      Rw w' g t (setRow fun x => p x || (decide (f ≤ x) && decide (x ≤ l))) ∧ Asd (· = g) w w' := by
  have hf := f.toNat_lt
  have hl := l.toNat_lt
  have h0 := h
  rw [← upto_start p f] at h0
  go_enter Try.func50, Try.ntmps50
  go_wp2_with fail
  go_loopw [6] (fun i wr => ∃ k : Nat, f.toNat ≤ k ∧ k < 257 ∧ (k = f.toNat ∨ k ≤ l.toNat + 1) ∧ i = .int .i64 (k : Int) ∧ Rw wr g t (setRow (upto p f k)) ∧ Asd (· = g) w wr) (fun i _ => l.toNat + 1 - (intOf i).toNat)
  case atStart => exact ⟨f.toNat, by omega, by omega, .inl rfl, rfl, h0, Asd.refl _ _⟩
  case round =>
    obtain ⟨k, hk0, hk, hk1, rfl, q, qA⟩ := hrel
    by_cases hlt : k ≤ l.toNat
    · have hc := (q.cell k).trans (setRow_get _ (by omega))
      have hfz := q.frozen k
      go_wp2_with fail
      go_roundw
      case rel =>
        refine ⟨k + 1, by omega, by omega, .inr (by omega), by go_num, ?_, qA.set1 _ _⟩
        have := q.setCell k (.bool true)
        rw [setRow_set _ (by omega), upto_step p f hk0 (by omega)] at this
        exact this
      case measure => simp [intOf]; omega
    · have he : upto p f k = fun x => p x || (decide (f ≤ x) && decide (x ≤ l)) := by
        rcases hk1 with rfl | hk1
        · rw [upto_start, upto_void p (by rw [UInt8.lt_iff_toNat_lt]; omega)]
        · obtain rfl : k = l.toNat + 1 := by omega
          exact upto_end p f l
      rw [he] at q
      have hnot : ¬ ((k : Int) ≤ (l.toNat : Int)) := by omega
      go_wp2_with fail
      refine bodyPost_end (results_none (by kernel_rfl) _ _ _) rfl ?_
      exact ⟨rfl, q, qA⟩
set_option maxHeartbeats 800000 in
set_option maxRecDepth 20000 in
theorem invert_any (g : Nat) (t : TypeId) (p : UInt8 → Bool) (w : World) (h : Rw w g t (setRow p)) :
    Calls Try.prog 48 #[.pointer (some ⟨g, 0, none⟩)] w fun e w' => e = .returned (.tuple #[]) ∧ Rw w' g t (setRow fun x => !p x) ∧ Asd (· = g) w w' := by
  have h0 := h
  rw [← turnd_start p] at h0
  go_enter Try.func48, Try.ntmps48
  go_wp2_with fail
  go_loopw [3] (fun i wr => ∃ k : Nat, k ≤ 256 ∧ i = .int .i64 (k : Int) ∧ Rw wr g t (setRow (turnd p k)) ∧ Asd (· = g) w wr) (fun i _ => 256 - (intOf i).toNat)
  case atStart => exact ⟨0, by omega, rfl, h0, Asd.refl _ _⟩
  case round =>
    obtain ⟨k, hk, rfl, q, qA⟩ := hrel
    by_cases hlt : k < 256
    · have hc := (q.cell k).trans (setRow_get (turnd p k) hlt)
      rw [turnd_get p hlt] at hc
      have hfz := q.frozen k
      go_upto_region 3 with fail
      refine region_loose (fun _ w' => Asd (fun _ => False) wr w' ∧ w'.cell? ⟨g, k, none⟩ = some (.bool (p (UInt8.ofNat k)))) 10 10 1 #[true, true, true, true, true, true, true, true, true, true, false] rfl (by kernel_rfl) (by kernel_rfl) (by kernel_rfl) (⟨(Asd.refl _ _).drew, hc⟩) ?_
      simp only [List.take_succ_cons, List.take_zero]
      repeat
        first
        | (refine loose_val (by decide) rfl ?_
           apply Exists.intro
           refine ⟨fun L' w' hw' => ?_, ?_⟩
           · obtain ⟨_, e0⟩ := hw'
             go_simp
             first | done | rfl | exact ⟨rfl, rfl⟩
           simp only [Act.put, List.setIfInBounds_toArray, List.set_cons_zero, List.set_cons_succ])
        | (refine loose_call (by decide) rfl ?_
           apply Exists.intro
           apply Exists.intro
           refine ⟨fun w' => ?_, ?_⟩
           · go_simp
             first | done | rfl | exact ⟨rfl, rfl⟩
           apply Exists.intro
           refine ⟨fun L' w' hw' => ?_, ?_⟩
           · first
             | fail
           simp only [Act.put, List.setIfInBounds_toArray, List.set_cons_zero, List.set_cons_succ])
        | (refine loose_new (by decide) rfl (fun L' w' hw' => ?_) (fun v => ?_)
           · fail
           simp only [Act.put, List.setIfInBounds_toArray, List.set_cons_zero, List.set_cons_succ])
      intro w5 hw5
      obtain ⟨hA, hc5⟩ := hw5
      have q5 := q.keep hA (fun h => h)
      have hfz5 := q5.frozen k
      refine wpAny_ready (rs := [10]) (by kernel_rfl) (by simp) ?_
      refine AllReady.cons rfl (fun K hK => ?_) AllReady.nil
      go_simp
      refine hK _ _ ?_
      clear hK K
      refine wpAny_done (by kernel_rfl) ?_ _
      go_wp2_with fail
      go_roundw
      case rel =>
        refine ⟨k + 1, by omega, by go_num, ?_, (qA.trans (hA.any (S' := (· = g)) (fun _ h => h.elim)) (fun _ h _ => h)).set1 _ _⟩
        have := q5.setCell k (.bool (!p (UInt8.ofNat k)))
        rw [setRow_set _ hlt, turnd_step p hlt] at this
        exact this
      case measure => simp [intOf]; omega
    · have e : turnd p k = fun x => !p x := by rw [show k = 256 by omega]; exact turnd_end p
      rw [e] at q
      have hnot : ¬ ((k : Int) < 256) := by omega
      go_wp2_with fail
      refine bodyPost_end (results_none (by kernel_rfl) _ _ _) rfl ?_
      exact ⟨rfl, q, qA⟩
/-- A set lies in block g from place o on. -/
def SetAt (w : World) (g o : Nat) (p : UInt8 → Bool) : Prop := ∀ i, i < 256 → w.cell? ⟨g, o + i, none⟩ = some (.bool (p (UInt8.ofNat i)))
set_option maxHeartbeats 800000 in
theorem first_any (g o : Nat) (p : UInt8 → Bool) (hp : p ≠ noSet) (w : World) (h : SetAt w g o p) :
    Calls Try.prog 37 #[.pointer (some ⟨g, o, none⟩)] w fun e w' => (∃ c : UInt8, FstB p c ∧ e = .returned (.int .u8 (c.toNat : Int))) ∧ w' = w := by
  go_enter Try.func37, Try.ntmps37
  go_wp2_with fail
  go_loopw [3] (fun i wr => ∃ k : Nat, k < 256 ∧ i = .int .i64 (k : Int) ∧ (∀ j, j < k → p (UInt8.ofNat j) = false) ∧ wr = w) (fun i _ => 256 - (intOf i).toNat)
  case atStart => exact ⟨0, by omega, rfl, fun j hj => by omega, rfl⟩
  case round =>
    obtain ⟨k, hk, rfl, hz, rfl⟩ := hrel
    have hc := h k hk
    cases hb : p (UInt8.ofNat k) with
    | true =>
      rw [hb] at hc
      go_wp2_with fail
      go_ret
      show (∃ c : UInt8, FstB p c ∧ Ending.returned (Value.int IntKind.u8 (k : Int)) = Ending.returned (Value.int IntKind.u8 (c.toNat : Int))) ∧ wr = wr
      refine ⟨⟨UInt8.ofNat k, first_there hk hz hb, ?_⟩, rfl⟩
      rw [show (UInt8.ofNat k).toNat = k by simp; omega]
    | false =>
      rw [hb] at hc
      have hk1 : k + 1 < 256 := first_less hp fun j hj => by
        by_cases e : j = k
        · rw [e]; exact hb
        · exact hz j (by omega)
      go_wp2_with fail
      go_roundw
      case rel =>
        refine ⟨k + 1, hk1, by go_num, fun j hj => ?_, trivial⟩
        by_cases e : j = k
        · rw [e]; exact hb
        · exact hz j (by omega)
      case measure => simp [intOf]; omega
end Go.Proofs.Ytakkcofmbafneaa
