/- A set is turned by a deferred call. -/
import Derived.Test.YtakkcofmbafneaaPMem
import Derived.Defers
namespace Go.Proofs.Ytakkcofmbafneaa
open Go.ChangeShapes Go.WideShapes Go.RowKit

set_option maxHeartbeats 800000 in
set_option maxRecDepth 20000 in
theorem invert_d (u : FrameMode) (g : Nat) (t : TypeId) (p : UInt8 → Bool) (w : World) (h : Rw w g t (setRow p)) :
    CallsD Try.prog 48 #[.pointer (some ⟨g, 0, none⟩)] u w fun e u' w' => u' = u ∧ e = .returned (.tuple #[]) ∧ Rw w' g t (setRow fun x => !p x) ∧ Asd (· = g) w w' := by
  have h0 := h
  rw [← turnd_start p] at h0
  go_enter_d Try.func48, Try.ntmps48
  go_wp2_with fail
  go_loopw [3] (fun i wr => ∃ k : Nat, k ≤ 256 ∧ i = .int .i64 (k : Int) ∧ Rw wr g t (setRow (turnd p k)) ∧ Asd (· = g) w wr) (fun i _ => 256 - (intOf i).toNat)
  case atStart => exact ⟨0, by omega, rfl, h0, Asd.refl _ _⟩
  case round =>
    obtain ⟨k, hk, rfl, q, qA⟩ := hrel
    by_cases hlt : k < 256
    · have hc := (q.cell k).trans (setRow_get (turnd p k) hlt)
      rw [turnd_get p hlt] at hc
      have hfz := q.frozen k
      go_upto_region 3 with fail
      refine region_loose (fun _ w' => Asd (fun _ => False) wr w' ∧ w'.cell? ⟨g, k, none⟩ = some (.bool (p (UInt8.ofNat k)))) 10 10 1 #[true, true, true, true, true, true, true, true, true, true, false] rfl (by kernel_rfl) (by kernel_rfl) (by kernel_rfl) (⟨(Asd.refl _ _).drew, hc⟩) ?_
      simp only [List.take_succ_cons, List.take_zero]
      repeat
        first
        | (refine loose_val (by decide) rfl ?_
           apply Exists.intro
           refine ⟨fun L' w' hw' => ?_, ?_⟩
           · obtain ⟨_, e0⟩ := hw'
             go_simp
             first | done | rfl | exact ⟨rfl, rfl⟩
           simp only [Act.put, List.setIfInBounds_toArray, List.set_cons_zero, List.set_cons_succ])
        | (refine loose_call (by decide) rfl ?_
           apply Exists.intro
           apply Exists.intro
           refine ⟨fun w' => ?_, ?_⟩
           · go_simp
             first | done | rfl | exact ⟨rfl, rfl⟩
           apply Exists.intro
           refine ⟨fun L' w' hw' => ?_, ?_⟩
           · first
             | fail
           simp only [Act.put, List.setIfInBounds_toArray, List.set_cons_zero, List.set_cons_succ])
        | (refine loose_new (by decide) rfl (fun L' w' hw' => ?_) (fun v => ?_)
           · fail
           simp only [Act.put, List.setIfInBounds_toArray, List.set_cons_zero, List.set_cons_succ])
      intro w5 hw5
      obtain ⟨hA, hc5⟩ := hw5
      have q5 := q.keep hA (fun h => h)
      have hfz5 := q5.frozen k
      refine wpAny_ready (rs := [10]) (by kernel_rfl) (by simp) ?_
      refine AllReady.cons rfl (fun K hK => ?_) AllReady.nil
      go_simp
      refine hK _ _ ?_
      clear hK K
      refine wpAny_done (by kernel_rfl) ?_ _
      go_wp2_with fail
      go_roundw
      case rel =>
        refine ⟨k + 1, by omega, by go_num, ?_, (qA.trans (hA.any (S' := (· = g)) (fun _ h => h.elim)) (fun _ h _ => h)).set1 _ _⟩
        have := q5.setCell k (.bool (!p (UInt8.ofNat k)))
        rw [setRow_set _ hlt, turnd_step p hlt] at this
        exact this
      case measure => simp [intOf]; omega
    · have e : turnd p k = fun x => !p x := by rw [show k = 256 by omega]; exact turnd_end p
      rw [e] at q
      have hnot : ¬ ((k : Int) < 256) := by omega
      go_wp2_with fail
      refine bodyPost_end (results_none (by kernel_rfl) _ _ _) rfl ?_
      exact ⟨rfl, q, qA⟩
end Go.Proofs.Ytakkcofmbafneaa
