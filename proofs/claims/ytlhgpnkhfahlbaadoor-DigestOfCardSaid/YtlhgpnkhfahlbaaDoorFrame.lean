/- What the rows' lists of variables give: the two tables; a memory that fits them; bytes among the arguments. -/
import Derived.Test.YtlhgpnkhfahlbaaDoorCards
import Derived.Test.YtlhgpnkhfahlbaaDoorTie
import Derived.Test.YtlhgpnkhfahlbaaDoorHex
import Derived.WalkKit
import Derived.ProofKit
import Derived.OpenShut
import Derived.LaidMore
import Derived.Stop.Joined
import Derived.Stop.LaidErr
import Derived.Deep.DeepHandedRow
import Derived.Deep.DeepWitnessRowRef
import Derived.Lib.SmallJoins
import Derived.Lib.LaidTab
import Derived.Carry
namespace Go.Proofs.YtlhgpnkhfahlbaaDoor
open Go.ChangeShapes Go.WideShapes Go.ChangeAt Go.RowKit Go.Joins

theorem own : ownKnob Tryd.prog.godebug = none := by kernel_rfl
theorem gStart : Tryd.prog.globalNamed "lychgate/digest.startWords" = some 0 := by kernel_rfl
theorem gRound : Tryd.prog.globalNamed "lychgate/digest.roundWords" = some 1 := by kernel_rfl
theorem tStart : (Tryd.prog.globals[0]?).map (·.type) = some 46 := by kernel_rfl
theorem tRound : (Tryd.prog.globals[1]?).map (·.type) = some 48 := by kernel_rfl
theorem cells32 : Tryd.prog.cellsOf 45 = 1 := by kernel_rfl
theorem cells8 : Tryd.prog.cellsOf 5 = 1 := by kernel_rfl
theorem cellsStart : Tryd.prog.cellsOf 46 = 8 := by kernel_rfl
theorem cellsRound : Tryd.prog.cellsOf 48 = 64 := by kernel_rfl
theorem start_is : (Rows.laid_lychgate_digest_startWords : DataW Unit) = Lib.tabData .u32 (startL.map Int.ofNat) := rfl
theorem round_is : (Rows.laid_lychgate_digest_roundWords : DataW Unit) = Lib.tabData .u32 (keyL.map Int.ofNat) := rfl
theorem cls_of_tab {w : World} {name : String} {g : Nat} {xs : List Nat} (h : Lib.TabIs Tryd.prog w name .u32 (xs.map Int.ofNat)) (hg : Tryd.prog.globalNamed name = some g) : Cls w g 0 (xs.map v32) := fun j v hv => by
  have hj : j < xs.length := by have := (List.getElem?_eq_some_iff.1 hv).1; simpa using this
  rw [Nat.zero_add, h.cell hg j (by simpa using hj), ← hv]
  simp [hj, v32]
/-- The two variables hold their tables. -/
theorem tabs_of_laid {W : World} (h : laidMetH Tryd.prog Rows.digestOfRow.laid W) : Tabs W := by
  rw [MakeChecks.laidMetH_plain _ _ _ (by kernel_rfl)] at h
  have h1 : laidMet Tryd.prog [("lychgate/digest.startWords", Lib.tabData .u32 (startL.map Int.ofNat)), ("lychgate/digest.roundWords", Lib.tabData .u32 (keyL.map Int.ofNat))] W := h
  exact ⟨cls_of_tab (Lib.tabIs_of_head gStart tStart Tryd.underlying46 Tryd.underlying45 cells32 cellsStart h1) gStart,
    cls_of_tab (Lib.tabIs_of_head gRound tRound Tryd.underlying48 Tryd.underlying45 cells32 cellsRound (laidMet.tail h1)) gRound⟩

/-- A start that meets the list. -/
theorem door_met (os : Os) (args : Array Value) : laidMetH Tryd.prog Rows.digestOfRow.laid ((World.doorLaid Tryd.prog 200 os).forCall (fun _ _ => 0) ⟨#[], args, []⟩).memory :=
  laidMetH_of_parts3 (fuel := 8) (laidMet_of_run' 8 (by kernel_rfl) (by kernel_rfl)) (by kernel_rfl) (by kernel_rfl)

section
variable {H : Type} {enc : TypeId × Value → H} {w : World}
/-- Bytes among the arguments. -/
theorem open_bytes {r : Reach} {b0 : Nat} {v : Value} {d : DataW H} {p : List MemPlace} (hv : Value.okWide Tryd.prog w r b0 22 v) (h : DataW.Trod enc Tryd.prog w 0 (fun _ => true) true 22 v d p) :
    ∃ b : List Nat, BytesAt w v b ∧ (∀ x ∈ b, U8 x) ∧ b.length ≤ 9223372036854775807 := by
  obtain ⟨aa, n, cap, rfl⟩ := okWide_slice Tryd.underlying22 hv
  obtain ⟨fuel, hf⟩ := h
  rcases open_ints Tryd.underlying22 Tryd.underlying5 cells8 hf with ⟨e, _⟩ | ⟨ad, len, cap', zs', e, _, hl, hm, hz, _, hc, hw⟩
  · simp [Value.cells] at e
    obtain ⟨rfl, rfl, rfl⟩ := e
    exact ⟨[], ⟨none, 0, rfl, by simp, fun h => absurd rfl h⟩, by simp, by simp⟩
  · simp [Value.cells] at e
    obtain ⟨rfl, rfl, rfl⟩ := e
    simp at hz
    have hn : ((zs'.take n).map Int.toNat).length = n := by simp; omega
    refine ⟨(zs'.take n).map Int.toNat, ⟨_, cap, by rw [hn], by rw [hn]; exact hl, fun hne => ?_⟩, fun x hx => ?_, ?_⟩
    · obtain ⟨b, o, sp⟩ := ad
      have h0 : 0 < n := by rcases Nat.eq_zero_or_pos n with h | h; exact absurd (List.eq_nil_of_length_eq_zero (by rw [hn]; exact h)) hne; exact h
      have hsp : sp = none := by have := World.cell?_spot (hc 0 (by omega)); simpa [Addr.add] using this
      subst hsp
      refine ⟨b, o, rfl, fun j v hv => ?_⟩
      rw [List.map_map, List.getElem?_map] at hv
      obtain ⟨z, hz1, rfl⟩ := Option.map_eq_some_iff.1 hv
      rw [List.getElem?_take] at hz1
      split at hz1
      · have hzz : zs'[j]? = some z := hz1
        have hb8 := bounds_u8 (hw z (List.mem_of_getElem? hzz))
        have h2 := hc j (List.getElem?_eq_some_iff.1 hzz).1
        rw [add_any] at h2
        rw [h2]
        simp only [List.getD, hzz, Option.getD_some, Function.comp, v8]
        rw [Int.toNat_of_nonneg hb8.1]
      · cases hz1
    · obtain ⟨z, hz1, rfl⟩ := List.mem_map.1 hx
      have hb8 := bounds_u8 (hw z (List.mem_of_mem_take hz1))
      unfold U8
      omega
    · rw [hn]
      have : maxLen = 9223372036854775807 := rfl
      omega
end
end Go.Proofs.YtlhgpnkhfahlbaaDoor
