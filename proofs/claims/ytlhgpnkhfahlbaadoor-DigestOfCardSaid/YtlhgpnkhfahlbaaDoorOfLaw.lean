/- The digest of any bytes: the statement's own function returns true, of whatever bytes. -/
import Derived.Test.YtlhgpnkhfahlbaaDoorWWords
namespace Go.Proofs.YtlhgpnkhfahlbaaDoor
open Go.ChangeShapes Go.WideShapes Go.RowKit

set_option maxHeartbeats 800000 in
theorem ofLaw_any (v : Value) (b : List Nat) (w : World) (ht : Tabs w) (hv : BytesAt w v b) (ub : ∀ x ∈ b, U8 x) (hl : b.length ≤ 9223372036854775807) :
    Calls Tryd.prog 3 #[v] w fun e w' => e = .returned (.bool true) ∧ Below w.heap.size w w' := by
  go_enter Tryd.func3, Tryd.ntmps3
  go_wp2_with fail
  refine (lives_any _ ht).mono ?_
  rintro e w1 ⟨rfl, hB⟩
  go_wp2_with fail
  refine (early_any _ b _ (hv.keep hB) hl).mono ?_
  rintro e w2 ⟨⟨u, rfl, hu⟩, rfl⟩
  have ub' : ∀ x ∈ b.take 300, U8 x := fun x hx => ub x (List.mem_of_mem_take hx)
  have hl' : (b.take 300).length ≤ 1000 := by simp; omega
  clear hv ub hl
  generalize b.take 300 = c at *
  have Hsame : Unit → ∀ w, (binOp .eql 25 (.agg ((shaN c).map v8).toArray) (.agg ((shaN c).map v8).toArray)).run Tryd.prog w = .ok (.bool true) w := fun _ w => (same_sha c w).1
  go_wp2_with fail
  refine (words_any _).mono ?_
  rintro e w3 ⟨rfl, hb3⟩
  replace hu := hu.keep hb3
  replace hB := hB.trans (hb3.mono hB.size)
  clear hb3
  go_wp2_with fail
  refine (of_any _ c _ (ht.keep hB) hu ub' (by omega)).mono ?_
  rintro e w4 ⟨rfl, hb4⟩
  replace hu := hu.keep hb4
  replace hB := hB.trans (hb4.mono hB.size)
  clear hb4
  generalize hS : ((shaN c).map v8).toArray = S at *
  go_wp2_with fail
  refine (rof_any _ c _ hu ub' hl').mono ?_
  rintro e w5 ⟨rfl, hb5⟩
  rw [hS]
  have hsame := Hsame ()
  replace hB := hB.trans (hb5.mono hB.size)
  clear hb5 hu hS
  go_wp2_with fail
  go_ret
  exact ⟨rfl, hB⟩
end Go.Proofs.YtlhgpnkhfahlbaaDoor
