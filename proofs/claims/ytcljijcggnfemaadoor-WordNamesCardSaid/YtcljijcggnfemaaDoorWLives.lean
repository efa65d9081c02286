/- The document's example. -/
import Derived.Test.YtcljijcggnfemaaDoorWJoin
namespace Go.Proofs.YtcljijcggnfemaaDoor
open Go.ChangeShapes Go.WideShapes Go.RowKit

theorem ex_split : splitN [97, 32, 34, 98, 32, 99, 34, 32, 35, 32, 100] = some [[97], [34, 98, 32, 99, 34]] := by decide
theorem ex_join : joinN [[97], [34, 98, 32, 99, 34]] = some [97, 32, 34, 98, 32, 99, 34] := by decide
theorem ex_num : numW [49, 48] = some 10 := by decide
set_option maxHeartbeats 3200000 in
theorem lives_any (w : World) : Calls Tryd.prog 6 #[] w fun e w' => e = .returned (.bool true) ∧ Below w.heap.size w w' := by
  have K := Lib.hid (split_any [97, 32, 34, 98, 32, 99, 34, 32, 35, 32, 100] w (by decide))
  rw [ex_split] at K
  go_enter Tryd.func6, Tryd.ntmps6
  go_wp2_with fail
  refine K.out.mono ?_
  rintro e w1 ⟨⟨v, rfl, hown⟩, hB⟩
  clear K
  have hs := own_strs hown
  have K := Lib.hid (join_any _ v _ w1 hs (by decide) (by decide))
  rw [ex_join] at K
  obtain ⟨g, cap, rfl⟩ := own_succ hown
  have hg := (hown.lt g rfl)
  have hc1 : w1.cell? ⟨g, 1, none⟩ = some (.string ⟨#[34, 98, 32, 99, 34]⟩) := by
    have := hown.cells (g := g) rfl 1 (sv [34, 98, 32, 99, 34]) rfl
    exact this
  clear hown hs
  go_wp2_with fail
  refine K.out.mono ?_
  rintro e w2 ⟨rfl, hB2⟩
  clear K
  replace hc1 : w2.cell? ⟨g, 1, none⟩ = some (.string ⟨#[34, 98, 32, 99, 34]⟩) := by rw [hB2.cell hg.2]; exact hc1
  have K := Lib.hid (number_any [49, 48] w2 (by decide))
  rw [ex_num] at K
  replace hB := hB.trans (hB2.mono hB.size)
  clear hB2
  unfold joinT
  go_wp2_with fail
  refine K.out.mono ?_
  rintro e w3 ⟨rfl, rfl⟩
  clear K
  unfold numT
  go_wp2_with fail
  go_ret
  exact ⟨rfl, hB⟩
end Go.Proofs.YtcljijcggnfemaaDoor
