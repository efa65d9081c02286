/- The document's Fine: may a matcher be? -/
import Derived.Test.YteooofakpkbgoaaDoorQM
namespace Go.Proofs.YteooofakpkbgoaaDoor.Dn
open Go.ChangeShapes Go.WideShapes Go.RowKit

def fineD (n : Bs) (o : Int) (v : Bs) : Bool := nameB n && (decide (v.length ≤ 200) && (decide (0 ≤ o ∧ o < 2) || (decide (2 ≤ o ∧ o ≤ 3) && decide (readE v = 0))))
theorem fineD_cases (n : Bs) (o : Int) (v : Bs) : (nameB n = false ∧ fineD n o v = false) ∨ (nameB n = true ∧ o < 0 ∧ fineD n o v = false) ∨ (nameB n = true ∧ 0 ≤ o ∧ 3 < o ∧ fineD n o v = false) ∨ (nameB n = true ∧ 0 ≤ o ∧ o ≤ 3 ∧ 200 < v.length ∧ fineD n o v = false) ∨
    (nameB n = true ∧ 0 ≤ o ∧ o ≤ 3 ∧ v.length ≤ 200 ∧ o < 2 ∧ fineD n o v = true) ∨ (nameB n = true ∧ 0 ≤ o ∧ o ≤ 3 ∧ v.length ≤ 200 ∧ 2 ≤ o ∧ fineD n o v = (readE v == 0)) := by
  unfold fineD
  cases hn : nameB n with
  | false => exact .inl ⟨rfl, rfl⟩
  | true =>
    right
    rw [Bool.true_and]
    by_cases h1 : o < 0
    · exact .inl ⟨rfl, h1, by rw [decide_eq_false (by omega : ¬ (0 ≤ o ∧ o < 2)), decide_eq_false (by omega : ¬ (2 ≤ o ∧ o ≤ 3))]; simp⟩
    · right
      by_cases h2 : 3 < o
      · exact .inl ⟨rfl, by omega, h2, by rw [decide_eq_false (by omega : ¬ (0 ≤ o ∧ o < 2)), decide_eq_false (by omega : ¬ (2 ≤ o ∧ o ≤ 3))]; simp⟩
      · right
        by_cases h3 : 200 < v.length
        · exact .inl ⟨rfl, by omega, by omega, h3, by rw [decide_eq_false (by omega : ¬ v.length ≤ 200)]; rfl⟩
        · right
          rw [decide_eq_true (by omega : v.length ≤ 200)]
          by_cases h4 : o < 2
          · exact .inl ⟨rfl, by omega, by omega, by omega, h4, by rw [decide_eq_true (by omega : 0 ≤ o ∧ o < 2)]; rfl⟩
          · refine .inr ⟨rfl, by omega, by omega, by omega, by omega, ?_⟩
            rw [decide_eq_false (by omega : ¬ (0 ≤ o ∧ o < 2)), decide_eq_true (by omega : 2 ≤ o ∧ o ≤ 3)]
            by_cases h5 : readE v = 0
            · simp [h5]
            · simp [h5]
set_option maxHeartbeats 3200000 in
set_option maxRecDepth 100000 in
theorem dfine_any (n : Bs) (o : Int) (v : Bs) (w : World) (hn : n.length ≤ 9223372036854775807) (hv : v.length ≤ 9223372036854775807) :
    Calls Tryd.prog 16 #[.agg #[.string ⟨n.toArray⟩, .int .i64 o, .string ⟨v.toArray⟩]] w fun e w' => e = .returned (.bool (fineD n o v)) ∧ Below w.heap.size w w' := by
  have hsz : ((⟨v.toArray⟩ : ByteArray).size : Int) = (v.length : Int) := by simp [ByteArray.size]
  have KN := Lib.hid fun w => rname_any n w hn
  have KR := Lib.hid fun w => dread_any v hv w
  have hzc := zero_node
  obtain ⟨Z, eZ⟩ : ∃ Z, nodeC 0 noSet nilS = Z := ⟨_, rfl⟩
  have hlZ := nodeC_len 0 noSet nilS
  rw [eZ] at hzc hlZ
  clear eZ
  have HC := fineD_cases n o v
  generalize fineD n o v = D at *
  unfold ReadQ at KR
  obtain ⟨E, hE⟩ : ∃ E, readE v = E := ⟨_, rfl⟩
  rw [hE] at KR HC
  generalize nameB n = nb at *
  have hvi : (v.length : Int) ≤ 9223372036854775807 := by omega
  have HL : ∀ k : Nat, (k < v.length ↔ (k : Int) < (v.length : Int)) := fun k => by omega
  have hb0 := (Below.refl w.heap.size w).alloc (Nat.le_refl _) (.cells #[.string ⟨n.toArray⟩, .int .i64 o, .string ⟨v.toArray⟩] 31)
  have rM : Rw (w.alloc (.cells #[.string ⟨n.toArray⟩, .int .i64 o, .string ⟨v.toArray⟩] 31)) w.heap.size 31 [.string ⟨n.toArray⟩, .int .i64 o, .string ⟨v.toArray⟩] := Rw.new w 31 [.string ⟨n.toArray⟩, .int .i64 o, .string ⟨v.toArray⟩]
  generalize (⟨n.toArray⟩ : ByteArray) = TN at *
  generalize (⟨v.toArray⟩ : ByteArray) = TV at *
  generalize v.length = lv at *
  go_enter Tryd.func16, Tryd.ntmps16
  go_upto_region 1 with fail
  have A := Asd.of_below (S := fun _ => False) hb0
  generalize w.alloc (.cells #[.string TN, .int .i64 o, .string TV] 31) = w1 at *
  obtain ⟨bM, hbM, eM⟩ : ∃ bM, w.heap.size ≤ bM ∧ w.heap.size = bM := ⟨_, Nat.le_refl _, rfl⟩
  rw [eM] at rM
  simp only [eM]
  have m0 := Rw.cell rM 0
  have m1 := Rw.cell rM 1
  have m2 := Rw.cell rM 2
  clear hb0
  go_wp2_with fail
  refine (KN.out _).mono ?_
  rintro e w2 ⟨rfl, hw2⟩
  obtain rfl : w1 = w2 := hw2.symm
  rcases HC with ⟨rfl, rfl⟩ | ⟨rfl, h1, rfl⟩ | ⟨rfl, h1, h2, rfl⟩ | ⟨rfl, h1, h2, h3, rfl⟩ | ⟨rfl, h1, h2, h3, h4, rfl⟩ | ⟨rfl, h1, h2, h3, h4, hD⟩
  · go_wp2_with fail
    go_ret
    exact ⟨rfl, asd_below A⟩
  · go_wp2_with fail
    go_ret
    exact ⟨rfl, asd_below A⟩
  · have h1' : ¬ o < 0 := by omega
    go_wp2_with fail
    go_ret
    exact ⟨rfl, asd_below A⟩
  · have h1' : ¬ o < 0 := by omega
    have h2' : ¬ 3 < o := by omega
    have h3' : (200 : Int) < (lv : Int) := by omega
    go_wp2_with fail
    go_ret
    exact ⟨rfl, asd_below A⟩
  all_goals
    have h1' : ¬ o < 0 := by omega
    have h2' : ¬ 3 < o := by omega
    have h3' : ¬ (200 : Int) < (lv : Int) := by omega
    go_wp2_with fail
    refine (KR.out _).mono ?_
    rintro e w3 ⟨⟨cs, rfl, hcl, hc1, _⟩, hb⟩
    replace A := A.below hb
    replace rM := rM.stay hb
    have rn0 := Rw.new w3 61 Z
    have hb2 := (Below.refl w3.heap.size w3).alloc (Nat.le_refl _) (.cells cs.toArray 61)
    clear KR KN hb m0 m1 m2
    go_upto_region 4 with (refine store_node _ _ rn0 hlZ cs hcl hc1 _ _ rfl rfl rfl rfl ?_)
    rw [World.setRow_alloc_new]
    replace A := A.below hb2
    replace rM := rM.stay hb2
    generalize w3.alloc (.cells cs.toArray 61) = w4 at *
    have m1 := Rw.cell rM 1
    clear rn0 hb2
  · go_wp2_with fail
    go_ret
    exact ⟨rfl, asd_below A⟩
  · have h4' : ¬ o < 2 := by omega
    go_wp2_with fail
    go_ret
    exact ⟨by first | rfl | (rw [hD]; rfl), by first | exact asd_below A | (rw [← eM]; exact asd_below A)⟩
end Go.Proofs.YteooofakpkbgoaaDoor.Dn
