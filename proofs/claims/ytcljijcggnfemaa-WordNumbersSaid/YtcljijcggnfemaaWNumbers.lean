/- WordNumbers returns true: the walk. -/
import Derived.Test.YtcljijcggnfemaaWDec
namespace Go.Proofs.Ytcljijcggnfemaa
open Go.ChangeShapes Go.WideShapes Go.RowKit

theorem Dg.len {n k : Nat} {s : Bs} (h : Dg n k s) : s.length ≤ (dec n).length := by
  unfold Dg at h
  rw [h]
  split
  · exact Nat.le_refl _
  · rw [List.length_append]; omega
theorem at_billion (a : Int) : ∃ q : Nat, q < 1000000000 ∧ wrap64 ((IntKind.u64.wrap a).tmod 1000000000) = (q : Int) := by
  have h0 : 0 ≤ IntKind.u64.wrap a := by simp only [IntKind.wrap, IntKind.signed, IntKind.bits]; simp; omega
  rw [Int.tmod_eq_emod_of_nonneg h0]
  refine ⟨(IntKind.u64.wrap a % 1000000000).toNat, by omega, ?_⟩
  simp only [wrap64]
  omega
/-- A part of a text. -/
theorem cut_mid (l : Bs) (a b : Nat) (hb : b ≤ l.length) (hab : a ≤ b) (i j : Int) (hi : i = (a : Int)) (hj : j = (b : Int)) (w : World) : (Instr.slice 9 (.string ⟨l.toArray⟩) (some (.int .i64 i)) (some (.int .i64 j)) none).run Try.prog w = .ok (.string ⟨((l.take b).drop a).toArray⟩) w := by
  subst hi hj
  have hs : (⟨l.toArray⟩ : ByteArray).size = l.length := by simp [ByteArray.size]
  simp [Instr.slice, run_underlying Try.underlying9, Instr.sliceBounds, run_sliceBound, hs, show (b : Int) ≤ (l.length : Int) by omega, show (a : Int) ≤ (b : Int) by omega]
  rw [extract_text]
theorem digit_cut (q : Nat) (hq : q < 10) (i j : Int) (hi : i = (q : Int)) (hj : j = (q : Int) + 1) (w : World) : (Instr.slice 9 (.string ⟨#[48, 49, 50, 51, 52, 53, 54, 55, 56, 57]⟩) (some (.int .i64 i)) (some (.int .i64 j)) none).run Try.prog w = .ok (.string ⟨[d8 q].toArray⟩) w := by
  have := cut_mid [48, 49, 50, 51, 52, 53, 54, 55, 56, 57] q (q + 1) (by simp; omega) (by omega) i j hi (by omega) w
  rw [show ([48, 49, 50, 51, 52, 53, 54, 55, 56, 57] : Bs).toArray = #[48, 49, 50, 51, 52, 53, 54, 55, 56, 57] from rfl] at this
  rw [this]
  congr 4
  rcases (show q = 0 ∨ q = 1 ∨ q = 2 ∨ q = 3 ∨ q = 4 ∨ q = 5 ∨ q = 6 ∨ q = 7 ∨ q = 8 ∨ q = 9 by omega) with rfl | rfl | rfl | rfl | rfl | rfl | rfl | rfl | rfl | rfl <;> rfl
def isEmp : Value → Nat
  | .string s => if s.size = 0 then 1 else 0
  | _ => 0
theorem isEmp_nil : isEmp (.string ⟨([] : Bs).toArray⟩) = 1 := rfl
theorem isEmp_cons (c : UInt8) (s : Bs) : isEmp (.string ⟨(c :: s).toArray⟩) = 0 := by simp [isEmp, ByteArray.size]
theorem cat_text (a b : Bs) : (⟨a.toArray⟩ : ByteArray) ++ (⟨b.toArray⟩ : ByteArray) = ⟨(a ++ b).toArray⟩ := by
  apply ByteArray.ext
  simp
theorem dg_end {n k : Nat} {s : Bs} (hk : k ≤ n) (h : Dg n (k / 10) (d8 (k % 10) :: s)) (hm : 0 < k ∨ s = []) (T : Prop) (ht : T) : (∃ (k' : Nat) (s' : Bs), Value.string (⟨#[d8 (k % 10)]⟩ ++ ⟨s.toArray⟩) = .string ⟨s'.toArray⟩ ∧ Value.int IntKind.i64 ((k : Int) / 10) = .int .i64 (k' : Int) ∧ k' ≤ n ∧ Dg n k' s' ∧ T) ∧
    (intOf (Value.int IntKind.i64 ((k : Int) / 10))).toNat + isEmp (Value.string (⟨#[d8 (k % 10)]⟩ ++ ⟨s.toArray⟩)) < (intOf (Value.int IntKind.i64 (k : Int))).toNat + isEmp (Value.string ⟨s.toArray⟩) := by
  have e : (⟨#[d8 (k % 10)]⟩ : ByteArray) ++ ⟨s.toArray⟩ = ⟨(d8 (k % 10) :: s).toArray⟩ := cat_text [d8 (k % 10)] s
  rw [e]
  refine ⟨⟨k / 10, _, rfl, by simp, by omega, h, ht⟩, ?_⟩
  rw [isEmp_cons]
  simp only [intOf]
  rcases hm with hm | rfl
  · omega
  · rw [isEmp_nil]; omega
def odds (s : Bs) : List Bs := [48 :: s, 45 :: s, s ++ [32], s ++ [120], [49, 48, 48, 48, 48, 48, 48, 48, 48, 48] ++ s, []]
theorem odds_len {s x : Bs} (h : x ∈ odds s) : x.length ≤ s.length + 10 := by
  unfold odds at h
  simp only [List.mem_cons, List.not_mem_nil, or_false] at h
  rcases h with rfl | rfl | rfl | rfl | rfl | rfl <;> simp <;> omega
theorem odds_cells (w : World) (s : Bs) : ∀ (j : Nat) x, (odds s)[j]? = some x → (w.alloc (.cells #[.string (⟨#[48]⟩ ++ ⟨s.toArray⟩), .string (⟨#[45]⟩ ++ ⟨s.toArray⟩), .string (⟨s.toArray⟩ ++ ⟨#[32]⟩), .string (⟨s.toArray⟩ ++ ⟨#[120]⟩), .string (⟨#[49, 48, 48, 48, 48, 48, 48, 48, 48, 48]⟩ ++ ⟨s.toArray⟩), .string ⟨#[]⟩] 9)).cell? ⟨w.heap.size, j, none⟩ = some (.string ⟨x.toArray⟩) := by
  intro j x hx
  have e1 : (⟨#[48]⟩ : ByteArray) ++ ⟨s.toArray⟩ = ⟨(48 :: s).toArray⟩ := cat_text [48] s
  have e2 : (⟨#[45]⟩ : ByteArray) ++ ⟨s.toArray⟩ = ⟨(45 :: s).toArray⟩ := cat_text [45] s
  have e3 : (⟨s.toArray⟩ : ByteArray) ++ ⟨#[32]⟩ = ⟨(s ++ [32]).toArray⟩ := cat_text s [32]
  have e4 : (⟨s.toArray⟩ : ByteArray) ++ ⟨#[120]⟩ = ⟨(s ++ [120]).toArray⟩ := cat_text s [120]
  have e5 : (⟨#[49, 48, 48, 48, 48, 48, 48, 48, 48, 48]⟩ : ByteArray) ++ ⟨s.toArray⟩ = ⟨([49, 48, 48, 48, 48, 48, 48, 48, 48, 48] ++ s).toArray⟩ := cat_text [49, 48, 48, 48, 48, 48, 48, 48, 48, 48] s
  rw [e1, e2, e3, e4, e5]
  have h := Rw.cell (Rw.new w 9 ((odds s).map sv)) j
  rw [List.getElem?_map, hx] at h
  exact h
theorem Below.below_alloc {w w' : World} (h : Below w.heap.size w w') (o : Obj) : Below w.heap.size w (w'.alloc o) := h.alloc h.size o
set_option maxHeartbeats 6400000 in
set_option maxRecDepth 100000 in
theorem numbers_any (i : Int) (w : World) : Calls Try.prog 5 #[.int .i64 i] w fun e w' => e = .returned (.bool true) ∧ Below w.heap.size w w' := by
  have K := Lib.hid (lives_any w)
  go_enter Try.func5, Try.ntmps5
  go_wp2_with fail
  refine K.out.mono ?_
  rintro e w1 ⟨rfl, hB⟩
  clear K
  obtain ⟨n, hn, hne⟩ := at_billion i
  have hln := dec_len 8 n (by simpa using hn)
  go_upto_region 4 with fail
  rw [hne]
  clear hne
  go_upto_region 6 with fail
  go_loopw [3, 4] (fun u3 u4 wr => ∃ (k : Nat) (s : Bs), u3 = .string ⟨s.toArray⟩ ∧ u4 = .int .i64 (k : Int) ∧ k ≤ n ∧ Dg n k s ∧ wr = w1) (fun u3 u4 _ => (intOf u4).toNat + isEmp u3)
  case atStart => exact ⟨n, [], rfl, rfl, Nat.le_refl _, Dg.start n, rfl⟩
  case round =>
    obtain ⟨k, s, rfl, rfl, hk, hD, rfl⟩ := hrel
    have hls := hD.len
    have hdc := digit_cut (k % 10) (by omega) ((k : Int) % 10) ((k : Int) % 10 + 1) (by omega) (by omega)
    by_cases hk0 : 0 < k
    · have hki : (0 : Int) < (k : Int) := by omega
      have hD2 := hD.step (.inl hk0)
      clear hD
      go_wp2_with fail
      exact dg_end hk hD2 (.inl hk0) _ trivial
    · have hki : ¬ (0 : Int) < (k : Int) := by omega
      by_cases hs : s = []
      · have hD2 := hD.step (.inr hs)
        subst hs
        have he := null_text
        have hz : (⟨([] : Bs).toArray⟩ : ByteArray).size = 0 := rfl
        clear hD
        generalize hX : (⟨([] : Bs).toArray⟩ : ByteArray) = X at *
        go_wp2_with fail
        rw [← hX]
        exact dg_end hk hD2 (.inr rfl) _ trivial
      · obtain rfl : k = 0 := by omega
        obtain rfl := hD.done hs
        have hsn := dec_ne n
        have hnw := numW_dec n hn
        have hod := odd_none (dec n) hsn
        have hemp : (⟨(dec n).toArray⟩ : ByteArray).toList.isEmpty = false := by rw [text_list]; cases hq : dec n; exact absurd hq hsn; rfl
        clear hdc hD hs hls
        have K := Lib.hid (number_any (dec n) wr (by omega))
        rw [hnw] at K
        clear hnw hn hk hki hsn hk0
        generalize dec n = s at *
        have hsz : (⟨s.toArray⟩ : ByteArray).size = s.length := by simp [ByteArray.size]
        have hsi : (s.length : Int) ≤ 9 := by omega
        clear hln
        generalize hX : (⟨s.toArray⟩ : ByteArray) = X at *
        go_upto_region 9 with fail
        clear hemp
        go_wp2_with fail
        refine K.out.mono ?_
        rintro e w2 ⟨rfl, rfl⟩
        clear K
        unfold numT
        go_upto_region 11 with fail
        have hbl : ∀ x ∈ odds s, x.length ≤ 1000 := fun x hx => by have := odds_len hx; omega
        have hC := odds_cells w2 s
        rw [hX] at hC
        have hBA := Below.below_alloc hB (.cells #[.string (⟨#[48]⟩ ++ X), .string (⟨#[45]⟩ ++ X), .string (X ++ ⟨#[32]⟩), .string (X ++ ⟨#[120]⟩), .string (⟨#[49, 48, 48, 48, 48, 48, 48, 48, 48, 48]⟩ ++ X), .string ⟨#[]⟩] 9)
        generalize World.alloc _ _ = wA at *
        generalize w2.heap.size = g at *
        have hod' : ∀ x ∈ odds s, numW x = none := hod
        have hol : (odds s).length = 6 := rfl
        clear hod hX hsz hB hsi
        generalize odds s = O at *
        go_upto_region 12 with fail
        go_loopw [8] (fun u8 wr => ∃ k : Nat, k ≤ 6 ∧ u8 = .int .i64 (k : Int) ∧ wr = wA) (fun u8 _ => 6 - (intOf u8).toNat)
        case atStart => exact ⟨0, by omega, rfl, rfl⟩
        case round =>
          obtain ⟨k, hk, rfl, rfl⟩ := hrel
          by_cases hlt : k < 6
          · obtain ⟨x, hx⟩ : ∃ x, O[k]? = some x := ⟨_, List.getElem?_eq_getElem (by omega)⟩
            have hm := List.mem_of_getElem? hx
            have K := Lib.hid (number_any x wr (by have := hbl x hm; omega))
            rw [hod' x hm] at K
            have hc := hC k x hx
            clear hC hod' hbl
            have hki : (k : Int) < 6 := by omega
            go_wp2_with fail
            refine K.out.mono ?_
            rintro e w3 ⟨rfl, rfl⟩
            clear K
            unfold numT
            go_wp2_with fail
            go_roundw
            case rel => exact ⟨k + 1, by omega, by simp, by first | rfl | trivial⟩
            case measure => simp [intOf]; omega
          · obtain rfl : k = 6 := by omega
            go_wp2_with fail
            go_ret
            exact ⟨rfl, hBA⟩
end Go.Proofs.Ytcljijcggnfemaa
