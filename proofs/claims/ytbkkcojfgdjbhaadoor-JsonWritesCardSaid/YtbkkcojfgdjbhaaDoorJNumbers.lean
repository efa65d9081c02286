/- Whole numbers: the law. -/
import Derived.Test.YtbkkcojfgdjbhaaDoorJLives
import Derived.Test.YtbkkcojfgdjbhaaDoorJNumP
namespace Go.Proofs.YtbkkcojfgdjbhaaDoor
open Go.ChangeShapes Go.WideShapes Go.RowKit

def oddL (n : Int) : List Bs := [Lib.itoa n ++ [46, 48], Lib.itoa n ++ [101, 49], 43 :: Lib.itoa n, Lib.itoa n ++ [45], 48 :: Lib.itoa n]
theorem odd_read (n : Int) (h0 : -9223372036854775808 ≤ n) (h1 : n ≤ 9223372036854775807) : ∀ l ∈ oddL n, readN l = (.zero, 2) ∧ l.length ≤ 1000000 := by
  have hl := itoa_len n ⟨h0, h1⟩
  intro l hm
  simp [oddL] at hm
  rcases hm with rfl | rfl | rfl | rfl | rfl
  · exact ⟨read_more n h0 h1 46 [48] (by decide) (by decide), by simp; omega⟩
  · exact ⟨read_more n h0 h1 101 [49] (by decide) (by decide), by simp; omega⟩
  · exact ⟨read_plus _, by simp; omega⟩
  · exact ⟨read_more n h0 h1 45 [] (by decide) (by decide), by simp; omega⟩
  · exact ⟨read_nought n h0 h1, by simp; omega⟩
theorem num_right (n : Int) : rightN (.mk 3 n [] [] []) = true := by
  have h : fitN 6 (.mk 3 n [] [] []) 400 = some 399 := by
    rw [fitN_leaf (by simp) (by simp [formB]) (by decide)]
    rfl
  unfold rightN
  rw [h]; rfl
theorem cat_text (a b : Bs) : (⟨a.toArray⟩ : ByteArray) ++ ⟨b.toArray⟩ = ⟨(a ++ b).toArray⟩ := by
  apply ByteArray.ext
  rw [ByteArray.data_append]
  simp
set_option maxHeartbeats 3200000 in
set_option maxRecDepth 100000 in
theorem numbers_any (n : Int) (h0 : -9223372036854775808 ≤ n) (h1 : n ≤ 9223372036854775807) (w : World) (hE : Env w) :
    Calls Tryd.prog 9 #[.int .i64 n] w fun e w' => e = .returned (.bool true) ∧ Below w.heap.size w w' := by
  have hbig := hE.big
  have KL := Lib.hid (lives_any w hE)
  have hlen := itoa_len n ⟨h0, h1⟩
  have Hr : Unit → readN (Lib.itoa n) = (.mk 3 n [] [] [], 0) := fun _ => read_itoa n h0 h1
  have Ho : Unit → ∀ l ∈ oddL n, readN l = (.zero, 2) ∧ l.length ≤ 1000000 := fun _ => odd_read n h0 h1
  have Hol : Unit → oddL n = [Lib.itoa n ++ [46, 48], Lib.itoa n ++ [101, 49], [43] ++ Lib.itoa n, Lib.itoa n ++ [45], [48] ++ Lib.itoa n] := fun _ => rfl
  have KW : Hid (∀ w1, Below w.heap.size w w1 → Calls Tryd.prog 13 #[.agg #[.int .i64 3, .int .i64 n, .string { data := #[] }, .slice none 0 0, .slice none 0 0]] w1 fun e w' => e = .returned (.tuple #[.string ⟨(Lib.itoa n).toArray⟩, .int .i64 0]) ∧ Below w1.heap.size w1 w') := by
    intro w1 hb
    have := write_any (fun _ => False) 1 (cells5 3 n [] (.slice none 0 0) (.slice none 0 0)) (.mk 3 n [] [] []) w1 (JAt.leaf _ _ 0 3 n []) (hE.keep (hb.mono hbig)) ⟨by simp, by simp, by simp, by simp, by simp⟩ ⟨⟨h0, h1⟩, by simp⟩
    unfold writeN at this
    rw [num_right, if_pos rfl] at this
    exact this
  have hne : (⟨(Lib.itoa n).toArray⟩ : ByteArray).toList.isEmpty = false := by
    rw [text_list]
    obtain ⟨c, ds, e, _⟩ := itoa_shape n
    rw [e]; rfl
  have hne2 : (Lib.itoa n).isEmpty = false := by
    obtain ⟨c, ds, e, _⟩ := itoa_shape n
    rw [e]; rfl
  have hc1 := cat_text (Lib.itoa n) [46, 48]
  have hc2 := cat_text (Lib.itoa n) [101, 49]
  have hc3 := cat_text [43] (Lib.itoa n)
  have hc4 := cat_text (Lib.itoa n) [45]
  have hc5 := cat_text [48] (Lib.itoa n)
  have KR : Hid (∀ w1, Below w.heap.size w w1 → Calls Tryd.prog 19 #[.string ⟨(Lib.itoa n).toArray⟩] w1 fun e w' => ∃ cs, e = .returned (.tuple #[.agg cs.toArray, .int .i64 0]) ∧ JAt (fun k => w1.heap.size ≤ k) w' 7 cs (.mk 3 n [] [] []) ∧ Below w1.heap.size w1 w') := by
    intro w1 hb
    have := read_any (Lib.itoa n) w1 (hE.keep (hb.mono hbig)) (by omega)
    rw [Hr ()] at this
    exact this
  generalize Lib.itoa n = I at *
  go_enter Tryd.func9, Tryd.ntmps9
  go_wp2_with fail
  refine KL.out.mono ?_
  rintro e w1 ⟨rfl, hb1⟩
  clear KL
  have K1 := Lib.hid (KW.out w1 hb1)
  clear KW
  go_wp2_with fail
  refine K1.out.mono ?_
  rintro e w2 ⟨rfl, hb2⟩
  replace hb2 := hb1.trans (hb2.mono hb1.size)
  clear K1 hb1
  have K2 := Lib.hid (KR.out w2 hb2)
  clear KR
  go_wp2_with fail
  refine K2.out.mono ?_
  rintro e w3 ⟨cs, rfl, hJ, hb3⟩
  replace hb3 := hb2.trans (hb3.mono hb2.size)
  clear K2 hb2
  obtain ⟨h5, ho⟩ := hJ.five
  have rN := Rw.new w3 29 zero5
  go_upto_region 5 with (refine store_arr w3.heap.size 29 zero5 rN 5 rfl 29 (by kernel_rfl) cs h5 ho _ _ rfl rfl rfl rfl ?_)
  rw [World.setRow_alloc_new]
  have rT := Rw.new w3 29 cs
  have hb4 : Below w.heap.size w (w3.alloc (.cells cs.toArray 29)) := hb3.alloc hb3.size _
  clear rN hb3
  generalize w3.alloc (.cells cs.toArray 29) = W4 at *
  generalize w3.heap.size = T at *
  obtain ⟨kv, dv, rfl, _, _⟩ := hJ
  have c0 := Rw.cell rT 0
  have c1 := Rw.cell rT 1
  change _ = some (Value.int .i64 3) at c0
  change _ = some (Value.int .i64 n) at c1
  go_upto_region 8 with fail
  have rO : Rw (W4.alloc (.cells #[.string ⟨(I ++ [46, 48]).toArray⟩, .string ⟨(I ++ [101, 49]).toArray⟩, .string ⟨([43] ++ I).toArray⟩, .string ⟨(I ++ [45]).toArray⟩, .string ⟨([48] ++ I).toArray⟩] 9)) W4.heap.size 9 ((oddL n).map sv) := by
    rw [Hol ()]
    exact Rw.new W4 9 ([I ++ [46, 48], I ++ [101, 49], [43] ++ I, I ++ [45], [48] ++ I].map sv)
  have hb5 : Below w.heap.size w (W4.alloc (.cells #[.string ⟨(I ++ [46, 48]).toArray⟩, .string ⟨(I ++ [101, 49]).toArray⟩, .string ⟨([43] ++ I).toArray⟩, .string ⟨(I ++ [45]).toArray⟩, .string ⟨([48] ++ I).toArray⟩] 9)) := hb4.alloc hb4.size _
  have Hlen : Unit → (oddL n).length = 5 := fun _ => by rw [Hol ()]; rfl
  clear c0 c1 rT hb4 hc1 hc2 hc3 hc4 hc5 hne hne2 Hol Hr
  simp only [List.cons_append, List.nil_append] at rO hb5
  generalize W4.alloc (.cells #[.string ⟨(I ++ [46, 48]).toArray⟩, .string ⟨(I ++ [101, 49]).toArray⟩, .string ⟨(43 :: I).toArray⟩, .string ⟨(I ++ [45]).toArray⟩, .string ⟨(48 :: I).toArray⟩] 9) = W5 at *
  generalize W4.heap.size = O at *
  go_upto_region 9 with fail
  go_loopw [8] (fun i wr => ∃ k : Nat, k ≤ 5 ∧ i = .int .i64 (k : Int) ∧ Below W5.heap.size W5 wr) (fun i _ => 5 - (intOf i).toNat)
  case atStart => exact ⟨0, by omega, rfl, Below.refl _ _⟩
  case round =>
    obtain ⟨k, hk, rfl, hbr⟩ := hrel
    by_cases hlt : k < 5
    · obtain ⟨l, hl⟩ : ∃ l, (oddL n)[k]? = some l := ⟨_, List.getElem?_eq_getElem (by rw [Hlen ()]; exact hlt)⟩
      obtain ⟨hrd, hll⟩ := Ho () l (List.mem_of_getElem? hl)
      have ck := Rw.cell (rO.stay hbr) k
      rw [List.getElem?_map, hl] at ck
      change _ = some (Value.string ⟨l.toArray⟩) at ck
      have hki : (k : Int) < 5 := by omega
      have hbw := hb5.trans (hbr.mono hb5.size)
      have K : Hid (Calls Tryd.prog 19 #[.string ⟨l.toArray⟩] wr fun e w' => ∃ cs, e = .returned (.tuple #[.agg cs.toArray, .int .i64 2]) ∧ JAt (fun k => wr.heap.size ≤ k) w' 7 cs .zero ∧ Below wr.heap.size wr w') := by
        have := read_any l wr (hE.keep (hbw.mono hbig)) hll
        rw [hrd] at this
        exact this
      clear hl hrd
      go_wp2_with fail
      refine K.out.mono ?_
      rintro e w6 ⟨cs2, rfl, hJ2, hb6⟩
      obtain ⟨h52, ho2⟩ := hJ2.five
      have rN := Rw.new w6 29 zero5
      clear K ck
      go_upto_region 12 with (refine store_arr w6.heap.size 29 zero5 rN 5 rfl 29 (by kernel_rfl) cs2 h52 ho2 _ _ rfl rfl rfl rfl ?_)
      rw [World.setRow_alloc_new]
      have hb7 : Below W5.heap.size W5 (w6.alloc (.cells cs2.toArray 29)) := (hbr.trans (hb6.mono hbr.size)).alloc (Nat.le_trans hbr.size hb6.size) _
      clear rN hb6 hJ2
      generalize w6.alloc (.cells cs2.toArray 29) = w7 at *
      go_wp2_with fail
      go_roundw
      case rel => exact ⟨k + 1, by omega, by go_num, hb7⟩
      case measure => simp [intOf]; omega
    · obtain rfl : k = 5 := by omega
      go_wp2_with fail
      go_ret
      exact ⟨rfl, hb5.trans (hbr.mono hb5.size)⟩
end Go.Proofs.YtbkkcojfgdjbhaaDoor
