/- Lists within one another; an object and its key: the law. -/
import Derived.Test.YtbkkcojfgdjbhaaDoorJGet
namespace Go.Proofs.YtbkkcojfgdjbhaaDoor
open Go.ChangeShapes Go.WideShapes Go.RowKit

def nestL (q : Nat) : Bs := List.replicate q 91 ++ [49] ++ List.replicate q 93
theorem nest_read (q : Nat) (h : q ≤ 9) : (readN (nestL q)).2 = if q ≤ 6 then 0 else 3 := by
  have h0 : (readN (nestL 0)).2 = 0 := by kernel_rfl
  have h1 : (readN (nestL 1)).2 = 0 := by kernel_rfl
  have h2 : (readN (nestL 2)).2 = 0 := by kernel_rfl
  have h3 : (readN (nestL 3)).2 = 0 := by kernel_rfl
  have h4 : (readN (nestL 4)).2 = 0 := by kernel_rfl
  have h5 : (readN (nestL 5)).2 = 0 := by kernel_rfl
  have h6 : (readN (nestL 6)).2 = 0 := by kernel_rfl
  have h7 : (readN (nestL 7)).2 = 3 := by kernel_rfl
  have h8 : (readN (nestL 8)).2 = 3 := by kernel_rfl
  have h9 : (readN (nestL 9)).2 = 3 := by kernel_rfl
  have : q = 0 ∨ q = 1 ∨ q = 2 ∨ q = 3 ∨ q = 4 ∨ q = 5 ∨ q = 6 ∨ q = 7 ∨ q = 8 ∨ q = 9 := by omega
  rcases this with rfl | rfl | rfl | rfl | rfl | rfl | rfl | rfl | rfl | rfl
  · exact h0
  · exact h1
  · exact h2
  · exact h3
  · exact h4
  · exact h5
  · exact h6
  · exact h7
  · exact h8
  · exact h9
theorem nest_len (q : Nat) : (nestL q).length = 2 * q + 1 := by simp [nestL]; omega
def objJ (key : Bs) : J := .mk 6 0 [] [key] [.mk 2 0 [] [] []]
theorem obj_right (key : Bs) : rightN (objJ key) = textOk key := by
  unfold rightN objJ
  rw [show (6 : Nat) = 5 + 1 from rfl, fitN_more (by simp) rfl (by decide)]
  have h : kyN [] [key] = textOk key := by simp [kyN]
  rw [h]
  cases textOk key
  · rfl
  · rfl
theorem obj_siz (key : Bs) (h : key.length ≤ 9223372036854775807) : Siz 7 (objJ key) :=
  ⟨by simp, by simp, by simpa using h, by simp, by
    intro kid hk
    simp at hk
    subst hk
    exact ⟨by simp, by simp, by simp, by simp, by simp⟩⟩
theorem obj_rg (key : Bs) : Rg 6 (objJ key) := ⟨by decide, by
  intro kid hk
  simp at hk
  subst hk
  exact ⟨by decide, by simp⟩⟩
theorem obj_get (key : Bs) (h : textOk key = true) : getN (objJ key) key = some (.mk 2 0 [] [] []) ∧ getN (objJ key) (key ++ [120]) = none := by
  have hr := obj_right key
  rw [h] at hr
  unfold objJ at hr ⊢
  refine ⟨?_, ?_⟩
  · unfold getN
    simp only
    rw [if_pos hr]
    simp [ixN]
  · unfold getN
    simp only
    rw [if_pos hr]
    have : ¬ key = key ++ [120] := fun e => by have := congrArg List.length e; simp at this
    simp [ixN, this]
theorem obj_len (l : Bs) (h : l.length ≤ 200) : (wrN 6 (objJ l)).length ≤ 2000 := by
  have hq := quote_len l
  have e : wrN 6 (objJ l) = [123] ++ ((([] ++ (quoteN l ++ [58])) ++ [116, 114, 117, 101]) ++ []) ++ [125] := rfl
  rw [e]
  simp only [List.length_append, List.length_cons, List.length_nil]
  omega
theorem obj_at (w : World) (l : Bs) : JAt (fun k => w.heap.size ≤ k) (((w.alloc (.cells #[.string ⟨l.toArray⟩] 9)).alloc (.cells (cells5 2 0 [] (.slice none 0 0) (.slice none 0 0)).toArray 29)).alloc (.cells (cells5 6 0 [] (.slice (some ⟨w.heap.size, 0, none⟩) 1 1) (.slice (some ⟨w.heap.size + 1, 0, none⟩) 1 1)).toArray 29)) 2 (cells5 6 0 [] (.slice (some ⟨w.heap.size, 0, none⟩) 1 1) (.slice (some ⟨w.heap.size + 1, 0, none⟩) 1 1)) (objJ l) ∧
    Rw (((w.alloc (.cells #[.string ⟨l.toArray⟩] 9)).alloc (.cells (cells5 2 0 [] (.slice none 0 0) (.slice none 0 0)).toArray 29)).alloc (.cells (cells5 6 0 [] (.slice (some ⟨w.heap.size, 0, none⟩) 1 1) (.slice (some ⟨w.heap.size + 1, 0, none⟩) 1 1)).toArray 29)) (w.heap.size + 1 + 1) 29 (cells5 6 0 [] (.slice (some ⟨w.heap.size, 0, none⟩) 1 1) (.slice (some ⟨w.heap.size + 1, 0, none⟩) 1 1)) ∧
    Below w.heap.size w (((w.alloc (.cells #[.string ⟨l.toArray⟩] 9)).alloc (.cells (cells5 2 0 [] (.slice none 0 0) (.slice none 0 0)).toArray 29)).alloc (.cells (cells5 6 0 [] (.slice (some ⟨w.heap.size, 0, none⟩) 1 1) (.slice (some ⟨w.heap.size + 1, 0, none⟩) 1 1)).toArray 29)) ∧
    (((w.alloc (.cells #[.string ⟨l.toArray⟩] 9)).alloc (.cells (cells5 2 0 [] (.slice none 0 0) (.slice none 0 0)).toArray 29)).alloc (.cells (cells5 6 0 [] (.slice (some ⟨w.heap.size, 0, none⟩) 1 1) (.slice (some ⟨w.heap.size + 1, 0, none⟩) 1 1)).toArray 29)).cell? ⟨w.heap.size, 0, none⟩ = some (.string ⟨l.toArray⟩) := by
  have r1 := Rw.new w 9 [.string ⟨l.toArray⟩]
  have b1 : Below w.heap.size w (w.alloc (.cells #[.string ⟨l.toArray⟩] 9)) := (Below.refl _ _).alloc (Nat.le_refl _) _
  have s1 : (w.alloc (.cells #[.string ⟨l.toArray⟩] 9)).heap.size = w.heap.size + 1 := by simp
  have r2 := Rw.new (w.alloc (.cells #[.string ⟨l.toArray⟩] 9)) 29 (cells5 2 0 [] (.slice none 0 0) (.slice none 0 0))
  have b2 : Below (w.alloc (.cells #[.string ⟨l.toArray⟩] 9)).heap.size (w.alloc (.cells #[.string ⟨l.toArray⟩] 9)) ((w.alloc (.cells #[.string ⟨l.toArray⟩] 9)).alloc (.cells (cells5 2 0 [] (.slice none 0 0) (.slice none 0 0)).toArray 29)) := (Below.refl _ _).alloc (Nat.le_refl _) _
  have s2 : ((w.alloc (.cells #[.string ⟨l.toArray⟩] 9)).alloc (.cells (cells5 2 0 [] (.slice none 0 0) (.slice none 0 0)).toArray 29)).heap.size = w.heap.size + 1 + 1 := by simp
  rw [s1] at r2
  replace r1 := r1.stay b2
  rw [s1] at b2
  change Rw ((w.alloc (.cells #[.string ⟨l.toArray⟩] 9)).alloc (.cells (cells5 2 0 [] (.slice none 0 0) (.slice none 0 0)).toArray 29)) w.heap.size 9 [.string ⟨l.toArray⟩] at r1
  have bb := b1.trans (b2.mono (by omega))
  generalize (w.alloc (.cells #[.string ⟨l.toArray⟩] 9)).alloc (.cells (cells5 2 0 [] (.slice none 0 0) (.slice none 0 0)).toArray 29) = W at *
  have r3 := Rw.new W 29 (cells5 6 0 [] (.slice (some ⟨w.heap.size, 0, none⟩) 1 1) (.slice (some ⟨w.heap.size + 1, 0, none⟩) 1 1))
  have b3 : Below W.heap.size W (W.alloc (.cells (cells5 6 0 [] (.slice (some ⟨w.heap.size, 0, none⟩) 1 1) (.slice (some ⟨w.heap.size + 1, 0, none⟩) 1 1)).toArray 29)) := (Below.refl _ _).alloc (Nat.le_refl _) _
  rw [s2] at r3
  replace r1 := r1.stay b3
  replace r2 := r2.stay b3
  replace bb := bb.trans (b3.mono bb.size)
  generalize W.alloc (.cells (cells5 6 0 [] (.slice (some ⟨w.heap.size, 0, none⟩) 1 1) (.slice (some ⟨w.heap.size + 1, 0, none⟩) 1 1)).toArray 29) = X at *
  have c1 := Rw.cell r1 0
  refine ⟨⟨_, _, rfl, .inr ⟨w.heap.size, 0, 1, rfl, Nat.le_refl _, Nat.le_refl _, Rw.lt r1, ?_⟩, .inr ⟨w.heap.size + 1, 0, 1, rfl, by show w.heap.size ≤ w.heap.size + 1; omega, Rw.lt r2, ?_⟩⟩, r3, bb, c1⟩
  · intro j s hs
    cases j with
    | zero => simp at hs; subst hs; exact c1
    | succ j => simp at hs
  · intro i kid hi
    cases i with
    | succ i => simp at hi
    | zero =>
      simp at hi
      subst hi
      refine ⟨_, rfl, fun j u hu => ?_, JAt.leaf _ _ 0 2 0 []⟩
      rw [show 0 + 5 * 0 + j = j by omega, Rw.cell r2 j]
      exact hu
theorem one_zero5 : ∀ v ∈ zero5, v.oneCell' = true := one5 _ _ _ rfl rfl
theorem at_ten (a : Int) : ∃ q : Nat, q ≤ 9 ∧ wrap64 ((IntKind.u64.wrap a).tmod 10) = (q : Int) := by
  have h0 : 0 ≤ IntKind.u64.wrap a := by simp only [IntKind.wrap, IntKind.signed, IntKind.bits]; simp; omega
  rw [Int.tmod_eq_emod_of_nonneg h0]
  refine ⟨(IntKind.u64.wrap a % 10).toNat, by omega, ?_⟩
  simp only [wrap64]
  omega
set_option maxHeartbeats 3200000 in
set_option maxRecDepth 100000 in
theorem deep_any (n : Int) (l0 : Bs) (hl0 : l0.length ≤ 9223372036854775807) (w : World) (hE : Env w) :
    Calls Tryd.prog 7 #[.int .i64 n, .string ⟨l0.toArray⟩] w fun e w' => e = .returned (.bool true) ∧ Below w.heap.size w w' := by
  have hbig := hE.big
  have KL := Lib.hid (lives_any w hE)
  have hs0 : (⟨l0.toArray⟩ : ByteArray).size = l0.length := by simp [ByteArray.size]
  have hx := take_early2 l0 250 250 rfl
  have hlen : (l0.take 250).length ≤ 250 := by rw [List.length_take]; omega
  obtain ⟨q, hq9, hqe⟩ := at_ten n
  have hrd := nest_read q hq9
  have hnl := nest_len q
  go_enter Tryd.func7, Tryd.ntmps7
  go_wp2_with fail
  refine KL.out.mono ?_
  rintro e w1 ⟨rfl, hb1⟩
  clear KL
  go_upto_region 6 with fail
  try rw [hqe]
  clear hqe
  have HRD : Unit → (readN (nestL q)).2 = if q ≤ 6 then 0 else 3 := fun _ => hrd
  clear hrd
  have HNL : Unit → nestL q = List.replicate q 91 ++ [49] ++ List.replicate q 93 := fun _ => rfl
  go_loopw [5, 6, 7] (fun a b i wr => ∃ k : Nat, k ≤ q ∧ i = .int .i64 (k : Int) ∧ a = .string ⟨(List.replicate k 91).toArray⟩ ∧ b = .string ⟨(List.replicate k 93).toArray⟩ ∧ Below w1.heap.size w1 wr) (fun _ _ i _ => q - (intOf i).toNat)
  case atStart => exact ⟨0, by omega, rfl, rfl, rfl, Below.refl _ _⟩
  case round =>
    obtain ⟨k, hk, rfl, rfl, rfl, hbr⟩ := hrel
    have hbw := hb1.trans (hbr.mono hb1.size)
    have ha : (⟨(List.replicate k (91 : UInt8)).toArray⟩ : ByteArray) ++ { data := #[91] } = ⟨(List.replicate (k + 1) 91).toArray⟩ := by rw [List.replicate_succ']; exact cat_text _ [91]
    have hb : (⟨(List.replicate k (93 : UInt8)).toArray⟩ : ByteArray) ++ { data := #[93] } = ⟨(List.replicate (k + 1) 93).toArray⟩ := by rw [List.replicate_succ']; exact cat_text _ [93]
    have hla : (List.replicate k (91 : UInt8)).length ≤ 9 := by simp; omega
    have hlb : (List.replicate k (93 : UInt8)).length ≤ 9 := by simp; omega
    obtain ⟨A, hA⟩ : ∃ A, A = List.replicate k (91 : UInt8) := ⟨_, rfl⟩
    obtain ⟨B, hB⟩ : ∃ A, A = List.replicate k (93 : UInt8) := ⟨_, rfl⟩
    by_cases hlt : k < q
    · obtain ⟨A2, hA2⟩ : ∃ A, A = List.replicate (k + 1) (91 : UInt8) := ⟨_, rfl⟩
      obtain ⟨B2, hB2⟩ : ∃ A, A = List.replicate (k + 1) (93 : UInt8) := ⟨_, rfl⟩
      have hki : (k : Int) < (q : Int) := by omega
      have HA2 : Unit → A2 = List.replicate (k + 1) (91 : UInt8) := fun _ => hA2
      have HB2 : Unit → B2 = List.replicate (k + 1) (93 : UInt8) := fun _ => hB2
      rw [← hA, ← hA2] at ha
      rw [← hB, ← hB2] at hb
      rw [← hA] at hla
      rw [← hB] at hlb
      rw [← hA, ← hB]
      clear hA hB hA2 hB2
      go_wp2_with fail
      go_roundw
      case rel => exact ⟨k + 1, by omega, by go_num, by rw [HA2 ()], by rw [HB2 ()], hbr⟩
      case measure => simp [intOf]; omega
    · obtain rfl : k = q := by omega
      clear ha hb
      have hc1 : (⟨A.toArray⟩ : ByteArray) ++ { data := #[49] } = ⟨(A ++ [49]).toArray⟩ := cat_text _ [49]
      obtain ⟨M, hM⟩ : ∃ M, M = A ++ [49] := ⟨_, rfl⟩
      rw [← hM] at hc1
      have hc2 : (⟨M.toArray⟩ : ByteArray) ++ ⟨B.toArray⟩ = ⟨(nestL k).toArray⟩ := by rw [HNL (), ← hA, ← hB, ← hM]; exact cat_text _ _
      rw [← hA] at hla
      rw [← hB] at hlb
      have hM10 : M.length ≤ 10 := by rw [hM, List.length_append]; simp only [List.length_cons, List.length_nil]; omega
      rw [← hA, ← hB]
      clear hA hB hM
      have K1 := Lib.hid (read_any (nestL k) wr (hE.keep (hbw.mono hbig)) (by omega))
      have HR1 := HRD ()
      generalize readN (nestL k) = R at *
      obtain ⟨rj, er⟩ := R
      simp only at HR1 K1
      generalize nestL k = NL at *
      go_wp2_with fail
      refine K1.out.mono ?_
      rintro e w2 ⟨cs, rfl, hJ, hb2⟩
      obtain ⟨h5, ho⟩ := hJ.five
      have rN := Rw.new w2 29 zero5
      clear K1 hc1 hc2
      go_upto_region 11 with (refine store_arr w2.heap.size 29 zero5 rN 5 rfl 29 (by kernel_rfl) cs h5 ho _ _ rfl rfl rfl rfl ?_)
      rw [World.setRow_alloc_new]
      have hb3 : Below w.heap.size w (w2.alloc (.cells cs.toArray 29)) := (hbw.trans (hb2.mono hbw.size)).alloc (Nat.le_trans hbw.size hb2.size) _
      clear rN hJ hb2
      generalize w2.alloc (.cells cs.toArray 29) = w3 at *
      have her : (k ≤ 6 ∧ er = 0) ∨ (¬ k ≤ 6 ∧ er = 3) := by
        by_cases h : k ≤ 6
        · rw [if_pos h] at HR1; exact .inl ⟨h, HR1⟩
        · rw [if_neg h] at HR1; exact .inr ⟨h, HR1⟩
      clear HR1 HRD
      generalize hLL : l0.take 250 = l at *
      clear hLL
      rcases her with ⟨h6, rfl⟩ | ⟨h6, rfl⟩
      · have h6a : ¬ (6 : Int) < (k : Int) := by omega
        have h6b : (k : Int) ≤ 6 := by omega
        go_upto_region 14 with fail
        obtain ⟨hJ, rT, hbn, cK⟩ := obj_at w3 l
        have hb4 := hb3.trans (hbn.mono hb3.size)
        have hT3 : w3.heap.size < w3.heap.size + 1 + 1 := by omega
        clear hbn hb3
        change Code.wp _ _ _ _ ((((w3.alloc (.cells #[.string ⟨l.toArray⟩] 9)).alloc (.cells (cells5 2 0 [] (.slice none 0 0) (.slice none 0 0)).toArray 29)).alloc (.cells (cells5 6 0 [] (.slice (some ⟨w3.heap.size, 0, none⟩) 1 1) (.slice (some ⟨w3.heap.size + 1, 0, none⟩) 1 1)).toArray 29)))
        generalize (((w3.alloc (.cells #[.string ⟨l.toArray⟩] 9)).alloc (.cells (cells5 2 0 [] (.slice none 0 0) (.slice none 0 0)).toArray 29)).alloc (.cells (cells5 6 0 [] (.slice (some ⟨w3.heap.size, 0, none⟩) 1 1) (.slice (some ⟨w3.heap.size + 1, 0, none⟩) 1 1)).toArray 29)) = w4 at *
        generalize w3.heap.size + 1 + 1 = T at *
        generalize w3.heap.size = KB at *
        have hE4 := hE.keep (hb4.mono hbig)
        have K2 := Lib.hid (write_any _ 2 _ (objJ l) w4 hJ hE4 (obj_siz l (by omega)) (obj_rg l))
        have K3 := Lib.hid (fun w5 (h : Below w4.heap.size w4 w5) => right_any _ 2 _ (objJ l) w5 (hJ.keep (S := fun _ => False) (Asd.of_below h) (fun _ _ _ h => h)) (hE4.keep (h.mono (Nat.le_trans hbig hb4.size))) (obj_siz l (by omega)))
        clear hJ
        unfold writeN at K2
        rw [obj_right] at K2
        simp only [obj_right] at K3
        cases hto : textOk l with
        | false =>
          rw [hto] at K2
          simp only [hto] at K3
          go_wp2_with (refine load_val T 29 _ rT rfl _ rfl rfl rfl ?_)
          refine K2.out.mono ?_
          rintro e w5 ⟨rfl, hb5⟩
          replace rT := rT.stay hb5
          have K4 := Lib.hid (K3.out w5 hb5)
          clear K2 K3
          go_wp2_with (refine load_val T 29 _ rT rfl _ rfl rfl rfl ?_)
          refine K4.out.mono ?_
          rintro e w6 ⟨rfl, hb6⟩
          clear K4
          have hbb := (hb4.trans (hb5.mono hb4.size)).trans (hb6.mono (Nat.le_trans hb4.size hb5.size))
          go_wp2_with fail
          go_ret
          exact ⟨rfl, hbb⟩
        | true =>
          rw [hto] at K2
          clear K3
          obtain ⟨hg1, hg2⟩ := obj_get l hto
          have hrw := read_wr (objJ l) (by rw [obj_right]; exact hto) (obj_rg l)
          have hwl := obj_len l (textOk_len hto)
          go_wp2_with (refine load_val T 29 _ rT rfl _ rfl rfl rfl ?_)
          refine K2.out.mono ?_
          rintro e w5 ⟨rfl, hb5⟩
          replace rT := rT.stay hb5
          replace cK : w5.cell? ⟨KB, 0, none⟩ = some (.string ⟨l.toArray⟩) := by rw [hb5.cell (World.block_lt_of_cell? w4 _ cK)]; exact cK
          have hbw5 := hb4.trans (hb5.mono hb4.size)
          have K4 : Hid (Calls Tryd.prog 19 #[.string ⟨(wrN 6 (objJ l)).toArray⟩] w5 fun e w' => ∃ cs, e = .returned (.tuple #[.agg cs.toArray, .int .i64 0]) ∧ JAt (fun k => w5.heap.size ≤ k) w' 7 cs (objJ l) ∧ Below w5.heap.size w5 w') := by
            have := read_any (wrN 6 (objJ l)) w5 (hE.keep (hbw5.mono hbig)) (by omega)
            rw [hrw] at this
            exact this
          clear K2 hb5 hrw hwl
          go_wp2_with fail
          refine K4.out.mono ?_
          rintro e w6 ⟨cs2, rfl, hJ6, hb6⟩
          clear K4
          obtain ⟨h52, ho2⟩ := hJ6.five
          replace rT := rT.stay hb6
          replace cK : w6.cell? ⟨KB, 0, none⟩ = some (.string ⟨l.toArray⟩) := by rw [hb6.cell (World.block_lt_of_cell? w5 _ cK)]; exact cK
          have hbw6 := hbw5.trans (hb6.mono hbw5.size)
          clear hb6 hbw5
          have rN := Rw.new w6 29 zero5
          go_upto_region 18 with (refine store_arr w6.heap.size 29 zero5 rN 5 rfl 29 (by kernel_rfl) cs2 h52 ho2 _ _ rfl rfl rfl rfl ?_)
          rw [World.setRow_alloc_new]
          have rT2 := Rw.new w6 29 cs2
          have hbl : Below w6.heap.size w6 (w6.alloc (.cells cs2.toArray 29)) := (Below.refl _ _).alloc (Nat.le_refl _) _
          replace rT := rT.stay hbl
          replace cK : (w6.alloc (.cells cs2.toArray 29)).cell? ⟨KB, 0, none⟩ = some (.string ⟨l.toArray⟩) := by rw [hbl.cell (World.block_lt_of_cell? w6 _ cK)]; exact cK
          replace hJ6 := hJ6.keep (S := fun _ => False) (Asd.of_below hbl) (fun _ _ _ h => h)
          have hb7 := hbw6.trans (hbl.mono hbw6.size)
          clear rN hbl hbw6
          generalize w6.alloc (.cells cs2.toArray 29) = w7 at *
          generalize w6.heap.size = T2 at *
          have cT3 := Rw.cell rT 3
          change _ = some (Value.slice (some ⟨KB, 0, none⟩) 1 1) at cT3
          have hTl := Rw.lt rT
          have hKl := World.block_lt_of_cell? w7 _ cK
          have hE7 := hE.keep (hb7.mono hbig)
          have KG1 : Hid (∀ w', Below w7.heap.size w7 w' → Calls Tryd.prog 22 #[.agg cs2.toArray, .string ⟨l.toArray⟩] w' fun e w'' => ∃ kx dx, e = .returned (.tuple #[.agg (cells5 2 0 [] kx dx).toArray, .bool true]) ∧ (∀ v ∈ cells5 2 0 [] kx dx, v.oneCell' = true) ∧ Below w'.heap.size w' w'') := fun w' h => by
            refine (get_any _ 6 cs2 (objJ l) l w' (hJ6.keep (S := fun _ => False) (Asd.of_below h) (fun _ _ _ h => h)) (hE7.keep (h.mono (Nat.le_trans hbig hb7.size))) (obj_siz l (by omega)) (obj_siz l (by omega))).mono ?_
            rw [hg1]
            rintro e w'' ⟨⟨cs, rfl, hJx⟩, hbx⟩
            have h1 := hJx.five.2
            obtain ⟨_, kx, dx, _, rfl, _, _⟩ := hJx.open
            exact ⟨kx, dx, rfl, h1, hbx⟩
          have KG2 : Hid (∀ w', Below w7.heap.size w7 w' → Calls Tryd.prog 22 #[.agg cs2.toArray, .string ⟨(l ++ [120]).toArray⟩] w' fun e w'' => e = .returned (.tuple #[.agg zero5.toArray, .bool false]) ∧ Below w'.heap.size w' w'') := fun w' h => by
            refine (get_any _ 6 cs2 (objJ l) (l ++ [120]) w' (hJ6.keep (S := fun _ => False) (Asd.of_below h) (fun _ _ _ h => h)) (hE7.keep (h.mono (Nat.le_trans hbig hb7.size))) (obj_siz l (by omega)) (obj_siz l (by omega))).mono ?_
            rw [hg2]
            exact fun e w'' h => h
          have hca : (⟨l.toArray⟩ : ByteArray) ++ { data := #[120] } = ⟨(l ++ [120]).toArray⟩ := cat_text l [120]
          obtain ⟨LX, hLX⟩ : ∃ L, L = l ++ [120] := ⟨_, rfl⟩
          rw [← hLX] at hca KG2
          clear hLX hg1 hg2 hJ6 rT
          have hl1 : ¬ 9223372036854775807 < l.length + 1 := by omega
          refine wp_region_held (S := fun w' => Below w7.heap.size w7 w') (by kernel_rfl) ?_
          have hS : Below w7.heap.size w7 { w7 with drawn := w7.drawn + 1 } := (Below.refl _ w7).drew
          generalize { w7 with drawn := w7.drawn + 1 } = Dp at *
          refine held_val 0 rfl (by kernel_rfl) (by kernel_rfl) (by kernel_rfl) (fun _ _ _ _ h => h) (by rfl) hS ⟨.agg cs2.toArray, fun w' hw' => ?_, ?_⟩
          · exact run_load_val _ rfl T2 29 cs2 (rT2.stay hw') h52 rfl
          simp only [Act.put, List.setIfInBounds_toArray, List.set_cons_zero, List.set_cons_succ]
          refine held_val 1 rfl (by kernel_rfl) (by kernel_rfl) (by kernel_rfl) (fun _ _ _ _ h => h) (by rfl) hS ?_
          apply Exists.intro
          refine ⟨fun w' hw' => ?_, ?_⟩
          · skip
            go_simp
            first | done | rfl | exact ⟨rfl, rfl⟩
          simp only [Act.put, List.setIfInBounds_toArray, List.set_cons_zero, List.set_cons_succ]
          refine held_val 2 rfl (by kernel_rfl) (by kernel_rfl) (by kernel_rfl) (fun _ _ _ _ h => h) (by rfl) hS ?_
          apply Exists.intro
          refine ⟨fun w' hw' => ?_, ?_⟩
          · have e1 : w'.cell? ⟨T, 3, none⟩ = some (.slice (some ⟨KB, 0, none⟩) 1 1) := by rw [hw'.cell hTl]; exact cT3
            go_simp
            first | done | rfl | exact ⟨rfl, rfl⟩
          simp only [Act.put, List.setIfInBounds_toArray, List.set_cons_zero, List.set_cons_succ]
          refine held_val 3 rfl (by kernel_rfl) (by kernel_rfl) (by kernel_rfl) (fun _ _ _ _ h => h) (by rfl) hS ?_
          apply Exists.intro
          refine ⟨fun w' hw' => ?_, ?_⟩
          · skip
            go_simp
            first | done | rfl | exact ⟨rfl, rfl⟩
          simp only [Act.put, List.setIfInBounds_toArray, List.set_cons_zero, List.set_cons_succ]
          refine held_val 4 rfl (by kernel_rfl) (by kernel_rfl) (by kernel_rfl) (fun _ _ _ _ h => h) (by rfl) hS ?_
          apply Exists.intro
          refine ⟨fun w' hw' => ?_, ?_⟩
          · have e1 : w'.cell? ⟨KB, 0, none⟩ = some (.string ⟨l.toArray⟩) := by rw [hw'.cell hKl]; exact cK
            go_simp
            first | done | rfl | exact ⟨rfl, rfl⟩
          simp only [Act.put, List.setIfInBounds_toArray, List.set_cons_zero, List.set_cons_succ]
          refine held_two 5 9 (by kernel_rfl) rfl rfl (by rfl) (by rfl) ?_ ?_
          · skip
            refine wp_call2 ?_
            apply Exists.intro
            apply Exists.intro
            refine ⟨?_, ?_⟩
            · go_simp
              first | done | rfl | exact ⟨rfl, rfl⟩
            refine (KG1.out _ hS).mono ?_
            rintro e xp ⟨kxp, dxp, rfl, hoxp, hcp⟩
            replace hS := hS.trans (hcp.mono hS.size)
            refine ⟨_, rfl, hS, ?_⟩
            simp only [Act.put, List.setIfInBounds_toArray, List.set_cons_zero, List.set_cons_succ]
            refine held_val 6 rfl (by kernel_rfl) (by kernel_rfl) (by kernel_rfl) (fun _ _ _ _ h => h) (by rfl) hS ?_
            apply Exists.intro
            refine ⟨fun w' hw' => ?_, ?_⟩
            · skip
              go_simp
              first | done | rfl | exact ⟨rfl, rfl⟩
            simp only [Act.put, List.setIfInBounds_toArray, List.set_cons_zero, List.set_cons_succ]
            refine held_val 7 rfl (by kernel_rfl) (by kernel_rfl) (by kernel_rfl) (fun _ _ _ _ h => h) (by rfl) hS ?_
            apply Exists.intro
            refine ⟨fun w' hw' => ?_, ?_⟩
            · skip
              go_simp
              first | done | rfl | exact ⟨rfl, rfl⟩
            simp only [Act.put, List.setIfInBounds_toArray, List.set_cons_zero, List.set_cons_succ]
            refine held_val 8 rfl (by kernel_rfl) (by kernel_rfl) (by kernel_rfl) (fun _ _ _ _ h => h) (by rfl) hS ?_
            apply Exists.intro
            refine ⟨fun w' hw' => ?_, ?_⟩
            · skip
              go_simp
              first | done | rfl | exact ⟨rfl, rfl⟩
            simp only [Act.put, List.setIfInBounds_toArray, List.set_cons_zero, List.set_cons_succ]
            refine held_one 9 (by kernel_rfl) rfl (by rfl) ?_
            unfold Oper.wp
            go_simp
            have rN := Rw.new xp 29 zero5
            have hS2 : Below w7.heap.size w7 (xp.alloc (.cells zero5.toArray 29)) := hS.alloc hS.size _
            refine ⟨hS2, ?_⟩
            refine held_one 10 (by kernel_rfl) rfl (by rfl) ?_
            refine wp_store_val _ _ rfl _ _ rfl rfl (run_storeVar_row _ _ 29 _ _ _ rN (by kernel_rfl) rfl (by rw [Array.all_eq_true_iff_forall_mem]; intro v hv; exact hoxp v (by simpa using hv))) ?_
            rw [World.setRow_alloc_new]
            have hS3 : Below w7.heap.size w7 (xp.alloc (.cells (cells5 2 0 [] kxp dxp).toArray 29)) := hS.alloc hS.size _
            have rXp := Rw.new xp 29 (cells5 2 0 [] kxp dxp)
            refine ⟨hS3, ?_⟩
            simp only [Act.put]
            clear hS hS2 rN
            have hS := hS3
            clear hS3
            generalize xp.alloc (.cells (cells5 2 0 [] kxp dxp).toArray 29) = yp at *
            generalize xp.heap.size = zp at *
            refine held_val 11 rfl (by kernel_rfl) (by kernel_rfl) (by kernel_rfl) (fun _ _ _ _ h => h) (by rfl) hS ?_
            apply Exists.intro
            refine ⟨fun w' hw' => ?_, ?_⟩
            · skip
              go_simp
              first | done | rfl | exact ⟨rfl, rfl⟩
            simp only [Act.put, List.setIfInBounds_toArray, List.set_cons_zero, List.set_cons_succ]
            refine wpAnyH_done (by kernel_rfl) ?_ _
            have hbP := hb7.trans (hS.mono hb7.size)
            replace rT2 := rT2.stay hS
            replace cT3 : yp.cell? ⟨T, 3, none⟩ = some (.slice (some ⟨KB, 0, none⟩) 1 1) := by rw [hS.cell hTl]; exact cT3
            replace cK : yp.cell? ⟨KB, 0, none⟩ = some (.string ⟨l.toArray⟩) := by rw [hS.cell hKl]; exact cK
            replace hTl := Nat.lt_of_lt_of_le hTl hS.size
            replace hKl := Nat.lt_of_lt_of_le hKl hS.size
            have KG3 : Hid (∀ w', Below yp.heap.size yp w' → Calls Tryd.prog 22 #[.agg cs2.toArray, .string ⟨LX.toArray⟩] w' fun e w'' => e = .returned (.tuple #[.agg zero5.toArray, .bool false]) ∧ Below w'.heap.size w' w'') := fun w' h => KG2.out w' (hS.trans (h.mono hS.size))
            clear KG1 KG2 hS
            go_upto_region 19 with fail
            refine wp_region_held (S := fun w' => Below yp.heap.size yp w') (by kernel_rfl) ?_
            have hS : Below yp.heap.size yp { yp with drawn := yp.drawn + 1 } := (Below.refl _ yp).drew
            generalize { yp with drawn := yp.drawn + 1 } = Dq at *
            refine held_val 0 rfl (by kernel_rfl) (by kernel_rfl) (by kernel_rfl) (fun _ _ _ _ h => h) (by rfl) hS ⟨.agg cs2.toArray, fun w' hw' => ?_, ?_⟩
            · exact run_load_val _ rfl T2 29 cs2 (rT2.stay hw') h52 rfl
            simp only [Act.put, List.setIfInBounds_toArray, List.set_cons_zero, List.set_cons_succ]
            refine held_val 1 rfl (by kernel_rfl) (by kernel_rfl) (by kernel_rfl) (fun _ _ _ _ h => h) (by rfl) hS ?_
            apply Exists.intro
            refine ⟨fun w' hw' => ?_, ?_⟩
            · skip
              go_simp
              first | done | rfl | exact ⟨rfl, rfl⟩
            simp only [Act.put, List.setIfInBounds_toArray, List.set_cons_zero, List.set_cons_succ]
            refine held_val 2 rfl (by kernel_rfl) (by kernel_rfl) (by kernel_rfl) (fun _ _ _ _ h => h) (by rfl) hS ?_
            apply Exists.intro
            refine ⟨fun w' hw' => ?_, ?_⟩
            · have e1 : w'.cell? ⟨T, 3, none⟩ = some (.slice (some ⟨KB, 0, none⟩) 1 1) := by rw [hw'.cell hTl]; exact cT3
              go_simp
              first | done | rfl | exact ⟨rfl, rfl⟩
            simp only [Act.put, List.setIfInBounds_toArray, List.set_cons_zero, List.set_cons_succ]
            refine held_val 3 rfl (by kernel_rfl) (by kernel_rfl) (by kernel_rfl) (fun _ _ _ _ h => h) (by rfl) hS ?_
            apply Exists.intro
            refine ⟨fun w' hw' => ?_, ?_⟩
            · skip
              go_simp
              first | done | rfl | exact ⟨rfl, rfl⟩
            simp only [Act.put, List.setIfInBounds_toArray, List.set_cons_zero, List.set_cons_succ]
            refine held_val 4 rfl (by kernel_rfl) (by kernel_rfl) (by kernel_rfl) (fun _ _ _ _ h => h) (by rfl) hS ?_
            apply Exists.intro
            refine ⟨fun w' hw' => ?_, ?_⟩
            · have e1 : w'.cell? ⟨KB, 0, none⟩ = some (.string ⟨l.toArray⟩) := by rw [hw'.cell hKl]; exact cK
              go_simp
              first | done | rfl | exact ⟨rfl, rfl⟩
            simp only [Act.put, List.setIfInBounds_toArray, List.set_cons_zero, List.set_cons_succ]
            refine held_val 5 rfl (by kernel_rfl) (by kernel_rfl) (by kernel_rfl) (fun _ _ _ _ h => h) (by rfl) hS ?_
            apply Exists.intro
            refine ⟨fun w' hw' => ?_, ?_⟩
            · skip
              go_simp
              first | done | rfl | exact ⟨rfl, rfl⟩
            simp only [Act.put, List.setIfInBounds_toArray, List.set_cons_zero, List.set_cons_succ]
            refine held_two 6 10 (by kernel_rfl) rfl rfl (by rfl) (by rfl) ?_ ?_
            · skip
              refine wp_call2 ?_
              apply Exists.intro
              apply Exists.intro
              refine ⟨?_, ?_⟩
              · go_simp
                first | done | rfl | exact ⟨rfl, rfl⟩
              refine (KG3.out _ hS).mono ?_
              rintro e xq ⟨rfl, hcq⟩
              replace hS := hS.trans (hcq.mono hS.size)
              refine ⟨_, rfl, hS, ?_⟩
              simp only [Act.put, List.setIfInBounds_toArray, List.set_cons_zero, List.set_cons_succ]
              refine held_val 7 rfl (by kernel_rfl) (by kernel_rfl) (by kernel_rfl) (fun _ _ _ _ h => h) (by rfl) hS ?_
              apply Exists.intro
              refine ⟨fun w' hw' => ?_, ?_⟩
              · skip
                go_simp
                first | done | rfl | exact ⟨rfl, rfl⟩
              simp only [Act.put, List.setIfInBounds_toArray, List.set_cons_zero, List.set_cons_succ]
              refine held_val 8 rfl (by kernel_rfl) (by kernel_rfl) (by kernel_rfl) (fun _ _ _ _ h => h) (by rfl) hS ?_
              apply Exists.intro
              refine ⟨fun w' hw' => ?_, ?_⟩
              · skip
                go_simp
                first | done | rfl | exact ⟨rfl, rfl⟩
              simp only [Act.put, List.setIfInBounds_toArray, List.set_cons_zero, List.set_cons_succ]
              refine held_val 9 rfl (by kernel_rfl) (by kernel_rfl) (by kernel_rfl) (fun _ _ _ _ h => h) (by rfl) hS ?_
              apply Exists.intro
              refine ⟨fun w' hw' => ?_, ?_⟩
              · skip
                go_simp
                first | done | rfl | exact ⟨rfl, rfl⟩
              simp only [Act.put, List.setIfInBounds_toArray, List.set_cons_zero, List.set_cons_succ]
              refine held_one 10 (by kernel_rfl) rfl (by rfl) ?_
              unfold Oper.wp
              go_simp
              have rN := Rw.new xq 29 zero5
              have hS2 : Below yp.heap.size yp (xq.alloc (.cells zero5.toArray 29)) := hS.alloc hS.size _
              refine ⟨hS2, ?_⟩
              refine held_one 11 (by kernel_rfl) rfl (by rfl) ?_
              refine wp_store_val _ _ rfl _ _ rfl rfl (run_storeVar_row _ _ 29 _ _ _ rN (by kernel_rfl) rfl (by rw [Array.all_eq_true_iff_forall_mem]; intro v hv; exact one_zero5 v (by simpa using hv))) ?_
              rw [World.setRow_alloc_new]
              have hS3 : Below yp.heap.size yp (xq.alloc (.cells zero5.toArray 29)) := hS.alloc hS.size _
              have rXq := Rw.new xq 29 zero5
              refine ⟨hS3, ?_⟩
              simp only [Act.put]
              clear hS hS2 rN
              have hS := hS3
              clear hS3
              generalize xq.alloc (.cells zero5.toArray 29) = yq at *
              generalize xq.heap.size = zq at *
              refine held_val 12 rfl (by kernel_rfl) (by kernel_rfl) (by kernel_rfl) (fun _ _ _ _ h => h) (by rfl) hS ?_
              apply Exists.intro
              refine ⟨fun w' hw' => ?_, ?_⟩
              · skip
                go_simp
                first | done | rfl | exact ⟨rfl, rfl⟩
              simp only [Act.put, List.setIfInBounds_toArray, List.set_cons_zero, List.set_cons_succ]
              refine wpAnyH_done (by kernel_rfl) ?_ _
              have hbQ := hbP.trans (hS.mono hbP.size)
              replace rXp := rXp.stay hS
              have c0 := Rw.cell rXp 0
              change _ = some (Value.int .i64 2) at c0
              clear hS rXq
              go_wp2_with fail
              go_ret
              exact ⟨rfl, hbQ⟩
            · unfold Oper.wp
              go_simp
              have rN := Rw.new Dq 29 zero5
              have hzq : yp.heap.size ≤ Dq.heap.size := hS.size
              replace hS : Below yp.heap.size yp (Dq.alloc (.cells zero5.toArray 29)) := hS.alloc hS.size _
              refine ⟨hS, ?_⟩
              change wpAnyH _ _ _ _ _ _ _ _ (Dq.alloc (.cells zero5.toArray 29))
              generalize Dq.heap.size = zq at *
              generalize Dq.alloc (.cells zero5.toArray 29) = vq at *
              refine held_one 6 (by kernel_rfl) rfl (by rfl) ?_
              refine wp_call2 ?_
              apply Exists.intro
              apply Exists.intro
              refine ⟨?_, ?_⟩
              · go_simp
                first | done | rfl | exact ⟨rfl, rfl⟩
              refine (KG3.out _ hS).mono ?_
              rintro e xq ⟨rfl, hcq⟩
              replace rN := rN.stay hcq
              replace hS := hS.trans (hcq.mono hS.size)
              refine ⟨_, rfl, hS, ?_⟩
              simp only [Act.put, List.setIfInBounds_toArray, List.set_cons_zero, List.set_cons_succ]
              refine held_val 7 rfl (by kernel_rfl) (by kernel_rfl) (by kernel_rfl) (fun _ _ _ _ h => h) (by rfl) hS ?_
              apply Exists.intro
              refine ⟨fun w' hw' => ?_, ?_⟩
              · skip
                go_simp
                first | done | rfl | exact ⟨rfl, rfl⟩
              simp only [Act.put, List.setIfInBounds_toArray, List.set_cons_zero, List.set_cons_succ]
              refine held_val 8 rfl (by kernel_rfl) (by kernel_rfl) (by kernel_rfl) (fun _ _ _ _ h => h) (by rfl) hS ?_
              apply Exists.intro
              refine ⟨fun w' hw' => ?_, ?_⟩
              · skip
                go_simp
                first | done | rfl | exact ⟨rfl, rfl⟩
              simp only [Act.put, List.setIfInBounds_toArray, List.set_cons_zero, List.set_cons_succ]
              refine held_val 9 rfl (by kernel_rfl) (by kernel_rfl) (by kernel_rfl) (fun _ _ _ _ h => h) (by rfl) hS ?_
              apply Exists.intro
              refine ⟨fun w' hw' => ?_, ?_⟩
              · skip
                go_simp
                first | done | rfl | exact ⟨rfl, rfl⟩
              simp only [Act.put, List.setIfInBounds_toArray, List.set_cons_zero, List.set_cons_succ]
              refine held_one 11 (by kernel_rfl) rfl (by rfl) ?_
              refine wp_store_val _ _ rfl _ _ rfl rfl (run_storeVar_row _ _ 29 _ _ _ rN (by kernel_rfl) rfl (by rw [Array.all_eq_true_iff_forall_mem]; intro v hv; exact one_zero5 v (by simpa using hv))) ?_
              have hS3 : Below yp.heap.size yp (xq.setRow zq zero5.toArray) := below_setRow hS hzq _
              have rXq := rN.row zero5
              refine ⟨hS3, ?_⟩
              simp only [Act.put]
              clear hS rN
              have hS := hS3
              clear hS3
              generalize xq.setRow zq zero5.toArray = yq at *
              refine held_val 12 rfl (by kernel_rfl) (by kernel_rfl) (by kernel_rfl) (fun _ _ _ _ h => h) (by rfl) hS ?_
              apply Exists.intro
              refine ⟨fun w' hw' => ?_, ?_⟩
              · skip
                go_simp
                first | done | rfl | exact ⟨rfl, rfl⟩
              simp only [Act.put, List.setIfInBounds_toArray, List.set_cons_zero, List.set_cons_succ]
              refine wpAnyH_done (by kernel_rfl) ?_ _
              have hbQ := hbP.trans (hS.mono hbP.size)
              replace rXp := rXp.stay hS
              have c0 := Rw.cell rXp 0
              change _ = some (Value.int .i64 2) at c0
              clear hS rXq
              go_wp2_with fail
              go_ret
              exact ⟨rfl, hbQ⟩
          · unfold Oper.wp
            go_simp
            have rN := Rw.new Dp 29 zero5
            have hzp : w7.heap.size ≤ Dp.heap.size := hS.size
            replace hS : Below w7.heap.size w7 (Dp.alloc (.cells zero5.toArray 29)) := hS.alloc hS.size _
            refine ⟨hS, ?_⟩
            change wpAnyH _ _ _ _ _ _ _ _ (Dp.alloc (.cells zero5.toArray 29))
            generalize Dp.heap.size = zp at *
            generalize Dp.alloc (.cells zero5.toArray 29) = vp at *
            refine held_one 5 (by kernel_rfl) rfl (by rfl) ?_
            refine wp_call2 ?_
            apply Exists.intro
            apply Exists.intro
            refine ⟨?_, ?_⟩
            · go_simp
              first | done | rfl | exact ⟨rfl, rfl⟩
            refine (KG1.out _ hS).mono ?_
            rintro e xp ⟨kxp, dxp, rfl, hoxp, hcp⟩
            replace rN := rN.stay hcp
            replace hS := hS.trans (hcp.mono hS.size)
            refine ⟨_, rfl, hS, ?_⟩
            simp only [Act.put, List.setIfInBounds_toArray, List.set_cons_zero, List.set_cons_succ]
            refine held_val 6 rfl (by kernel_rfl) (by kernel_rfl) (by kernel_rfl) (fun _ _ _ _ h => h) (by rfl) hS ?_
            apply Exists.intro
            refine ⟨fun w' hw' => ?_, ?_⟩
            · skip
              go_simp
              first | done | rfl | exact ⟨rfl, rfl⟩
            simp only [Act.put, List.setIfInBounds_toArray, List.set_cons_zero, List.set_cons_succ]
            refine held_val 7 rfl (by kernel_rfl) (by kernel_rfl) (by kernel_rfl) (fun _ _ _ _ h => h) (by rfl) hS ?_
            apply Exists.intro
            refine ⟨fun w' hw' => ?_, ?_⟩
            · skip
              go_simp
              first | done | rfl | exact ⟨rfl, rfl⟩
            simp only [Act.put, List.setIfInBounds_toArray, List.set_cons_zero, List.set_cons_succ]
            refine held_val 8 rfl (by kernel_rfl) (by kernel_rfl) (by kernel_rfl) (fun _ _ _ _ h => h) (by rfl) hS ?_
            apply Exists.intro
            refine ⟨fun w' hw' => ?_, ?_⟩
            · skip
              go_simp
              first | done | rfl | exact ⟨rfl, rfl⟩
            simp only [Act.put, List.setIfInBounds_toArray, List.set_cons_zero, List.set_cons_succ]
            refine held_one 10 (by kernel_rfl) rfl (by rfl) ?_
            refine wp_store_val _ _ rfl _ _ rfl rfl (run_storeVar_row _ _ 29 _ _ _ rN (by kernel_rfl) rfl (by rw [Array.all_eq_true_iff_forall_mem]; intro v hv; exact hoxp v (by simpa using hv))) ?_
            have hS3 : Below w7.heap.size w7 (xp.setRow zp (cells5 2 0 [] kxp dxp).toArray) := below_setRow hS hzp _
            have rXp := rN.row (cells5 2 0 [] kxp dxp)
            refine ⟨hS3, ?_⟩
            simp only [Act.put]
            clear hS rN
            have hS := hS3
            clear hS3
            generalize xp.setRow zp (cells5 2 0 [] kxp dxp).toArray = yp at *
            refine held_val 11 rfl (by kernel_rfl) (by kernel_rfl) (by kernel_rfl) (fun _ _ _ _ h => h) (by rfl) hS ?_
            apply Exists.intro
            refine ⟨fun w' hw' => ?_, ?_⟩
            · skip
              go_simp
              first | done | rfl | exact ⟨rfl, rfl⟩
            simp only [Act.put, List.setIfInBounds_toArray, List.set_cons_zero, List.set_cons_succ]
            refine wpAnyH_done (by kernel_rfl) ?_ _
            have hbP := hb7.trans (hS.mono hb7.size)
            replace rT2 := rT2.stay hS
            replace cT3 : yp.cell? ⟨T, 3, none⟩ = some (.slice (some ⟨KB, 0, none⟩) 1 1) := by rw [hS.cell hTl]; exact cT3
            replace cK : yp.cell? ⟨KB, 0, none⟩ = some (.string ⟨l.toArray⟩) := by rw [hS.cell hKl]; exact cK
            replace hTl := Nat.lt_of_lt_of_le hTl hS.size
            replace hKl := Nat.lt_of_lt_of_le hKl hS.size
            have KG3 : Hid (∀ w', Below yp.heap.size yp w' → Calls Tryd.prog 22 #[.agg cs2.toArray, .string ⟨LX.toArray⟩] w' fun e w'' => e = .returned (.tuple #[.agg zero5.toArray, .bool false]) ∧ Below w'.heap.size w' w'') := fun w' h => KG2.out w' (hS.trans (h.mono hS.size))
            clear KG1 KG2 hS
            go_upto_region 19 with fail
            refine wp_region_held (S := fun w' => Below yp.heap.size yp w') (by kernel_rfl) ?_
            have hS : Below yp.heap.size yp { yp with drawn := yp.drawn + 1 } := (Below.refl _ yp).drew
            generalize { yp with drawn := yp.drawn + 1 } = Dq at *
            refine held_val 0 rfl (by kernel_rfl) (by kernel_rfl) (by kernel_rfl) (fun _ _ _ _ h => h) (by rfl) hS ⟨.agg cs2.toArray, fun w' hw' => ?_, ?_⟩
            · exact run_load_val _ rfl T2 29 cs2 (rT2.stay hw') h52 rfl
            simp only [Act.put, List.setIfInBounds_toArray, List.set_cons_zero, List.set_cons_succ]
            refine held_val 1 rfl (by kernel_rfl) (by kernel_rfl) (by kernel_rfl) (fun _ _ _ _ h => h) (by rfl) hS ?_
            apply Exists.intro
            refine ⟨fun w' hw' => ?_, ?_⟩
            · skip
              go_simp
              first | done | rfl | exact ⟨rfl, rfl⟩
            simp only [Act.put, List.setIfInBounds_toArray, List.set_cons_zero, List.set_cons_succ]
            refine held_val 2 rfl (by kernel_rfl) (by kernel_rfl) (by kernel_rfl) (fun _ _ _ _ h => h) (by rfl) hS ?_
            apply Exists.intro
            refine ⟨fun w' hw' => ?_, ?_⟩
            · have e1 : w'.cell? ⟨T, 3, none⟩ = some (.slice (some ⟨KB, 0, none⟩) 1 1) := by rw [hw'.cell hTl]; exact cT3
              go_simp
              first | done | rfl | exact ⟨rfl, rfl⟩
            simp only [Act.put, List.setIfInBounds_toArray, List.set_cons_zero, List.set_cons_succ]
            refine held_val 3 rfl (by kernel_rfl) (by kernel_rfl) (by kernel_rfl) (fun _ _ _ _ h => h) (by rfl) hS ?_
            apply Exists.intro
            refine ⟨fun w' hw' => ?_, ?_⟩
            · skip
              go_simp
              first | done | rfl | exact ⟨rfl, rfl⟩
            simp only [Act.put, List.setIfInBounds_toArray, List.set_cons_zero, List.set_cons_succ]
            refine held_val 4 rfl (by kernel_rfl) (by kernel_rfl) (by kernel_rfl) (fun _ _ _ _ h => h) (by rfl) hS ?_
            apply Exists.intro
            refine ⟨fun w' hw' => ?_, ?_⟩
            · have e1 : w'.cell? ⟨KB, 0, none⟩ = some (.string ⟨l.toArray⟩) := by rw [hw'.cell hKl]; exact cK
              go_simp
              first | done | rfl | exact ⟨rfl, rfl⟩
            simp only [Act.put, List.setIfInBounds_toArray, List.set_cons_zero, List.set_cons_succ]
            refine held_val 5 rfl (by kernel_rfl) (by kernel_rfl) (by kernel_rfl) (fun _ _ _ _ h => h) (by rfl) hS ?_
            apply Exists.intro
            refine ⟨fun w' hw' => ?_, ?_⟩
            · skip
              go_simp
              first | done | rfl | exact ⟨rfl, rfl⟩
            simp only [Act.put, List.setIfInBounds_toArray, List.set_cons_zero, List.set_cons_succ]
            refine held_two 6 10 (by kernel_rfl) rfl rfl (by rfl) (by rfl) ?_ ?_
            · skip
              refine wp_call2 ?_
              apply Exists.intro
              apply Exists.intro
              refine ⟨?_, ?_⟩
              · go_simp
                first | done | rfl | exact ⟨rfl, rfl⟩
              refine (KG3.out _ hS).mono ?_
              rintro e xq ⟨rfl, hcq⟩
              replace hS := hS.trans (hcq.mono hS.size)
              refine ⟨_, rfl, hS, ?_⟩
              simp only [Act.put, List.setIfInBounds_toArray, List.set_cons_zero, List.set_cons_succ]
              refine held_val 7 rfl (by kernel_rfl) (by kernel_rfl) (by kernel_rfl) (fun _ _ _ _ h => h) (by rfl) hS ?_
              apply Exists.intro
              refine ⟨fun w' hw' => ?_, ?_⟩
              · skip
                go_simp
                first | done | rfl | exact ⟨rfl, rfl⟩
              simp only [Act.put, List.setIfInBounds_toArray, List.set_cons_zero, List.set_cons_succ]
              refine held_val 8 rfl (by kernel_rfl) (by kernel_rfl) (by kernel_rfl) (fun _ _ _ _ h => h) (by rfl) hS ?_
              apply Exists.intro
              refine ⟨fun w' hw' => ?_, ?_⟩
              · skip
                go_simp
                first | done | rfl | exact ⟨rfl, rfl⟩
              simp only [Act.put, List.setIfInBounds_toArray, List.set_cons_zero, List.set_cons_succ]
              refine held_val 9 rfl (by kernel_rfl) (by kernel_rfl) (by kernel_rfl) (fun _ _ _ _ h => h) (by rfl) hS ?_
              apply Exists.intro
              refine ⟨fun w' hw' => ?_, ?_⟩
              · skip
                go_simp
                first | done | rfl | exact ⟨rfl, rfl⟩
              simp only [Act.put, List.setIfInBounds_toArray, List.set_cons_zero, List.set_cons_succ]
              refine held_one 10 (by kernel_rfl) rfl (by rfl) ?_
              unfold Oper.wp
              go_simp
              have rN := Rw.new xq 29 zero5
              have hS2 : Below yp.heap.size yp (xq.alloc (.cells zero5.toArray 29)) := hS.alloc hS.size _
              refine ⟨hS2, ?_⟩
              refine held_one 11 (by kernel_rfl) rfl (by rfl) ?_
              refine wp_store_val _ _ rfl _ _ rfl rfl (run_storeVar_row _ _ 29 _ _ _ rN (by kernel_rfl) rfl (by rw [Array.all_eq_true_iff_forall_mem]; intro v hv; exact one_zero5 v (by simpa using hv))) ?_
              rw [World.setRow_alloc_new]
              have hS3 : Below yp.heap.size yp (xq.alloc (.cells zero5.toArray 29)) := hS.alloc hS.size _
              have rXq := Rw.new xq 29 zero5
              refine ⟨hS3, ?_⟩
              simp only [Act.put]
              clear hS hS2 rN
              have hS := hS3
              clear hS3
              generalize xq.alloc (.cells zero5.toArray 29) = yq at *
              generalize xq.heap.size = zq at *
              refine held_val 12 rfl (by kernel_rfl) (by kernel_rfl) (by kernel_rfl) (fun _ _ _ _ h => h) (by rfl) hS ?_
              apply Exists.intro
              refine ⟨fun w' hw' => ?_, ?_⟩
              · skip
                go_simp
                first | done | rfl | exact ⟨rfl, rfl⟩
              simp only [Act.put, List.setIfInBounds_toArray, List.set_cons_zero, List.set_cons_succ]
              refine wpAnyH_done (by kernel_rfl) ?_ _
              have hbQ := hbP.trans (hS.mono hbP.size)
              replace rXp := rXp.stay hS
              have c0 := Rw.cell rXp 0
              change _ = some (Value.int .i64 2) at c0
              clear hS rXq
              go_wp2_with fail
              go_ret
              exact ⟨rfl, hbQ⟩
            · unfold Oper.wp
              go_simp
              have rN := Rw.new Dq 29 zero5
              have hzq : yp.heap.size ≤ Dq.heap.size := hS.size
              replace hS : Below yp.heap.size yp (Dq.alloc (.cells zero5.toArray 29)) := hS.alloc hS.size _
              refine ⟨hS, ?_⟩
              change wpAnyH _ _ _ _ _ _ _ _ (Dq.alloc (.cells zero5.toArray 29))
              generalize Dq.heap.size = zq at *
              generalize Dq.alloc (.cells zero5.toArray 29) = vq at *
              refine held_one 6 (by kernel_rfl) rfl (by rfl) ?_
              refine wp_call2 ?_
              apply Exists.intro
              apply Exists.intro
              refine ⟨?_, ?_⟩
              · go_simp
                first | done | rfl | exact ⟨rfl, rfl⟩
              refine (KG3.out _ hS).mono ?_
              rintro e xq ⟨rfl, hcq⟩
              replace rN := rN.stay hcq
              replace hS := hS.trans (hcq.mono hS.size)
              refine ⟨_, rfl, hS, ?_⟩
              simp only [Act.put, List.setIfInBounds_toArray, List.set_cons_zero, List.set_cons_succ]
              refine held_val 7 rfl (by kernel_rfl) (by kernel_rfl) (by kernel_rfl) (fun _ _ _ _ h => h) (by rfl) hS ?_
              apply Exists.intro
              refine ⟨fun w' hw' => ?_, ?_⟩
              · skip
                go_simp
                first | done | rfl | exact ⟨rfl, rfl⟩
              simp only [Act.put, List.setIfInBounds_toArray, List.set_cons_zero, List.set_cons_succ]
              refine held_val 8 rfl (by kernel_rfl) (by kernel_rfl) (by kernel_rfl) (fun _ _ _ _ h => h) (by rfl) hS ?_
              apply Exists.intro
              refine ⟨fun w' hw' => ?_, ?_⟩
              · skip
                go_simp
                first | done | rfl | exact ⟨rfl, rfl⟩
              simp only [Act.put, List.setIfInBounds_toArray, List.set_cons_zero, List.set_cons_succ]
              refine held_val 9 rfl (by kernel_rfl) (by kernel_rfl) (by kernel_rfl) (fun _ _ _ _ h => h) (by rfl) hS ?_
              apply Exists.intro
              refine ⟨fun w' hw' => ?_, ?_⟩
              · skip
                go_simp
                first | done | rfl | exact ⟨rfl, rfl⟩
              simp only [Act.put, List.setIfInBounds_toArray, List.set_cons_zero, List.set_cons_succ]
              refine held_one 11 (by kernel_rfl) rfl (by rfl) ?_
              refine wp_store_val _ _ rfl _ _ rfl rfl (run_storeVar_row _ _ 29 _ _ _ rN (by kernel_rfl) rfl (by rw [Array.all_eq_true_iff_forall_mem]; intro v hv; exact one_zero5 v (by simpa using hv))) ?_
              have hS3 : Below yp.heap.size yp (xq.setRow zq zero5.toArray) := below_setRow hS hzq _
              have rXq := rN.row zero5
              refine ⟨hS3, ?_⟩
              simp only [Act.put]
              clear hS rN
              have hS := hS3
              clear hS3
              generalize xq.setRow zq zero5.toArray = yq at *
              refine held_val 12 rfl (by kernel_rfl) (by kernel_rfl) (by kernel_rfl) (fun _ _ _ _ h => h) (by rfl) hS ?_
              apply Exists.intro
              refine ⟨fun w' hw' => ?_, ?_⟩
              · skip
                go_simp
                first | done | rfl | exact ⟨rfl, rfl⟩
              simp only [Act.put, List.setIfInBounds_toArray, List.set_cons_zero, List.set_cons_succ]
              refine wpAnyH_done (by kernel_rfl) ?_ _
              have hbQ := hbP.trans (hS.mono hbP.size)
              replace rXp := rXp.stay hS
              have c0 := Rw.cell rXp 0
              change _ = some (Value.int .i64 2) at c0
              clear hS rXq
              go_wp2_with fail
              go_ret
              exact ⟨rfl, hbQ⟩
      · have h6a : (6 : Int) < (k : Int) := by omega
        have h6b : ¬ (k : Int) ≤ 6 := by omega
        go_upto_region 14 with fail
        obtain ⟨hJ, rT, hbn, cK⟩ := obj_at w3 l
        have hb4 := hb3.trans (hbn.mono hb3.size)
        have hT3 : w3.heap.size < w3.heap.size + 1 + 1 := by omega
        clear hbn hb3
        change Code.wp _ _ _ _ ((((w3.alloc (.cells #[.string ⟨l.toArray⟩] 9)).alloc (.cells (cells5 2 0 [] (.slice none 0 0) (.slice none 0 0)).toArray 29)).alloc (.cells (cells5 6 0 [] (.slice (some ⟨w3.heap.size, 0, none⟩) 1 1) (.slice (some ⟨w3.heap.size + 1, 0, none⟩) 1 1)).toArray 29)))
        generalize (((w3.alloc (.cells #[.string ⟨l.toArray⟩] 9)).alloc (.cells (cells5 2 0 [] (.slice none 0 0) (.slice none 0 0)).toArray 29)).alloc (.cells (cells5 6 0 [] (.slice (some ⟨w3.heap.size, 0, none⟩) 1 1) (.slice (some ⟨w3.heap.size + 1, 0, none⟩) 1 1)).toArray 29)) = w4 at *
        generalize w3.heap.size + 1 + 1 = T at *
        generalize w3.heap.size = KB at *
        have hE4 := hE.keep (hb4.mono hbig)
        have K2 := Lib.hid (write_any _ 2 _ (objJ l) w4 hJ hE4 (obj_siz l (by omega)) (obj_rg l))
        have K3 := Lib.hid (fun w5 (h : Below w4.heap.size w4 w5) => right_any _ 2 _ (objJ l) w5 (hJ.keep (S := fun _ => False) (Asd.of_below h) (fun _ _ _ h => h)) (hE4.keep (h.mono (Nat.le_trans hbig hb4.size))) (obj_siz l (by omega)))
        clear hJ
        unfold writeN at K2
        rw [obj_right] at K2
        simp only [obj_right] at K3
        cases hto : textOk l with
        | false =>
          rw [hto] at K2
          simp only [hto] at K3
          go_wp2_with (refine load_val T 29 _ rT rfl _ rfl rfl rfl ?_)
          refine K2.out.mono ?_
          rintro e w5 ⟨rfl, hb5⟩
          replace rT := rT.stay hb5
          have K4 := Lib.hid (K3.out w5 hb5)
          clear K2 K3
          go_wp2_with (refine load_val T 29 _ rT rfl _ rfl rfl rfl ?_)
          refine K4.out.mono ?_
          rintro e w6 ⟨rfl, hb6⟩
          clear K4
          have hbb := (hb4.trans (hb5.mono hb4.size)).trans (hb6.mono (Nat.le_trans hb4.size hb5.size))
          go_wp2_with fail
          go_ret
          exact ⟨rfl, hbb⟩
        | true =>
          rw [hto] at K2
          clear K3
          obtain ⟨hg1, hg2⟩ := obj_get l hto
          have hrw := read_wr (objJ l) (by rw [obj_right]; exact hto) (obj_rg l)
          have hwl := obj_len l (textOk_len hto)
          go_wp2_with (refine load_val T 29 _ rT rfl _ rfl rfl rfl ?_)
          refine K2.out.mono ?_
          rintro e w5 ⟨rfl, hb5⟩
          replace rT := rT.stay hb5
          replace cK : w5.cell? ⟨KB, 0, none⟩ = some (.string ⟨l.toArray⟩) := by rw [hb5.cell (World.block_lt_of_cell? w4 _ cK)]; exact cK
          have hbw5 := hb4.trans (hb5.mono hb4.size)
          have K4 : Hid (Calls Tryd.prog 19 #[.string ⟨(wrN 6 (objJ l)).toArray⟩] w5 fun e w' => ∃ cs, e = .returned (.tuple #[.agg cs.toArray, .int .i64 0]) ∧ JAt (fun k => w5.heap.size ≤ k) w' 7 cs (objJ l) ∧ Below w5.heap.size w5 w') := by
            have := read_any (wrN 6 (objJ l)) w5 (hE.keep (hbw5.mono hbig)) (by omega)
            rw [hrw] at this
            exact this
          clear K2 hb5 hrw hwl
          go_wp2_with fail
          refine K4.out.mono ?_
          rintro e w6 ⟨cs2, rfl, hJ6, hb6⟩
          clear K4
          obtain ⟨h52, ho2⟩ := hJ6.five
          replace rT := rT.stay hb6
          replace cK : w6.cell? ⟨KB, 0, none⟩ = some (.string ⟨l.toArray⟩) := by rw [hb6.cell (World.block_lt_of_cell? w5 _ cK)]; exact cK
          have hbw6 := hbw5.trans (hb6.mono hbw5.size)
          clear hb6 hbw5
          have rN := Rw.new w6 29 zero5
          go_upto_region 18 with (refine store_arr w6.heap.size 29 zero5 rN 5 rfl 29 (by kernel_rfl) cs2 h52 ho2 _ _ rfl rfl rfl rfl ?_)
          rw [World.setRow_alloc_new]
          have rT2 := Rw.new w6 29 cs2
          have hbl : Below w6.heap.size w6 (w6.alloc (.cells cs2.toArray 29)) := (Below.refl _ _).alloc (Nat.le_refl _) _
          replace rT := rT.stay hbl
          replace cK : (w6.alloc (.cells cs2.toArray 29)).cell? ⟨KB, 0, none⟩ = some (.string ⟨l.toArray⟩) := by rw [hbl.cell (World.block_lt_of_cell? w6 _ cK)]; exact cK
          replace hJ6 := hJ6.keep (S := fun _ => False) (Asd.of_below hbl) (fun _ _ _ h => h)
          have hb7 := hbw6.trans (hbl.mono hbw6.size)
          clear rN hbl hbw6
          generalize w6.alloc (.cells cs2.toArray 29) = w7 at *
          generalize w6.heap.size = T2 at *
          have cT3 := Rw.cell rT 3
          change _ = some (Value.slice (some ⟨KB, 0, none⟩) 1 1) at cT3
          have hTl := Rw.lt rT
          have hKl := World.block_lt_of_cell? w7 _ cK
          have hE7 := hE.keep (hb7.mono hbig)
          have KG1 : Hid (∀ w', Below w7.heap.size w7 w' → Calls Tryd.prog 22 #[.agg cs2.toArray, .string ⟨l.toArray⟩] w' fun e w'' => ∃ kx dx, e = .returned (.tuple #[.agg (cells5 2 0 [] kx dx).toArray, .bool true]) ∧ (∀ v ∈ cells5 2 0 [] kx dx, v.oneCell' = true) ∧ Below w'.heap.size w' w'') := fun w' h => by
            refine (get_any _ 6 cs2 (objJ l) l w' (hJ6.keep (S := fun _ => False) (Asd.of_below h) (fun _ _ _ h => h)) (hE7.keep (h.mono (Nat.le_trans hbig hb7.size))) (obj_siz l (by omega)) (obj_siz l (by omega))).mono ?_
            rw [hg1]
            rintro e w'' ⟨⟨cs, rfl, hJx⟩, hbx⟩
            have h1 := hJx.five.2
            obtain ⟨_, kx, dx, _, rfl, _, _⟩ := hJx.open
            exact ⟨kx, dx, rfl, h1, hbx⟩
          have KG2 : Hid (∀ w', Below w7.heap.size w7 w' → Calls Tryd.prog 22 #[.agg cs2.toArray, .string ⟨(l ++ [120]).toArray⟩] w' fun e w'' => e = .returned (.tuple #[.agg zero5.toArray, .bool false]) ∧ Below w'.heap.size w' w'') := fun w' h => by
            refine (get_any _ 6 cs2 (objJ l) (l ++ [120]) w' (hJ6.keep (S := fun _ => False) (Asd.of_below h) (fun _ _ _ h => h)) (hE7.keep (h.mono (Nat.le_trans hbig hb7.size))) (obj_siz l (by omega)) (obj_siz l (by omega))).mono ?_
            rw [hg2]
            exact fun e w'' h => h
          have hca : (⟨l.toArray⟩ : ByteArray) ++ { data := #[120] } = ⟨(l ++ [120]).toArray⟩ := cat_text l [120]
          obtain ⟨LX, hLX⟩ : ∃ L, L = l ++ [120] := ⟨_, rfl⟩
          rw [← hLX] at hca KG2
          clear hLX hg1 hg2 hJ6 rT
          have hl1 : ¬ 9223372036854775807 < l.length + 1 := by omega
          refine wp_region_held (S := fun w' => Below w7.heap.size w7 w') (by kernel_rfl) ?_
          have hS : Below w7.heap.size w7 { w7 with drawn := w7.drawn + 1 } := (Below.refl _ w7).drew
          generalize { w7 with drawn := w7.drawn + 1 } = Dp at *
          refine held_val 0 rfl (by kernel_rfl) (by kernel_rfl) (by kernel_rfl) (fun _ _ _ _ h => h) (by rfl) hS ⟨.agg cs2.toArray, fun w' hw' => ?_, ?_⟩
          · exact run_load_val _ rfl T2 29 cs2 (rT2.stay hw') h52 rfl
          simp only [Act.put, List.setIfInBounds_toArray, List.set_cons_zero, List.set_cons_succ]
          refine held_val 1 rfl (by kernel_rfl) (by kernel_rfl) (by kernel_rfl) (fun _ _ _ _ h => h) (by rfl) hS ?_
          apply Exists.intro
          refine ⟨fun w' hw' => ?_, ?_⟩
          · skip
            go_simp
            first | done | rfl | exact ⟨rfl, rfl⟩
          simp only [Act.put, List.setIfInBounds_toArray, List.set_cons_zero, List.set_cons_succ]
          refine held_val 2 rfl (by kernel_rfl) (by kernel_rfl) (by kernel_rfl) (fun _ _ _ _ h => h) (by rfl) hS ?_
          apply Exists.intro
          refine ⟨fun w' hw' => ?_, ?_⟩
          · have e1 : w'.cell? ⟨T, 3, none⟩ = some (.slice (some ⟨KB, 0, none⟩) 1 1) := by rw [hw'.cell hTl]; exact cT3
            go_simp
            first | done | rfl | exact ⟨rfl, rfl⟩
          simp only [Act.put, List.setIfInBounds_toArray, List.set_cons_zero, List.set_cons_succ]
          refine held_val 3 rfl (by kernel_rfl) (by kernel_rfl) (by kernel_rfl) (fun _ _ _ _ h => h) (by rfl) hS ?_
          apply Exists.intro
          refine ⟨fun w' hw' => ?_, ?_⟩
          · skip
            go_simp
            first | done | rfl | exact ⟨rfl, rfl⟩
          simp only [Act.put, List.setIfInBounds_toArray, List.set_cons_zero, List.set_cons_succ]
          refine held_val 4 rfl (by kernel_rfl) (by kernel_rfl) (by kernel_rfl) (fun _ _ _ _ h => h) (by rfl) hS ?_
          apply Exists.intro
          refine ⟨fun w' hw' => ?_, ?_⟩
          · have e1 : w'.cell? ⟨KB, 0, none⟩ = some (.string ⟨l.toArray⟩) := by rw [hw'.cell hKl]; exact cK
            go_simp
            first | done | rfl | exact ⟨rfl, rfl⟩
          simp only [Act.put, List.setIfInBounds_toArray, List.set_cons_zero, List.set_cons_succ]
          refine held_two 5 9 (by kernel_rfl) rfl rfl (by rfl) (by rfl) ?_ ?_
          · skip
            refine wp_call2 ?_
            apply Exists.intro
            apply Exists.intro
            refine ⟨?_, ?_⟩
            · go_simp
              first | done | rfl | exact ⟨rfl, rfl⟩
            refine (KG1.out _ hS).mono ?_
            rintro e xp ⟨kxp, dxp, rfl, hoxp, hcp⟩
            replace hS := hS.trans (hcp.mono hS.size)
            refine ⟨_, rfl, hS, ?_⟩
            simp only [Act.put, List.setIfInBounds_toArray, List.set_cons_zero, List.set_cons_succ]
            refine held_val 6 rfl (by kernel_rfl) (by kernel_rfl) (by kernel_rfl) (fun _ _ _ _ h => h) (by rfl) hS ?_
            apply Exists.intro
            refine ⟨fun w' hw' => ?_, ?_⟩
            · skip
              go_simp
              first | done | rfl | exact ⟨rfl, rfl⟩
            simp only [Act.put, List.setIfInBounds_toArray, List.set_cons_zero, List.set_cons_succ]
            refine held_val 7 rfl (by kernel_rfl) (by kernel_rfl) (by kernel_rfl) (fun _ _ _ _ h => h) (by rfl) hS ?_
            apply Exists.intro
            refine ⟨fun w' hw' => ?_, ?_⟩
            · skip
              go_simp
              first | done | rfl | exact ⟨rfl, rfl⟩
            simp only [Act.put, List.setIfInBounds_toArray, List.set_cons_zero, List.set_cons_succ]
            refine held_val 8 rfl (by kernel_rfl) (by kernel_rfl) (by kernel_rfl) (fun _ _ _ _ h => h) (by rfl) hS ?_
            apply Exists.intro
            refine ⟨fun w' hw' => ?_, ?_⟩
            · skip
              go_simp
              first | done | rfl | exact ⟨rfl, rfl⟩
            simp only [Act.put, List.setIfInBounds_toArray, List.set_cons_zero, List.set_cons_succ]
            refine held_one 9 (by kernel_rfl) rfl (by rfl) ?_
            unfold Oper.wp
            go_simp
            have rN := Rw.new xp 29 zero5
            have hS2 : Below w7.heap.size w7 (xp.alloc (.cells zero5.toArray 29)) := hS.alloc hS.size _
            refine ⟨hS2, ?_⟩
            refine held_one 10 (by kernel_rfl) rfl (by rfl) ?_
            refine wp_store_val _ _ rfl _ _ rfl rfl (run_storeVar_row _ _ 29 _ _ _ rN (by kernel_rfl) rfl (by rw [Array.all_eq_true_iff_forall_mem]; intro v hv; exact hoxp v (by simpa using hv))) ?_
            rw [World.setRow_alloc_new]
            have hS3 : Below w7.heap.size w7 (xp.alloc (.cells (cells5 2 0 [] kxp dxp).toArray 29)) := hS.alloc hS.size _
            have rXp := Rw.new xp 29 (cells5 2 0 [] kxp dxp)
            refine ⟨hS3, ?_⟩
            simp only [Act.put]
            clear hS hS2 rN
            have hS := hS3
            clear hS3
            generalize xp.alloc (.cells (cells5 2 0 [] kxp dxp).toArray 29) = yp at *
            generalize xp.heap.size = zp at *
            refine held_val 11 rfl (by kernel_rfl) (by kernel_rfl) (by kernel_rfl) (fun _ _ _ _ h => h) (by rfl) hS ?_
            apply Exists.intro
            refine ⟨fun w' hw' => ?_, ?_⟩
            · skip
              go_simp
              first | done | rfl | exact ⟨rfl, rfl⟩
            simp only [Act.put, List.setIfInBounds_toArray, List.set_cons_zero, List.set_cons_succ]
            refine wpAnyH_done (by kernel_rfl) ?_ _
            have hbP := hb7.trans (hS.mono hb7.size)
            replace rT2 := rT2.stay hS
            replace cT3 : yp.cell? ⟨T, 3, none⟩ = some (.slice (some ⟨KB, 0, none⟩) 1 1) := by rw [hS.cell hTl]; exact cT3
            replace cK : yp.cell? ⟨KB, 0, none⟩ = some (.string ⟨l.toArray⟩) := by rw [hS.cell hKl]; exact cK
            replace hTl := Nat.lt_of_lt_of_le hTl hS.size
            replace hKl := Nat.lt_of_lt_of_le hKl hS.size
            have KG3 : Hid (∀ w', Below yp.heap.size yp w' → Calls Tryd.prog 22 #[.agg cs2.toArray, .string ⟨LX.toArray⟩] w' fun e w'' => e = .returned (.tuple #[.agg zero5.toArray, .bool false]) ∧ Below w'.heap.size w' w'') := fun w' h => KG2.out w' (hS.trans (h.mono hS.size))
            clear KG1 KG2 hS
            go_upto_region 19 with fail
            refine wp_region_held (S := fun w' => Below yp.heap.size yp w') (by kernel_rfl) ?_
            have hS : Below yp.heap.size yp { yp with drawn := yp.drawn + 1 } := (Below.refl _ yp).drew
            generalize { yp with drawn := yp.drawn + 1 } = Dq at *
            refine held_val 0 rfl (by kernel_rfl) (by kernel_rfl) (by kernel_rfl) (fun _ _ _ _ h => h) (by rfl) hS ⟨.agg cs2.toArray, fun w' hw' => ?_, ?_⟩
            · exact run_load_val _ rfl T2 29 cs2 (rT2.stay hw') h52 rfl
            simp only [Act.put, List.setIfInBounds_toArray, List.set_cons_zero, List.set_cons_succ]
            refine held_val 1 rfl (by kernel_rfl) (by kernel_rfl) (by kernel_rfl) (fun _ _ _ _ h => h) (by rfl) hS ?_
            apply Exists.intro
            refine ⟨fun w' hw' => ?_, ?_⟩
            · skip
              go_simp
              first | done | rfl | exact ⟨rfl, rfl⟩
            simp only [Act.put, List.setIfInBounds_toArray, List.set_cons_zero, List.set_cons_succ]
            refine held_val 2 rfl (by kernel_rfl) (by kernel_rfl) (by kernel_rfl) (fun _ _ _ _ h => h) (by rfl) hS ?_
            apply Exists.intro
            refine ⟨fun w' hw' => ?_, ?_⟩
            · have e1 : w'.cell? ⟨T, 3, none⟩ = some (.slice (some ⟨KB, 0, none⟩) 1 1) := by rw [hw'.cell hTl]; exact cT3
              go_simp
              first | done | rfl | exact ⟨rfl, rfl⟩
            simp only [Act.put, List.setIfInBounds_toArray, List.set_cons_zero, List.set_cons_succ]
            refine held_val 3 rfl (by kernel_rfl) (by kernel_rfl) (by kernel_rfl) (fun _ _ _ _ h => h) (by rfl) hS ?_
            apply Exists.intro
            refine ⟨fun w' hw' => ?_, ?_⟩
            · skip
              go_simp
              first | done | rfl | exact ⟨rfl, rfl⟩
            simp only [Act.put, List.setIfInBounds_toArray, List.set_cons_zero, List.set_cons_succ]
            refine held_val 4 rfl (by kernel_rfl) (by kernel_rfl) (by kernel_rfl) (fun _ _ _ _ h => h) (by rfl) hS ?_
            apply Exists.intro
            refine ⟨fun w' hw' => ?_, ?_⟩
            · have e1 : w'.cell? ⟨KB, 0, none⟩ = some (.string ⟨l.toArray⟩) := by rw [hw'.cell hKl]; exact cK
              go_simp
              first | done | rfl | exact ⟨rfl, rfl⟩
            simp only [Act.put, List.setIfInBounds_toArray, List.set_cons_zero, List.set_cons_succ]
            refine held_val 5 rfl (by kernel_rfl) (by kernel_rfl) (by kernel_rfl) (fun _ _ _ _ h => h) (by rfl) hS ?_
            apply Exists.intro
            refine ⟨fun w' hw' => ?_, ?_⟩
            · skip
              go_simp
              first | done | rfl | exact ⟨rfl, rfl⟩
            simp only [Act.put, List.setIfInBounds_toArray, List.set_cons_zero, List.set_cons_succ]
            refine held_two 6 10 (by kernel_rfl) rfl rfl (by rfl) (by rfl) ?_ ?_
            · skip
              refine wp_call2 ?_
              apply Exists.intro
              apply Exists.intro
              refine ⟨?_, ?_⟩
              · go_simp
                first | done | rfl | exact ⟨rfl, rfl⟩
              refine (KG3.out _ hS).mono ?_
              rintro e xq ⟨rfl, hcq⟩
              replace hS := hS.trans (hcq.mono hS.size)
              refine ⟨_, rfl, hS, ?_⟩
              simp only [Act.put, List.setIfInBounds_toArray, List.set_cons_zero, List.set_cons_succ]
              refine held_val 7 rfl (by kernel_rfl) (by kernel_rfl) (by kernel_rfl) (fun _ _ _ _ h => h) (by rfl) hS ?_
              apply Exists.intro
              refine ⟨fun w' hw' => ?_, ?_⟩
              · skip
                go_simp
                first | done | rfl | exact ⟨rfl, rfl⟩
              simp only [Act.put, List.setIfInBounds_toArray, List.set_cons_zero, List.set_cons_succ]
              refine held_val 8 rfl (by kernel_rfl) (by kernel_rfl) (by kernel_rfl) (fun _ _ _ _ h => h) (by rfl) hS ?_
              apply Exists.intro
              refine ⟨fun w' hw' => ?_, ?_⟩
              · skip
                go_simp
                first | done | rfl | exact ⟨rfl, rfl⟩
              simp only [Act.put, List.setIfInBounds_toArray, List.set_cons_zero, List.set_cons_succ]
              refine held_val 9 rfl (by kernel_rfl) (by kernel_rfl) (by kernel_rfl) (fun _ _ _ _ h => h) (by rfl) hS ?_
              apply Exists.intro
              refine ⟨fun w' hw' => ?_, ?_⟩
              · skip
                go_simp
                first | done | rfl | exact ⟨rfl, rfl⟩
              simp only [Act.put, List.setIfInBounds_toArray, List.set_cons_zero, List.set_cons_succ]
              refine held_one 10 (by kernel_rfl) rfl (by rfl) ?_
              unfold Oper.wp
              go_simp
              have rN := Rw.new xq 29 zero5
              have hS2 : Below yp.heap.size yp (xq.alloc (.cells zero5.toArray 29)) := hS.alloc hS.size _
              refine ⟨hS2, ?_⟩
              refine held_one 11 (by kernel_rfl) rfl (by rfl) ?_
              refine wp_store_val _ _ rfl _ _ rfl rfl (run_storeVar_row _ _ 29 _ _ _ rN (by kernel_rfl) rfl (by rw [Array.all_eq_true_iff_forall_mem]; intro v hv; exact one_zero5 v (by simpa using hv))) ?_
              rw [World.setRow_alloc_new]
              have hS3 : Below yp.heap.size yp (xq.alloc (.cells zero5.toArray 29)) := hS.alloc hS.size _
              have rXq := Rw.new xq 29 zero5
              refine ⟨hS3, ?_⟩
              simp only [Act.put]
              clear hS hS2 rN
              have hS := hS3
              clear hS3
              generalize xq.alloc (.cells zero5.toArray 29) = yq at *
              generalize xq.heap.size = zq at *
              refine held_val 12 rfl (by kernel_rfl) (by kernel_rfl) (by kernel_rfl) (fun _ _ _ _ h => h) (by rfl) hS ?_
              apply Exists.intro
              refine ⟨fun w' hw' => ?_, ?_⟩
              · skip
                go_simp
                first | done | rfl | exact ⟨rfl, rfl⟩
              simp only [Act.put, List.setIfInBounds_toArray, List.set_cons_zero, List.set_cons_succ]
              refine wpAnyH_done (by kernel_rfl) ?_ _
              have hbQ := hbP.trans (hS.mono hbP.size)
              replace rXp := rXp.stay hS
              have c0 := Rw.cell rXp 0
              change _ = some (Value.int .i64 2) at c0
              clear hS rXq
              go_wp2_with fail
              go_ret
              exact ⟨rfl, hbQ⟩
            · unfold Oper.wp
              go_simp
              have rN := Rw.new Dq 29 zero5
              have hzq : yp.heap.size ≤ Dq.heap.size := hS.size
              replace hS : Below yp.heap.size yp (Dq.alloc (.cells zero5.toArray 29)) := hS.alloc hS.size _
              refine ⟨hS, ?_⟩
              change wpAnyH _ _ _ _ _ _ _ _ (Dq.alloc (.cells zero5.toArray 29))
              generalize Dq.heap.size = zq at *
              generalize Dq.alloc (.cells zero5.toArray 29) = vq at *
              refine held_one 6 (by kernel_rfl) rfl (by rfl) ?_
              refine wp_call2 ?_
              apply Exists.intro
              apply Exists.intro
              refine ⟨?_, ?_⟩
              · go_simp
                first | done | rfl | exact ⟨rfl, rfl⟩
              refine (KG3.out _ hS).mono ?_
              rintro e xq ⟨rfl, hcq⟩
              replace rN := rN.stay hcq
              replace hS := hS.trans (hcq.mono hS.size)
              refine ⟨_, rfl, hS, ?_⟩
              simp only [Act.put, List.setIfInBounds_toArray, List.set_cons_zero, List.set_cons_succ]
              refine held_val 7 rfl (by kernel_rfl) (by kernel_rfl) (by kernel_rfl) (fun _ _ _ _ h => h) (by rfl) hS ?_
              apply Exists.intro
              refine ⟨fun w' hw' => ?_, ?_⟩
              · skip
                go_simp
                first | done | rfl | exact ⟨rfl, rfl⟩
              simp only [Act.put, List.setIfInBounds_toArray, List.set_cons_zero, List.set_cons_succ]
              refine held_val 8 rfl (by kernel_rfl) (by kernel_rfl) (by kernel_rfl) (fun _ _ _ _ h => h) (by rfl) hS ?_
              apply Exists.intro
              refine ⟨fun w' hw' => ?_, ?_⟩
              · skip
                go_simp
                first | done | rfl | exact ⟨rfl, rfl⟩
              simp only [Act.put, List.setIfInBounds_toArray, List.set_cons_zero, List.set_cons_succ]
              refine held_val 9 rfl (by kernel_rfl) (by kernel_rfl) (by kernel_rfl) (fun _ _ _ _ h => h) (by rfl) hS ?_
              apply Exists.intro
              refine ⟨fun w' hw' => ?_, ?_⟩
              · skip
                go_simp
                first | done | rfl | exact ⟨rfl, rfl⟩
              simp only [Act.put, List.setIfInBounds_toArray, List.set_cons_zero, List.set_cons_succ]
              refine held_one 11 (by kernel_rfl) rfl (by rfl) ?_
              refine wp_store_val _ _ rfl _ _ rfl rfl (run_storeVar_row _ _ 29 _ _ _ rN (by kernel_rfl) rfl (by rw [Array.all_eq_true_iff_forall_mem]; intro v hv; exact one_zero5 v (by simpa using hv))) ?_
              have hS3 : Below yp.heap.size yp (xq.setRow zq zero5.toArray) := below_setRow hS hzq _
              have rXq := rN.row zero5
              refine ⟨hS3, ?_⟩
              simp only [Act.put]
              clear hS rN
              have hS := hS3
              clear hS3
              generalize xq.setRow zq zero5.toArray = yq at *
              refine held_val 12 rfl (by kernel_rfl) (by kernel_rfl) (by kernel_rfl) (fun _ _ _ _ h => h) (by rfl) hS ?_
              apply Exists.intro
              refine ⟨fun w' hw' => ?_, ?_⟩
              · skip
                go_simp
                first | done | rfl | exact ⟨rfl, rfl⟩
              simp only [Act.put, List.setIfInBounds_toArray, List.set_cons_zero, List.set_cons_succ]
              refine wpAnyH_done (by kernel_rfl) ?_ _
              have hbQ := hbP.trans (hS.mono hbP.size)
              replace rXp := rXp.stay hS
              have c0 := Rw.cell rXp 0
              change _ = some (Value.int .i64 2) at c0
              clear hS rXq
              go_wp2_with fail
              go_ret
              exact ⟨rfl, hbQ⟩
          · unfold Oper.wp
            go_simp
            have rN := Rw.new Dp 29 zero5
            have hzp : w7.heap.size ≤ Dp.heap.size := hS.size
            replace hS : Below w7.heap.size w7 (Dp.alloc (.cells zero5.toArray 29)) := hS.alloc hS.size _
            refine ⟨hS, ?_⟩
            change wpAnyH _ _ _ _ _ _ _ _ (Dp.alloc (.cells zero5.toArray 29))
            generalize Dp.heap.size = zp at *
            generalize Dp.alloc (.cells zero5.toArray 29) = vp at *
            refine held_one 5 (by kernel_rfl) rfl (by rfl) ?_
            refine wp_call2 ?_
            apply Exists.intro
            apply Exists.intro
            refine ⟨?_, ?_⟩
            · go_simp
              first | done | rfl | exact ⟨rfl, rfl⟩
            refine (KG1.out _ hS).mono ?_
            rintro e xp ⟨kxp, dxp, rfl, hoxp, hcp⟩
            replace rN := rN.stay hcp
            replace hS := hS.trans (hcp.mono hS.size)
            refine ⟨_, rfl, hS, ?_⟩
            simp only [Act.put, List.setIfInBounds_toArray, List.set_cons_zero, List.set_cons_succ]
            refine held_val 6 rfl (by kernel_rfl) (by kernel_rfl) (by kernel_rfl) (fun _ _ _ _ h => h) (by rfl) hS ?_
            apply Exists.intro
            refine ⟨fun w' hw' => ?_, ?_⟩
            · skip
              go_simp
              first | done | rfl | exact ⟨rfl, rfl⟩
            simp only [Act.put, List.setIfInBounds_toArray, List.set_cons_zero, List.set_cons_succ]
            refine held_val 7 rfl (by kernel_rfl) (by kernel_rfl) (by kernel_rfl) (fun _ _ _ _ h => h) (by rfl) hS ?_
            apply Exists.intro
            refine ⟨fun w' hw' => ?_, ?_⟩
            · skip
              go_simp
              first | done | rfl | exact ⟨rfl, rfl⟩
            simp only [Act.put, List.setIfInBounds_toArray, List.set_cons_zero, List.set_cons_succ]
            refine held_val 8 rfl (by kernel_rfl) (by kernel_rfl) (by kernel_rfl) (fun _ _ _ _ h => h) (by rfl) hS ?_
            apply Exists.intro
            refine ⟨fun w' hw' => ?_, ?_⟩
            · skip
              go_simp
              first | done | rfl | exact ⟨rfl, rfl⟩
            simp only [Act.put, List.setIfInBounds_toArray, List.set_cons_zero, List.set_cons_succ]
            refine held_one 10 (by kernel_rfl) rfl (by rfl) ?_
            refine wp_store_val _ _ rfl _ _ rfl rfl (run_storeVar_row _ _ 29 _ _ _ rN (by kernel_rfl) rfl (by rw [Array.all_eq_true_iff_forall_mem]; intro v hv; exact hoxp v (by simpa using hv))) ?_
            have hS3 : Below w7.heap.size w7 (xp.setRow zp (cells5 2 0 [] kxp dxp).toArray) := below_setRow hS hzp _
            have rXp := rN.row (cells5 2 0 [] kxp dxp)
            refine ⟨hS3, ?_⟩
            simp only [Act.put]
            clear hS rN
            have hS := hS3
            clear hS3
            generalize xp.setRow zp (cells5 2 0 [] kxp dxp).toArray = yp at *
            refine held_val 11 rfl (by kernel_rfl) (by kernel_rfl) (by kernel_rfl) (fun _ _ _ _ h => h) (by rfl) hS ?_
            apply Exists.intro
            refine ⟨fun w' hw' => ?_, ?_⟩
            · skip
              go_simp
              first | done | rfl | exact ⟨rfl, rfl⟩
            simp only [Act.put, List.setIfInBounds_toArray, List.set_cons_zero, List.set_cons_succ]
            refine wpAnyH_done (by kernel_rfl) ?_ _
            have hbP := hb7.trans (hS.mono hb7.size)
            replace rT2 := rT2.stay hS
            replace cT3 : yp.cell? ⟨T, 3, none⟩ = some (.slice (some ⟨KB, 0, none⟩) 1 1) := by rw [hS.cell hTl]; exact cT3
            replace cK : yp.cell? ⟨KB, 0, none⟩ = some (.string ⟨l.toArray⟩) := by rw [hS.cell hKl]; exact cK
            replace hTl := Nat.lt_of_lt_of_le hTl hS.size
            replace hKl := Nat.lt_of_lt_of_le hKl hS.size
            have KG3 : Hid (∀ w', Below yp.heap.size yp w' → Calls Tryd.prog 22 #[.agg cs2.toArray, .string ⟨LX.toArray⟩] w' fun e w'' => e = .returned (.tuple #[.agg zero5.toArray, .bool false]) ∧ Below w'.heap.size w' w'') := fun w' h => KG2.out w' (hS.trans (h.mono hS.size))
            clear KG1 KG2 hS
            go_upto_region 19 with fail
            refine wp_region_held (S := fun w' => Below yp.heap.size yp w') (by kernel_rfl) ?_
            have hS : Below yp.heap.size yp { yp with drawn := yp.drawn + 1 } := (Below.refl _ yp).drew
            generalize { yp with drawn := yp.drawn + 1 } = Dq at *
            refine held_val 0 rfl (by kernel_rfl) (by kernel_rfl) (by kernel_rfl) (fun _ _ _ _ h => h) (by rfl) hS ⟨.agg cs2.toArray, fun w' hw' => ?_, ?_⟩
            · exact run_load_val _ rfl T2 29 cs2 (rT2.stay hw') h52 rfl
            simp only [Act.put, List.setIfInBounds_toArray, List.set_cons_zero, List.set_cons_succ]
            refine held_val 1 rfl (by kernel_rfl) (by kernel_rfl) (by kernel_rfl) (fun _ _ _ _ h => h) (by rfl) hS ?_
            apply Exists.intro
            refine ⟨fun w' hw' => ?_, ?_⟩
            · skip
              go_simp
              first | done | rfl | exact ⟨rfl, rfl⟩
            simp only [Act.put, List.setIfInBounds_toArray, List.set_cons_zero, List.set_cons_succ]
            refine held_val 2 rfl (by kernel_rfl) (by kernel_rfl) (by kernel_rfl) (fun _ _ _ _ h => h) (by rfl) hS ?_
            apply Exists.intro
            refine ⟨fun w' hw' => ?_, ?_⟩
            · have e1 : w'.cell? ⟨T, 3, none⟩ = some (.slice (some ⟨KB, 0, none⟩) 1 1) := by rw [hw'.cell hTl]; exact cT3
              go_simp
              first | done | rfl | exact ⟨rfl, rfl⟩
            simp only [Act.put, List.setIfInBounds_toArray, List.set_cons_zero, List.set_cons_succ]
            refine held_val 3 rfl (by kernel_rfl) (by kernel_rfl) (by kernel_rfl) (fun _ _ _ _ h => h) (by rfl) hS ?_
            apply Exists.intro
            refine ⟨fun w' hw' => ?_, ?_⟩
            · skip
              go_simp
              first | done | rfl | exact ⟨rfl, rfl⟩
            simp only [Act.put, List.setIfInBounds_toArray, List.set_cons_zero, List.set_cons_succ]
            refine held_val 4 rfl (by kernel_rfl) (by kernel_rfl) (by kernel_rfl) (fun _ _ _ _ h => h) (by rfl) hS ?_
            apply Exists.intro
            refine ⟨fun w' hw' => ?_, ?_⟩
            · have e1 : w'.cell? ⟨KB, 0, none⟩ = some (.string ⟨l.toArray⟩) := by rw [hw'.cell hKl]; exact cK
              go_simp
              first | done | rfl | exact ⟨rfl, rfl⟩
            simp only [Act.put, List.setIfInBounds_toArray, List.set_cons_zero, List.set_cons_succ]
            refine held_val 5 rfl (by kernel_rfl) (by kernel_rfl) (by kernel_rfl) (fun _ _ _ _ h => h) (by rfl) hS ?_
            apply Exists.intro
            refine ⟨fun w' hw' => ?_, ?_⟩
            · skip
              go_simp
              first | done | rfl | exact ⟨rfl, rfl⟩
            simp only [Act.put, List.setIfInBounds_toArray, List.set_cons_zero, List.set_cons_succ]
            refine held_two 6 10 (by kernel_rfl) rfl rfl (by rfl) (by rfl) ?_ ?_
            · skip
              refine wp_call2 ?_
              apply Exists.intro
              apply Exists.intro
              refine ⟨?_, ?_⟩
              · go_simp
                first | done | rfl | exact ⟨rfl, rfl⟩
              refine (KG3.out _ hS).mono ?_
              rintro e xq ⟨rfl, hcq⟩
              replace hS := hS.trans (hcq.mono hS.size)
              refine ⟨_, rfl, hS, ?_⟩
              simp only [Act.put, List.setIfInBounds_toArray, List.set_cons_zero, List.set_cons_succ]
              refine held_val 7 rfl (by kernel_rfl) (by kernel_rfl) (by kernel_rfl) (fun _ _ _ _ h => h) (by rfl) hS ?_
              apply Exists.intro
              refine ⟨fun w' hw' => ?_, ?_⟩
              · skip
                go_simp
                first | done | rfl | exact ⟨rfl, rfl⟩
              simp only [Act.put, List.setIfInBounds_toArray, List.set_cons_zero, List.set_cons_succ]
              refine held_val 8 rfl (by kernel_rfl) (by kernel_rfl) (by kernel_rfl) (fun _ _ _ _ h => h) (by rfl) hS ?_
              apply Exists.intro
              refine ⟨fun w' hw' => ?_, ?_⟩
              · skip
                go_simp
                first | done | rfl | exact ⟨rfl, rfl⟩
              simp only [Act.put, List.setIfInBounds_toArray, List.set_cons_zero, List.set_cons_succ]
              refine held_val 9 rfl (by kernel_rfl) (by kernel_rfl) (by kernel_rfl) (fun _ _ _ _ h => h) (by rfl) hS ?_
              apply Exists.intro
              refine ⟨fun w' hw' => ?_, ?_⟩
              · skip
                go_simp
                first | done | rfl | exact ⟨rfl, rfl⟩
              simp only [Act.put, List.setIfInBounds_toArray, List.set_cons_zero, List.set_cons_succ]
              refine held_one 10 (by kernel_rfl) rfl (by rfl) ?_
              unfold Oper.wp
              go_simp
              have rN := Rw.new xq 29 zero5
              have hS2 : Below yp.heap.size yp (xq.alloc (.cells zero5.toArray 29)) := hS.alloc hS.size _
              refine ⟨hS2, ?_⟩
              refine held_one 11 (by kernel_rfl) rfl (by rfl) ?_
              refine wp_store_val _ _ rfl _ _ rfl rfl (run_storeVar_row _ _ 29 _ _ _ rN (by kernel_rfl) rfl (by rw [Array.all_eq_true_iff_forall_mem]; intro v hv; exact one_zero5 v (by simpa using hv))) ?_
              rw [World.setRow_alloc_new]
              have hS3 : Below yp.heap.size yp (xq.alloc (.cells zero5.toArray 29)) := hS.alloc hS.size _
              have rXq := Rw.new xq 29 zero5
              refine ⟨hS3, ?_⟩
              simp only [Act.put]
              clear hS hS2 rN
              have hS := hS3
              clear hS3
              generalize xq.alloc (.cells zero5.toArray 29) = yq at *
              generalize xq.heap.size = zq at *
              refine held_val 12 rfl (by kernel_rfl) (by kernel_rfl) (by kernel_rfl) (fun _ _ _ _ h => h) (by rfl) hS ?_
              apply Exists.intro
              refine ⟨fun w' hw' => ?_, ?_⟩
              · skip
                go_simp
                first | done | rfl | exact ⟨rfl, rfl⟩
              simp only [Act.put, List.setIfInBounds_toArray, List.set_cons_zero, List.set_cons_succ]
              refine wpAnyH_done (by kernel_rfl) ?_ _
              have hbQ := hbP.trans (hS.mono hbP.size)
              replace rXp := rXp.stay hS
              have c0 := Rw.cell rXp 0
              change _ = some (Value.int .i64 2) at c0
              clear hS rXq
              go_wp2_with fail
              go_ret
              exact ⟨rfl, hbQ⟩
            · unfold Oper.wp
              go_simp
              have rN := Rw.new Dq 29 zero5
              have hzq : yp.heap.size ≤ Dq.heap.size := hS.size
              replace hS : Below yp.heap.size yp (Dq.alloc (.cells zero5.toArray 29)) := hS.alloc hS.size _
              refine ⟨hS, ?_⟩
              change wpAnyH _ _ _ _ _ _ _ _ (Dq.alloc (.cells zero5.toArray 29))
              generalize Dq.heap.size = zq at *
              generalize Dq.alloc (.cells zero5.toArray 29) = vq at *
              refine held_one 6 (by kernel_rfl) rfl (by rfl) ?_
              refine wp_call2 ?_
              apply Exists.intro
              apply Exists.intro
              refine ⟨?_, ?_⟩
              · go_simp
                first | done | rfl | exact ⟨rfl, rfl⟩
              refine (KG3.out _ hS).mono ?_
              rintro e xq ⟨rfl, hcq⟩
              replace rN := rN.stay hcq
              replace hS := hS.trans (hcq.mono hS.size)
              refine ⟨_, rfl, hS, ?_⟩
              simp only [Act.put, List.setIfInBounds_toArray, List.set_cons_zero, List.set_cons_succ]
              refine held_val 7 rfl (by kernel_rfl) (by kernel_rfl) (by kernel_rfl) (fun _ _ _ _ h => h) (by rfl) hS ?_
              apply Exists.intro
              refine ⟨fun w' hw' => ?_, ?_⟩
              · skip
                go_simp
                first | done | rfl | exact ⟨rfl, rfl⟩
              simp only [Act.put, List.setIfInBounds_toArray, List.set_cons_zero, List.set_cons_succ]
              refine held_val 8 rfl (by kernel_rfl) (by kernel_rfl) (by kernel_rfl) (fun _ _ _ _ h => h) (by rfl) hS ?_
              apply Exists.intro
              refine ⟨fun w' hw' => ?_, ?_⟩
              · skip
                go_simp
                first | done | rfl | exact ⟨rfl, rfl⟩
              simp only [Act.put, List.setIfInBounds_toArray, List.set_cons_zero, List.set_cons_succ]
              refine held_val 9 rfl (by kernel_rfl) (by kernel_rfl) (by kernel_rfl) (fun _ _ _ _ h => h) (by rfl) hS ?_
              apply Exists.intro
              refine ⟨fun w' hw' => ?_, ?_⟩
              · skip
                go_simp
                first | done | rfl | exact ⟨rfl, rfl⟩
              simp only [Act.put, List.setIfInBounds_toArray, List.set_cons_zero, List.set_cons_succ]
              refine held_one 11 (by kernel_rfl) rfl (by rfl) ?_
              refine wp_store_val _ _ rfl _ _ rfl rfl (run_storeVar_row _ _ 29 _ _ _ rN (by kernel_rfl) rfl (by rw [Array.all_eq_true_iff_forall_mem]; intro v hv; exact one_zero5 v (by simpa using hv))) ?_
              have hS3 : Below yp.heap.size yp (xq.setRow zq zero5.toArray) := below_setRow hS hzq _
              have rXq := rN.row zero5
              refine ⟨hS3, ?_⟩
              simp only [Act.put]
              clear hS rN
              have hS := hS3
              clear hS3
              generalize xq.setRow zq zero5.toArray = yq at *
              refine held_val 12 rfl (by kernel_rfl) (by kernel_rfl) (by kernel_rfl) (fun _ _ _ _ h => h) (by rfl) hS ?_
              apply Exists.intro
              refine ⟨fun w' hw' => ?_, ?_⟩
              · skip
                go_simp
                first | done | rfl | exact ⟨rfl, rfl⟩
              simp only [Act.put, List.setIfInBounds_toArray, List.set_cons_zero, List.set_cons_succ]
              refine wpAnyH_done (by kernel_rfl) ?_ _
              have hbQ := hbP.trans (hS.mono hbP.size)
              replace rXp := rXp.stay hS
              have c0 := Rw.cell rXp 0
              change _ = some (Value.int .i64 2) at c0
              clear hS rXq
              go_wp2_with fail
              go_ret
              exact ⟨rfl, hbQ⟩
end Go.Proofs.YtbkkcojfgdjbhaaDoor
