/- The document's own Id of an alert. -/
import Derived.Test.YtknhkmlihbgjpaaDoorAId
import Derived.Test.YtknhkmlihbgjpaaDoorDR
namespace Go.Proofs.YtknhkmlihbgjpaaDoor
open Go.ChangeShapes Go.WideShapes Go.RowKit

/-- The first k bytes as a number. -/
def accN (l : List Nat) : Nat → Nat
  | 0 => 0
  | k + 1 => accN l k * 256 + l[k]?.getD 0
theorem acc_lt {l : List Nat} (h : ∀ x ∈ l, Dg.U8 x) (k : Nat) : accN l k < 256 ^ k := by
  induction k with
  | zero => simp [accN]
  | succ k ih =>
    have hx : l[k]?.getD 0 < 256 := by
      cases e : l[k]? with
      | none => simp
      | some x => exact h x (List.mem_of_getElem? e)
    rw [accN, Nat.pow_succ]
    omega
theorem acc8 (S : List Nat) : accN S 8 = Dg.n8 S := by
  unfold Dg.n8 Dg.wd
  simp only [accN]
  omega
set_option maxHeartbeats 6400000 in
set_option maxRecDepth 100000 in
theorem rid_any (P : Nat → Prop) (s : Bs) (y : Sl) (fs : List (Bs × Bs)) (l c p q : Int) (w : World) (h : FldsAt P w y.v fs) (hl : (idB s fs).length ≤ 100000000) (hf : fs.length ≤ 1000000) :
    Calls Tryd.prog 19 #[alV s y.v l c p q] w fun e w' => e = .returned (.int .u64 (idN s fs : Int)) ∧ Below w.heap.size w w' := by
  have KO := Lib.hid fun v w' (hv : Dg.BytesAt w' v ((idB s fs).map UInt8.toNat)) => Dg.rof_any v _ w' hv (nums_u _) (by rw [List.length_map]; exact hl)
  have hid : idN s fs = accN (Dg.shaN ((idB s fs).map UInt8.toNat)) 8 := (acc8 _).symm
  have hsl : (Dg.shaN ((idB s fs).map UInt8.toNat)).length = 32 := Dg.shaN_len _
  have hsu := Dg.shaN_u ((idB s fs).map UInt8.toNat)
  rw [hid]
  clear hid
  generalize Dg.shaN ((idB s fs).map UInt8.toNat) = S at *
  have hsh : y.n = fs.length := by
    obtain ⟨_, _, e⟩ := h.shape
    injection e
  obtain ⟨ay, ny, ky⟩ := y
  simp only at hsh
  subst hsh
  have HL : Unit → ∀ k, (idB s (fs.take k)).length ≤ 100000000 := fun _ k => Nat.le_trans (idB_le s fs k) hl
  obtain ⟨n, hn⟩ : ∃ n, fs.length = n := ⟨_, rfl⟩
  have HN : Unit → fs.length = n := fun _ => hn
  unfold alV
  simp only [Sl.v, hn] at h ⊢
  rw [hn] at hf
  clear hn hl
  have hsl1 : (s ++ [0]).length ≤ 100000000 := by have := HL () 0; unfold idB at this; simpa using this
  have hsl2 : s.length + 1 ≤ 100000000 := by simpa using hsl1
  go_enter Tryd.func19, Tryd.ntmps19
  go_upto_region 1 with fail
  have hB : Below w.heap.size w (w.alloc (.cells #[.string ⟨s.toArray⟩, .slice ay n ky, .int .i64 l, .int .u32 c, .int .i64 p, .int .i64 q] 27)) := (Below.refl _ _).alloc (Nat.le_refl _) _
  have rA : Rw (w.alloc (.cells #[.string ⟨s.toArray⟩, .slice ay n ky, .int .i64 l, .int .u32 c, .int .i64 p, .int .i64 q] 27)) w.heap.size 27 [.string ⟨s.toArray⟩, .slice ay n ky, .int .i64 l, .int .u32 c, .int .i64 p, .int .i64 q] := Rw.new w 27 [.string ⟨s.toArray⟩, .slice ay n ky, .int .i64 l, .int .u32 c, .int .i64 p, .int .i64 q]
  generalize w.alloc (.cells #[.string ⟨s.toArray⟩, .slice ay n ky, .int .i64 l, .int .u32 c, .int .i64 p, .int .i64 q] 27) = w1 at *
  have e0 := Rw.cell rA 0
  simp only [List.getElem?_cons_zero] at e0
  go_wp2_with (refine wpList_conv _ rfl rfl s rfl (by omega) ?_)
  intro v2 w2 hO hb2
  have hB2 : Below w1.heap.size w1 w2 := hb2
  obtain ⟨g2, c2, rfl, hg2, hg2l⟩ := hO.shape
  have rY : Rw (w2.alloc (.cells #[.int .u8 0] 5)) w2.heap.size 5 [.int .u8 (((0 : UInt8).toNat : Nat) : Int)] := Rw.new w2 5 [.int .u8 0]
  have hO3 := hO.stay ((Below.refl _ _).alloc (Nat.le_refl _) (.cells #[.int .u8 0] 5))
  have hB3 := hB2.alloc hB2.size (.cells #[.int .u8 0] 5)
  clear hO hb2
  go_wp2_with (refine wpList_B_byte _ _ rfl rfl w1.heap.size _ s 0 rfl hO3 w2.heap.size rfl rY (by omega) (by have := hB3.size; omega) ?_)
  intro v4 w4 hO4 hg4
  obtain ⟨S0, hS0⟩ : ∃ X, s ++ [0] = X := ⟨_, rfl⟩
  rw [hS0] at hO4
  have HS0 : Unit → s ++ [0] = S0 := fun _ => hS0
  clear hS0 hsl1
  have hB4 := hB3.grown hg4 hB3.size (fun j e => by have e : g2 = j := Option.some.inj e; omega)
  clear hO3 hg4 rY hB2 hB3
  obtain ⟨g4, c4, rfl, hg4, hg4l⟩ := hO4.shape
  clear e0
  go_upto_region 3 with fail
  go_loopw [3, 4] (fun u3 u4 wr => ∃ (i : Nat) (L : Bs), u4 = .int .i64 (i : Int) ∧ i ≤ n ∧ L = idB s (fs.take i) ∧ OwnB wr w1.heap.size u3 L ∧ Below w1.heap.size w1 wr) (fun _ u4 _ => n - (intOf u4).toNat)
  case atStart => exact ⟨0, S0, rfl, Nat.zero_le _, by rw [← HS0 ()]; unfold idB; simp, hO4, hB4⟩
  case round =>
    clear hO4 hB4 hg4 hg4l hg2 hg2l
    obtain ⟨i, L, rfl, hin, hL, hO, hB1⟩ := hrel
    have HLL : Unit → L = idB s (fs.take i) := fun _ => hL
    clear hL
    obtain ⟨g, k, rfl, hgb, hgl⟩ := hO.shape
    have hB2 := hB.trans (hB1.mono hB.size)
    have e1 := Rw.cell (rA.stay hB1) 1
    simp only [List.getElem?_cons_zero, List.getElem?_cons_succ] at e1
    by_cases hlt : i < n
    · have hki : (i : Int) < (n : Int) := by omega
      obtain ⟨f, hf⟩ : ∃ f, fs[i]? = some f := ⟨_, List.getElem?_eq_getElem (by have := HN (); omega)⟩
      obtain ⟨gf, of, rfl, _, hgfl, c0, c1⟩ := h.part hf
      have HNX : Unit → (((L ++ f.1) ++ [61]) ++ f.2) ++ [0] = idB s (fs.take (i + 1)) := fun _ => by rw [idB_take hf, HLL ()]
      have hLl : L.length + f.1.length + 1 + f.2.length + 1 ≤ 100000000 := by
        have e := HL () (i + 1)
        rw [← HNX ()] at e
        simp only [List.length_append, List.length_cons, List.length_nil] at e
        omega
      clear hf
      obtain ⟨f1, f2⟩ := f
      simp only at *
      have d0 := (hB2.cell (p := ⟨gf, of + i * 2, none⟩) hgfl).trans c0
      go_upto_region 6 with (refine wpList_B_str _ _ rfl rfl w1.heap.size _ L f1 rfl hO rfl (by omega) hB1.size ?_)
      intro v6 w6 hO6 hg6
      have hl6 : (L ++ f1).length = L.length + f1.length := List.length_append ..
      generalize L ++ f1 = L6 at *
      have hg6' : wr.grownBy w6 (some g) := hg6
      have hB6 := hB1.grown hg6' hB1.size (fun j e => by
        have e : g = j := Option.some.inj e
        omega)
      obtain ⟨g6, k6, rfl, hgb6, hgl6⟩ := hO6.shape
      clear hO hg6 hg6' hB1 hB2 d0 e1
      have rY7 : Rw (w6.alloc (.cells #[.int .u8 61] 5)) w6.heap.size 5 [.int .u8 (((61 : UInt8).toNat : Nat) : Int)] := Rw.new w6 5 [.int .u8 61]
      have hal7 : Below w6.heap.size w6 (w6.alloc (.cells #[.int .u8 61] 5)) := (Below.refl _ _).alloc (Nat.le_refl _) _
      have hO7a := hO6.stay hal7
      have hB7a := hB6.trans (hal7.mono hB6.size)
      go_upto_region 6 with (refine wpList_B_byte _ _ rfl rfl w1.heap.size _ L6 61 rfl hO7a w6.heap.size rfl rY7 (by omega) hB7a.size ?_)
      intro v7 w7 hO7 hg7
      have hl7 : (L6 ++ [61]).length = L6.length + 1 := List.length_append ..
      generalize L6 ++ [61] = L7 at *
      have hg7' : (w6.alloc (.cells #[.int .u8 61] 5)).grownBy w7 (some g6) := hg7
      have hB7 := hB7a.grown hg7' hB7a.size (fun j e => by
        have e : g6 = j := Option.some.inj e
        omega)
      obtain ⟨g7, k7, rfl, hgb7, hgl7⟩ := hO7.shape
      clear hal7 hO7a hB7a rY7 hg7 hg7' hO6 hB6
      have e1 := Rw.cell (rA.stay hB7) 1
      simp only [List.getElem?_cons_zero, List.getElem?_cons_succ] at e1
      have d1 := ((hB.trans (hB7.mono hB.size)).cell (p := ⟨gf, of + i * 2 + 1, none⟩) hgfl).trans c1
      go_upto_region 6 with fail
      go_wp2_with (refine wpList_B_str _ _ rfl rfl w1.heap.size _ L7 f2 rfl hO7 rfl (by omega) hB7.size ?_)
      intro v8 w8 hO8 hg8
      have hl8 : (L7 ++ f2).length = L7.length + f2.length := List.length_append ..
      generalize L7 ++ f2 = L8 at *
      have hg8' : w7.grownBy w8 (some g7) := hg8
      have hB8 := hB7.grown hg8' hB7.size (fun j e => by
        have e : g7 = j := Option.some.inj e
        omega)
      obtain ⟨g8, k8, rfl, hgb8, hgl8⟩ := hO8.shape
      clear hO7 hg8 hg8' hB7 d1 e1
      have rY9 : Rw (w8.alloc (.cells #[.int .u8 0] 5)) w8.heap.size 5 [.int .u8 (((0 : UInt8).toNat : Nat) : Int)] := Rw.new w8 5 [.int .u8 0]
      have hal9 : Below w8.heap.size w8 (w8.alloc (.cells #[.int .u8 0] 5)) := (Below.refl _ _).alloc (Nat.le_refl _) _
      have hO9a := hO8.stay hal9
      have hB9a := hB8.trans (hal9.mono hB8.size)
      go_wp2_with (refine wpList_B_byte _ _ rfl rfl w1.heap.size _ L8 0 rfl hO9a w8.heap.size rfl rY9 (by omega) hB9a.size ?_)
      intro v9 w9 hO9 hg9
      generalize L8 ++ [0] = L9 at *
      have hg9' : (w8.alloc (.cells #[.int .u8 0] 5)).grownBy w9 (some g8) := hg9
      have hB9 := hB9a.grown hg9' hB9a.size (fun j e => by
        have e : g8 = j := Option.some.inj e
        omega)
      obtain ⟨g9, k9, rfl, hgb9, hgl9⟩ := hO9.shape
      clear hal9 hO9a hB9a rY9 hg9 hg9' hO8 hB8
      go_wp2_with fail
      go_roundw
      case rel => exact ⟨i + 1, _, by go_num, by omega, HNX (), hO9, hB9⟩
      case measure => simp [intOf]; omega
    · have hki : ¬ (i : Int) < (n : Int) := by omega
      have e : L = idB s fs := by rw [HLL (), List.take_of_length_le (by have := HN (); omega)]
      subst e
      have K := Lib.hid (KO.out _ wr hO.nums)
      clear hO KO HL HLL h
      go_upto_region 7 with fail
      go_wp2_with fail
      refine K.out.mono ?_
      rintro e w9 ⟨rfl, hb⟩
      replace hB2 := hB2.trans (hb.mono hB2.size)
      have r0 := Rw.new w9 90 (S.map Dg.v8)
      replace hB2 := hB2.alloc hB2.size (.cells (S.map Dg.v8).toArray 90)
      have hs32 : (S.map Dg.v8).length = 32 := by rw [List.length_map, hsl]
      have hone := Dg.one8 S
      clear K hb
      go_upto_region 8 with (refine Dg.store_arr w9.heap.size 90 ((Dg.zs 32).map Dg.v8) (Rw.new w9 90 ((Dg.zs 32).map Dg.v8)) 32 rfl 90 (by kernel_rfl) _ hs32 hone _ _ rfl rfl rfl rfl ?_)
      rw [World.setRow_alloc_new]
      generalize w9.alloc (.cells (S.map Dg.v8).toArray 90) = W1 at *
      generalize w9.heap.size = D at *
      clear hs32 hone
      go_upto_region 10 with fail
      go_loopw [6, 7] (fun u6 u7 wq => ∃ k : Nat, k ≤ 8 ∧ u7 = .int .i64 (k : Int) ∧ u6 = .int .u64 (accN S k : Int) ∧ wq = W1) (fun _ u7 _ => 8 - (intOf u7).toNat)
      case atStart => exact ⟨0, by omega, rfl, rfl, rfl⟩
      case round =>
        obtain ⟨k, hk, rfl, rfl, rfl⟩ := hrel
        by_cases hk8 : k < 8
        · have hki2 : (k : Int) < 8 := by omega
          have hki3 : (k : Int) < 32 := by omega
          obtain ⟨x, hx⟩ : ∃ x, S[k]? = some x := ⟨_, List.getElem?_eq_getElem (by omega)⟩
          have hx8 : x < 256 := hsu x (List.mem_of_getElem? hx)
          have hA : accN S k < 72057594037927936 := Nat.lt_of_lt_of_le (acc_lt hsu k) (Nat.le_trans (Nat.pow_le_pow_right (by omega) (by omega : k ≤ 7)) (by decide))
          have HX : Unit → accN S (k + 1) = accN S k * 256 + x := fun _ => by rw [accN, hx]; rfl
          have z0 := (r0.cell k).trans (Dg.at8 hx)
          clear hx
          generalize accN S k = A at *
          go_wp2_with fail
          go_roundw
          case rel => exact ⟨k + 1, by omega, by go_num, by rw [HX ()]; simp, trivial⟩
          case measure => simp [intOf]; omega
        · obtain rfl : k = 8 := by omega
          go_wp2_with fail
          go_ret
          exact ⟨rfl, hB2⟩
end Go.Proofs.YtknhkmlihbgjpaaDoor
