/- alert.Id: the id of an alert. -/
import Derived.Test.YtknhkmlihbgjpaaDoorAApp
namespace Go.Proofs.YtknhkmlihbgjpaaDoor
open Go.ChangeShapes Go.WideShapes Go.RowKit

def idB (s : Bs) (fs : List (Bs × Bs)) : Bs := (s ++ [0]) ++ (fs.map fun f => ((f.1 ++ [61]) ++ f.2) ++ [0]).flatten
def idN (s : Bs) (fs : List (Bs × Bs)) : Nat := Dg.n8 (Dg.shaN ((idB s fs).map UInt8.toNat))
theorem idB_take {s : Bs} {fs : List (Bs × Bs)} {k : Nat} {f : Bs × Bs} (h : fs[k]? = some f) : idB s (fs.take (k + 1)) = (((idB s (fs.take k) ++ f.1) ++ [61]) ++ f.2) ++ [0] := by
  unfold idB
  rw [List.take_add_one, h, List.map_append, List.flatten_append]
  simp
theorem idB_le (s : Bs) (fs : List (Bs × Bs)) (k : Nat) : (idB s (fs.take k)).length ≤ (idB s fs).length := by
  have e : idB s fs = idB s (fs.take k) ++ ((fs.drop k).map fun f => ((f.1 ++ [61]) ++ f.2) ++ [0]).flatten := by
    unfold idB
    rw [List.append_assoc (s ++ [0]), ← List.flatten_append, ← List.map_append, List.take_append_drop]
  rw [e, List.length_append]; omega
theorem OwnB.ne {w : World} {base g n k b : Nat} {l : Bs} {t : TypeId} {cs : List Value} (h : OwnB w base (.slice (some ⟨g, 0, none⟩) n k) l) (r : Rw w b t cs) (ht : t ≠ 5) : g ≠ b := fun e => by
  obtain ⟨g', cap, cur, fz, e1, _, hg, _⟩ := h
  injection e1 with e1 _ _
  have e2 : g = g' := congrArg Addr.block (Option.some.inj e1)
  unfold Rw at r
  rw [← e, e2, hg] at r
  injection r with r
  injection r with _ r _
  exact ht r.symm
theorem nums_u (l : Bs) : ∀ x ∈ l.map UInt8.toNat, Dg.U8 x := fun x hx => by
  obtain ⟨b, _, rfl⟩ := List.mem_map.1 hx
  exact b.toNat_lt
set_option maxHeartbeats 3200000 in
set_option maxRecDepth 100000 in
theorem id_any (P : Nat → Prop) (s : Bs) (y : Sl) (fs : List (Bs × Bs)) (l c p q : Int) (w : World) (ht : Dg.Tabs w) (h : FldsAt P w y.v fs) (hl : (idB s fs).length ≤ 70368744177664) (hf : fs.length ≤ 1000000) :
    Calls Tryd.prog 18 #[alV s y.v l c p q] w fun e w' => e = .returned (.int .u64 (idN s fs : Int)) ∧ Below w.heap.size w w' := by
  have KS := Lib.hid fun v w' (hb : Below w.heap.size w w') (hv : Dg.BytesAt w' v ((idB s fs).map UInt8.toNat)) => Dg.short_any v _ w' (ht.keep hb) hv (nums_u _) (by rw [List.length_map]; omega)
  have hsh : y.n = fs.length := by
    obtain ⟨_, _, e⟩ := h.shape
    injection e
  obtain ⟨ay, ny, ky⟩ := y
  simp only at hsh
  subst hsh
  have HL : Unit → ∀ k, (idB s (fs.take k)).length ≤ 70368744177664 := fun _ k => Nat.le_trans (idB_le s fs k) hl
  obtain ⟨n, hn⟩ : ∃ n, fs.length = n := ⟨_, rfl⟩
  have HN : Unit → fs.length = n := fun _ => hn
  unfold alV
  simp only [Sl.v, hn] at h ⊢
  rw [hn] at hf
  clear hn ht hl
  have hsl : (s ++ [0]).length ≤ 70368744177664 := by have := HL () 0; unfold idB at this; simpa using this
  have hsl2 : s.length + 1 ≤ 70368744177664 := by simpa using hsl
  go_enter Tryd.func18, Tryd.ntmps18
  go_upto_region 1 with fail
  have hB : Below w.heap.size w (w.alloc (.cells #[.string ⟨s.toArray⟩, .slice ay n ky, .int .i64 l, .int .u32 c, .int .i64 p, .int .i64 q] 29)) := (Below.refl _ _).alloc (Nat.le_refl _) _
  have rA : Rw (w.alloc (.cells #[.string ⟨s.toArray⟩, .slice ay n ky, .int .i64 l, .int .u32 c, .int .i64 p, .int .i64 q] 29)) w.heap.size 29 [.string ⟨s.toArray⟩, .slice ay n ky, .int .i64 l, .int .u32 c, .int .i64 p, .int .i64 q] := Rw.new w 29 [.string ⟨s.toArray⟩, .slice ay n ky, .int .i64 l, .int .u32 c, .int .i64 p, .int .i64 q]
  generalize w.alloc (.cells #[.string ⟨s.toArray⟩, .slice ay n ky, .int .i64 l, .int .u32 c, .int .i64 p, .int .i64 q] 29) = w1 at *
  have e0 := Rw.cell rA 0
  simp only [List.getElem?_cons_zero] at e0
  go_wp2_with (refine wpList_conv _ rfl rfl s rfl (by omega) ?_)
  intro v2 w2 hO hb2
  have hB2 : Below w1.heap.size w1 w2 := hb2
  obtain ⟨g2, c2, rfl, hg2, hg2l⟩ := hO.shape
  have rY : Rw (w2.alloc (.cells #[.int .u8 0] 5)) w2.heap.size 5 [.int .u8 (((0 : UInt8).toNat : Nat) : Int)] := Rw.new w2 5 [.int .u8 0]
  have hO3 := hO.stay ((Below.refl _ _).alloc (Nat.le_refl _) (.cells #[.int .u8 0] 5))
  have hB3 := hB2.alloc hB2.size (.cells #[.int .u8 0] 5)
  clear hO hb2
  go_wp2_with (refine wpList_B_byte _ _ rfl rfl w1.heap.size _ s 0 rfl hO3 w2.heap.size rfl rY (by omega) (by have := hB3.size; omega) ?_)
  intro v4 w4 hO4 hg4
  obtain ⟨S0, hS0⟩ : ∃ X, s ++ [0] = X := ⟨_, rfl⟩
  rw [hS0] at hO4
  have HS0 : Unit → s ++ [0] = S0 := fun _ => hS0
  clear hS0 hsl
  have hB4 := hB3.grown hg4 hB3.size (fun j e => by have e : g2 = j := Option.some.inj e; omega)
  clear hO3 hg4 rY hB2 hB3
  obtain ⟨g4, c4, rfl, hg4, hg4l⟩ := hO4.shape
  replace rA := rA.stay (hB4.mono (Nat.le_refl _))
  have e1 := Rw.cell rA 1
  simp only [List.getElem?_cons_zero, List.getElem?_cons_succ] at e1
  clear e0
  go_upto_region 3 with fail
  go_loopw [3, 14] (fun u3 u14 wr => ∃ (i : Nat) (L : Bs), u14 = .int .i64 (i : Int) ∧ i ≤ n ∧ L = idB s (fs.take i) ∧ OwnB wr w1.heap.size u3 L ∧ Below w1.heap.size w1 wr) (fun _ u14 _ => n - (intOf u14).toNat)
  case atStart => exact ⟨0, S0, rfl, Nat.zero_le _, by rw [← HS0 ()]; unfold idB; simp, hO4, hB4⟩
  case round =>
    obtain ⟨i, L, rfl, hin, hL, hO, hB1⟩ := hrel
    have HLL : Unit → L = idB s (fs.take i) := fun _ => hL
    clear hL
    obtain ⟨g, k, rfl, hgb, hgl⟩ := hO.shape
    have hszr := hB1.size
    have hB2 := hB.trans (hB1.mono hB.size)
    by_cases hlt : i < n
    · have hki : (i : Int) < (n : Int) := by omega
      obtain ⟨f, hf⟩ : ∃ f, fs[i]? = some f := ⟨_, List.getElem?_eq_getElem (by have := HN (); omega)⟩
      obtain ⟨gf, of, rfl, _, hgfl, c0, c1⟩ := (h.stay hB2).part hf
      have HNX : Unit → (((L ++ f.1) ++ [61]) ++ f.2) ++ [0] = idB s (fs.take (i + 1)) := fun _ => by rw [idB_take hf, HLL ()]
      have hLl : L.length + f.1.length + 1 + f.2.length + 1 ≤ 70368744177664 := by
        have e := HL () (i + 1)
        rw [← HNX ()] at e
        simp only [List.length_append, List.length_cons, List.length_nil] at e
        omega
      clear hf
      obtain ⟨f1, f2⟩ := f
      simp only at *
      go_upto_region 5 with fail
      have hal : Below wr.heap.size wr (wr.alloc (.cells #[.string ⟨f1.toArray⟩, .string ⟨f2.toArray⟩] 64)) := (Below.refl _ _).alloc (Nat.le_refl _) _
      have rM : Rw (wr.alloc (.cells #[.string ⟨f1.toArray⟩, .string ⟨f2.toArray⟩] 64)) wr.heap.size 64 [.string ⟨f1.toArray⟩, .string ⟨f2.toArray⟩] := Rw.new wr 64 [.string ⟨f1.toArray⟩, .string ⟨f2.toArray⟩]
      have hgne : g ≠ wr.heap.size := by omega
      replace hO := hO.stay hal
      have hB3 := hB1.trans (hal.mono hszr)
      generalize wr.alloc (.cells #[.string ⟨f1.toArray⟩, .string ⟨f2.toArray⟩] 64) = w5 at *
      generalize wr.heap.size = b at *
      have hszb := hB3.size
      clear hB1 hB2 hal c0 c1 hgl
      have d0 := Rw.cell rM 0
      simp only [List.getElem?_cons_zero] at d0
      go_upto_region 6 with (refine wpList_B_str _ _ rfl rfl w1.heap.size _ L f1 rfl hO rfl (by omega) hszb ?_)
      intro v6 w6 hO6 hg6
      have hl6 : (L ++ f1).length = L.length + f1.length := List.length_append ..
      generalize L ++ f1 = L6 at *
      have hg6' : w5.grownBy w6 (some g) := hg6
      have hB6 := hB3.grown hg6' hB3.size (fun j e => by
        have e : g = j := Option.some.inj e
        omega)
      replace rM := rM.keep (grown_asd hg6') (fun e => hgne (Option.some.inj e))
      have hb6 := rM.lt
      obtain ⟨g6, k6, rfl, hgb6, hgl6⟩ := hO6.shape
      have hg66 : g6 ≠ b := OwnB.ne hO6 rM (by decide)
      clear hO hg6 hg6' hB3 d0 hszb
      have hg6b := hg66
      clear hg66
      have rY7 : Rw (w6.alloc (.cells #[.int .u8 61] 5)) w6.heap.size 5 [.int .u8 (((61 : UInt8).toNat : Nat) : Int)] := Rw.new w6 5 [.int .u8 61]
      have hal7 : Below w6.heap.size w6 (w6.alloc (.cells #[.int .u8 61] 5)) := (Below.refl _ _).alloc (Nat.le_refl _) _
      have hO7a := hO6.stay hal7
      have hB7a := hB6.trans (hal7.mono hB6.size)
      have rM7a := rM.stay hal7
      go_wp2_with (refine wpList_B_byte _ _ rfl rfl w1.heap.size _ L6 61 rfl hO7a w6.heap.size rfl rY7 (by omega) hB7a.size ?_)
      intro v7 w7 hO7 hg7
      have hl7 : (L6 ++ [61]).length = L6.length + 1 := List.length_append ..
      generalize L6 ++ [61] = L7 at *
      have hg7' : (w6.alloc (.cells #[.int .u8 61] 5)).grownBy w7 (some g6) := hg7
      have hB7 := hB7a.grown hg7' hB7a.size (fun j e => by
        have e : g6 = j := Option.some.inj e
        omega)
      replace rM := rM7a.keep (grown_asd hg7') (fun e => hg6b (Option.some.inj e))
      obtain ⟨g7, k7, rfl, hgb7, hgl7⟩ := hO7.shape
      have hg7b : g7 ≠ b := OwnB.ne hO7 rM (by decide)
      clear hal7 hO7a hB7a rM7a rY7 hg7 hg7' hO6 hB6 hg6b
      have d1 := Rw.cell rM 1
      simp only [List.getElem?_cons_zero, List.getElem?_cons_succ] at d1
      go_upto_region 8 with (refine wpList_B_str _ _ rfl rfl w1.heap.size _ L7 f2 rfl hO7 rfl (by omega) hB7.size ?_)
      intro v8 w8 hO8 hg8
      have hl8 : (L7 ++ f2).length = L7.length + f2.length := List.length_append ..
      generalize L7 ++ f2 = L8 at *
      have hg8' : w7.grownBy w8 (some g7) := hg8
      have hB8 := hB7.grown hg8' hB7.size (fun j e => by
        have e : g7 = j := Option.some.inj e
        omega)
      replace rM := rM.keep (grown_asd hg8') (fun e => hg7b (Option.some.inj e))
      obtain ⟨g8, k8, rfl, hgb8, hgl8⟩ := hO8.shape
      have hg8b : g8 ≠ b := OwnB.ne hO8 rM (by decide)
      clear hO7 hg8 hg8' hB7 d1 hg7b
      go_upto_region 8 with fail
      have rY9 : Rw (w8.alloc (.cells #[.int .u8 0] 5)) w8.heap.size 5 [.int .u8 (((0 : UInt8).toNat : Nat) : Int)] := Rw.new w8 5 [.int .u8 0]
      have hal9 : Below w8.heap.size w8 (w8.alloc (.cells #[.int .u8 0] 5)) := (Below.refl _ _).alloc (Nat.le_refl _) _
      have hO9a := hO8.stay hal9
      have hB9a := hB8.trans (hal9.mono hB8.size)
      have rM9a := rM.stay hal9
      go_wp2_with (refine wpList_B_byte _ _ rfl rfl w1.heap.size _ L8 0 rfl hO9a w8.heap.size rfl rY9 (by omega) hB9a.size ?_)
      intro v9 w9 hO9 hg9
      generalize L8 ++ [0] = L9 at *
      have hg9' : (w8.alloc (.cells #[.int .u8 0] 5)).grownBy w9 (some g8) := hg9
      have hB9 := hB9a.grown hg9' hB9a.size (fun j e => by
        have e : g8 = j := Option.some.inj e
        omega)
      replace rM := rM9a.keep (grown_asd hg9') (fun e => hg8b (Option.some.inj e))
      obtain ⟨g9, k9, rfl, hgb9, hgl9⟩ := hO9.shape
      have hg9b : g9 ≠ b := OwnB.ne hO9 rM (by decide)
      clear hal9 hO9a hB9a rM9a rY9 hg9 hg9' hO8 hB8 hg8b
      go_wp2_with fail
      go_roundw
      case rel => exact ⟨i + 1, _, by go_num, by omega, HNX (), hO9, hB9⟩
      case measure => simp [intOf]; omega
    · have hki : ¬ (i : Int) < (n : Int) := by omega
      have e : L = idB s fs := by rw [HLL (), List.take_of_length_le (by have := HN (); omega)]
      subst e
      have K := Lib.hid (KS.out _ wr hB2 hO.nums)
      go_wp2_with fail
      refine K.out.mono ?_
      rintro e w9 ⟨rfl, hb⟩
      go_wp2_with fail
      go_ret
      exact ⟨rfl, hB2.trans (hb.mono hB2.size)⟩
end Go.Proofs.YtknhkmlihbgjpaaDoor
