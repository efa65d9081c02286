/- Fields without a name: the walk. -/
import Derived.Test.YteooofakpkbgoaaDoorMGoods
namespace Go.Proofs.YteooofakpkbgoaaDoor
open Go.ChangeShapes Go.WideShapes Go.RowKit

/-- The fields of another name. -/
def woutF (n : Bs) (fs : List (Bs × Bs)) : List (Bs × Bs) := fs.filter fun f => !(f.1 == n)
theorem wout_take {n : Bs} {fs : List (Bs × Bs)} {k : Nat} {f : Bs × Bs} (h : fs[k]? = some f) : woutF n (fs.take (k + 1)) = woutF n (fs.take k) ++ (if f.1 == n then [] else [f]) := by
  unfold woutF
  rw [List.take_add_one, h, List.filter_append]
  cases hb : f.1 == n <;> simp [hb]
theorem wout_len (n : Bs) (fs : List (Bs × Bs)) : (woutF n fs).length ≤ fs.length := List.length_filter_le _ _
set_option maxHeartbeats 6400000 in
set_option maxRecDepth 100000 in
theorem wout_any (P : Nat → Prop) (v : Value) (fs : List (Bs × Bs)) (nm : Bs) (w : World) (h : FldsAt P w v fs) (hl : fs.length ≤ 1000) :
    Calls Tryd.prog 32 #[v, .string ⟨nm.toArray⟩] w fun e w' => ∃ v', e = .returned v' ∧ w'.ownsRow w.heap.size 28 2 v' (woutF nm fs).length ((woutF nm fs).map encF).flatten ∧ Below w.heap.size w w' := by
  obtain ⟨a, c, rfl⟩ := h.shape
  obtain ⟨n, hn⟩ : ∃ n, fs.length = n := ⟨_, rfl⟩
  rw [hn] at hl h ⊢
  have HN : Unit → fs.length = n := fun _ => hn
  clear hn
  obtain ⟨F, hF⟩ : ∃ F, woutF nm fs = F := ⟨_, rfl⟩
  rw [hF]
  have HF : Unit → woutF nm fs = F := fun _ => hF
  clear hF
  have HL : Unit → ∀ i, (woutF nm (fs.take i)).length ≤ 1000 := fun _ i => Nat.le_trans (wout_len nm _) (by rw [List.length_take]; have := HN (); omega)
  go_enter Tryd.func32, Tryd.ntmps32
  go_upto_region 3 with fail
  go_loopw [5, 10] (fun u5 u10 wr => ∃ (i : Nat) (O : List (Bs × Bs)), u10 = .int .i64 (i : Int) ∧ i ≤ n ∧ O = woutF nm (fs.take i) ∧ wr.ownsRow w.heap.size 28 2 u5 O.length (O.map encF).flatten ∧ Below w.heap.size w wr) (fun _ u10 _ => n - (intOf u10).toNat)
  case atStart => exact ⟨0, [], rfl, Nat.zero_le _, rfl, World.ownsRow_nil _ _ _ _, Below.refl _ _⟩
  case round =>
    obtain ⟨i, O, rfl, hin, hO, hown, hB⟩ := hrel
    have HOO : Unit → O = woutF nm (fs.take i) := fun _ => hO
    have hOl : O.length ≤ 1000 := by rw [hO]; exact HL () i
    clear hO
    obtain ⟨aO, cO, rfl, _⟩ := own_slice hown
    have hszr := hB.size
    by_cases hlt : i < n
    · have hki : (i : Int) < (n : Int) := by omega
      obtain ⟨f, hf⟩ : ∃ f, fs[i]? = some f := ⟨_, List.getElem?_eq_getElem (by have := HN (); omega)⟩
      obtain ⟨g, o, rfl, _, hgl, c0, c1⟩ := (h.stay hB).part hf
      have HNX : Unit → woutF nm (fs.take (i + 1)) = O ++ (if f.1 == nm then [] else [f]) := fun _ => by rw [wout_take hf, HOO ()]
      have hsame := same_text f.1 nm
      obtain ⟨f1, f2⟩ := f
      simp only at *
      clear hf
      go_upto_region 5 with fail
      have hal := (Below.refl wr.heap.size wr).alloc (Nat.le_refl _) (.cells #[.string ⟨f1.toArray⟩, .string ⟨f2.toArray⟩] 28)
      have rM : Rw (wr.alloc (.cells #[.string ⟨f1.toArray⟩, .string ⟨f2.toArray⟩] 28)) wr.heap.size 28 [.string ⟨f1.toArray⟩, .string ⟨f2.toArray⟩] := Rw.new wr 28 [.string ⟨f1.toArray⟩, .string ⟨f2.toArray⟩]
      have hown1 := own_stay2 hown hal
      have hB1 := hB.trans (hal.mono hszr)
      generalize wr.alloc (.cells #[.string ⟨f1.toArray⟩, .string ⟨f2.toArray⟩] 28) = w1 at *
      generalize wr.heap.size = b at *
      have d0 := Rw.cell rM 0
      have d1 := Rw.cell rM 1
      simp only [List.getElem?_cons_zero, List.getElem?_cons_succ] at d0 d1
      clear hown hB hal c0 c1
      cases he : f1 == nm with
      | true =>
        rw [he] at hsame
        have HNY : Unit → woutF nm (fs.take (i + 1)) = O := fun _ => by rw [HNX (), he]; simp
        clear HNX
        go_wp2_with fail
        go_roundw
        case rel => exact ⟨i + 1, O, by go_num, by omega, (HNY ()).symm, hown1, hB1⟩
        case measure => simp [intOf]; omega
      | false =>
        rw [he] at hsame
        have HNY : Unit → woutF nm (fs.take (i + 1)) = O ++ [(f1, f2)] := fun _ => by rw [HNX (), he]; simp
        clear HNX
        go_upto_region 6 with fail
        have hal := (Below.refl w1.heap.size w1).alloc (Nat.le_refl _) (.cells #[.string ⟨f1.toArray⟩, .string ⟨f2.toArray⟩] 28)
        have hown2 := own_stay2 hown1 hal
        have rY : Rw (w1.alloc (.cells #[.string ⟨f1.toArray⟩, .string ⟨f2.toArray⟩] 28)) w1.heap.size 28 (encF (f1, f2)) := Rw.new w1 28 [.string ⟨f1.toArray⟩, .string ⟨f2.toArray⟩]
        have hB2 := hB1.alloc hB1.size (.cells #[.string ⟨f1.toArray⟩, .string ⟨f2.toArray⟩] 28)
        clear hown1 hal
        go_wp2_with (refine wpList_own_fld _ _ rfl rfl w.heap.size _ O (f1, f2) rfl hown2 w1.heap.size rfl rY (by omega) (by have := hB2.size; omega) ?_)
        intro v5 w5 hO5 hg5 _
        have hB5 := hB2.grown hg5 hB2.size (fun j e => (hown2.lt j e).1)
        obtain ⟨g5, c5, rfl⟩ := own_succ hO5
        clear hown2 rY hg5 hB2
        go_wp2_with fail
        go_roundw
        case rel => exact ⟨i + 1, O ++ [(f1, f2)], by go_num, by omega, (HNY ()).symm, by rw [List.length_append, flds_snoc2]; exact hO5, hB5⟩
        case measure => simp [intOf]; omega
    · have hFO : O = F := by
        rw [HOO (), ← HF (), List.take_of_length_le (by have := HN (); omega)]
      subst hFO
      have HOW : Unit → _ := fun _ => hown
      clear hown
      have hki : ¬ (i : Int) < (n : Int) := by omega
      go_wp2_with fail
      go_ret
      exact ⟨_, rfl, HOW (), hB⟩
end Go.Proofs.YteooofakpkbgoaaDoor
