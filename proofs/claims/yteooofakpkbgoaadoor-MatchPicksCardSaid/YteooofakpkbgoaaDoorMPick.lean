/- The fields of some names: the walk. -/
import Derived.Test.YteooofakpkbgoaaDoorMSame
namespace Go.Proofs.YteooofakpkbgoaaDoor
open Go.ChangeShapes Go.WideShapes Go.RowKit

theorem contains_is (ss : List Bs) (s : Bs) : Lib.containsS (ss.map fun s => (⟨s.toArray⟩ : ByteArray)) ⟨s.toArray⟩ = ss.contains s := by
  rw [Bool.eq_iff_iff, Lib.containsS_iff, List.contains_iff_mem]
  constructor
  · intro h
    obtain ⟨x, hx, e⟩ := List.mem_map.1 h
    have : x = s := by
      have e2 := congrArg (fun b : ByteArray => b.data.toList) e
      simpa using e2
    rw [← this]; exact hx
  · intro h
    exact List.mem_map.2 ⟨s, h, rfl⟩
theorem contains_any (P : Nat → Prop) (v : Value) (ss : List Bs) (s : Bs) (w : World) (h : StrsAt P w v ss) (hl : ss.length ≤ 1000000) :
    Calls Tryd.prog 50 #[v, .string ⟨s.toArray⟩] w fun e w' => e = .returned (.bool (ss.contains s)) ∧ w' = w := by
  rcases h with ⟨rfl, a, c, rfl⟩ | ⟨g, o, c, rfl, _, _, _, hc⟩
  · exact Tryd.slices_Contains_string_empty a c _ w
  · refine (Tryd.slices_Contains_string g o ss.length c (ss.map fun s => (⟨s.toArray⟩ : ByteArray)) ⟨s.toArray⟩ w (by simp) (by omega) (fun j hj => ?_)).mono fun e w' h => ?_
    · have hj' : j < ss.length := by simpa using hj
      rw [hc j _ (List.getElem?_eq_getElem hj')]
      simp [hj']
    · rw [List.take_of_length_le (by simp), contains_is] at h
      exact h
/-- The fields of some names. -/
def pickF (ns : List Bs) (fs : List (Bs × Bs)) : List (Bs × Bs) := fs.filter fun f => ns.contains f.1
theorem pick_take {ns : List Bs} {fs : List (Bs × Bs)} {k : Nat} {f : Bs × Bs} (h : fs[k]? = some f) : pickF ns (fs.take (k + 1)) = pickF ns (fs.take k) ++ (if ns.contains f.1 then [f] else []) := by
  unfold pickF
  rw [List.take_add_one, h, List.filter_append]
  cases hb : ns.contains f.1 <;> simp only [List.filter_cons, List.filter_nil, hb, Option.toList, if_true, Bool.false_eq_true, if_false]
theorem pick_len (ns : List Bs) (fs : List (Bs × Bs)) : (pickF ns fs).length ≤ fs.length := List.length_filter_le _ _
set_option maxHeartbeats 6400000 in
set_option maxRecDepth 100000 in
theorem pick_any (P P' : Nat → Prop) (v v0 : Value) (fs : List (Bs × Bs)) (ns : List Bs) (w : World) (h : FldsAt P w v fs) (h0 : StrsAt P' w v0 ns) (hl : fs.length ≤ 1000) (hl0 : ns.length ≤ 1000000) :
    Calls Tryd.prog 35 #[v, v0] w fun e w' => ∃ v', e = .returned v' ∧ w'.ownsRow w.heap.size 28 2 v' (pickF ns fs).length ((pickF ns fs).map encF).flatten ∧ Below w.heap.size w w' := by
  obtain ⟨a, c, rfl⟩ := h.shape
  have KC := Lib.hid fun s w' (hb : Below w.heap.size w w') => contains_any P' v0 ns s w' (h0.stay hb) hl0
  obtain ⟨a0, c0, rfl⟩ := h0.shape
  clear h0 hl0
  generalize ns.length = n0 at *
  obtain ⟨n, hn⟩ : ∃ n, fs.length = n := ⟨_, rfl⟩
  rw [hn] at hl h ⊢
  have HN : Unit → fs.length = n := fun _ => hn
  clear hn
  obtain ⟨F, hF⟩ : ∃ F, pickF ns fs = F := ⟨_, rfl⟩
  rw [hF]
  have HF : Unit → pickF ns fs = F := fun _ => hF
  clear hF
  have HL : Unit → ∀ i, (pickF ns (fs.take i)).length ≤ 1000 := fun _ i => Nat.le_trans (pick_len ns _) (by rw [List.length_take]; have := HN (); omega)
  go_enter Tryd.func35, Tryd.ntmps35
  go_upto_region 3 with fail
  go_loopw [5, 10] (fun u5 u10 wr => ∃ (i : Nat) (O : List (Bs × Bs)), u10 = .int .i64 (i : Int) ∧ i ≤ n ∧ O = pickF ns (fs.take i) ∧ wr.ownsRow w.heap.size 28 2 u5 O.length (O.map encF).flatten ∧ Below w.heap.size w wr) (fun _ u10 _ => n - (intOf u10).toNat)
  case atStart => exact ⟨0, [], rfl, Nat.zero_le _, rfl, World.ownsRow_nil _ _ _ _, Below.refl _ _⟩
  case round =>
    obtain ⟨i, O, rfl, hin, hO, hown, hB⟩ := hrel
    have HOO : Unit → O = pickF ns (fs.take i) := fun _ => hO
    have hOl : O.length ≤ 1000 := by rw [hO]; exact HL () i
    clear hO
    obtain ⟨aO, cO, rfl, _⟩ := own_slice hown
    have hszr := hB.size
    by_cases hlt : i < n
    · have hki : (i : Int) < (n : Int) := by omega
      obtain ⟨f, hf⟩ : ∃ f, fs[i]? = some f := ⟨_, List.getElem?_eq_getElem (by have := HN (); omega)⟩
      obtain ⟨g, o, rfl, _, hgl, c0, c1⟩ := (h.stay hB).part hf
      have HNX : Unit → pickF ns (fs.take (i + 1)) = O ++ (if ns.contains f.1 then [f] else []) := fun _ => by rw [pick_take hf, HOO ()]
      have KC1 := Lib.hid (KC.out f.1)
      obtain ⟨f1, f2⟩ := f
      simp only at *
      clear hf
      go_upto_region 5 with fail
      have hal := (Below.refl wr.heap.size wr).alloc (Nat.le_refl _) (.cells #[.string ⟨f1.toArray⟩, .string ⟨f2.toArray⟩] 28)
      have rM : Rw (wr.alloc (.cells #[.string ⟨f1.toArray⟩, .string ⟨f2.toArray⟩] 28)) wr.heap.size 28 [.string ⟨f1.toArray⟩, .string ⟨f2.toArray⟩] := Rw.new wr 28 [.string ⟨f1.toArray⟩, .string ⟨f2.toArray⟩]
      have hown1 := own_stay2 hown hal
      have hB1 := hB.trans (hal.mono hszr)
      generalize wr.alloc (.cells #[.string ⟨f1.toArray⟩, .string ⟨f2.toArray⟩] 28) = w1 at *
      generalize wr.heap.size = b at *
      have d0 := Rw.cell rM 0
      have d1 := Rw.cell rM 1
      simp only [List.getElem?_cons_zero, List.getElem?_cons_succ] at d0 d1
      clear hown hB hal c0 c1
      cases he : ns.contains f1 with
      | false =>
        rw [he] at KC1
        have HNY : Unit → pickF ns (fs.take (i + 1)) = O := fun _ => by rw [HNX (), he]; simp
        clear HNX
        go_wp2_with fail
        refine (KC1.out _ hB1).mono ?_
        rintro e w2 ⟨rfl, e2⟩
        rw [e2]
        clear KC1 e2
        go_wp2_with fail
        go_roundw
        case rel => exact ⟨i + 1, O, by go_num, by omega, (HNY ()).symm, hown1, hB1⟩
        case measure => simp [intOf]; omega
      | true =>
        rw [he] at KC1
        have HNY : Unit → pickF ns (fs.take (i + 1)) = O ++ [(f1, f2)] := fun _ => by rw [HNX (), he]; simp
        clear HNX
        go_wp2_with fail
        refine (KC1.out _ hB1).mono ?_
        rintro e w2 ⟨rfl, e2⟩
        rw [e2]
        clear KC1 e2
        go_upto_region 6 with fail
        have hal := (Below.refl w1.heap.size w1).alloc (Nat.le_refl _) (.cells #[.string ⟨f1.toArray⟩, .string ⟨f2.toArray⟩] 28)
        have hown2 := own_stay2 hown1 hal
        have rY : Rw (w1.alloc (.cells #[.string ⟨f1.toArray⟩, .string ⟨f2.toArray⟩] 28)) w1.heap.size 28 (encF (f1, f2)) := Rw.new w1 28 [.string ⟨f1.toArray⟩, .string ⟨f2.toArray⟩]
        have hB2 := hB1.alloc hB1.size (.cells #[.string ⟨f1.toArray⟩, .string ⟨f2.toArray⟩] 28)
        clear hown1 hal
        go_wp2_with (refine wpList_own_fld _ _ rfl rfl w.heap.size _ O (f1, f2) rfl hown2 w1.heap.size rfl rY (by omega) (by have := hB2.size; omega) ?_)
        intro v5 w5 hO5 hg5 _
        have hB5 := hB2.grown hg5 hB2.size (fun j e => (hown2.lt j e).1)
        obtain ⟨g5, c5, rfl⟩ := own_succ hO5
        clear hown2 rY hg5 hB2
        go_wp2_with fail
        go_roundw
        case rel => exact ⟨i + 1, O ++ [(f1, f2)], by go_num, by omega, (HNY ()).symm, by rw [List.length_append, flds_snoc2]; exact hO5, hB5⟩
        case measure => simp [intOf]; omega
    · have hFO : O = F := by
        rw [HOO (), ← HF (), List.take_of_length_le (by have := HN (); omega)]
      subst hFO
      have HOW : Unit → _ := fun _ => hown
      clear hown
      have hki : ¬ (i : Int) < (n : Int) := by omega
      go_wp2_with fail
      go_ret
      exact ⟨_, rfl, HOW (), hB⟩
end Go.Proofs.YteooofakpkbgoaaDoor
