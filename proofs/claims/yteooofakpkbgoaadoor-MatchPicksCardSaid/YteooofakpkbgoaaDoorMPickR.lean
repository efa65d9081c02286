/- The document's Pick: the walk. -/
import Derived.Test.YteooofakpkbgoaaDoorMPick
namespace Go.Proofs.YteooofakpkbgoaaDoor
open Go.ChangeShapes Go.WideShapes Go.RowKit

theorem take_bs {l : List Bs} {k : Nat} {s : Bs} (h : l[k]? = some s) : l.take (k + 1) = l.take k ++ [s] := by rw [List.take_add_one, h]; rfl
set_option maxHeartbeats 6400000 in
set_option maxRecDepth 100000 in
theorem rpick_any (P P' : Nat → Prop) (v v0 : Value) (fs : List (Bs × Bs)) (ns : List Bs) (w : World) (h : FldsAt P w v fs) (h0 : StrsAt P' w v0 ns) (hl : fs.length ≤ 1000) (hl0 : ns.length ≤ 1000000) :
    Calls Tryd.prog 36 #[v, v0] w fun e w' => ∃ v', e = .returned v' ∧ w'.ownsRow w.heap.size 28 2 v' (pickF ns fs).length ((pickF ns fs).map encF).flatten ∧ Below w.heap.size w w' := by
  obtain ⟨a, c, rfl⟩ := h.shape
  obtain ⟨a0, c0, rfl⟩ := h0.shape
  obtain ⟨n0, hn0⟩ : ∃ n, ns.length = n := ⟨_, rfl⟩
  rw [hn0] at hl0 h0 ⊢
  have HN0 : Unit → ns.length = n0 := fun _ => hn0
  clear hn0
  obtain ⟨n, hn⟩ : ∃ n, fs.length = n := ⟨_, rfl⟩
  rw [hn] at hl h ⊢
  have HN : Unit → fs.length = n := fun _ => hn
  clear hn
  obtain ⟨F, hF⟩ : ∃ F, pickF ns fs = F := ⟨_, rfl⟩
  rw [hF]
  have HF : Unit → pickF ns fs = F := fun _ => hF
  clear hF
  have HL : Unit → ∀ i, (pickF ns (fs.take i)).length ≤ 1000 := fun _ i => Nat.le_trans (pick_len ns _) (by rw [List.length_take]; have := HN (); omega)
  go_enter Tryd.func36, Tryd.ntmps36
  go_upto_region 3 with fail
  go_loopw [5, 6] (fun u5 u6 wr => ∃ (i : Nat) (O : List (Bs × Bs)), u6 = .int .i64 (i : Int) ∧ i ≤ n ∧ O = pickF ns (fs.take i) ∧ wr.ownsRow w.heap.size 28 2 u5 O.length (O.map encF).flatten ∧ Below w.heap.size w wr) (fun _ u6 _ => n - (intOf u6).toNat)
  case atStart => exact ⟨0, [], rfl, Nat.zero_le _, rfl, World.ownsRow_nil _ _ _ _, Below.refl _ _⟩
  case round =>
    obtain ⟨i, O, rfl, hin, hO, hown, hB⟩ := hrel
    have HOO : Unit → O = pickF ns (fs.take i) := fun _ => hO
    have hOl : O.length ≤ 1000 := by rw [hO]; exact HL () i
    clear hO
    obtain ⟨aO, cO, rfl, _⟩ := own_slice hown
    by_cases hlt : i < n
    · have hki : (i : Int) < (n : Int) := by omega
      obtain ⟨f, hf⟩ : ∃ f, fs[i]? = some f := ⟨_, List.getElem?_eq_getElem (by have := HN (); omega)⟩
      have HNX : Unit → pickF ns (fs.take (i + 1)) = O ++ (if ns.contains f.1 then [f] else []) := fun _ => by rw [pick_take hf, HOO ()]
      have HNF : Unit → fs[i]? = some f := fun _ => hf
      obtain ⟨f1, f2⟩ := f
      simp only at *
      clear hf
      go_upto_region 6 with fail
      go_loopw [5, 7] (fun u5 u7 wz => ∃ j : Nat, u5 = .slice aO O.length cO ∧ u7 = .int .i64 (j : Int) ∧ j ≤ n0 ∧ (ns.take j).contains f1 = false ∧ wz.ownsRow w.heap.size 28 2 (.slice aO O.length cO) O.length (O.map encF).flatten ∧ Below w.heap.size w wz) (fun _ u7 _ => n0 - (intOf u7).toNat)
      case atStart => exact ⟨0, rfl, rfl, Nat.zero_le _, rfl, hown, hB⟩
      case round =>
        clear hown hB
        obtain ⟨j, rfl, rfl, hjn, hno, hown, hB⟩ := hrel
        have HNO : Unit → (ns.take j).contains f1 = false := fun _ => hno
        clear hno
        have hszr := hB.size
        by_cases hjl : j < n0
        · have hji : (j : Int) < (n0 : Int) := by omega
          obtain ⟨s, hs⟩ : ∃ s, ns[j]? = some s := ⟨_, List.getElem?_eq_getElem (by have := HN0 (); omega)⟩
          obtain ⟨g0, o0, rfl, _, d0⟩ := (h0.stay hB).text hs
          obtain ⟨g, o, rfl, _, hgl, c0, c1⟩ := (h.stay hB).part (HNF ())
          have hsame := same_text s f1
          have HSN : Unit → ns.take (j + 1) = ns.take j ++ [s] := fun _ => take_bs hs
          have HSM : Unit → s ∈ ns := fun _ => List.mem_of_getElem? hs
          clear hs
          cases he : s == f1 with
          | true =>
            rw [he] at hsame
            have HNY : Unit → pickF ns (fs.take (i + 1)) = O ++ [(f1, f2)] := fun _ => by
              have e := HSM ()
              rw [eq_of_beq he] at e
              rw [HNX (), if_pos (List.contains_iff_mem.2 e)]
            clear HNX HSN HSM HNO
            go_upto_region 8 with fail
            try simp only [List.append_eq, List.cons_append, List.nil_append]
            refine region_class (fun w' => Below wr.heap.size wr w' ∧ w'.cell? ⟨g0, o0 + j, none⟩ = some (.string ⟨s.toArray⟩) ∧ w'.cell? ⟨g, o + i * 2, none⟩ = some (.string ⟨f1.toArray⟩) ∧ w'.cell? ⟨g, o + i * 2 + 1, none⟩ = some (.string ⟨f2.toArray⟩)) (by kernel_rfl) (by kernel_rfl) (⟨(Below.refl _ _).drew, d0, c0, c1⟩) ?_
            repeat
              first
              | go_big_quiet_skip
              | (go_big_quiet_want
                 refine quiet_val ?_
                 apply Exists.intro
                 refine ⟨fun w' hw' => ?_, ?_⟩
                 · obtain ⟨_, e0, e3, e4⟩ := hw'
                   go_simp
                   first | done | rfl | exact ⟨rfl, rfl⟩
                 simp only [Act.put, List.setIfInBounds_toArray, List.set_cons_zero, List.set_cons_succ]
                 go_big_quiet_on)
              | (go_big_quiet_want
                 refine quiet_call ?_
                 apply Exists.intro
                 apply Exists.intro
                 refine ⟨fun w' => ?_, ?_⟩
                 · go_simp
                   first | done | rfl | exact ⟨rfl, rfl⟩
                 apply Exists.intro
                 refine ⟨fun w' hw' => ?_, ?_⟩
                 · first
                   | fail
                 simp only [Act.put, List.setIfInBounds_toArray, List.set_cons_zero, List.set_cons_succ]
                 go_big_quiet_on)
            refine wpQuiet_nil ?_
            intro w5 hw5
            obtain ⟨hb5, _, c3, c4⟩ := hw5
            have hown1 := own_stay2 hown hb5
            have hB1 := hB.trans (hb5.mono hB.size)
            clear hown hB hb5 c0 c1 d0
            go_upto_region 9 with fail
            have hal := (Below.refl w5.heap.size w5).alloc (Nat.le_refl _) (.cells #[.string ⟨f1.toArray⟩, .string ⟨f2.toArray⟩] 28)
            have hown2 := own_stay2 hown1 hal
            have rY : Rw (w5.alloc (.cells #[.string ⟨f1.toArray⟩, .string ⟨f2.toArray⟩] 28)) w5.heap.size 28 (encF (f1, f2)) := Rw.new w5 28 [.string ⟨f1.toArray⟩, .string ⟨f2.toArray⟩]
            have hB2 := hB1.alloc hB1.size (.cells #[.string ⟨f1.toArray⟩, .string ⟨f2.toArray⟩] 28)
            clear hown1 hal
            go_wp2_with (refine wpList_own_fld _ _ rfl rfl w.heap.size _ O (f1, f2) rfl hown2 w5.heap.size rfl rY (by omega) (by have := hB2.size; omega) ?_)
            intro v5 w6 hO5 hg5 _
            have hB5 := hB2.grown hg5 hB2.size (fun j e => (hown2.lt j e).1)
            obtain ⟨g5, c5, rfl⟩ := own_succ hO5
            clear hown2 rY hg5 hB2
            go_wp2_with fail
            go_roundw
            case rel => exact ⟨i + 1, O ++ [(f1, f2)], by go_num, by omega, (HNY ()).symm, by rw [List.length_append, flds_snoc2]; exact hO5, hB5⟩
            case measure => simp [intOf]; omega
          | false =>
            rw [he] at hsame
            have HNZ : Unit → (ns.take (j + 1)).contains f1 = false := fun _ => by
              rw [HSN ()]
              have h1 := HNO ()
              have h2 : (f1 == s) = false := by
                rw [beq_eq_false_iff_ne] at he ⊢
                exact fun e => he e.symm
              simp only [List.contains_eq_any_beq, List.any_append, List.any_cons, List.any_nil, h2, Bool.or_false] at h1 ⊢
              exact h1
            clear HSN HSM HNO
            go_upto_region 8 with fail
            try simp only [List.append_eq, List.cons_append, List.nil_append]
            refine region_class (fun w' => Below wr.heap.size wr w' ∧ w'.cell? ⟨g0, o0 + j, none⟩ = some (.string ⟨s.toArray⟩) ∧ w'.cell? ⟨g, o + i * 2, none⟩ = some (.string ⟨f1.toArray⟩)) (by kernel_rfl) (by kernel_rfl) (⟨(Below.refl _ _).drew, d0, c0⟩) ?_
            repeat
              first
              | go_big_quiet_skip
              | (go_big_quiet_want
                 refine quiet_val ?_
                 apply Exists.intro
                 refine ⟨fun w' hw' => ?_, ?_⟩
                 · obtain ⟨_, e0, e3⟩ := hw'
                   go_simp
                   first | done | rfl | exact ⟨rfl, rfl⟩
                 simp only [Act.put, List.setIfInBounds_toArray, List.set_cons_zero, List.set_cons_succ]
                 go_big_quiet_on)
              | (go_big_quiet_want
                 refine quiet_call ?_
                 apply Exists.intro
                 apply Exists.intro
                 refine ⟨fun w' => ?_, ?_⟩
                 · go_simp
                   first | done | rfl | exact ⟨rfl, rfl⟩
                 apply Exists.intro
                 refine ⟨fun w' hw' => ?_, ?_⟩
                 · first
                   | fail
                 simp only [Act.put, List.setIfInBounds_toArray, List.set_cons_zero, List.set_cons_succ]
                 go_big_quiet_on)
            refine wpQuiet_nil ?_
            intro w5 hw5
            have hb5 := hw5.1
            have hown1 := own_stay2 hown hb5
            have hB1 := hB.trans (hb5.mono hB.size)
            clear hown hB hb5 hw5 c0 c1 d0
            go_wp2_with fail
            go_roundw
            case rel => exact ⟨j + 1, rfl, by go_num, by omega, HNZ (), hown1, hB1⟩
            case measure => simp [intOf]; omega
        · have hji : ¬ (j : Int) < (n0 : Int) := by omega
          have HNY : Unit → pickF ns (fs.take (i + 1)) = O := fun _ => by
            have h1 := HNO ()
            rw [List.take_of_length_le (by have := HN0 (); omega)] at h1
            rw [HNX (), h1]
            simp
          clear HNX HNO
          go_wp2_with fail
          go_roundw
          case rel => exact ⟨i + 1, O, by go_num, by omega, (HNY ()).symm, hown, hB⟩
          case measure => simp [intOf]; omega
    · have hFO : O = F := by
        rw [HOO (), ← HF (), List.take_of_length_le (by have := HN (); omega)]
      subst hFO
      have HOW : Unit → _ := fun _ => hown
      clear hown
      have hki : ¬ (i : Int) < (n : Int) := by omega
      go_wp2_with fail
      go_ret
      exact ⟨_, rfl, HOW (), hB⟩
end Go.Proofs.YteooofakpkbgoaaDoor
