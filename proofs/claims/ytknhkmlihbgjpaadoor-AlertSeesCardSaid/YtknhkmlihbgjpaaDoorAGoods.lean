/- The document's Good: the walk. -/
import Derived.Test.YtknhkmlihbgjpaaDoorAGood
import Derived.Lib.MinMax
namespace Go.Proofs.YtknhkmlihbgjpaaDoor
open Go.ChangeShapes Go.WideShapes Go.RowKit

theorem name_len12 {l : Bs} (h : nameB l = true) : 1 ≤ l.length ∧ l.length ≤ 12 := by
  unfold nameB at h
  simp at h
  exact h.1.1
theorem takeN (l : Bs) (m : Nat) (z : Int) (hz : z = (m : Int)) (w : World) : (Instr.slice 9 (.string ⟨l.toArray⟩) none (some (.int .i64 (min (l.length : Int) z))) none).run Tryd.prog w = .ok (.string ⟨(l.take m).toArray⟩) w := by
  subst hz
  have h := cut_upto l (min l.length m) (Nat.min_le_left _ _) (min (l.length : Int) (m : Int)) (by omega) w
  rw [h, Nat.min_comm, ← List.take_take, List.take_length]
def goodS (O : List (Bs × Bs)) (f : Bs × Bs) : List (Bs × Bs) := if rightB (withR O f.1 (f.2.take 30)) then withR O f.1 (f.2.take 30) else O
def goodN (fs : List (Bs × Bs)) : List (Bs × Bs) := (fs.take 12).foldl goodS []
/-- Fields that Good makes. -/
def Gd (O : List (Bs × Bs)) : Prop := rightB O = true ∧ ∀ x ∈ O, x.2.length ≤ 30
theorem Gd.nil : Gd [] := ⟨by decide, by simp⟩
theorem Gd.len {O : List (Bs × Bs)} (h : Gd O) : O.length ≤ 8 := by
  have := h.1
  unfold rightB at this
  simp at this
  exact this.2
theorem Gd.name {O : List (Bs × Bs)} (h : Gd O) {x : Bs × Bs} (hx : x ∈ O) : nameB x.1 = true := by
  obtain ⟨k, hk, rfl⟩ := List.mem_iff_getElem.1 hx
  have h1 := h.1
  unfold rightB at h1
  rw [Bool.and_eq_true, List.all_eq_true] at h1
  have h2 := h1.1 k (List.mem_range.2 hk)
  unfold fldB at h2
  rw [List.getElem?_eq_getElem hk] at h2
  simp at h2
  exact h2.1.1
theorem Gd.step {O : List (Bs × Bs)} (h : Gd O) (f : Bs × Bs) : Gd (goodS O f) := by
  unfold goodS
  split
  · rename_i hr
    refine ⟨hr, fun x hx => ?_⟩
    rcases with_mem hx with hx | rfl
    · exact h.2 x hx
    · simp only [List.length_take]; omega
  · exact h
theorem Gd.fold {O : List (Bs × Bs)} (h : Gd O) (fs : List (Bs × Bs)) : Gd (fs.foldl goodS O) := by
  induction fs generalizing O with
  | nil => exact h
  | cons f fs ih => exact ih (h.step f)
theorem good_gd (fs : List (Bs × Bs)) : Gd (goodN fs) := Gd.nil.fold _
set_option maxHeartbeats 6400000 in
set_option maxRecDepth 100000 in
theorem good_any (P : Nat → Prop) (v : Value) (fs : List (Bs × Bs)) (w : World) (h : FldsAt P w v fs) (hl : fs.length ≤ 9223372036854775807) (hfl : ∀ f ∈ fs, f.1.length ≤ 9223372036854775807 ∧ f.2.length ≤ 9223372036854775807) :
    Calls Tryd.prog 59 #[v] w fun e w' => ∃ v', e = .returned v' ∧ FldsAt (fun k => w.heap.size ≤ k) w' v' (goodN fs) ∧ Below w.heap.size w w' := by
  have HFL : Unit → ∀ f ∈ fs, f.1.length ≤ 9223372036854775807 ∧ f.2.length ≤ 9223372036854775807 := fun _ => hfl
  clear hfl
  obtain ⟨a, c, rfl⟩ := h.shape
  obtain ⟨n, hn⟩ : ∃ n, fs.length = n := ⟨_, rfl⟩
  rw [hn] at hl h ⊢
  have HN : Unit → fs.length = n := fun _ => hn
  clear hn
  have hni : (n : Int) ≤ 9223372036854775807 := by omega
  obtain ⟨F, hF⟩ : ∃ F, goodN fs = F := ⟨_, rfl⟩
  rw [hF]
  have HF : Unit → goodN fs = F := fun _ => hF
  clear hF
  go_enter Tryd.func59, Tryd.ntmps59
  go_upto_region 3 with fail
  go_loopw [3, 4] (fun u3 u4 wr => ∃ (i : Nat) (O : List (Bs × Bs)), u4 = .int .i64 (i : Int) ∧ i ≤ n ∧ i ≤ 12 ∧ (fs.take i).foldl goodS [] = O ∧ Gd O ∧ FldsAt (fun k => w.heap.size ≤ k) wr u3 O ∧ Below w.heap.size w wr) (fun _ u4 _ => 12 - (intOf u4).toNat)
  case atStart => exact ⟨0, [], rfl, Nat.zero_le _, Nat.zero_le _, rfl, Gd.nil, RowsAt.nil 2 _ _ none 0, Below.refl _ _⟩
  case round =>
    obtain ⟨i, O, rfl, hin, hi12, hO, hG, hFO, hB⟩ := hrel
    have HOO : Unit → (fs.take i).foldl goodS [] = O := fun _ => hO
    clear hO
    obtain ⟨aO, cO, rfl⟩ := hFO.shape
    have hszr := hB.size
    by_cases hgo : i < n ∧ i < 12
    · obtain ⟨hlt, h12⟩ := hgo
      have hki : (i : Int) < (n : Int) := by omega
      have h12i : (i : Int) < 12 := by omega
      obtain ⟨f, hf⟩ : ∃ f, fs[i]? = some f := ⟨_, List.getElem?_eq_getElem (by have := HN (); omega)⟩
      have hfz := HFL () f (List.mem_of_getElem? hf)
      obtain ⟨g, o, rfl, _, hgl, c0, c1⟩ := (h.stay hB).part hf
      have hcut := takeN f.2 30 30 rfl
      have hsz : ((⟨f.2.toArray⟩ : ByteArray).size : Int) = (f.2.length : Int) := by simp [ByteArray.size]
      have hvli : (f.2.length : Int) ≤ 9223372036854775807 := by omega
      have hln := hG.len
      have KW : Hid (∀ w', Below wr.heap.size wr w' → Calls Tryd.prog 78 #[.slice aO O.length cO, .string ⟨f.1.toArray⟩, .string ⟨(f.2.take 30).toArray⟩] w' fun e w'' => ∃ v', e = .returned v' ∧ w''.ownsRow w'.heap.size 64 2 v' (withR O f.1 (f.2.take 30)).length ((withR O f.1 (f.2.take 30)).map encF).flatten ∧ Below w'.heap.size w' w'') := Lib.hid fun w' hb => with_any _ _ O f.1 (f.2.take 30) w' (hFO.stay hb) (by omega) hfz.1 (fun x hx => by have := (name_len12 (hG.name hx)).2; omega)
      have HNX : Unit → (fs.take (i + 1)).foldl goodS [] = goodS O f := fun _ => by rw [take_fld hf, List.foldl_append, HOO ()]; rfl
      have HS : Unit → goodS O f = if rightB (withR O f.1 (f.2.take 30)) then withR O f.1 (f.2.take 30) else O := fun _ => rfl
      have hG2 := hG.step f
      have hwl := with_len O f.1 (f.2.take 30)
      have hwz : ∀ x ∈ withR O f.1 (f.2.take 30), x.1.length ≤ 9223372036854775807 ∧ x.2.length ≤ 9223372036854775807 := fun x hx => by
        rcases with_mem hx with hx | rfl
        · exact ⟨by have := (name_len12 (hG.name hx)).2; omega, by have := hG.2 x hx; omega⟩
        · exact ⟨hfz.1, by simp only [List.length_take]; omega⟩
      generalize withR O f.1 (f.2.take 30) = X at *
      generalize goodS O f = GO at *
      obtain ⟨f1, f2⟩ := f
      simp only at *
      generalize (⟨(f2.take 30).toArray⟩ : ByteArray) = T30 at *
      generalize (⟨f2.toArray⟩ : ByteArray) = TV at *
      generalize (⟨f1.toArray⟩ : ByteArray) = TN at *
      generalize f2.length = lv at *
      go_upto_region 5 with fail
      refine wp_region_held (S := fun w' => Below wr.heap.size wr w') (by kernel_rfl) ?_
      have hS : Below wr.heap.size wr { wr with drawn := wr.drawn + 1 } := (Below.refl _ _).drew
      generalize { wr with drawn := wr.drawn + 1 } = D1 at *
      refine held_val 0 rfl (by kernel_rfl) (by kernel_rfl) (by kernel_rfl) (fun _ _ _ _ h => h) (by rfl) hS ?_
      apply Exists.intro
      refine ⟨fun w' hw' => ?_, ?_⟩
      · skip
        go_simp
        first | done | rfl | exact ⟨rfl, rfl⟩
      simp only [Act.put, List.setIfInBounds_toArray, List.set_cons_zero, List.set_cons_succ]
      refine held_val 1 rfl (by kernel_rfl) (by kernel_rfl) (by kernel_rfl) (fun _ _ _ _ h => h) (by rfl) hS ?_
      apply Exists.intro
      refine ⟨fun w' hw' => ?_, ?_⟩
      · skip
        go_simp
        first | done | rfl | exact ⟨rfl, rfl⟩
      simp only [Act.put, List.setIfInBounds_toArray, List.set_cons_zero, List.set_cons_succ]
      refine held_val 2 rfl (by kernel_rfl) (by kernel_rfl) (by kernel_rfl) (fun _ _ _ _ h => h) (by rfl) hS ?_
      apply Exists.intro
      refine ⟨fun w' hw' => ?_, ?_⟩
      · skip
        go_simp
        first | done | rfl | exact ⟨rfl, rfl⟩
      simp only [Act.put, List.setIfInBounds_toArray, List.set_cons_zero, List.set_cons_succ]
      refine held_val 3 rfl (by kernel_rfl) (by kernel_rfl) (by kernel_rfl) (fun _ _ _ _ h => h) (by rfl) hS ?_
      apply Exists.intro
      refine ⟨fun w' hw' => ?_, ?_⟩
      · skip
        go_simp
        first | done | rfl | exact ⟨rfl, rfl⟩
      simp only [Act.put, List.setIfInBounds_toArray, List.set_cons_zero, List.set_cons_succ]
      refine held_val 4 rfl (by kernel_rfl) (by kernel_rfl) (by kernel_rfl) (fun _ _ _ _ h => h) (by rfl) hS ?_
      apply Exists.intro
      refine ⟨fun w' hw' => ?_, ?_⟩
      · skip
        go_simp
        first | done | rfl | exact ⟨rfl, rfl⟩
      simp only [Act.put, List.setIfInBounds_toArray, List.set_cons_zero, List.set_cons_succ]
      refine held_val 5 rfl (by kernel_rfl) (by kernel_rfl) (by kernel_rfl) (fun _ _ _ _ h => h) (by rfl) hS ?_
      apply Exists.intro
      refine ⟨fun w' hw' => ?_, ?_⟩
      · have e1 : w'.cell? ⟨g, o + i * 2, none⟩ = some (.string TN) := (hw'.cell hgl).trans c0
        go_simp
        first | done | rfl | exact ⟨rfl, rfl⟩
      simp only [Act.put, List.setIfInBounds_toArray, List.set_cons_zero, List.set_cons_succ]
      refine held_val 6 rfl (by kernel_rfl) (by kernel_rfl) (by kernel_rfl) (fun _ _ _ _ h => h) (by rfl) hS ?_
      apply Exists.intro
      refine ⟨fun w' hw' => ?_, ?_⟩
      · skip
        go_simp
        first | done | rfl | exact ⟨rfl, rfl⟩
      simp only [Act.put, List.setIfInBounds_toArray, List.set_cons_zero, List.set_cons_succ]
      refine held_val 7 rfl (by kernel_rfl) (by kernel_rfl) (by kernel_rfl) (fun _ _ _ _ h => h) (by rfl) hS ?_
      apply Exists.intro
      refine ⟨fun w' hw' => ?_, ?_⟩
      · skip
        go_simp
        first | done | rfl | exact ⟨rfl, rfl⟩
      simp only [Act.put, List.setIfInBounds_toArray, List.set_cons_zero, List.set_cons_succ]
      refine held_val 8 rfl (by kernel_rfl) (by kernel_rfl) (by kernel_rfl) (fun _ _ _ _ h => h) (by rfl) hS ?_
      apply Exists.intro
      refine ⟨fun w' hw' => ?_, ?_⟩
      · skip
        go_simp
        first | done | rfl | exact ⟨rfl, rfl⟩
      simp only [Act.put, List.setIfInBounds_toArray, List.set_cons_zero, List.set_cons_succ]
      refine held_val 9 rfl (by kernel_rfl) (by kernel_rfl) (by kernel_rfl) (fun _ _ _ _ h => h) (by rfl) hS ?_
      apply Exists.intro
      refine ⟨fun w' hw' => ?_, ?_⟩
      · skip
        go_simp
        first | done | rfl | exact ⟨rfl, rfl⟩
      simp only [Act.put, List.setIfInBounds_toArray, List.set_cons_zero, List.set_cons_succ]
      refine held_val 10 rfl (by kernel_rfl) (by kernel_rfl) (by kernel_rfl) (fun _ _ _ _ h => h) (by rfl) hS ?_
      apply Exists.intro
      refine ⟨fun w' hw' => ?_, ?_⟩
      · have e1 : w'.cell? ⟨g, o + i * 2 + 1, none⟩ = some (.string TV) := (hw'.cell hgl).trans c1
        go_simp
        first | done | rfl | exact ⟨rfl, rfl⟩
      simp only [Act.put, List.setIfInBounds_toArray, List.set_cons_zero, List.set_cons_succ]
      refine held_val 11 rfl (by kernel_rfl) (by kernel_rfl) (by kernel_rfl) (fun _ _ _ _ h => h) (by rfl) hS ?_
      apply Exists.intro
      refine ⟨fun w' hw' => ?_, ?_⟩
      · skip
        go_simp
        first | done | rfl | exact ⟨rfl, rfl⟩
      simp only [Act.put, List.setIfInBounds_toArray, List.set_cons_zero, List.set_cons_succ]
      refine held_val 12 rfl (by kernel_rfl) (by kernel_rfl) (by kernel_rfl) (fun _ _ _ _ h => h) (by rfl) hS ?_
      apply Exists.intro
      refine ⟨fun w' hw' => ?_, ?_⟩
      · skip
        go_simp
        first | done | rfl | exact ⟨rfl, rfl⟩
      simp only [Act.put, List.setIfInBounds_toArray, List.set_cons_zero, List.set_cons_succ]
      refine held_val 13 rfl (by kernel_rfl) (by kernel_rfl) (by kernel_rfl) (fun _ _ _ _ h => h) (by rfl) hS ?_
      apply Exists.intro
      refine ⟨fun w' hw' => ?_, ?_⟩
      · skip
        go_simp
        first | done | rfl | exact ⟨rfl, rfl⟩
      simp only [Act.put, List.setIfInBounds_toArray, List.set_cons_zero, List.set_cons_succ]
      refine held_val 14 rfl (by kernel_rfl) (by kernel_rfl) (by kernel_rfl) (fun _ _ _ _ h => h) (by rfl) hS ?_
      apply Exists.intro
      refine ⟨fun w' hw' => ?_, ?_⟩
      · skip
        go_simp
        first | done | rfl | exact ⟨rfl, rfl⟩
      simp only [Act.put, List.setIfInBounds_toArray, List.set_cons_zero, List.set_cons_succ]
      refine held_val 15 rfl (by kernel_rfl) (by kernel_rfl) (by kernel_rfl) (fun _ _ _ _ h => h) (by rfl) hS ?_
      apply Exists.intro
      refine ⟨fun w' hw' => ?_, ?_⟩
      · have e1 : w'.cell? ⟨g, o + i * 2 + 1, none⟩ = some (.string TV) := (hw'.cell hgl).trans c1
        go_simp
        first | done | rfl | exact ⟨rfl, rfl⟩
      simp only [Act.put, List.setIfInBounds_toArray, List.set_cons_zero, List.set_cons_succ]
      refine held_val 16 rfl (by kernel_rfl) (by kernel_rfl) (by kernel_rfl) (fun _ _ _ _ h => h) (by rfl) hS ?_
      apply Exists.intro
      refine ⟨fun w' hw' => ?_, ?_⟩
      · skip
        go_simp
        first | done | rfl | exact ⟨rfl, rfl⟩
      simp only [Act.put, List.setIfInBounds_toArray, List.set_cons_zero, List.set_cons_succ]
      refine held_val 17 rfl (by kernel_rfl) (by kernel_rfl) (by kernel_rfl) (fun _ _ _ _ h => h) (by rfl) hS ?_
      apply Exists.intro
      refine ⟨fun w' hw' => ?_, ?_⟩
      · skip
        go_simp
        first | done | rfl | exact ⟨rfl, rfl⟩
      simp only [Act.put, List.setIfInBounds_toArray, List.set_cons_zero, List.set_cons_succ]
      refine held_val 18 rfl (by kernel_rfl) (by kernel_rfl) (by kernel_rfl) (fun _ _ _ _ h => h) (by rfl) hS ?_
      apply Exists.intro
      refine ⟨fun w' hw' => ?_, ?_⟩
      · skip
        go_simp
        first | done | rfl | exact ⟨rfl, rfl⟩
      simp only [Act.put, List.setIfInBounds_toArray, List.set_cons_zero, List.set_cons_succ]
      refine held_call 19 (by kernel_rfl) rfl (by rfl) ?_
      apply Exists.intro
      apply Exists.intro
      refine ⟨?_, ?_⟩
      · go_simp
        first | done | rfl | exact ⟨rfl, rfl⟩
      refine (KW.out _ hS).mono ?_
      intro e w3 he
      obtain ⟨v3, rfl, hown3, hB3⟩ := he
      obtain ⟨a3, c3, rfl, _⟩ := own_slice hown3
      have hS0 := hS
      replace hS := hS.trans (hB3.mono hS.size)
      refine ⟨_, rfl, hS, ?_⟩
      simp only [Act.put, List.setIfInBounds_toArray, List.set_cons_zero, List.set_cons_succ]
      refine held_val 20 rfl (by kernel_rfl) (by kernel_rfl) (by kernel_rfl) (fun _ _ _ _ h => h) (by rfl) hS ?_
      apply Exists.intro
      refine ⟨fun w' hw' => ?_, ?_⟩
      · skip
        go_simp
        first | done | rfl | exact ⟨rfl, rfl⟩
      simp only [Act.put, List.setIfInBounds_toArray, List.set_cons_zero, List.set_cons_succ]
      refine wpAnyH_done (by kernel_rfl) ?_ _
      have hX : FldsAt (fun k => w.heap.size ≤ k) w3 (.slice a3 X.length c3) X := (own_flds hown3).mono (fun b hb _ => by have := (hown3.lt b hb).1; have := hS0.size; omega)
      have hFO3 := hFO.stay hS
      have hB4 := hB.trans (hS.mono hszr)
      have KR := Lib.hid (right_at _ _ X w3 hX (by omega) hwz)
      clear hown3 KW hcut c0 c1 hsz hvli hS hS0 hFO hB3 hwz
      cases hrt : rightB X with
      | true =>
        rw [hrt] at KR
        have e : GO = X := by rw [HS (), hrt]; rfl
        subst e
        clear HS hrt
        go_wp2_with fail
        refine KR.out.mono ?_
        rintro e w4 ⟨rfl, hb4⟩
        have hX4 := hX.stay hb4
        have hB5 := hB4.trans (hb4.mono hB4.size)
        clear KR
        go_wp2_with fail
        go_roundw
        case rel => exact ⟨i + 1, _, by simp, by omega, by omega, HNX (), hG2, hX4, hB5⟩
        case measure => simp [intOf]; omega
      | false =>
        rw [hrt] at KR
        have e : GO = O := by rw [HS (), hrt]; rfl
        subst e
        clear HS hrt
        go_wp2_with fail
        refine KR.out.mono ?_
        rintro e w4 ⟨rfl, hb4⟩
        have hX4 := hFO3.stay hb4
        have hB5 := hB4.trans (hb4.mono hB4.size)
        clear KR
        go_wp2_with fail
        go_roundw
        case rel => exact ⟨i + 1, _, by simp, by omega, by omega, HNX (), hG2, hX4, hB5⟩
        case measure => simp [intOf]; omega
    · have hFO2 : O = F := by
        rw [← HOO (), ← HF ()]
        unfold goodN
        by_cases hlt : i < n
        · rw [show i = 12 by omega]
        · have := HN ()
          rw [List.take_of_length_le (by omega), List.take_of_length_le (by omega)]
      subst hFO2
      have HOW : Unit → _ := fun _ => hFO
      clear hFO
      by_cases hlt : i < n
      · have hki : (i : Int) < (n : Int) := by omega
        have h12i : ¬ (i : Int) < 12 := by omega
        go_wp2_with fail
        go_ret
        exact ⟨_, rfl, HOW (), hB⟩
      · have hki : ¬ (i : Int) < (n : Int) := by omega
        go_wp2_with fail
        go_ret
        exact ⟨_, rfl, HOW (), hB⟩
end Go.Proofs.YtknhkmlihbgjpaaDoor
