/- Fields with one more: With. -/
import Derived.Test.YteooofakpkbgoaaDoorMWith
namespace Go.Proofs.YteooofakpkbgoaaDoor
open Go.ChangeShapes Go.WideShapes Go.RowKit

def ltF (nm : Bs) (f : Bs × Bs) : Bool := Op.bytesLess f.1 nm
/-- What is behind those of a lesser name, without the one of that name. -/
def tlF (nm : Bs) : List (Bs × Bs) → List (Bs × Bs)
  | [] => []
  | f :: r => if f.1 == nm then r else f :: r
def withM (fs : List (Bs × Bs)) (nm val : Bs) : List (Bs × Bs) := fs.takeWhile (ltF nm) ++ (nm, val) :: tlF nm (fs.dropWhile (ltF nm))
theorem tw_at {α : Type} {p : α → Bool} {l : List α} {k : Nat} (h : (l.take k).all p = true) (h2 : ∀ x, l[k]? = some x → p x = false) : l.takeWhile p = l.take k ∧ l.dropWhile p = l.drop k := by
  induction l generalizing k with
  | nil => simp
  | cons x l ih =>
    cases k with
    | zero =>
      have := h2 x rfl
      simp [this]
    | succ k =>
      rw [List.take_succ_cons, List.all_cons, Bool.and_eq_true] at h
      obtain ⟨h3, h4⟩ := ih h.2 (fun y hy => h2 y (by simpa using hy))
      simp [h.1, h3, h4]
theorem with_at {fs : List (Bs × Bs)} {nm : Bs} {k : Nat} (val : Bs) (h : (fs.take k).all (ltF nm) = true) (h2 : ∀ x, fs[k]? = some x → ltF nm x = false) : withM fs nm val = fs.take k ++ (nm, val) :: tlF nm (fs.drop k) := by
  obtain ⟨h3, h4⟩ := tw_at h h2
  unfold withM
  rw [h3, h4]
set_option maxHeartbeats 1600000 in
set_option maxRecDepth 100000 in
theorem withm_any (P : Nat → Prop) (v : Value) (fs : List (Bs × Bs)) (nm val : Bs) (w : World) (h : FldsAt P w v fs) (hl : fs.length ≤ 900) :
    Calls Tryd.prog 31 #[v, .string ⟨nm.toArray⟩, .string ⟨val.toArray⟩] w fun e w' => ∃ v', e = .returned v' ∧ w'.ownsRow w.heap.size 28 2 v' (withM fs nm val).length ((withM fs nm val).map encF).flatten ∧ Below w.heap.size w w' := by
  replace h : FldsAt (fun _ => True) w v fs := h.mono fun _ _ _ => trivial
  obtain ⟨a, c, rfl⟩ := h.shape
  have KE := Lib.hid fun p t lp lt (hp : FldsAt (fun _ => True) w p lp) (ht : FldsAt (fun _ => True) w t lt) hl => with_end w p t lp lt nm val hp ht hl
  obtain ⟨n, hn⟩ : ∃ n, fs.length = n := ⟨_, rfl⟩
  rw [hn] at hl h ⊢
  have HN : Unit → fs.length = n := fun _ => hn
  clear hn
  obtain ⟨F, hF⟩ : ∃ F, withM fs nm val = F := ⟨_, rfl⟩
  rw [hF]
  have HF : Unit → withM fs nm val = F := fun _ => hF
  clear hF
  go_enter Tryd.func31, Tryd.ntmps31
  go_upto_region 2 with fail
  go_loopw [7] (fun u7 wr => ∃ k : Nat, u7 = .int .i64 (k : Int) ∧ k ≤ n ∧ (fs.take k).all (ltF nm) = true ∧ wr = w) (fun u7 _ => n - (intOf u7).toNat)
  case atStart => exact ⟨0, rfl, Nat.zero_le _, rfl, rfl⟩
  case round =>
    obtain ⟨k, rfl, hk, hA, hw⟩ := hrel
    obtain rfl : w = wr := hw.symm
    have HA : Unit → (fs.take k).all (ltF nm) = true := fun _ => hA
    clear hA
    by_cases hlt : k < n
    · have hki : (k : Int) < (n : Int) := by omega
      obtain ⟨f, hf⟩ : ∃ f, fs[k]? = some f := ⟨_, List.getElem?_eq_getElem (by have := HN (); omega)⟩
      have hcap := h.cap (by have := HN (); omega)
      have hck : ¬ c = k := by have := HN (); omega
      have hkc : (k : Int) ≤ (c : Int) := by have := HN (); omega
      have hnc : (n : Int) ≤ (c : Int) := by have := HN (); omega
      obtain ⟨g, o, rfl, _, hgl, c0, c1⟩ := h.part hf
      have HD : Unit → fs.drop k = f :: fs.drop (k + 1) := fun _ => by
        have hk2 : k < fs.length := by have := HN (); omega
        rw [List.drop_eq_getElem_cons hk2]
        rw [List.getElem?_eq_getElem hk2] at hf
        injection hf with hf
        rw [hf]
      have HK : Unit → fs[k]? = some f := fun _ => hf
      clear hf hcap
      cases hb : Op.bytesLess f.1 nm with
      | true =>
        have HA2 : Unit → (fs.take (k + 1)).all (ltF nm) = true := fun _ => by
          rw [List.take_add_one, HK (), List.all_append, HA ()]
          simp [ltF, hb]
        go_wp2_with fail
        go_roundw
        case rel => exact ⟨k + 1, by go_num, by omega, HA2 (), trivial⟩
        case measure => simp [intOf]; omega
      | false =>
        have HW : Unit → F = fs.take k ++ (nm, val) :: tlF nm (f :: fs.drop (k + 1)) := fun _ => by
          rw [← HF (), with_at val (HA ()) (fun x hx => by rw [HK ()] at hx; injection hx with hx; rw [← hx]; exact hb), HD ()]
        have hk0 : 0 < n - k := by omega
        have hp := h.upto (k := k) (by have := HN (); omega)
        have ht := h.from (k := k) (by have := HN (); omega)
        rw [HN (), HD ()] at ht
        have HQ : Unit → (fs.take k).length + (f :: fs.drop (k + 1)).length ≤ 900 := fun _ => by rw [← HD (), List.length_take, List.length_drop]; have := HN (); omega
        clear h hlt hk
        cases he : f.1 == nm with
        | true =>
          have hE : F = fs.take k ++ (nm, val) :: fs.drop (k + 1) := by rw [HW ()]; simp [tlF, he]
          have HE : Unit → _ := fun _ => hE
          have ht2 := ht.behind
          have hQ2 : (fs.take k).length + (fs.drop (k + 1)).length ≤ 900 := by have := HQ (); rw [List.length_cons] at this; omega
          have HQ2 : Unit → _ := fun _ => hQ2
          clear hE hQ2 HW HQ HD HK
          by_cases hc1 : c - k = 1
          · have hnk : n - k - 1 = 0 := by omega
            have hdr : fs.drop (k + 1) = [] := List.drop_eq_nil_of_le (by have := HN (); omega)
            have ht3 : FldsAt (fun _ => True) w (.slice (some ⟨g, o + k * 2, none⟩) (n - k - 1) 0) (fs.drop (k + 1)) := by rw [hdr, hnk]; exact RowsAt.nil 2 _ w _ 0
            have HT3 : Unit → _ := fun _ => ht3
            clear hnk hdr ht3 ht2 ht
            go_wp2_with fail
            refine (KE.out _ _ _ _ hp (HT3 ()) (HQ2 ())).mono ?_
            rintro e w5 ⟨v5, rfl, hown, hB⟩
            go_wp2_with fail
            go_ret
            exact ⟨_, rfl, HE () ▸ hown, hB⟩
          · go_wp2_with fail
            refine (KE.out _ _ _ _ hp ht2 (HQ2 ())).mono ?_
            rintro e w5 ⟨v5, rfl, hown, hB⟩
            go_wp2_with fail
            go_ret
            exact ⟨_, rfl, HE () ▸ hown, hB⟩
        | false =>
          have hE : F = fs.take k ++ (nm, val) :: (f :: fs.drop (k + 1)) := by rw [HW ()]; simp [tlF, he]
          have HE : Unit → _ := fun _ => hE
          clear hE HW HD HK
          go_wp2_with fail
          refine (KE.out _ _ _ _ hp ht (HQ ())).mono ?_
          rintro e w5 ⟨v5, rfl, hown, hB⟩
          go_wp2_with fail
          go_ret
          exact ⟨_, rfl, HE () ▸ hown, hB⟩
    · obtain rfl : n = k := by omega
      have hki : ¬ (n : Int) < (n : Int) := by omega
      have hall : fs.take n = fs := List.take_of_length_le (by have := HN (); omega)
      have hE : F = fs ++ (nm, val) :: [] := by
        have h1 := HA ()
        rw [← HF (), with_at (k := n) val h1 (fun x hx => by rw [List.getElem?_eq_none (by have := HN (); omega)] at hx; cases hx), hall, List.drop_eq_nil_of_le (by have := HN (); omega)]
        rfl
      have HE : Unit → _ := fun _ => hE
      have HQ : Unit → fs.length + ([] : List (Bs × Bs)).length ≤ 900 := fun _ => by have := HN (); simp; omega
      have hnc : (n : Int) ≤ (c : Int) := by
        by_cases h0 : 0 < fs.length
        · have := h.cap h0; have := HN (); omega
        · have := HN (); omega
      clear hall hE hlt hk
      by_cases hcn : c = n
      · rw [hcn] at h
        go_wp2_with fail
        refine (KE.out _ _ _ [] h (RowsAt.nil 2 _ w a 0) (HQ ())).mono ?_
        rintro e w5 ⟨v5, rfl, hown, hB⟩
        go_wp2_with fail
        go_ret
        exact ⟨_, rfl, HE () ▸ hown, hB⟩
      · go_wp2_with fail
        refine (KE.out _ _ _ [] h (RowsAt.nil 2 _ w _ _) (HQ ())).mono ?_
        rintro e w5 ⟨v5, rfl, hown, hB⟩
        go_wp2_with fail
        go_ret
        exact ⟨_, rfl, HE () ▸ hown, hB⟩
end Go.Proofs.YteooofakpkbgoaaDoor
