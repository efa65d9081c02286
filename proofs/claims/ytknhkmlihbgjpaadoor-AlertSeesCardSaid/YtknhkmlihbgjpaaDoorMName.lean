/- Names: the walk of match.Name. -/
import Derived.Test.YtknhkmlihbgjpaaDoorPG
namespace Go.Proofs.YtknhkmlihbgjpaaDoor
open Go.ChangeShapes Go.WideShapes Go.RowKit

def digN (n : Nat) : Bool := decide (48 ≤ n ∧ n ≤ 57)
def letN (n : Nat) : Bool := decide (97 ≤ n ∧ n ≤ 122)
def okN (n : Nat) : Bool := letN n || digN n || decide (n = 95)
/-- Is a text a name? -/
def nameB (l : Bs) : Bool := decide (1 ≤ l.length ∧ l.length ≤ 12) && !digN (l.headD 0).toNat && l.all fun c => okN c.toNat
set_option maxHeartbeats 1600000 in
theorem digit_any (n : Nat) (b : Int) (hb : (n : Int) = b) (w : World) : Calls Tryd.prog 67 #[.int .u8 b] w fun e w' => e = .returned (.bool (digN n)) ∧ w' = w := by
  have H : Unit → digN n = decide (48 ≤ n ∧ n ≤ 57) := fun _ => rfl
  generalize digN n = d at *
  by_cases h1 : 48 ≤ b
  · by_cases h2 : b ≤ 57
    · have e := H ()
      rw [decide_eq_true (by omega)] at e
      subst e
      clear hb H
      go_enter Tryd.func67, Tryd.ntmps67
      go_wp2_with fail
      go_ret
      exact ⟨rfl, rfl⟩
    · have e := H ()
      rw [decide_eq_false (by omega)] at e
      subst e
      clear hb H
      go_enter Tryd.func67, Tryd.ntmps67
      go_wp2_with fail
      go_ret
      exact ⟨rfl, rfl⟩
  · have e := H ()
    rw [decide_eq_false (by omega)] at e
    subst e
    clear hb H
    go_enter Tryd.func67, Tryd.ntmps67
    go_wp2_with fail
    go_ret
    exact ⟨rfl, rfl⟩
set_option maxHeartbeats 1600000 in
theorem letter_any (n : Nat) (b : Int) (hb : (n : Int) = b) (w : World) : Calls Tryd.prog 68 #[.int .u8 b] w fun e w' => e = .returned (.bool (letN n)) ∧ w' = w := by
  have H : Unit → letN n = decide (97 ≤ n ∧ n ≤ 122) := fun _ => rfl
  generalize letN n = d at *
  by_cases h1 : 97 ≤ b
  · by_cases h2 : b ≤ 122
    · have e := H ()
      rw [decide_eq_true (by omega)] at e
      subst e
      clear hb H
      go_enter Tryd.func68, Tryd.ntmps68
      go_wp2_with fail
      go_ret
      exact ⟨rfl, rfl⟩
    · have e := H ()
      rw [decide_eq_false (by omega)] at e
      subst e
      clear hb H
      go_enter Tryd.func68, Tryd.ntmps68
      go_wp2_with fail
      go_ret
      exact ⟨rfl, rfl⟩
  · have e := H ()
    rw [decide_eq_false (by omega)] at e
    subst e
    clear hb H
    go_enter Tryd.func68, Tryd.ntmps68
    go_wp2_with fail
    go_ret
    exact ⟨rfl, rfl⟩
theorem ok_digit {n : Nat} (h : 48 ≤ n ∧ n ≤ 57) : digN n = true ∧ letN n = false ∧ okN n = true := by
  have a : digN n = true := decide_eq_true h
  have b : letN n = false := decide_eq_false (by omega)
  exact ⟨a, b, by unfold okN; rw [a]; simp⟩
theorem ok_letter {n : Nat} (h : 97 ≤ n ∧ n ≤ 122) : digN n = false ∧ letN n = true ∧ okN n = true := by
  have a : letN n = true := decide_eq_true h
  have b : digN n = false := decide_eq_false (by omega)
  exact ⟨b, a, by unfold okN; rw [a]; simp⟩
theorem ok_line {n : Nat} (h : n = 95) : digN n = false ∧ letN n = false ∧ okN n = true := by subst h; decide
theorem ok_none {n : Nat} (h1 : ¬ (48 ≤ n ∧ n ≤ 57)) (h2 : ¬ (97 ≤ n ∧ n ≤ 122)) (h3 : n ≠ 95) : digN n = false ∧ letN n = false ∧ okN n = false := by
  have a : digN n = false := decide_eq_false h1
  have b : letN n = false := decide_eq_false h2
  exact ⟨a, b, by unfold okN; rw [a, b]; simp [h3]⟩
theorem name_none {l : Bs} {k : Nat} {c : UInt8} (hk : l[k]? = some c) (h : okN c.toNat = false) : nameB l = false := by
  have h1 : l.all (fun c => okN c.toNat) = false := by
    rw [List.all_eq_false]
    exact ⟨c, List.mem_of_getElem? hk, by rw [h]; simp⟩
  unfold nameB
  rw [h1]; simp
theorem name_yes {l : Bs} {c : UInt8} (h1 : 1 ≤ l.length) (h2 : l.length ≤ 12) (h0 : l[0]? = some c) (hd : digN c.toNat = false) (h : ∀ k c, k < l.length → l[k]? = some c → okN c.toNat = true) : nameB l = true := by
  have ha : l.all (fun c => okN c.toNat) = true := by
    rw [List.all_eq_true]
    intro c hc
    obtain ⟨k, hk, rfl⟩ := List.mem_iff_getElem.1 hc
    exact h k _ hk (List.getElem?_eq_getElem hk)
  have e : l.headD 0 = c := by
    cases l with
    | nil => cases h0
    | cons x l => simp at h0; subst h0; rfl
  unfold nameB
  rw [ha, e, hd, decide_eq_true ⟨h1, h2⟩]; rfl
theorem name_digit {l : Bs} {c : UInt8} (h0 : l[0]? = some c) (hd : digN c.toNat = true) : nameB l = false := by
  have e : l.headD 0 = c := by
    cases l with
    | nil => cases h0
    | cons x l => simp at h0; subst h0; rfl
  unfold nameB
  rw [e, hd]; simp
theorem name_len {l : Bs} (h : l.length = 0 ∨ 12 < l.length) : nameB l = false := by
  unfold nameB
  rw [decide_eq_false (by omega)]; rfl
set_option maxHeartbeats 6400000 in
set_option maxRecDepth 100000 in
theorem name_any (l : Bs) (w : World) (hl : l.length ≤ 9223372036854775807) : Calls Tryd.prog 41 #[.string ⟨l.toArray⟩] w fun e w' => e = .returned (.bool (nameB l)) ∧ w' = w := by
  cases l with
  | nil =>
    rw [name_len (l := []) (.inl rfl)]
    go_enter Tryd.func41, Tryd.ntmps41
    go_wp2_with fail
    go_ret
    exact ⟨rfl, rfl⟩
  | cons c0 l0 =>
    obtain ⟨l, hl0⟩ : ∃ l, c0 :: l0 = l := ⟨_, rfl⟩
    have h0 : l[0]? = some c0 := by rw [← hl0]; rfl
    have hne := full_text c0 l0
    rw [hl0] at hl hne ⊢
    have hsz : (⟨l.toArray⟩ : ByteArray).size = l.length := by simp [ByteArray.size]
    have h1 : 1 ≤ l.length := by rw [← hl0]; simp
    clear hl0
    obtain ⟨n, hn⟩ : ∃ n, l.length = n := ⟨_, rfl⟩
    obtain ⟨t, ht⟩ : ∃ t : ByteArray, t = ⟨l.toArray⟩ := ⟨_, rfl⟩
    have hix : Unit → ∀ (k : Nat) (c : UInt8), l[k]? = some c → ∀ w, (Instr.index 9 (.string t) (.int .i64 (k : Int))).run Tryd.prog w = .ok (.int .u8 (c.toNat : Int)) w := fun _ k c hc w => by rw [ht]; exact at_text l k c hc _ rfl w
    rw [← ht] at hsz hne ⊢
    clear ht
    rw [hn] at hl hsz h1
    have HN : Unit → l.length = n := fun _ => hn
    clear hn
    have hx0 := hix () 0 c0 h0
    simp only [Int.ofNat_zero] at hx0
    obtain ⟨o, ho⟩ : ∃ o, nameB l = o := ⟨_, rfl⟩
    rw [ho]
    have HO : Unit → nameB l = o := fun _ => ho
    clear ho
    by_cases h12 : n ≤ 12
    · have h12i : (n : Int) ≤ 12 := by omega
      obtain ⟨b, hb⟩ : ∃ b : Int, (c0.toNat : Int) = b := ⟨_, rfl⟩
      rw [hb] at hx0
      have K := Lib.hid (digit_any c0.toNat b hb w)
      clear hb
      cases hd : digN c0.toNat with
      | true =>
        obtain rfl := (HO ()).symm.trans (name_digit h0 hd)
        rw [hd] at K
        go_enter Tryd.func41, Tryd.ntmps41
        go_wp2_with fail
        refine K.out.mono ?_
        rintro e w1 ⟨rfl, rfl⟩
        go_wp2_with fail
        go_ret
        exact ⟨rfl, rfl⟩
      | false =>
        rw [hd] at K
        go_enter Tryd.func41, Tryd.ntmps41
        go_wp2_with fail
        refine K.out.mono ?_
        rintro e w1 ⟨rfl, rfl⟩
        clear K hx0
        go_upto_region 3 with fail
        go_upto_region 4 with fail
        go_loopw [18] (fun u w2 => ∃ k : Nat, k ≤ n ∧ u = .int .i64 (k : Int) ∧ w1 = w2 ∧ ∀ j c, j < k → l[j]? = some c → okN c.toNat = true) (fun u _ => n - (intOf u).toNat)
        case atStart => exact ⟨0, by omega, rfl, rfl, fun j c hj => by omega⟩
        case round =>
          obtain ⟨k, hk, rfl, rfl, hall⟩ := hrel
          have HA : Unit → ∀ j c, j < k → l[j]? = some c → okN c.toNat = true := fun _ => hall
          clear hall
          by_cases hlt : k < n
          · have hki : (k : Int) < (n : Int) := by omega
            obtain ⟨c, hc⟩ : ∃ c, l[k]? = some c := ⟨_, List.getElem?_eq_getElem (by have := HN (); omega)⟩
            have hx := hix () k c hc
            obtain ⟨b, hb⟩ : ∃ b : Int, (c.toNat : Int) = b := ⟨_, rfl⟩
            rw [hb] at hx
            have KD := Lib.hid (digit_any c.toNat b hb w1)
            have KL := Lib.hid (letter_any c.toNat b hb w1)
            by_cases c1 : 97 ≤ c.toNat ∧ c.toNat ≤ 122
            · obtain ⟨e1, e2, e3⟩ := ok_letter c1
              rw [e2] at KL
              clear hb c1 KD
              go_wp2_with fail
              refine KL.out.mono ?_
              rintro e w1 ⟨rfl, rfl⟩
              clear KL
              go_wp2_with fail
              go_roundw
              case rel => exact ⟨k + 1, by omega, by simp, trivial, fun j d hj hd => by
                by_cases e : j = k
                · subst e; rw [hc] at hd; injection hd with hd; subst hd; exact e3
                · exact HA () j d (by omega) hd⟩
              case measure => simp [intOf]; omega
            · by_cases c2 : 48 ≤ c.toNat ∧ c.toNat ≤ 57
              · obtain ⟨e1, e2, e3⟩ := ok_digit c2
                rw [e2] at KL
                rw [e1] at KD
                clear hb c1 c2
                go_wp2_with fail
                refine KL.out.mono ?_
                rintro e w1 ⟨rfl, rfl⟩
                clear KL
                go_wp2_with fail
                refine KD.out.mono ?_
                rintro e w1 ⟨rfl, rfl⟩
                clear KD
                go_wp2_with fail
                go_roundw
                case rel => exact ⟨k + 1, by omega, by simp, trivial, fun j d hj hd => by
                  by_cases e : j = k
                  · subst e; rw [hc] at hd; injection hd with hd; subst hd; exact e3
                  · exact HA () j d (by omega) hd⟩
                case measure => simp [intOf]; omega
              · by_cases c3 : c.toNat = 95
                · obtain ⟨e1, e2, e3⟩ := ok_line c3
                  rw [e2] at KL
                  rw [e1] at KD
                  obtain rfl : b = 95 := by omega
                  clear hb c1 c2 c3
                  go_wp2_with fail
                  refine KL.out.mono ?_
                  rintro e w1 ⟨rfl, rfl⟩
                  clear KL
                  go_wp2_with fail
                  refine KD.out.mono ?_
                  rintro e w1 ⟨rfl, rfl⟩
                  clear KD
                  go_wp2_with fail
                  go_roundw
                  case rel => exact ⟨k + 1, by omega, by simp, trivial, fun j d hj hd => by
                    by_cases e : j = k
                    · subst e; rw [hc] at hd; injection hd with hd; subst hd; exact e3
                    · exact HA () j d (by omega) hd⟩
                  case measure => simp [intOf]; omega
                · obtain ⟨e1, e2, e3⟩ := ok_none c2 c1 c3
                  rw [e2] at KL
                  rw [e1] at KD
                  have h95 : (b != 95) = true := by rw [bne_iff_ne]; omega
                  obtain rfl := (HO ()).symm.trans (name_none hc e3)
                  clear hb c1 c2 c3
                  go_wp2_with fail
                  refine KL.out.mono ?_
                  rintro e w1 ⟨rfl, rfl⟩
                  clear KL
                  go_wp2_with fail
                  refine KD.out.mono ?_
                  rintro e w1 ⟨rfl, rfl⟩
                  clear KD
                  go_wp2_with fail
                  go_ret
                  exact ⟨rfl, rfl⟩
          · obtain rfl : n = k := by omega
            obtain rfl := (HO ()).symm.trans (name_yes (by have := HN (); omega) (by have := HN (); omega) h0 hd (fun j c hj hc => HA () j c (by have := HN (); omega) hc))
            go_wp2_with fail
            go_ret
            exact ⟨rfl, rfl⟩
    · have h12i : 12 < (n : Int) := by omega
      obtain rfl := (HO ()).symm.trans (name_len (.inr (by have := HN (); omega)))
      go_enter Tryd.func41, Tryd.ntmps41
      go_wp2_with fail
      go_ret
      exact ⟨rfl, rfl⟩
end Go.Proofs.YtknhkmlihbgjpaaDoor
