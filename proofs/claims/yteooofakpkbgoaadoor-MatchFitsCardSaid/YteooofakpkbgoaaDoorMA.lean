/- MA: several texts in one. -/
import Derived.Test.YteooofakpkbgoaaDoorPB
import Derived.Test.YteooofakpkbgoaaDoorPC
import Derived.Lib.Join
import Derived.Maps.AppendAt
import Derived.OwnWalk
import Derived.Great.BuildSlice
import Derived.Great.FillDense
import Derived.Test.YteooofakpkbgoaaDoorShelf
/- Names: the walk of match.Name. -/
namespace Go.Proofs.YteooofakpkbgoaaDoor
open Go.ChangeShapes Go.WideShapes Go.RowKit

def digN (n : Nat) : Bool := decide (48 ≤ n ∧ n ≤ 57)
def letN (n : Nat) : Bool := decide (97 ≤ n ∧ n ≤ 122)
def okN (n : Nat) : Bool := letN n || digN n || decide (n = 95)
/-- Is a text a name? -/
def nameB (l : Bs) : Bool := decide (1 ≤ l.length ∧ l.length ≤ 12) && !digN (l.headD 0).toNat && l.all fun c => okN c.toNat
set_option maxHeartbeats 1600000 in
theorem digit_any (n : Nat) (b : Int) (hb : (n : Int) = b) (w : World) : Calls Tryd.prog 38 #[.int .u8 b] w fun e w' => e = .returned (.bool (digN n)) ∧ w' = w := by
  have H : Unit → digN n = decide (48 ≤ n ∧ n ≤ 57) := fun _ => rfl
  generalize digN n = d at *
  by_cases h1 : 48 ≤ b
  · by_cases h2 : b ≤ 57
    · have e := H ()
      rw [decide_eq_true (by omega)] at e
      subst e
      clear hb H
      go_enter Tryd.func38, Tryd.ntmps38
      go_wp2_with fail
      go_ret
      exact ⟨rfl, rfl⟩
    · have e := H ()
      rw [decide_eq_false (by omega)] at e
      subst e
      clear hb H
      go_enter Tryd.func38, Tryd.ntmps38
      go_wp2_with fail
      go_ret
      exact ⟨rfl, rfl⟩
  · have e := H ()
    rw [decide_eq_false (by omega)] at e
    subst e
    clear hb H
    go_enter Tryd.func38, Tryd.ntmps38
    go_wp2_with fail
    go_ret
    exact ⟨rfl, rfl⟩
set_option maxHeartbeats 1600000 in
theorem letter_any (n : Nat) (b : Int) (hb : (n : Int) = b) (w : World) : Calls Tryd.prog 39 #[.int .u8 b] w fun e w' => e = .returned (.bool (letN n)) ∧ w' = w := by
  have H : Unit → letN n = decide (97 ≤ n ∧ n ≤ 122) := fun _ => rfl
  generalize letN n = d at *
  by_cases h1 : 97 ≤ b
  · by_cases h2 : b ≤ 122
    · have e := H ()
      rw [decide_eq_true (by omega)] at e
      subst e
      clear hb H
      go_enter Tryd.func39, Tryd.ntmps39
      go_wp2_with fail
      go_ret
      exact ⟨rfl, rfl⟩
    · have e := H ()
      rw [decide_eq_false (by omega)] at e
      subst e
      clear hb H
      go_enter Tryd.func39, Tryd.ntmps39
      go_wp2_with fail
      go_ret
      exact ⟨rfl, rfl⟩
  · have e := H ()
    rw [decide_eq_false (by omega)] at e
    subst e
    clear hb H
    go_enter Tryd.func39, Tryd.ntmps39
    go_wp2_with fail
    go_ret
    exact ⟨rfl, rfl⟩
theorem ok_digit {n : Nat} (h : 48 ≤ n ∧ n ≤ 57) : digN n = true ∧ letN n = false ∧ okN n = true := by
  have a : digN n = true := decide_eq_true h
  have b : letN n = false := decide_eq_false (by omega)
  exact ⟨a, b, by unfold okN; rw [a]; simp⟩
theorem ok_letter {n : Nat} (h : 97 ≤ n ∧ n ≤ 122) : digN n = false ∧ letN n = true ∧ okN n = true := by
  have a : letN n = true := decide_eq_true h
  have b : digN n = false := decide_eq_false (by omega)
  exact ⟨b, a, by unfold okN; rw [a]; simp⟩
theorem ok_line {n : Nat} (h : n = 95) : digN n = false ∧ letN n = false ∧ okN n = true := by subst h; decide
theorem ok_none {n : Nat} (h1 : ¬ (48 ≤ n ∧ n ≤ 57)) (h2 : ¬ (97 ≤ n ∧ n ≤ 122)) (h3 : n ≠ 95) : digN n = false ∧ letN n = false ∧ okN n = false := by
  have a : digN n = false := decide_eq_false h1
  have b : letN n = false := decide_eq_false h2
  exact ⟨a, b, by unfold okN; rw [a, b]; simp [h3]⟩
theorem name_none {l : Bs} {k : Nat} {c : UInt8} (hk : l[k]? = some c) (h : okN c.toNat = false) : nameB l = false := by
  have h1 : l.all (fun c => okN c.toNat) = false := by
    rw [List.all_eq_false]
    exact ⟨c, List.mem_of_getElem? hk, by rw [h]; simp⟩
  unfold nameB
  rw [h1]; simp
theorem name_yes {l : Bs} {c : UInt8} (h1 : 1 ≤ l.length) (h2 : l.length ≤ 12) (h0 : l[0]? = some c) (hd : digN c.toNat = false) (h : ∀ k c, k < l.length → l[k]? = some c → okN c.toNat = true) : nameB l = true := by
  have ha : l.all (fun c => okN c.toNat) = true := by
    rw [List.all_eq_true]
    intro c hc
    obtain ⟨k, hk, rfl⟩ := List.mem_iff_getElem.1 hc
    exact h k _ hk (List.getElem?_eq_getElem hk)
  have e : l.headD 0 = c := by
    cases l with
    | nil => cases h0
    | cons x l => simp at h0; subst h0; rfl
  unfold nameB
  rw [ha, e, hd, decide_eq_true ⟨h1, h2⟩]; rfl
theorem name_digit {l : Bs} {c : UInt8} (h0 : l[0]? = some c) (hd : digN c.toNat = true) : nameB l = false := by
  have e : l.headD 0 = c := by
    cases l with
    | nil => cases h0
    | cons x l => simp at h0; subst h0; rfl
  unfold nameB
  rw [e, hd]; simp
theorem name_len {l : Bs} (h : l.length = 0 ∨ 12 < l.length) : nameB l = false := by
  unfold nameB
  rw [decide_eq_false (by omega)]; rfl
set_option maxHeartbeats 6400000 in
set_option maxRecDepth 100000 in
theorem name_any (l : Bs) (w : World) (hl : l.length ≤ 9223372036854775807) : Calls Tryd.prog 13 #[.string ⟨l.toArray⟩] w fun e w' => e = .returned (.bool (nameB l)) ∧ w' = w := by
  cases l with
  | nil =>
    rw [name_len (l := []) (.inl rfl)]
    go_enter Tryd.func13, Tryd.ntmps13
    go_wp2_with fail
    go_ret
    exact ⟨rfl, rfl⟩
  | cons c0 l0 =>
    obtain ⟨l, hl0⟩ : ∃ l, c0 :: l0 = l := ⟨_, rfl⟩
    have h0 : l[0]? = some c0 := by rw [← hl0]; rfl
    have hne := full_text c0 l0
    rw [hl0] at hl hne ⊢
    have hsz : (⟨l.toArray⟩ : ByteArray).size = l.length := by simp [ByteArray.size]
    have h1 : 1 ≤ l.length := by rw [← hl0]; simp
    clear hl0
    obtain ⟨n, hn⟩ : ∃ n, l.length = n := ⟨_, rfl⟩
    obtain ⟨t, ht⟩ : ∃ t : ByteArray, t = ⟨l.toArray⟩ := ⟨_, rfl⟩
    have hix : Unit → ∀ (k : Nat) (c : UInt8), l[k]? = some c → ∀ w, (Instr.index 9 (.string t) (.int .i64 (k : Int))).run Tryd.prog w = .ok (.int .u8 (c.toNat : Int)) w := fun _ k c hc w => by rw [ht]; exact at_text l k c hc _ rfl w
    rw [← ht] at hsz hne ⊢
    clear ht
    rw [hn] at hl hsz h1
    have HN : Unit → l.length = n := fun _ => hn
    clear hn
    have hx0 := hix () 0 c0 h0
    simp only [Int.ofNat_zero] at hx0
    obtain ⟨o, ho⟩ : ∃ o, nameB l = o := ⟨_, rfl⟩
    rw [ho]
    have HO : Unit → nameB l = o := fun _ => ho
    clear ho
    by_cases h12 : n ≤ 12
    · have h12i : (n : Int) ≤ 12 := by omega
      obtain ⟨b, hb⟩ : ∃ b : Int, (c0.toNat : Int) = b := ⟨_, rfl⟩
      rw [hb] at hx0
      have K := Lib.hid (digit_any c0.toNat b hb w)
      clear hb
      cases hd : digN c0.toNat with
      | true =>
        obtain rfl := (HO ()).symm.trans (name_digit h0 hd)
        rw [hd] at K
        go_enter Tryd.func13, Tryd.ntmps13
        go_wp2_with fail
        refine K.out.mono ?_
        rintro e w1 ⟨rfl, rfl⟩
        go_wp2_with fail
        go_ret
        exact ⟨rfl, rfl⟩
      | false =>
        rw [hd] at K
        go_enter Tryd.func13, Tryd.ntmps13
        go_wp2_with fail
        refine K.out.mono ?_
        rintro e w1 ⟨rfl, rfl⟩
        clear K hx0
        go_upto_region 3 with fail
        go_upto_region 4 with fail
        go_loopw [18] (fun u w2 => ∃ k : Nat, k ≤ n ∧ u = .int .i64 (k : Int) ∧ w1 = w2 ∧ ∀ j c, j < k → l[j]? = some c → okN c.toNat = true) (fun u _ => n - (intOf u).toNat)
        case atStart => exact ⟨0, by omega, rfl, rfl, fun j c hj => by omega⟩
        case round =>
          obtain ⟨k, hk, rfl, rfl, hall⟩ := hrel
          have HA : Unit → ∀ j c, j < k → l[j]? = some c → okN c.toNat = true := fun _ => hall
          clear hall
          by_cases hlt : k < n
          · have hki : (k : Int) < (n : Int) := by omega
            obtain ⟨c, hc⟩ : ∃ c, l[k]? = some c := ⟨_, List.getElem?_eq_getElem (by have := HN (); omega)⟩
            have hx := hix () k c hc
            obtain ⟨b, hb⟩ : ∃ b : Int, (c.toNat : Int) = b := ⟨_, rfl⟩
            rw [hb] at hx
            have KD := Lib.hid (digit_any c.toNat b hb w1)
            have KL := Lib.hid (letter_any c.toNat b hb w1)
            by_cases c1 : 97 ≤ c.toNat ∧ c.toNat ≤ 122
            · obtain ⟨e1, e2, e3⟩ := ok_letter c1
              rw [e2] at KL
              clear hb c1 KD
              go_wp2_with fail
              refine KL.out.mono ?_
              rintro e w1 ⟨rfl, rfl⟩
              clear KL
              go_wp2_with fail
              go_roundw
              case rel => exact ⟨k + 1, by omega, by simp, trivial, fun j d hj hd => by
                by_cases e : j = k
                · subst e; rw [hc] at hd; injection hd with hd; subst hd; exact e3
                · exact HA () j d (by omega) hd⟩
              case measure => simp [intOf]; omega
            · by_cases c2 : 48 ≤ c.toNat ∧ c.toNat ≤ 57
              · obtain ⟨e1, e2, e3⟩ := ok_digit c2
                rw [e2] at KL
                rw [e1] at KD
                clear hb c1 c2
                go_wp2_with fail
                refine KL.out.mono ?_
                rintro e w1 ⟨rfl, rfl⟩
                clear KL
                go_wp2_with fail
                refine KD.out.mono ?_
                rintro e w1 ⟨rfl, rfl⟩
                clear KD
                go_wp2_with fail
                go_roundw
                case rel => exact ⟨k + 1, by omega, by simp, trivial, fun j d hj hd => by
                  by_cases e : j = k
                  · subst e; rw [hc] at hd; injection hd with hd; subst hd; exact e3
                  · exact HA () j d (by omega) hd⟩
                case measure => simp [intOf]; omega
              · by_cases c3 : c.toNat = 95
                · obtain ⟨e1, e2, e3⟩ := ok_line c3
                  rw [e2] at KL
                  rw [e1] at KD
                  obtain rfl : b = 95 := by omega
                  clear hb c1 c2 c3
                  go_wp2_with fail
                  refine KL.out.mono ?_
                  rintro e w1 ⟨rfl, rfl⟩
                  clear KL
                  go_wp2_with fail
                  refine KD.out.mono ?_
                  rintro e w1 ⟨rfl, rfl⟩
                  clear KD
                  go_wp2_with fail
                  go_roundw
                  case rel => exact ⟨k + 1, by omega, by simp, trivial, fun j d hj hd => by
                    by_cases e : j = k
                    · subst e; rw [hc] at hd; injection hd with hd; subst hd; exact e3
                    · exact HA () j d (by omega) hd⟩
                  case measure => simp [intOf]; omega
                · obtain ⟨e1, e2, e3⟩ := ok_none c2 c1 c3
                  rw [e2] at KL
                  rw [e1] at KD
                  have h95 : (b != 95) = true := by rw [bne_iff_ne]; omega
                  obtain rfl := (HO ()).symm.trans (name_none hc e3)
                  clear hb c1 c2 c3
                  go_wp2_with fail
                  refine KL.out.mono ?_
                  rintro e w1 ⟨rfl, rfl⟩
                  clear KL
                  go_wp2_with fail
                  refine KD.out.mono ?_
                  rintro e w1 ⟨rfl, rfl⟩
                  clear KD
                  go_wp2_with fail
                  go_ret
                  exact ⟨rfl, rfl⟩
          · obtain rfl : n = k := by omega
            obtain rfl := (HO ()).symm.trans (name_yes (by have := HN (); omega) (by have := HN (); omega) h0 hd (fun j c hj hc => HA () j c (by have := HN (); omega) hc))
            go_wp2_with fail
            go_ret
            exact ⟨rfl, rfl⟩
    · have h12i : 12 < (n : Int) := by omega
      obtain rfl := (HO ()).symm.trans (name_len (.inr (by have := HN (); omega)))
      go_enter Tryd.func13, Tryd.ntmps13
      go_wp2_with fail
      go_ret
      exact ⟨rfl, rfl⟩
end Go.Proofs.YteooofakpkbgoaaDoor
/- Matchers, as plain functions: which may be, their texts, and those of a text. -/
namespace Go.Proofs.YteooofakpkbgoaaDoor

/-- A matcher: its name, how it is compared, and with what. -/
structure Mt where
  n : Bs
  op : Int
  v : Bs
/-- May it be? -/
def fineB (m : Mt) : Bool := nameB m.n && decide (m.v.length ≤ 200) && (decide (m.op = 0) || decide (m.op = 1) || ((decide (m.op = 2) || decide (m.op = 3)) && decide (errM m.v = 0)))
def escB (c : UInt8) : Bool := c == 34 || c == 92
def escL (s : Bs) : Bs := s.flatMap fun c => if escB c then [92, c] else [c]
def quotM (s : Bs) : Bs := 34 :: (escL s ++ [34])
def sgnL : List Bs := [[61], [33, 61], [61, 126], [33, 126]]
def sgnM (op : Int) : Bs := (sgnL[op.toNat]?).getD []
def oneM (m : Mt) : Bs := m.n ++ sgnM m.op ++ quotM m.v
/-- Texts with commas between them. -/
def commaL : List Bs → Bs
  | [] => []
  | [x] => x
  | x :: y :: l => x ++ 44 :: commaL (y :: l)
def textM (ms : List Mt) : Option Bs := if 12 < ms.length then none else if ms.all fineB then some (commaL (ms.map oneM)) else none
/-- A value, up to the quote that ends it, and what is behind. -/
def valM : Bs → Option (Bs × Bs)
  | [] => none
  | c :: r => if c = 34 then some ([], r) else if c = 92 then match r with
      | [] => none
      | d :: r' => if escB d then (valM r').map fun x => (d :: x.1, x.2) else none
    else (valM r).map fun x => (c :: x.1, x.2)
theorem val_cons (c : UInt8) (r : Bs) : valM (c :: r) = if c = 34 then some ([], r) else if c = 92 then (match r with
      | [] => none
      | d :: r' => if escB d then (valM r').map fun x => (d :: x.1, x.2) else none)
    else (valM r).map fun x => (c :: x.1, x.2) := valM.eq_def (c :: r)
theorem val_nil : valM [] = none := valM.eq_def []
/-- What is behind a beginning, if it is one. -/
def preB : Bs → Bs → Option Bs
  | [], s => some s
  | _ :: _, [] => none
  | p :: ps, c :: s => if p = c then preB ps s else none
theorem preB_app (p s : Bs) : preB p (p ++ s) = some s := by
  induction p with
  | nil => rfl
  | cons c p ih => rw [List.cons_append, preB, if_pos rfl, ih]
theorem preB_some {p s r : Bs} (h : preB p s = some r) : s = p ++ r := by
  induction p generalizing s with
  | nil => rw [preB] at h; injection h with h
  | cons c p ih =>
    cases s with
    | nil => cases h
    | cons d s =>
      rw [preB] at h
      split at h
      · rename_i e; rw [e, ih h, List.cons_append]
      · cases h
/-- The sign at the beginning, from the k-th on. -/
def sigM : List Bs → Nat → Bs → Option (Int × Bs)
  | [], _, _ => none
  | g :: gs, k, s => match preB (g ++ [34]) s with
    | some r => some ((k : Int), r)
    | none => sigM gs (k + 1) s
/-- The matcher at the beginning. -/
def isSig (c : UInt8) : Bool := c == 61 || c == 33
def matM (s : Bs) : Option (Mt × Bs) :=
  if s.all fun c => !isSig c then none else match sigM sgnL 0 (s.dropWhile fun c => !isSig c) with
  | none => none
  | some (op, r) => match valM r with
    | none => none
    | some (v, r') => if fineB ⟨s.takeWhile fun c => !isSig c, op, v⟩ then some (⟨s.takeWhile fun c => !isSig c, op, v⟩, r') else none
/-- Matchers, at most k more. -/
def goM : Nat → Bs → Option (List Mt)
  | 0, _ => none
  | k + 1, s => match matM s with
    | none => none
    | some (m, r) => match r with
      | [] => some [m]
      | c :: r' => if c = 44 then (goM k r').map (m :: ·) else none
def readM (s : Bs) : Option (List Mt) := if s = [] then some [] else goM 12 s

theorem fine_name {m : Mt} (h : fineB m = true) : nameB m.n = true := by unfold fineB at h; simp at h; exact h.1.1
theorem fine_len {m : Mt} (h : fineB m = true) : m.v.length ≤ 200 := by unfold fineB at h; simp at h; exact h.1.2
theorem fine_op {m : Mt} (h : fineB m = true) : 0 ≤ m.op ∧ m.op ≤ 3 := by
  unfold fineB at h
  simp at h
  omega
theorem name_len12 {l : Bs} (h : nameB l = true) : 1 ≤ l.length ∧ l.length ≤ 12 := by
  unfold nameB at h
  simp at h
  exact h.1.1
set_option maxRecDepth 100000 in
theorem sig_all : ∀ n : Fin 256, (okN n.val && isSig (UInt8.ofNat n.val)) = false := by decide
theorem ok_sig {c : UInt8} (h : okN c.toNat = true) : isSig c = false := by
  have := sig_all ⟨c.toNat, c.toNat_lt⟩
  simp only [h, Bool.true_and] at this
  rw [show UInt8.ofNat c.toNat = c by simp] at this
  exact this
theorem name_sig {l : Bs} (h : nameB l = true) : ∀ c ∈ l, isSig c = false := by
  unfold nameB at h
  simp at h
  exact fun c hc => ok_sig (h.2 c hc)
theorem take_name {l r : Bs} {c : UInt8} (h : ∀ c ∈ l, isSig c = false) (hc : isSig c = true) : (l ++ c :: r).takeWhile (fun c => !isSig c) = l ∧ (l ++ c :: r).dropWhile (fun c => !isSig c) = c :: r := by
  induction l with
  | nil => simp [hc]
  | cons d l ih =>
    have hd := h d (by simp)
    have := ih (fun c hc => h c (by simp [hc]))
    simp [hd, this]
theorem esc_cons (c : UInt8) (v : Bs) : escL (c :: v) = (if escB c then [92, c] else [c]) ++ escL v := by rw [escL, List.flatMap_cons]; rfl
theorem val_back (v r : Bs) : valM (escL v ++ 34 :: r) = some (v, r) := by
  induction v with
  | nil => rw [escL, List.flatMap_nil, List.nil_append, val_cons, if_pos rfl]
  | cons c v ih =>
    have e : escL (c :: v) = (if escB c then [92, c] else [c]) ++ escL v := by rw [escL, List.flatMap_cons]; rfl
    rw [e]
    by_cases h : escB c = true
    · rw [if_pos h]
      simp only [List.cons_append, List.nil_append]
      rw [val_cons, if_neg (by decide), if_pos rfl]
      simp only [h, if_true, ih, Option.map_some]
    · have h' : escB c = false := by simpa using h
      have h34 : c ≠ 34 := fun e => by subst e; exact h rfl
      have h92 : c ≠ 92 := fun e => by subst e; exact h rfl
      rw [if_neg h]
      simp only [List.cons_append, List.nil_append]
      rw [val_cons, if_neg h34, if_neg h92, ih]
      rfl
theorem val_some {s v r : Bs} (h : valM s = some (v, r)) : s = escL v ++ 34 :: r := by
  induction hn : s.length using Nat.strongRecOn generalizing s v with
  | ind n ih =>
    cases s with
    | nil => rw [val_nil] at h; cases h
    | cons c s =>
      rw [val_cons] at h
      split at h
      · rename_i e
        injection h with h
        injection h with h1 h2
        subst h1 h2 e
        rfl
      · rename_i h34
        split at h
        · rename_i e
          subst e
          cases s with
          | nil => cases h
          | cons d s =>
            simp only at h
            split at h
            · rename_i hd
              obtain ⟨⟨x, y⟩, hx, he⟩ := Option.map_eq_some_iff.1 h
              simp at he
              obtain ⟨rfl, rfl⟩ := he
              have := ih s.length (by subst hn; simp; omega) hx rfl
              rw [esc_cons, if_pos hd, this]
              rfl
            · cases h
        · rename_i h92
          obtain ⟨⟨x, y⟩, hx, he⟩ := Option.map_eq_some_iff.1 h
          simp at he
          obtain ⟨rfl, rfl⟩ := he
          have := ih s.length (by subst hn; simp) hx rfl
          have hd : ¬ escB c = true := by simp [escB, h34, h92]
          rw [esc_cons, if_neg hd, this]
          rfl
theorem sig_back (op : Int) (h0 : 0 ≤ op) (h3 : op ≤ 3) (r : Bs) : sigM sgnL 0 (sgnM op ++ 34 :: r) = some (op, r) ∧ ∃ c t, sgnM op ++ 34 :: r = c :: t ∧ isSig c = true := by
  have : op = 0 ∨ op = 1 ∨ op = 2 ∨ op = 3 := by omega
  rcases this with rfl | rfl | rfl | rfl
  all_goals exact ⟨by simp [sgnM, sgnL, sigM, preB], _, _, rfl, rfl⟩
theorem sig_some {s r : Bs} {op : Int} (h : sigM sgnL 0 s = some (op, r)) : 0 ≤ op ∧ op ≤ 3 ∧ s = sgnM op ++ 34 :: r := by
  unfold sgnL at h
  simp only [sigM] at h
  split at h
  · rename_i r' e
    injection h with h; injection h with h1 h2; subst h1 h2
    exact ⟨by decide, by decide, by rw [preB_some e]; rfl⟩
  split at h
  · rename_i r' e
    injection h with h; injection h with h1 h2; subst h1 h2
    exact ⟨by decide, by decide, by rw [preB_some e]; rfl⟩
  split at h
  · rename_i r' e
    injection h with h; injection h with h1 h2; subst h1 h2
    exact ⟨by decide, by decide, by rw [preB_some e]; rfl⟩
  split at h
  · rename_i r' e
    injection h with h; injection h with h1 h2; subst h1 h2
    exact ⟨by decide, by decide, by rw [preB_some e]; rfl⟩
  · cases h
theorem mat_back (m : Mt) (h : fineB m = true) (r : Bs) : matM (oneM m ++ r) = some (m, r) := by
  have ho := fine_op h
  have e : oneM m ++ r = m.n ++ (sgnM m.op ++ 34 :: (escL m.v ++ 34 :: r)) := by unfold oneM quotM; simp
  obtain ⟨h1, c, t, h2, h3⟩ := sig_back m.op ho.1 ho.2 (escL m.v ++ 34 :: r)
  have hn := name_sig (fine_name h)
  rw [e]
  rw [h2] at h1 ⊢
  obtain ⟨t1, t2⟩ := take_name (r := t) hn h3
  unfold matM
  rw [if_neg (by simp [h3]), t2, t1, h1]
  simp only [val_back]
  rw [if_pos h]
theorem mat_some {s r : Bs} {m : Mt} (h : matM s = some (m, r)) : fineB m = true ∧ s = oneM m ++ r := by
  unfold matM at h
  split at h
  · cases h
  · cases h1 : sigM sgnL 0 (s.dropWhile fun c => !isSig c) with
    | none => rw [h1] at h; cases h
    | some x =>
      obtain ⟨op, r1⟩ := x
      rw [h1] at h
      simp only at h
      cases h2 : valM r1 with
      | none => rw [h2] at h; cases h
      | some y =>
        obtain ⟨v, r2⟩ := y
        rw [h2] at h
        simp only at h
        split at h
        · rename_i hf
          injection h with h
          injection h with h3 h4
          subst h3 h4
          refine ⟨hf, ?_⟩
          have e := List.takeWhile_append_dropWhile (p := fun c => !isSig c) (l := s)
          rw [(sig_some h1).2.2, val_some h2] at e
          unfold oneM quotM
          simp only [List.append_assoc, List.cons_append, List.nil_append]
          exact e.symm
        · cases h
theorem one_ne (m : Mt) (h : fineB m = true) (r : Bs) : oneM m ++ r ≠ [] := by
  have := name_len12 (fine_name h)
  intro e
  have h2 := congrArg List.length e
  unfold oneM at h2
  rw [List.length_append, List.length_append, List.length_append, List.length_nil] at h2
  omega
theorem go_back (k : Nat) (m : Mt) (ms : List Mt) (hk : ms.length < k) (h : ∀ x ∈ m :: ms, fineB x = true) : goM k (commaL ((m :: ms).map oneM)) = some (m :: ms) := by
  induction ms generalizing k m with
  | nil =>
    obtain ⟨k, rfl⟩ : ∃ k', k = k' + 1 := ⟨k - 1, by simp at hk; omega⟩
    have := mat_back m (h m (by simp)) []
    rw [List.append_nil] at this
    simp only [List.map_cons, List.map_nil, commaL]
    rw [goM, this]
  | cons x ms ih =>
    obtain ⟨k, rfl⟩ : ∃ k', k = k' + 1 := ⟨k - 1, by simp at hk; omega⟩
    have := mat_back m (h m (by simp)) (44 :: commaL ((x :: ms).map oneM))
    have e : commaL ((m :: x :: ms).map oneM) = oneM m ++ 44 :: commaL ((x :: ms).map oneM) := by simp only [List.map_cons, commaL]
    rw [e, goM, this]
    simp only [if_true]
    rw [ih k x (by simp at hk ⊢; omega) (fun y hy => h y (by simp [List.mem_cons.1 hy]))]
    rfl
/-- What is written is read. -/
theorem read_text {ms : List Mt} {t : Bs} (h : textM ms = some t) : readM t = some ms := by
  unfold textM at h
  split at h
  · cases h
  · rename_i hl
    split at h
    · rename_i ha
      injection h with h
      subst h
      rw [List.all_eq_true] at ha
      cases ms with
      | nil => rfl
      | cons m ms =>
        unfold readM
        have hne : commaL ((m :: ms).map oneM) ≠ [] := by
          cases ms with
          | nil => exact fun e => one_ne m (ha m (by simp)) [] (by rw [List.append_nil]; exact e)
          | cons x ms => exact one_ne m (ha m (by simp)) (44 :: commaL ((x :: ms).map oneM))
        rw [if_neg hne]
        exact go_back 12 m ms (by simp at hl; omega) ha
    · cases h
theorem go_some {k : Nat} {s : Bs} {ms : List Mt} (h : goM k s = some ms) : ms ≠ [] ∧ ms.length ≤ k ∧ (∀ x ∈ ms, fineB x = true) ∧ commaL (ms.map oneM) = s := by
  induction k generalizing s ms with
  | zero => cases h
  | succ k ih =>
    rw [goM] at h
    cases h1 : matM s with
    | none => rw [h1] at h; cases h
    | some x =>
      obtain ⟨m, r⟩ := x
      rw [h1] at h
      obtain ⟨hf, hs⟩ := mat_some h1
      simp only at h
      cases r with
      | nil =>
        simp only at h
        injection h with h
        subst h
        refine ⟨by simp, by simp, fun x hx => by rw [List.mem_singleton.1 hx]; exact hf, ?_⟩
        rw [hs]
        simp [commaL]
      | cons c r =>
        simp only at h
        split at h
        · rename_i hc
          obtain ⟨l, hl, he⟩ := Option.map_eq_some_iff.1 h
          subst he hc
          obtain ⟨i1, i2, i3, i4⟩ := ih hl
          cases l with
          | nil => exact absurd rfl i1
          | cons y l =>
            refine ⟨by simp, by simp at i2 ⊢; omega, fun x hx => ?_, ?_⟩
            · rcases List.mem_cons.1 hx with rfl | hx
              · exact hf
              · exact i3 x hx
            · rw [hs, ← i4]
              simp only [List.map_cons, commaL]
        · cases h
/-- What is read is written as that text. -/
theorem text_read {s : Bs} {ms : List Mt} (h : readM s = some ms) : textM ms = some s := by
  unfold readM at h
  split at h
  · rename_i e
    injection h with h
    subst h e
    rfl
  · obtain ⟨_, h2, h3, h4⟩ := go_some h
    unfold textM
    rw [if_neg (by omega), if_pos (by rw [List.all_eq_true]; exact h3), h4]
end Go.Proofs.YteooofakpkbgoaaDoor
/- Slices of structs. -/
namespace Go.Proofs.YteooofakpkbgoaaDoor
open Go.ChangeShapes Go.WideShapes Go.RowKit

/-- A slice of structs of k cells each, in a block of P. -/
def RowsAt (k : Nat) (P : Nat → Prop) (w : World) (v : Value) (css : List (List Value)) : Prop :=
  (css = [] ∧ ∃ a c, v = .slice a 0 c) ∨ ∃ g o c, v = .slice (some ⟨g, o, none⟩) css.length c ∧ css.length ≤ c ∧ P g ∧ g < w.heap.size ∧ ∀ (j : Nat) cs, css[j]? = some cs → ∀ (i : Nat) u, cs[i]? = some u → w.cell? ⟨g, o + j * k + i, none⟩ = some u
theorem RowsAt.keepN {k : Nat} {P S : Nat → Prop} {w w' : World} {v : Value} {css : List (List Value)} (h : RowsAt k P w v css) (q : Asd S w w') (hd : ∀ i, P i → i < w.heap.size → ¬ S i) : RowsAt k P w' v css := by
  rcases h with h | ⟨g, o, c, e, hle, hp, hlt, hc⟩
  · exact .inl h
  · exact .inr ⟨g, o, c, e, hle, hp, Nat.lt_of_lt_of_le hlt q.size, fun j cs hj i u hi => cell_asd q (hd g hp hlt) (hc j cs hj i u hi)⟩
theorem RowsAt.stay {k : Nat} {P : Nat → Prop} {w w' : World} {v : Value} {css : List (List Value)} (h : RowsAt k P w v css) (q : Below w.heap.size w w') : RowsAt k P w' v css := h.keepN (S := fun _ => False) (Asd.of_below q) (fun _ _ _ e => e)
theorem RowsAt.mono {k : Nat} {P P' : Nat → Prop} {w : World} {v : Value} {css : List (List Value)} (h : RowsAt k P w v css) (hp : ∀ i, P i → i < w.heap.size → P' i) : RowsAt k P' w v css := by
  rcases h with h | ⟨g, o, c, e, hle, hq, hlt, hc⟩
  · exact .inl h
  · exact .inr ⟨g, o, c, e, hle, hp g hq hlt, hlt, hc⟩
theorem RowsAt.shape {k : Nat} {P : Nat → Prop} {w : World} {v : Value} {css : List (List Value)} (h : RowsAt k P w v css) : ∃ a c, v = .slice a css.length c := by
  rcases h with ⟨rfl, a, c, rfl⟩ | ⟨g, o, c, rfl, _⟩
  · exact ⟨a, c, rfl⟩
  · exact ⟨_, _, rfl⟩
theorem RowsAt.part {k : Nat} {P : Nat → Prop} {w : World} {a : Option Addr} {n c : Nat} {css : List (List Value)} (h : RowsAt k P w (.slice a n c) css) {j : Nat} {cs : List Value} (hj : css[j]? = some cs) :
    ∃ g o, a = some ⟨g, o, none⟩ ∧ P g ∧ g < w.heap.size ∧ ∀ (i : Nat) u, cs[i]? = some u → w.cell? ⟨g, o + j * k + i, none⟩ = some u := by
  rcases h with ⟨rfl, _⟩ | ⟨g, o, c, e, _, hp, hg, hc⟩
  · cases hj
  · injection e with e1 _ _
    exact ⟨g, o, e1, hp, hg, hc j cs hj⟩
theorem RowsAt.nil (k : Nat) (P : Nat → Prop) (w : World) (a : Option Addr) (c : Nat) : RowsAt k P w (.slice a 0 c) [] := .inl ⟨rfl, a, c, rfl⟩
theorem flat_get {k : Nat} {css : List (List Value)} (h : ∀ cs ∈ css, cs.length = k) {j : Nat} {cs : List Value} (hj : css[j]? = some cs) {i : Nat} {u : Value} (hi : cs[i]? = some u) : css.flatten[j * k + i]? = some u := by
  induction css generalizing j with
  | nil => cases hj
  | cons c css ih =>
    have hc := h c (by simp)
    rw [List.flatten_cons]
    cases j with
    | zero =>
      simp at hj
      subst hj
      rw [List.getElem?_append_left (by have := (List.getElem?_eq_some_iff.1 hi).1; omega)]
      simpa using hi
    | succ j =>
      rw [List.getElem?_append_right (by rw [hc, Nat.succ_mul]; omega), hc, show (j + 1) * k + i - k = j * k + i by rw [Nat.succ_mul]; omega]
      exact ih (fun x hx => h x (by simp [hx])) (by simpa using hj)
theorem own_rows {k : Nat} {w : World} {base : Nat} {e : TypeId} {v : Value} {css : List (List Value)} (h : w.ownsRow base e k v css.length css.flatten) (hk : ∀ cs ∈ css, cs.length = k) : RowsAt k (fun b => v.ownBlock = some b) w v css := by
  have hc := h
  rcases h.2 with ⟨rfl, h0⟩ | ⟨g, cap, cur, rfl, hb, hg, hn, _⟩
  · exact .inl ⟨List.eq_nil_of_length_eq_zero h0, none, 0, rfl⟩
  · refine .inr ⟨g, 0, cap, rfl, hn, rfl, (Array.getElem?_eq_some_iff.1 hg).1, fun j cs hj i u hi => ?_⟩
    have h1 := hc.cells (g := g) rfl (j * k + i) u (flat_get hk hj hi)
    rw [add_at] at h1
    rw [show 0 + j * k + i = 0 + (j * k + i) by omega]
    exact h1
/-- The cells of a matcher, and of a field. -/
def encM (m : Mt) : List Value := [.string ⟨m.n.toArray⟩, .int .i64 m.op, .string ⟨m.v.toArray⟩]
def encF (f : Bs × Bs) : List Value := [.string ⟨f.1.toArray⟩, .string ⟨f.2.toArray⟩]
def MtsAt (P : Nat → Prop) (w : World) (v : Value) (ms : List Mt) : Prop := RowsAt 3 P w v (ms.map encM)
def FldsAt (P : Nat → Prop) (w : World) (v : Value) (fs : List (Bs × Bs)) : Prop := RowsAt 2 P w v (fs.map encF)
theorem encM_len (ms : List Mt) : ∀ cs ∈ ms.map encM, cs.length = 3 := by
  intro cs h
  obtain ⟨m, _, rfl⟩ := List.mem_map.1 h
  rfl
theorem encF_len (fs : List (Bs × Bs)) : ∀ cs ∈ fs.map encF, cs.length = 2 := by
  intro cs h
  obtain ⟨m, _, rfl⟩ := List.mem_map.1 h
  rfl
theorem MtsAt.shape {P : Nat → Prop} {w : World} {v : Value} {ms : List Mt} (h : MtsAt P w v ms) : ∃ a c, v = .slice a ms.length c := by
  have := RowsAt.shape h
  rwa [List.length_map] at this
theorem FldsAt.shape {P : Nat → Prop} {w : World} {v : Value} {fs : List (Bs × Bs)} (h : FldsAt P w v fs) : ∃ a c, v = .slice a fs.length c := by
  have := RowsAt.shape h
  rwa [List.length_map] at this
theorem MtsAt.part {P : Nat → Prop} {w : World} {a : Option Addr} {n c : Nat} {ms : List Mt} (h : MtsAt P w (.slice a n c) ms) {j : Nat} {m : Mt} (hj : ms[j]? = some m) :
    ∃ g o, a = some ⟨g, o, none⟩ ∧ P g ∧ g < w.heap.size ∧ w.cell? ⟨g, o + j * 3, none⟩ = some (.string ⟨m.n.toArray⟩) ∧ w.cell? ⟨g, o + j * 3 + 1, none⟩ = some (.int .i64 m.op) ∧ w.cell? ⟨g, o + j * 3 + 2, none⟩ = some (.string ⟨m.v.toArray⟩) := by
  obtain ⟨g, o, e, hp, hg, hc⟩ := RowsAt.part h (j := j) (cs := encM m) (by simp [hj])
  exact ⟨g, o, e, hp, hg, hc 0 _ rfl, hc 1 _ rfl, hc 2 _ rfl⟩
theorem FldsAt.part {P : Nat → Prop} {w : World} {a : Option Addr} {n c : Nat} {fs : List (Bs × Bs)} (h : FldsAt P w (.slice a n c) fs) {j : Nat} {f : Bs × Bs} (hj : fs[j]? = some f) :
    ∃ g o, a = some ⟨g, o, none⟩ ∧ P g ∧ g < w.heap.size ∧ w.cell? ⟨g, o + j * 2, none⟩ = some (.string ⟨f.1.toArray⟩) ∧ w.cell? ⟨g, o + j * 2 + 1, none⟩ = some (.string ⟨f.2.toArray⟩) := by
  obtain ⟨g, o, e, hp, hg, hc⟩ := RowsAt.part h (j := j) (cs := encF f) (by simp [hj])
  exact ⟨g, o, e, hp, hg, hc 0 _ rfl, hc 1 _ rfl⟩
theorem MtsAt.stay {P : Nat → Prop} {w w' : World} {v : Value} {ms : List Mt} (h : MtsAt P w v ms) (q : Below w.heap.size w w') : MtsAt P w' v ms := RowsAt.stay h q
theorem FldsAt.stay {P : Nat → Prop} {w w' : World} {v : Value} {fs : List (Bs × Bs)} (h : FldsAt P w v fs) (q : Below w.heap.size w w') : FldsAt P w' v fs := RowsAt.stay h q
theorem MtsAt.keepN {P S : Nat → Prop} {w w' : World} {v : Value} {ms : List Mt} (h : MtsAt P w v ms) (q : Asd S w w') (hd : ∀ i, P i → i < w.heap.size → ¬ S i) : MtsAt P w' v ms := RowsAt.keepN h q hd
theorem FldsAt.keepN {P S : Nat → Prop} {w w' : World} {v : Value} {fs : List (Bs × Bs)} (h : FldsAt P w v fs) (q : Asd S w w') (hd : ∀ i, P i → i < w.heap.size → ¬ S i) : FldsAt P w' v fs := RowsAt.keepN h q hd
theorem MtsAt.mono {P P' : Nat → Prop} {w : World} {v : Value} {ms : List Mt} (h : MtsAt P w v ms) (hp : ∀ i, P i → i < w.heap.size → P' i) : MtsAt P' w v ms := RowsAt.mono h hp
theorem FldsAt.mono {P P' : Nat → Prop} {w : World} {v : Value} {fs : List (Bs × Bs)} (h : FldsAt P w v fs) (hp : ∀ i, P i → i < w.heap.size → P' i) : FldsAt P' w v fs := RowsAt.mono h hp
theorem own_mts {w : World} {base : Nat} {e : TypeId} {v : Value} {ms : List Mt} (h : w.ownsRow base e 3 v ms.length (ms.map encM).flatten) : MtsAt (fun b => v.ownBlock = some b) w v ms := own_rows (e := e) (by rw [List.length_map]; exact h) (encM_len ms)
theorem own_flds {w : World} {base : Nat} {e : TypeId} {v : Value} {fs : List (Bs × Bs)} (h : w.ownsRow base e 2 v fs.length (fs.map encF).flatten) : FldsAt (fun b => v.ownBlock = some b) w v fs := own_rows (e := e) (by rw [List.length_map]; exact h) (encF_len fs)
end Go.Proofs.YteooofakpkbgoaaDoor
/- Bytes that are added to a row of one's own; texts, one behind the other. -/
namespace Go.Proofs.YteooofakpkbgoaaDoor
open Go.ChangeShapes Go.WideShapes Go.RowKit

theorem next_byte {l : Bs} {k : Nat} {e : UInt8} (h : l[k]? = some e) : l.take (k + 1) = l.take k ++ [e] := by rw [List.take_add_one, h]; rfl
theorem info_byte : (Tryd.prog.info? 5).map (fun i => (i.zero, i.size, i.bytes)) = some (some (.int .u8 0), 1, 1) := by kernel_rfl
theorem run_row_byte (v : Value) (h1 : v.cells = #[v]) (w : World) : (Instr.buildSlice 54 1 #[(0, v)]).run Tryd.prog w = .ok (.slice (some ⟨w.heap.size, 0, none⟩) 1 1) (w.alloc (.cells [v].toArray 5)) := by
  obtain ⟨i0, hi, hz0, hz1, _⟩ := info_parts0 info_byte
  refine run_buildSlice (P := Tryd.prog) w 54 5 1 _ [v].toArray i0 _ Tryd.underlying54 hi hz0 (by rw [hz1]; decide) (by rw [hz1]; decide) ?_
  rw [hz1]
  have := Great.fill_whole (s := 1) (by decide) [v] ((Array.range (1 * 1)).map ((Value.int .u8 0).cells[· % (Value.int .u8 0).cells.size]!)) (fun u hu => by rw [List.mem_singleton.1 hu, h1]; rfl) (by simp)
  refine Eq.trans this ?_
  simp [h1]
section
variable {ops : Array Oper} {rest : List Oper} {o : Oper} {a : Act} {w : World} {Q : Exit → Act → World → Prop}
theorem wpList_row_byte (v : Value) (h1 : v.cells = #[v]) (x : Operand) (hg : o.guard = none) (ho : o.op = .buildSlice 54 1 #[(0, x)]) (hx : a.eval x = v)
    (h : ∀ Y w', Rw w' Y 5 [v] → Below w.heap.size w w' → wpList Tryd.prog ops Q rest (a.put o.dst (.slice (some ⟨Y, 0, none⟩) 1 1)) w') : wpList Tryd.prog ops Q (o :: rest) a w :=
  wpList_plain hg fun K hK => by
    unfold Oper.wp execOp
    simp only [ho, List.map_toArray, List.map_cons, List.map_nil, hx, Sem.run_bind, run_row_byte v h1, Result.andThen_ok, Sem.run_pure]
    exact hK _ _ (h _ _ (Rw.new w 5 [v]) ((Below.refl _ _).alloc (Nat.le_refl _) _))
theorem wpList_new_byte (v : Value) (h1 : v.cells = #[v]) (x : Operand) (hg : o.guard = none) (ho : o.op = .buildSlice 54 1 #[(0, x)]) (hx : a.eval x = v)
    (h : ∀ Y w', Rw w' Y 5 [v] → w.heap.size ≤ Y → Below w.heap.size w w' → wpList Tryd.prog ops Q rest (a.put o.dst (.slice (some ⟨Y, 0, none⟩) 1 1)) w') : wpList Tryd.prog ops Q (o :: rest) a w :=
  wpList_plain hg fun K hK => by
    unfold Oper.wp execOp
    simp only [ho, List.map_toArray, List.map_cons, List.map_nil, hx, Sem.run_bind, run_row_byte v h1, Result.andThen_ok, Sem.run_pure]
    exact hK _ _ (h _ _ (Rw.new w 5 [v]) (Nat.le_refl _) ((Below.refl _ _).alloc (Nat.le_refl _) _))
theorem wpList_own_byte (s x : Operand) (hg : o.guard = none) (ho : o.op = .call { callee := .builtin .append, args := #[s, x], argTypes := #[54, 54] })
    (base : Nat) (v : Value) (l l' : Bs) (c : UInt8) (hl' : l' = l ++ [c]) (hs : a.eval s = v) (hown : w.ownsRow base 5 1 v l.length (Lib.byteCells l)) (Y : Nat) (hx : a.eval x = .slice (some ⟨Y, 0, none⟩) 1 1) (hr : Rw w Y 5 [.int .u8 (c.toNat : Int)]) (hn : l.length ≤ 100000) (hbase : base ≤ w.heap.size)
    (h : ∀ v' w', w'.ownsRow base 5 1 v' l'.length (Lib.byteCells l') → w.grownBy w' v.ownBlock → wpList Tryd.prog ops Q rest (a.put o.dst v') w') : wpList Tryd.prog ops Q (o :: rest) a w := by
  subst hl'
  obtain ⟨i0, hi, hz0, hz1, hz2⟩ := info_parts0 info_byte
  refine wpList_plain hg fun _ hK => wp_own_at s x 54 ho base 5 i0 (.int .u8 0) 1 1 Tryd.underlying54 hi hz0 hz1 hz2 rfl (by decide) v l.length _ hs hown Y [.int .u8 (c.toNat : Int)] hx rfl hr (fun t ht => by rw [List.mem_singleton.1 ht]; rfl) (by unfold maxLen; omega) (by omega) hbase (fun v' w' a b _ => hK _ _ (h v' w' ?_ b))
  rw [List.length_append, show Lib.byteCells (l ++ [c]) = Lib.byteCells l ++ [.int .u8 (c.toNat : Int)] by simp [Lib.byteCells]]
  exact a
end
theorem cat_any (a b : Bs) (h : a.length + b.length ≤ 1000000) (w : World) : (binOp .add 9 (.string ⟨a.toArray⟩) (.string ⟨b.toArray⟩)).run Tryd.prog w = .ok (.string ⟨(a ++ b).toArray⟩) w := by
  have hcat : (⟨a.toArray⟩ : ByteArray) ++ ⟨b.toArray⟩ = ⟨(a ++ b).toArray⟩ := by apply ByteArray.ext; apply Array.ext'; simp
  have h1 : (⟨a.toArray⟩ : ByteArray).size = a.length := by simp [ByteArray.size]
  have h2 : (⟨b.toArray⟩ : ByteArray).size = b.length := by simp [ByteArray.size]
  have hm : ¬ (((a.length + b.length : Nat) : Int) > IntKind.i64.max) := by rw [show IntKind.i64.max = 9223372036854775807 by decide]; omega
  unfold binOp
  simp only [Op.stringOp, h1, h2, if_neg hm, hcat]
  rfl
theorem exec_catg {o : Oper} {a : Act} (x y : Operand) (l m n : Bs) (hn : n = l ++ m) (ho : o.op = .binOp .add 9 x y 9) (hx : a.eval x = .string ⟨l.toArray⟩) (hy : a.eval y = .string ⟨m.toArray⟩) (h : l.length + m.length ≤ 1000000) (w : World) : (execOp a.eval o).run Tryd.prog w = .ok (.value (.string ⟨n.toArray⟩)) w := by
  subst hn
  unfold execOp
  simp only [ho, hx, hy, Sem.run_bind, cat_any l m h, Sem.run_pure]
  rfl
theorem cut_one (l : Bs) (k : Nat) (c : UInt8) (hk : l[k]? = some c) (w : World) : (Instr.slice 9 (.string ⟨l.toArray⟩) (some (.int .i64 (k : Int))) (some (.int .i64 ((k : Int) + 1))) none).run Tryd.prog w = .ok (.string ⟨[c].toArray⟩) w := by
  have hlt : k < l.length := (List.getElem?_eq_some_iff.1 hk).1
  have hs : (⟨l.toArray⟩ : ByteArray).size = l.length := by simp [ByteArray.size]
  simp [Instr.slice, run_underlying Tryd.underlying9, Instr.sliceBounds, run_sliceBound, hs, show (k : Int) + 1 ≤ (l.length : Int) by omega, show (k : Int) ≤ (k : Int) + 1 by omega, show (0 : Int) ≤ (k : Int) + 1 by omega]
  rw [extract_text, next_byte hk, List.drop_append, List.length_take, show min k l.length = k by omega, Nat.sub_self, List.drop_zero, List.drop_eq_nil_of_le (by rw [List.length_take]; omega)]
  rfl
/-- A new row is one's own. -/
theorem own_new {w : World} {base Y n k : Nat} {t : TypeId} {cs : List Value} (h : Rw w Y t cs) (hb : base ≤ Y) (hl : cs.length = n * k) (hn : n ≤ maxLen) : w.ownsRow base t k (.slice (some ⟨Y, 0, none⟩) n n) n cs :=
  ⟨hl, .inr ⟨Y, n, cs.toArray, rfl, hb, h, Nat.le_refl _, hn, by simp [hl], by rw [← hl]; simp⟩⟩
end Go.Proofs.YteooofakpkbgoaaDoor
/- What stands between quotes: it is written, and read. -/
namespace Go.Proofs.YteooofakpkbgoaaDoor
open Go.ChangeShapes Go.WideShapes Go.RowKit

theorem byte_eq (a b : UInt8) : ((a.toNat : Int) == (b.toNat : Int)) = (a == b) := by
  by_cases h : a = b
  · subst h; simp
  · have : ¬ ((a.toNat : Int) = (b.toNat : Int)) := fun e => h (UInt8.toNat_inj.1 (by omega))
    rw [show (a == b) = false by simpa using h]
    simpa using this
theorem escaped_any (c : UInt8) (w : World) : Calls Tryd.prog 54 #[.int .u8 (c.toNat : Int)] w fun e w' => e = .returned (.bool (escB c)) ∧ w' = w := by
  have h1 : ((c.toNat : Int) == 34) = (c == 34) := byte_eq c 34
  have h2 : ((c.toNat : Int) == 92) = (c == 92) := byte_eq c 92
  have H : Unit → escB c = (c == 34 || c == 92) := fun _ => rfl
  generalize escB c = d at *
  generalize (c.toNat : Int) = x at *
  cases e1 : c == 34 with
  | true =>
    rw [e1] at h1 H
    obtain rfl : true = d := (H ()).symm
    go_enter Tryd.func54, Tryd.ntmps54
    go_wp2_with fail
    go_ret
    exact ⟨rfl, rfl⟩
  | false =>
    rw [e1] at h1 H
    obtain rfl : (c == 92) = d := (H ()).symm
    go_enter Tryd.func54, Tryd.ntmps54
    go_wp2_with fail
    go_ret
    exact ⟨rfl, rfl⟩
theorem esc_next {s : Bs} {k : Nat} {c : UInt8} (h : s[k]? = some c) : escL (s.take (k + 1)) = escL (s.take k) ++ (if escB c then [92, c] else [c]) := by
  rw [next_byte h]
  simp [escL]
theorem esc_len (s : Bs) : (escL s).length ≤ 2 * s.length := by
  induction s with
  | nil => simp [escL]
  | cons c s ih =>
    have : escL (c :: s) = (if escB c then [92, c] else [c]) ++ escL s := by simp [escL]
    rw [this, List.length_append, List.length_cons]
    split <;> simp <;> omega
set_option maxHeartbeats 3200000 in
set_option maxRecDepth 100000 in
theorem quoted_any (s : Bs) (w : World) (hs : s.length ≤ 10000) : Calls Tryd.prog 42 #[.string ⟨s.toArray⟩] w fun e w' => e = .returned (.string ⟨(quotM s).toArray⟩) ∧ Below w.heap.size w w' := by
  have hsz : ((⟨s.toArray⟩ : ByteArray).size : Int) = (s.length : Int) := by simp [ByteArray.size]
  have hidx := fun k c (h : s[k]? = some c) w => at_text s k c h (k : Int) rfl w
  obtain ⟨O, hO⟩ : ∃ O, (⟨(quotM s).toArray⟩ : ByteArray) = O := ⟨_, rfl⟩
  have HOO : Unit → (⟨(quotM s).toArray⟩ : ByteArray) = O := fun _ => hO
  rw [hO]
  clear hO
  obtain ⟨T, hTe⟩ : ∃ T, (⟨s.toArray⟩ : ByteArray) = T := ⟨_, rfl⟩
  rw [hTe] at hsz hidx ⊢
  clear hTe
  have HS : Unit → (T.size : Int) = (s.length : Int) := fun _ => hsz
  have HI : Unit → ∀ (k : Nat) c, s[k]? = some c → ∀ w, (Instr.index 9 (.string T) (.int .i64 (k : Int))).run Tryd.prog w = .ok (.int .u8 (c.toNat : Int)) w := fun _ k c h w => hidx k c h w
  clear hidx
  go_enter Tryd.func42, Tryd.ntmps42
  go_wp2_with (refine wpList_new_byte (.int .u8 ((34 : UInt8).toNat : Int)) rfl _ rfl rfl rfl ?_)
  intro Y0 w0 rY0 hY0 hb0
  have hO0 : w0.ownsRow w.heap.size 5 1 (.slice (some ⟨Y0, 0, none⟩) 1 1) 1 [.int .u8 ((34 : UInt8).toNat : Int)] := own_new rY0 hY0 rfl (by decide)
  have hs0 := hb0.size
  clear rY0
  go_upto_region 3 with fail
  go_loopw [3, 8] (fun bv iv wr => ∃ k : Nat, k ≤ s.length ∧ iv = .int .i64 (k : Int) ∧ wr.ownsRow w.heap.size 5 1 bv (34 :: escL (s.take k)).length (Lib.byteCells (34 :: escL (s.take k))) ∧ Below w.heap.size w wr) (fun _ iv _ => s.length - (intOf iv).toNat)
  case atStart => exact ⟨0, Nat.zero_le _, rfl, hO0, hb0⟩
  case round =>
    clear hO0
    obtain ⟨k, hk, rfl, hO, hB⟩ := hrel
    by_cases hlt : k < s.length
    · obtain ⟨c, hc⟩ : ∃ c, s[k]? = some c := ⟨_, List.getElem?_eq_getElem hlt⟩
      have hi := HI () k c hc
      have hki : (k : Int) < (T.size : Int) := by rw [HS ()]; omega
      have hki' : (k : Int) < (s.length : Int) := by omega
      have hql : (34 :: escL (s.take k)).length ≤ 20001 := by have := esc_len (s.take k); rw [List.length_take] at this; simp; omega
      have hsn : 34 :: escL (s.take (k + 1)) = (34 :: escL (s.take k)) ++ (if escB c then [92, c] else [c]) := by rw [esc_next hc]; rfl
      have HSN : Unit → _ := fun _ => hsn
      have KI := Lib.hid fun w => escaped_any c w
      obtain ⟨l, hl⟩ : ∃ l, 34 :: escL (s.take k) = l := ⟨_, rfl⟩
      rw [hl] at hO hql
      have HL : Unit → 34 :: escL (s.take k) = l := fun _ => hl
      obtain ⟨aO, cO, eO, _⟩ := own_slice hO
      subst eO
      clear hsn hl
      cases hsp : escB c with
      | true =>
        rw [hsp] at KI
        go_wp2_with fail
        refine (KI.out _).mono ?_
        rintro e w1 ⟨rfl, hw1⟩
        obtain rfl : wr = w1 := hw1.symm
        clear KI
        go_wp2_with (refine wpList_row_byte (.int .u8 ((92 : UInt8).toNat : Int)) rfl _ rfl rfl rfl ?_)
        intro Y w2 rY hb2
        have hO2 := own_asdS (S := fun _ => False) hO (Asd.of_below hb2) (fun _ _ e => e)
        have hB2 := hB.trans (hb2.mono hB.size)
        have hs2 := hB2.size
        clear hO hB hb2
        obtain ⟨l3, hl3e⟩ : ∃ l3, l ++ [92] = l3 := ⟨_, rfl⟩
        go_wp2_with (refine wpList_own_byte _ _ rfl rfl w.heap.size _ l l3 92 hl3e.symm rfl hO2 Y rfl rY (by omega) hs2 ?_)
        intro v3 w3 hO3 hg3
        have hB3 := hB2.grown hg3 hs2 (fun j e => (hO2.lt j e).1)
        have hl3 : l3.length ≤ 20002 := by rw [← hl3e, List.length_append]; simp only [List.length_singleton]; omega
        obtain ⟨a3, c3, e3, _⟩ := own_slice hO3
        subst e3
        clear hO2 hg3 hB2 rY
        have hfinal : 34 :: escL (s.take (k + 1)) = l3 ++ [c] := by rw [HSN (), hsp, if_pos rfl, HL (), ← hl3e]; simp
        have HFI : Unit → _ := fun _ => hfinal
        clear hfinal hl3e
        go_wp2_with (refine wpList_row_byte (.int .u8 (c.toNat : Int)) rfl _ rfl rfl rfl ?_)
        intro Y w5 rY hb5
        have hO5 := own_asdS (S := fun _ => False) hO3 (Asd.of_below hb5) (fun _ _ e => e)
        have hB5 := hB3.trans (hb5.mono hB3.size)
        have hs5 := hB5.size
        clear hO3 hB3 hb5
        go_wp2_with (refine wpList_own_byte _ _ rfl rfl w.heap.size _ l3 (34 :: escL (s.take (k + 1))) c (HFI ()) rfl hO5 Y rfl rY (by omega) hs5 ?_)
        intro v6 w6 hO6 hg6
        have hB6 := hB5.grown hg6 hs5 (fun j e => (hO5.lt j e).1)
        clear hO5 hg6 hB5 rY
        go_wp2_with fail
        go_roundw
        case rel => exact ⟨k + 1, by omega, by go_num, hO6, hB6⟩
        case measure => simp [intOf]; omega
      | false =>
        rw [hsp] at KI
        go_wp2_with fail
        refine (KI.out _).mono ?_
        rintro e w1 ⟨rfl, hw1⟩
        obtain rfl : wr = w1 := hw1.symm
        clear KI
        have hfinal : 34 :: escL (s.take (k + 1)) = l ++ [c] := by rw [HSN (), hsp, HL ()]; rfl
        have HFI : Unit → _ := fun _ => hfinal
        clear hfinal
        go_wp2_with (refine wpList_row_byte (.int .u8 (c.toNat : Int)) rfl _ rfl rfl rfl ?_)
        intro Y w5 rY hb5
        have hO5 := own_asdS (S := fun _ => False) hO (Asd.of_below hb5) (fun _ _ e => e)
        have hB5 := hB.trans (hb5.mono hB.size)
        have hs5 := hB5.size
        clear hO hB hb5
        go_wp2_with (refine wpList_own_byte _ _ rfl rfl w.heap.size _ l (34 :: escL (s.take (k + 1))) c (HFI ()) rfl hO5 Y rfl rY (by omega) hs5 ?_)
        intro v6 w6 hO6 hg6
        have hB6 := hB5.grown hg6 hs5 (fun j e => (hO5.lt j e).1)
        clear hO5 hg6 hB5 rY
        go_wp2_with fail
        go_roundw
        case rel => exact ⟨k + 1, by omega, by go_num, hO6, hB6⟩
        case measure => simp [intOf]; omega
    · have hke : k = s.length := by omega
      have hki : ¬ ((k : Int) < (T.size : Int)) := by rw [HS ()]; omega
      have hki' : ¬ ((k : Int) < (s.length : Int)) := by omega
      have hq := esc_len s
      rw [hke, List.take_length] at hO
      obtain ⟨l, hl⟩ : ∃ l, 34 :: escL s = l := ⟨_, rfl⟩
      have hql : l.length ≤ 20001 := by rw [← hl]; simp; omega
      have hqe : quotM s = l ++ [34] := by rw [← hl]; rfl
      have HQE : Unit → quotM s = l ++ [34] := fun _ => hqe
      rw [hl] at hO
      clear hl hqe hke hq
      obtain ⟨aO, cO, eO, _⟩ := own_slice hO
      subst eO
      go_wp2_with (refine wpList_row_byte (.int .u8 ((34 : UInt8).toNat : Int)) rfl _ rfl rfl rfl ?_)
      intro Y w2 rY hb2
      have hO2 := own_asdS (S := fun _ => False) hO (Asd.of_below hb2) (fun _ _ e => e)
      have hB2 := hB.trans (hb2.mono hB.size)
      have hs2 := hB2.size
      clear hO hB hb2
      go_wp2_with (refine wpList_own_byte _ _ rfl rfl w.heap.size _ l (quotM s) 34 (HQE ()) rfl hO2 Y rfl rY (by omega) hs2 ?_)
      intro v3 w3 hO3 hg3
      have hB3 := hB2.grown hg3 hs2 (fun j e => (hO2.lt j e).1)
      have hst := own_string hO3
      rw [HOO ()] at hst
      obtain ⟨a3, c3, e3, _⟩ := own_slice hO3
      subst e3
      clear hO3 hO2
      go_wp2_with fail
      go_ret
      exact ⟨rfl, hB3⟩
end Go.Proofs.YteooofakpkbgoaaDoor
/- A value between quotes is read: the walk. -/
namespace Go.Proofs.YteooofakpkbgoaaDoor
open Go.ChangeShapes Go.WideShapes Go.RowKit

def valT : Option (Bs × Bs) → Value
  | some (v, r) => .tuple #[.string ⟨v.toArray⟩, .string ⟨r.toArray⟩, .bool true]
  | none => .tuple #[.string ⟨#[]⟩, .string ⟨#[]⟩, .bool false]
/-- What is read behind a beginning. -/
def after (b : Bs) : Option (Bs × Bs) → Option (Bs × Bs) := Option.map fun x => (b ++ x.1, x.2)
theorem drop_at {s : Bs} {k : Nat} {c : UInt8} (h : s[k]? = some c) : s.drop k = c :: s.drop (k + 1) := by
  obtain ⟨h1, h2⟩ := List.getElem?_eq_some_iff.1 h
  rw [← h2]
  exact List.drop_eq_getElem_cons h1
theorem wrap_next (k : Nat) (h : k ≤ 1000000) : IntKind.i64.wrap ((k : Int) + 1) = ((k + 1 : Nat) : Int) := by
  simp only [IntKind.wrap, IntKind.signed, IntKind.bits]; simp; omega
theorem after_start (s : Bs) : valM s = after [] (valM (s.drop 0)) := by
  rw [List.drop_zero]
  unfold after
  cases valM s <;> simp
theorem after_end {s b : Bs} {k : Nat} (h : valM s = after b (valM (s.drop k))) (hk : s.length ≤ k) : valM s = none := by
  rw [h, List.drop_eq_nil_of_le hk, val_nil]; rfl
theorem after_quote {s b : Bs} {k : Nat} (h : valM s = after b (valM (s.drop k))) (hc : s[k]? = some 34) : valM s = some (b, s.drop (k + 1)) := by
  rw [h, drop_at hc, val_cons, if_pos rfl, after, Option.map_some, List.append_nil]
theorem after_esc {s b : Bs} {k : Nat} {d : UInt8} (h : valM s = after b (valM (s.drop k))) (hc : s[k]? = some 92) (hd : s[k + 1]? = some d) : valM s = if escB d then after (b ++ [d]) (valM (s.drop (k + 2))) else none := by
  rw [h, drop_at hc, drop_at hd, val_cons, if_neg (by decide), if_pos rfl]
  simp only
  split
  · unfold after
    rw [Option.map_map]
    congr 1
    funext x
    simp
  · rfl
theorem after_esc_end {s b : Bs} {k : Nat} (h : valM s = after b (valM (s.drop k))) (hc : s[k]? = some 92) (hd : s.length ≤ k + 1) : valM s = none := by
  rw [h, drop_at hc, List.drop_eq_nil_of_le hd, val_cons, if_neg (by decide), if_pos rfl]
  rfl
theorem after_sign {s b : Bs} {k : Nat} {c : UInt8} (h : valM s = after b (valM (s.drop k))) (hc : s[k]? = some c) (h34 : c ≠ 34) (h92 : c ≠ 92) : valM s = after (b ++ [c]) (valM (s.drop (k + 1))) := by
  rw [h, drop_at hc, val_cons, if_neg h34, if_neg h92]
  unfold after
  rw [Option.map_map]
  congr 1
  funext x
  simp
set_option maxHeartbeats 6400000 in
set_option maxRecDepth 100000 in
theorem value_read (s : Bs) (w : World) (hs : s.length ≤ 50000) : Calls Tryd.prog 60 #[.string ⟨s.toArray⟩] w fun e w' => e = .returned (valT (valM s)) ∧ Below w.heap.size w w' := by
  have hsz : ((⟨s.toArray⟩ : ByteArray).size : Int) = (s.length : Int) := by simp [ByteArray.size]
  have hidx := fun (k : Nat) c (h : s[k]? = some c) (i : Int) (hi : i = (k : Int)) w => at_text s k c h i hi w
  have hcut := fun (k : Nat) (h : k ≤ s.length) (i : Int) (hi : i = (k : Int)) w => cut_text s k h i hi w
  obtain ⟨O, hO⟩ : ∃ O, valM s = O := ⟨_, rfl⟩
  have HO : Unit → valM s = O := fun _ => hO
  rw [hO]
  clear hO
  obtain ⟨T, hTe⟩ : ∃ T, (⟨s.toArray⟩ : ByteArray) = T := ⟨_, rfl⟩
  rw [hTe] at hsz hidx hcut ⊢
  clear hTe
  obtain ⟨n, hn⟩ : ∃ n, s.length = n := ⟨_, rfl⟩
  rw [hn] at hs hsz
  have HN : Unit → s.length = n := fun _ => hn
  clear hn
  have HI : Unit → ∀ (k : Nat) c, s[k]? = some c → ∀ (i : Int), i = (k : Int) → ∀ w, (Instr.index 9 (.string T) (.int .i64 i)).run Tryd.prog w = .ok (.int .u8 (c.toNat : Int)) w := fun _ k c h i hi w => hidx k c h i hi w
  have HC : Unit → ∀ (k : Nat), k ≤ s.length → ∀ (i : Int), i = (k : Int) → ∀ w, (Instr.slice 9 (.string T) (some (.int .i64 i)) none none).run Tryd.prog w = .ok (.string ⟨(s.drop k).toArray⟩) w := fun _ k h i hi w => hcut k h i hi w
  clear hidx hcut
  go_enter Tryd.func60, Tryd.ntmps60
  go_upto_region 3 with fail
  go_loopw [5, 6] (fun bv iv wr => ∃ (k : Nat) (b : Bs), k ≤ n ∧ b.length ≤ k ∧ iv = .int .i64 (k : Int) ∧ wr.ownsRow w.heap.size 5 1 bv b.length (Lib.byteCells b) ∧ Below w.heap.size w wr ∧ valM s = after b (valM (s.drop k))) (fun _ iv _ => n - (intOf iv).toNat)
  case atStart => exact ⟨0, [], Nat.zero_le _, Nat.le_refl _, rfl, World.ownsRow_nil _ _ _ _, Below.refl _ _, after_start s⟩
  case round =>
    obtain ⟨k, b, hk, hbk, rfl, hO, hB, hV⟩ := hrel
    have HV : Unit → valM s = after b (valM (s.drop k)) := fun _ => hV
    clear hV
    obtain ⟨aO, cO, eO, _⟩ := own_slice hO
    subst eO
    by_cases hlt : k < n
    · obtain ⟨c, hc⟩ : ∃ c, s[k]? = some c := ⟨_, List.getElem?_eq_getElem (by have := HN (); omega)⟩
      have hi := HI () k c hc (k : Int) rfl
      have hki : (k : Int) < (n : Int) := by omega
      have hkT : (k : Int) < (T.size : Int) := by omega
      by_cases h34 : c = 34
      · subst h34
        have e := (HO ()).symm.trans (after_quote (HV ()) hc)
        have hcu := HC () (k + 1) (by have := HN (); omega) (IntKind.i64.wrap ((k : Int) + 1)) (wrap_next k (by omega))
        obtain ⟨X, hX⟩ : ∃ X, (⟨b.toArray⟩ : ByteArray) = X := ⟨_, rfl⟩
        obtain ⟨Y, hY⟩ : ∃ Y, (⟨(s.drop (k + 1)).toArray⟩ : ByteArray) = Y := ⟨_, rfl⟩
        rw [hY] at hcu
        have eT : valT O = .tuple #[.string X, .string Y, .bool true] := by rw [e, ← hX, ← hY]; rfl
        have HET : Unit → valT O = .tuple #[.string X, .string Y, .bool true] := fun _ => eT
        have hst : (convert 54 9 (.slice aO b.length cO)).run Tryd.prog wr.drew = .ok (.string X) wr.drew := by rw [← hX]; exact own_string (own_asdS (S := fun _ => False) hO (Asd.of_below (Below.refl _ _).drew) (fun _ _ e => e))
        have HST : Unit → ∀ w', Below wr.heap.size wr w' → (convert 54 9 (.slice aO b.length cO)).run Tryd.prog w' = .ok (.string X) w' := fun _ w' h => by rw [← hX]; exact own_string (own_asdS (S := fun _ => False) hO (Asd.of_below h) (fun _ _ e => e))
        clear hX hY e eT hst
        go_upto_region 6 with fail
        try simp only [List.append_eq, List.cons_append, List.nil_append]
        refine region_class (fun w' => Below wr.heap.size wr w' ∧ (convert 54 9 (.slice aO b.length cO)).run Tryd.prog w' = .ok (.string X) w') (by kernel_rfl) (by kernel_rfl) (⟨(Below.refl _ _).drew, HST () _ (Below.refl _ _).drew⟩) ?_
        repeat
          first
          | go_big_quiet_skip
          | (go_big_quiet_want
             refine quiet_val ?_
             apply Exists.intro
             refine ⟨fun w' hw' => ?_, ?_⟩
             · obtain ⟨_, e0⟩ := hw'
               go_simp
               first | done | rfl | exact ⟨rfl, rfl⟩
             simp only [Act.put, List.setIfInBounds_toArray, List.set_cons_zero, List.set_cons_succ]
             go_big_quiet_on)
          | (go_big_quiet_want
             refine quiet_call ?_
             apply Exists.intro
             apply Exists.intro
             refine ⟨fun w' => ?_, ?_⟩
             · go_simp
               first | done | rfl | exact ⟨rfl, rfl⟩
             apply Exists.intro
             refine ⟨fun w' hw' => ?_, ?_⟩
             · first
               | fail
             simp only [Act.put, List.setIfInBounds_toArray, List.set_cons_zero, List.set_cons_succ]
             go_big_quiet_on)
        refine wpQuiet_nil ?_
        intro w5 hw5
        have hb5 := hw5.1
        replace hB := hB.trans (hb5.mono hB.size)
        clear hb5 hw5
        go_wp2_with fail
        go_ret3
        exact ⟨by rw [HET ()]; rfl, hB⟩
      · have e34 : ((c.toNat : Int) == 34) = false := by rw [show (34 : Int) = ((34 : UInt8).toNat : Int) from rfl, byte_eq]; simpa using h34
        by_cases h92 : c = 92
        · subst h92
          clear e34
          by_cases hl2 : k + 1 < n
          · obtain ⟨d, hd⟩ : ∃ d, s[k + 1]? = some d := ⟨_, List.getElem?_eq_getElem (by have := HN (); omega)⟩
            have hi2 := HI () (k + 1) d hd ((k : Int) + 1) (by omega)
            have hne : (((k : Int) + 1) == (n : Int)) = false := by rw [beq_eq_false_iff_ne]; omega
            have KE := Lib.hid fun w => escaped_any d w
            have hE := after_esc (HV ()) hc hd
            cases hed : escB d with
            | false =>
              rw [hed] at KE hE
              obtain rfl : O = none := (HO ()).symm.trans (by rw [hE]; rfl)
              clear hE
              go_wp2_with fail
              refine (KE.out _).mono ?_
              rintro e w1 ⟨rfl, hw1⟩
              obtain rfl : wr = w1 := hw1.symm
              go_wp2_with fail
              go_ret3
              exact ⟨rfl, hB⟩
            | true =>
              rw [hed] at KE hE
              rw [if_pos rfl] at hE
              have HV2 : Unit → valM s = after (b ++ [d]) (valM (s.drop (k + 2))) := fun _ => hE
              clear hE
              go_wp2_with fail
              refine (KE.out _).mono ?_
              rintro e w1 ⟨rfl, hw1⟩
              obtain rfl : wr = w1 := hw1.symm
              clear KE
              go_wp2_with (refine wpList_row_byte (.int .u8 (d.toNat : Int)) rfl _ rfl rfl rfl ?_)
              intro Y w5 rY hb5
              have hO5 := own_asdS (S := fun _ => False) hO (Asd.of_below hb5) (fun _ _ e => e)
              have hB5 := hB.trans (hb5.mono hB.size)
              have hs5 := hB5.size
              clear hO hB hb5
              go_wp2_with (refine wpList_own_byte _ _ rfl rfl w.heap.size _ b (b ++ [d]) d rfl rfl hO5 Y rfl rY (by omega) hs5 ?_)
              intro v6 w6 hO6 hg6
              have hB6 := hB5.grown hg6 hs5 (fun j e => (hO5.lt j e).1)
              clear hO5 hg6 hB5 rY
              go_wp2_with fail
              go_roundw
              case rel => exact ⟨k + 2, b ++ [d], by omega, by simp; omega, by go_num, by rw [List.length_append]; exact hO6, hB6, HV2 ()⟩
              case measure => simp [intOf]; omega
          · have heq : (((k : Int) + 1) == (n : Int)) = true := by rw [beq_iff_eq]; omega
            obtain rfl : O = none := (HO ()).symm.trans (after_esc_end (HV ()) hc (by have := HN (); omega))
            go_wp2_with fail
            go_ret3
            exact ⟨rfl, hB⟩
        · have e92 : ((c.toNat : Int) == 92) = false := by rw [show (92 : Int) = ((92 : UInt8).toNat : Int) from rfl, byte_eq]; simpa using h92
          have HV2 : Unit → valM s = after (b ++ [c]) (valM (s.drop (k + 1))) := fun _ => after_sign (HV ()) hc h34 h92
          go_wp2_with (refine wpList_row_byte (.int .u8 (c.toNat : Int)) rfl _ rfl rfl rfl ?_)
          intro Y w5 rY hb5
          have hO5 := own_asdS (S := fun _ => False) hO (Asd.of_below hb5) (fun _ _ e => e)
          have hB5 := hB.trans (hb5.mono hB.size)
          have hs5 := hB5.size
          clear hO hB hb5
          go_wp2_with (refine wpList_own_byte _ _ rfl rfl w.heap.size _ b (b ++ [c]) c rfl rfl hO5 Y rfl rY (by omega) hs5 ?_)
          intro v6 w6 hO6 hg6
          have hB6 := hB5.grown hg6 hs5 (fun j e => (hO5.lt j e).1)
          clear hO5 hg6 hB5 rY
          go_wp2_with fail
          go_roundw
          case rel => exact ⟨k + 1, b ++ [c], by omega, by simp; omega, by go_num, by rw [List.length_append]; exact hO6, hB6, HV2 ()⟩
          case measure => simp [intOf]; omega
    · have hki : ¬ ((k : Int) < (n : Int)) := by omega
      have hkT : ¬ ((k : Int) < (T.size : Int)) := by omega
      obtain rfl : O = none := (HO ()).symm.trans (after_end (HV ()) (by have := HN (); omega))
      go_wp2_with fail
      go_ret3
      exact ⟨rfl, hB⟩
end Go.Proofs.YteooofakpkbgoaaDoor
/- A matcher's sign is read: the walk. -/
namespace Go.Proofs.YteooofakpkbgoaaDoor
open Go.ChangeShapes Go.WideShapes Go.RowKit

/-- The signs lie in their variable. -/
def SgAt (w : World) : Prop := w.cell? ⟨0, 0, none⟩ = some (.string ⟨#[61]⟩) ∧ w.cell? ⟨0, 1, none⟩ = some (.string ⟨#[33, 61]⟩) ∧ w.cell? ⟨0, 2, none⟩ = some (.string ⟨#[61, 126]⟩) ∧ w.cell? ⟨0, 3, none⟩ = some (.string ⟨#[33, 126]⟩)
theorem SgAt.lt {w : World} (h : SgAt w) : 0 < w.heap.size := World.block_lt_of_cell? w _ h.1
theorem SgAt.keep {w w' : World} {B : Nat} (h : SgAt w) (k : Below B w w') (hB : 0 < B) : SgAt w' :=
  ⟨(k.cell (p := ⟨0, 0, none⟩) hB).trans h.1, (k.cell (p := ⟨0, 1, none⟩) hB).trans h.2.1, (k.cell (p := ⟨0, 2, none⟩) hB).trans h.2.2.1, (k.cell (p := ⟨0, 3, none⟩) hB).trans h.2.2.2⟩
theorem SgAt.stay {w w' : World} (h : SgAt w) (k : Below w.heap.size w w') : SgAt w' := h.keep k h.lt
theorem pre_lib (p s : Bs) : (Lib.trimPrefix s p = match preB p s with | some r => r | none => s) ∧ Lib.hasPrefix s p = (preB p s).isSome := by
  have h : p.isPrefixOf s = (preB p s).isSome ∧ ∀ r, preB p s = some r → r = s.drop p.length := by
    induction p generalizing s with
    | nil => exact ⟨rfl, fun r h => by rw [preB] at h; injection h with h; rw [← h]; rfl⟩
    | cons c p ih =>
      cases s with
      | nil => exact ⟨rfl, fun r h => by cases h⟩
      | cons d s =>
        by_cases e : c = d
        · subst e
          rw [preB, if_pos rfl]
          obtain ⟨h1, h2⟩ := ih s
          exact ⟨by rw [List.isPrefixOf_cons_cons, h1]; simp, fun r h => by rw [h2 r h]; rfl⟩
        · rw [preB, if_neg e]
          exact ⟨by rw [List.isPrefixOf_cons_cons, show (c == d) = false by simpa using e]; rfl, fun r h => by cases h⟩
  unfold Lib.trimPrefix Lib.hasPrefix
  rw [h.1]
  refine ⟨?_, rfl⟩
  cases hp : preB p s with
  | none => rfl
  | some r => exact (h.2 r hp).symm
def cutT (s : Bs) : Option Bs → Value
  | some r => .tuple #[.string ⟨r.toArray⟩, .bool true]
  | none => .tuple #[.string ⟨s.toArray⟩, .bool false]
theorem cut_any (s p : Bs) (w : World) : Calls Tryd.prog 45 #[.string ⟨s.toArray⟩, .string ⟨p.toArray⟩] w fun e w' => e = .returned (cutT s (preB p s)) ∧ w' = w :=
  (Tryd.strings_CutPrefix ⟨s.toArray⟩ ⟨p.toArray⟩ w).mono fun e w' ⟨h1, h2⟩ => ⟨by
    rw [h1]
    have h := pre_lib p s
    rw [h.1, h.2]
    cases preB p s <;> rfl, h2⟩
def sigT : Option (Int × Bs) → Value
  | some (op, r) => .tuple #[.int .i64 op, .string ⟨r.toArray⟩, .bool true]
  | none => .tuple #[.int .i64 0, .string ⟨#[]⟩, .bool false]
def sgnA : Value := .agg #[.string ⟨#[61]⟩, .string ⟨#[33, 61]⟩, .string ⟨#[61, 126]⟩, .string ⟨#[33, 126]⟩]
theorem sgn_all (w : World) : (Instr.index 64 sgnA (.int .i64 0)).run Tryd.prog w = .ok (.string ⟨#[61]⟩) w ∧ (Instr.index 64 sgnA (.int .i64 1)).run Tryd.prog w = .ok (.string ⟨#[33, 61]⟩) w ∧ (Instr.index 64 sgnA (.int .i64 2)).run Tryd.prog w = .ok (.string ⟨#[61, 126]⟩) w ∧ (Instr.index 64 sgnA (.int .i64 3)).run Tryd.prog w = .ok (.string ⟨#[33, 126]⟩) w :=
  ⟨by kernel_rfl, by kernel_rfl, by kernel_rfl, by kernel_rfl⟩
def sig4 : Option Bs → Option Bs → Option Bs → Option Bs → Option (Int × Bs)
  | some r, _, _, _ => some (0, r)
  | none, some r, _, _ => some (1, r)
  | none, none, some r, _ => some (2, r)
  | none, none, none, some r => some (3, r)
  | none, none, none, none => none
theorem sig_four (s : Bs) : sigM sgnL 0 s = sig4 (preB [61, 34] s) (preB [33, 61, 34] s) (preB [61, 126, 34] s) (preB [33, 126, 34] s) := by
  unfold sgnL
  simp only [sigM, List.cons_append, List.nil_append]
  cases preB [61, 34] s with
  | some r => rfl
  | none =>
    cases preB [33, 61, 34] s with
    | some r => rfl
    | none =>
      cases preB [61, 126, 34] s with
      | some r => rfl
      | none => cases preB [33, 126, 34] s <;> rfl
set_option maxHeartbeats 3200000 in
set_option maxRecDepth 100000 in
theorem sign_read (s : Bs) (w : World) (hg : SgAt w) : Calls Tryd.prog 59 #[.string ⟨s.toArray⟩] w fun e w' => e = .returned (sigT (sigM sgnL 0 s)) ∧ w' = w := by
  have K0 := cut_any s [61, 34] w
  have K1 := cut_any s [33, 61, 34] w
  have K2 := cut_any s [61, 126, 34] w
  have K3 := cut_any s [33, 126, 34] w
  rw [sig_four]
  obtain ⟨g0, g1, g2, g3⟩ := hg
  generalize preB [61, 34] s = o0 at *
  generalize preB [33, 61, 34] s = o1 at *
  generalize preB [61, 126, 34] s = o2 at *
  generalize preB [33, 126, 34] s = o3 at *
  replace K0 := Lib.hid K0
  replace K1 := Lib.hid K1
  replace K2 := Lib.hid K2
  replace K3 := Lib.hid K3
  obtain ⟨R, hR⟩ : ∃ R, sigT (sig4 o0 o1 o2 o3) = R := ⟨_, rfl⟩
  rw [hR]
  have HR : Unit → sigT (sig4 o0 o1 o2 o3) = R := fun _ => hR
  clear hR
  have HS : Unit → ∀ o, cutT s o = match o with | some r => .tuple #[.string ⟨r.toArray⟩, .bool true] | none => .tuple #[.string ⟨s.toArray⟩, .bool false] := fun _ o => by cases o <;> rfl
  have I0 := fun w => (sgn_all w).1
  have I1 := fun w => (sgn_all w).2.1
  have I2 := fun w => (sgn_all w).2.2.1
  have I3 := fun w => (sgn_all w).2.2.2
  simp only [sgnA] at I0 I1 I2 I3
  go_enter Tryd.func59, Tryd.ntmps59
  go_upto_region 2 with fail
  go_loopw [10] (fun iv wr => ∃ k : Nat, k ≤ 4 ∧ iv = .int .i64 (k : Int) ∧ (0 < k → o0 = none) ∧ (1 < k → o1 = none) ∧ (2 < k → o2 = none) ∧ (3 < k → o3 = none) ∧ wr = w) (fun iv _ => 4 - (intOf iv).toNat)
  case atStart => exact ⟨0, by omega, rfl, by omega, by omega, by omega, by omega, rfl⟩
  case round =>
    obtain ⟨k, hk, rfl, h0, h1, h2, h3, hwr⟩ := hrel
    obtain rfl : w = wr := hwr.symm
    have hcases : k = 0 ∨ k = 1 ∨ k = 2 ∨ k = 3 ∨ k = 4 := by omega
    rcases hcases with rfl | rfl | rfl | rfl | rfl
    · -- sign 0
      cases o0 with
      | some r =>
        clear h0 h1 h2 h3
        go_wp2_with fail
        refine K0.out.mono ?_
        rintro e w1 ⟨rfl, hw1⟩
        obtain rfl : w = w1 := hw1.symm
        rw [HS ()]
        go_wp2_with fail
        go_ret3
        exact ⟨by rw [← HR ()]; rfl, rfl⟩
      | none =>
        clear h0 h1 h2 h3
        go_wp2_with fail
        refine K0.out.mono ?_
        rintro e w1 ⟨rfl, hw1⟩
        obtain rfl : w = w1 := hw1.symm
        rw [HS ()]
        go_wp2_with fail
        go_roundw
        case rel => exact ⟨1, by omega, by go_num, by simp, by simp, by simp, by simp, by trivial⟩
        case measure => simp [intOf]
    · -- sign 1
      obtain rfl := h0 (by omega)
      cases o1 with
      | some r =>
        clear h0 h1 h2 h3
        go_wp2_with fail
        refine K1.out.mono ?_
        rintro e w1 ⟨rfl, hw1⟩
        obtain rfl : w = w1 := hw1.symm
        rw [HS ()]
        go_wp2_with fail
        go_ret3
        exact ⟨by rw [← HR ()]; rfl, rfl⟩
      | none =>
        clear h0 h1 h2 h3
        go_wp2_with fail
        refine K1.out.mono ?_
        rintro e w1 ⟨rfl, hw1⟩
        obtain rfl : w = w1 := hw1.symm
        rw [HS ()]
        go_wp2_with fail
        go_roundw
        case rel => exact ⟨2, by omega, by go_num, by simp, by simp, by simp, by simp, by trivial⟩
        case measure => simp [intOf]
    · -- sign 2
      obtain rfl := h0 (by omega)
      obtain rfl := h1 (by omega)
      cases o2 with
      | some r =>
        clear h0 h1 h2 h3
        go_wp2_with fail
        refine K2.out.mono ?_
        rintro e w1 ⟨rfl, hw1⟩
        obtain rfl : w = w1 := hw1.symm
        rw [HS ()]
        go_wp2_with fail
        go_ret3
        exact ⟨by rw [← HR ()]; rfl, rfl⟩
      | none =>
        clear h0 h1 h2 h3
        go_wp2_with fail
        refine K2.out.mono ?_
        rintro e w1 ⟨rfl, hw1⟩
        obtain rfl : w = w1 := hw1.symm
        rw [HS ()]
        go_wp2_with fail
        go_roundw
        case rel => exact ⟨3, by omega, by go_num, by simp, by simp, by simp, by simp, by trivial⟩
        case measure => simp [intOf]
    · -- sign 3
      obtain rfl := h0 (by omega)
      obtain rfl := h1 (by omega)
      obtain rfl := h2 (by omega)
      cases o3 with
      | some r =>
        clear h0 h1 h2 h3
        go_wp2_with fail
        refine K3.out.mono ?_
        rintro e w1 ⟨rfl, hw1⟩
        obtain rfl : w = w1 := hw1.symm
        rw [HS ()]
        go_wp2_with fail
        go_ret3
        exact ⟨by rw [← HR ()]; rfl, rfl⟩
      | none =>
        clear h0 h1 h2 h3
        go_wp2_with fail
        refine K3.out.mono ?_
        rintro e w1 ⟨rfl, hw1⟩
        obtain rfl : w = w1 := hw1.symm
        rw [HS ()]
        go_wp2_with fail
        go_roundw
        case rel => exact ⟨4, by omega, by go_num, by simp, by simp, by simp, by simp, by trivial⟩
        case measure => simp [intOf]
    · obtain rfl := h0 (by omega)
      obtain rfl := h1 (by omega)
      obtain rfl := h2 (by omega)
      obtain rfl := h3 (by omega)
      clear h0 h1 h2 h3
      go_wp2_with fail
      go_ret3
      exact ⟨by rw [← HR ()]; rfl, rfl⟩
end Go.Proofs.YteooofakpkbgoaaDoor
