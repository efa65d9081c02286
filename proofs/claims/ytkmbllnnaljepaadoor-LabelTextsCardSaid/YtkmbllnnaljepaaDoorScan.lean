/- A text, sign by sign: the teams that stand in it, and the label whose text it is: plain facts, of no program. -/
import Derived.Test.YtkmbllnnaljepaaDoorBack
import Derived.Test.YtkmbllnnaljepaaDoorROf
namespace Go.Proofs.YtkmbllnnaljepaaDoor
open Go.ChangeShapes Go.WideShapes Go.RowKit

/-- A sign is a digit. -/
def digB (b : UInt8) : Bool := decide (48 ≤ b.toNat ∧ b.toNat ≤ 57)
/-- The teams that stand in a text, behind those found before, in the midst of the number n (or of none, below 0). -/
def scan : List UInt8 → Int → List Nat → Option (List Nat)
  | [], n, l => if 0 ≤ n then (if n.toNat ∈ l then none else some (l ++ [n.toNat])) else some l
  | b :: r, n, l =>
    if digB b then (if 31 < 10 * max n 0 + ((b.toNat : Int) - 48) then none else scan r (10 * max n 0 + ((b.toNat : Int) - 48)) l)
    else if 0 ≤ n then (if n.toNat ∈ l then none else scan r (-1) (l ++ [n.toNat]))
    else scan r (-1) l

theorem scan_nondig {b : UInt8} (h : digB b = false) (r : List UInt8) (n : Int) (l : List Nat) : scan (b :: r) n l = (scan [] n l).bind (scan r (-1)) := by
  simp only [scan, h]
  by_cases hn : 0 ≤ n
  · by_cases hm : n.toNat ∈ l <;> simp [hn, hm]
  · simp [hn]

theorem dig_one (k : Nat) (hk : k < 10) : (UInt8.ofNat (48 + k)).toNat = 48 + k := by simp; omega
theorem scan_dig (k : Nat) (hk : k < 32) (r : List UInt8) (l : List Nat) : scan (Lib.decDigits k ++ r) (-1) l = scan r (k : Int) l := by
  rw [dig_small k hk]
  split
  · next h =>
    have e := dig_one k h
    have hd : digB (UInt8.ofNat (48 + k)) = true := by unfold digB; rw [e]; simp; omega
    show scan (UInt8.ofNat (48 + k) :: r) (-1) l = _
    simp only [scan, hd, if_true, e]
    rw [if_neg (by omega)]
    congr 1; omega
  · next h =>
    have e1 := dig_one (k / 10) (by omega)
    have e2 := dig_one (k % 10) (by omega)
    have hd1 : digB (UInt8.ofNat (48 + k / 10)) = true := by unfold digB; rw [e1]; simp; omega
    have hd2 : digB (UInt8.ofNat (48 + k % 10)) = true := by unfold digB; rw [e2]; simp; omega
    show scan (UInt8.ofNat (48 + k / 10) :: UInt8.ofNat (48 + k % 10) :: r) (-1) l = _
    simp only [scan, hd1, hd2, if_true, e1, e2]
    rw [if_neg (by omega), if_neg (by omega)]
    congr 1; omega

theorem scan_words : ∀ (js : List Nat) (k : Nat) (l : List Nat), (∀ x ∈ l, x < k) → (∀ j ∈ js, j < 32 ∧ k < j) → js.Pairwise (· < ·) →
    scan (js.flatMap fun j => 44 :: Lib.decDigits j) (k : Int) l = some (l ++ k :: js)
  | [], k, l, h1, _, _ => by
    have : k ∉ l := fun e => by have := h1 k e; omega
    simp [scan, this]
  | j :: js, k, l, h1, h2, h3 => by
    have hk : k ∉ l := fun e => by have := h1 k e; omega
    have hj := h2 j (by simp)
    rw [List.pairwise_cons] at h3
    rw [List.flatMap_cons, List.cons_append, scan_nondig (by decide)]
    simp only [scan, Int.natCast_nonneg, if_true, Int.toNat_natCast, hk, if_false, Option.bind_some]
    rw [scan_dig j hj.1, scan_words js j (l ++ [k]) (fun x hx => by
      rcases List.mem_append.1 hx with h | h
      · have := h1 x h; omega
      · simp at h; omega) (fun i hi => ⟨(h2 i (by simp [hi])).1, h3.1 i hi⟩) h3.2]
    simp

theorem scan_tail (ks : List Nat) (h : ks.Pairwise (· < ·)) (h32 : ∀ k ∈ ks, k < 32) : scan (tailT ks) (-1) [] = some ks := by
  cases ks with
  | nil => simp [tailT, scan]
  | cons k ks =>
    rw [List.pairwise_cons] at h
    show scan (43 :: (Lib.decDigits k ++ _)) (-1) [] = _
    rw [scan_nondig (by decide)]
    show scan (Lib.decDigits k ++ _) (-1) [] = _
    rw [scan_dig k (h32 k (by simp)), scan_words ks k [] (by simp) (fun j hj => ⟨h32 j (by simp [hj]), h.1 j hj⟩) h.2]
    rfl

/-- What is found is a set of teams. -/
theorem scan_good : ∀ (s : List UInt8) (n : Int) (l ks : List Nat), n ≤ 31 → l.Nodup → (∀ x ∈ l, x < 32) → scan s n l = some ks → ks.Nodup ∧ ∀ x ∈ ks, x < 32
  | [], n, l, ks, hn, h1, h2, h => by
    simp only [scan] at h
    split at h
    · split at h
      · cases h
      · next hm =>
        injection h with h
        subst h
        refine ⟨List.nodup_append.2 ⟨h1, by simp, fun a ha b hb => by simp at hb; rintro rfl; exact hm (hb ▸ ha)⟩, fun x hx => ?_⟩
        rcases List.mem_append.1 hx with h | h
        · exact h2 x h
        · simp at h; omega
    · injection h with h
      subst h
      exact ⟨h1, h2⟩
  | b :: r, n, l, ks, hn, h1, h2, h => by
    simp only [scan] at h
    split at h
    · split at h
      · cases h
      · exact scan_good r _ l ks (by omega) h1 h2 h
    · split at h
      · split at h
        · cases h
        · next hm =>
          refine scan_good r _ _ ks (by omega) (List.nodup_append.2 ⟨h1, by simp, fun a ha b hb => by simp at hb; rintro rfl; exact hm (hb ▸ ha)⟩) (fun x hx => ?_) h
          rcases List.mem_append.1 hx with h | h
          · exact h2 x h
          · simp at h; omega
      · exact scan_good r _ l ks (by omega) h1 h2 h

/-- The bits of a set of teams, added up, are its bits. -/
theorem catsOf_bits : ∀ (n : Nat) (ks : List Nat), ks.Nodup → (∀ x ∈ ks, x < n) → catsOf ks < 2 ^ n ∧ ks.length ≤ n
  | n, ks, h1, h2 => by
    have hp : ks.Perm ((List.range n).filter (· ∈ ks)) := by
      refine (List.perm_ext_iff_of_nodup h1 (List.nodup_range.sublist List.filter_sublist)).2 fun a => ?_
      simp
      exact h2 a
    have hs : catsOf ks = catsOf ((List.range n).filter (· ∈ ks)) := (hp.map (2 ^ ·)).sum_nat
    have hlen : ks.length ≤ n := by
      rw [hp.length_eq]
      have := List.length_filter_le (· ∈ ks) (List.range n)
      simpa using this
    refine ⟨?_, hlen⟩
    rw [hs]
    generalize (fun a => decide (a ∈ ks)) = f
    clear hs hp h1 h2 hlen
    induction n with
    | zero => simp [catsOf]
    | succ n ih =>
      rw [List.range_succ, List.filter_append, Nat.pow_succ]
      cases hf : f n
      · simp [hf]; omega
      · rw [List.filter_cons_of_pos hf, List.filter_nil, catsOf_snoc]; omega

/-- What the document's own Read answers. -/
def rdRef (s : List UInt8) : Option (Nat × Nat) := match s with
  | [] => none
  | b :: r => if 48 ≤ b.toNat ∧ b.toNat ≤ 55 then (match scan r (-1) [] with
    | none => none
    | some ks => if txtL (b.toNat - 48) (tms ((catsOf ks : Nat) : Int) 32) = b :: r then some (b.toNat - 48, catsOf ks) else none) else none
theorem rdRef_all (s : List UInt8) : rdRef s = rdAll s := by
  apply Option.ext
  rintro ⟨l, c⟩
  rw [rdAll_some]
  constructor
  · intro h
    cases s with
    | nil => cases h
    | cons b r =>
      simp only [rdRef] at h
      split at h
      · split at h
        · cases h
        · next ks hk =>
          split at h
          · next he =>
            injection h with h
            injection h with e1 e2
            subst e1 e2
            obtain ⟨g1, g2⟩ := scan_good r (-1) [] ks (by omega) (by simp) (by simp) hk
            exact ⟨by omega, (catsOf_bits 32 ks g1 g2).1, he.symm⟩
          · cases h
      · cases h
  · rintro ⟨hl, hc, rfl⟩
    have h32 : ∀ k ∈ tms (c : Int) 32, k < 32 := fun k hk => ((tms_mem _ _ _).1 hk).1
    have hcat : catsOf (tms (c : Int) 32) = c := by have := catsOf_all (c : Int) (by omega) (by omega); omega
    have e0 : txtL l (tms (c : Int) 32) = UInt8.ofNat (48 + l) :: tailT (tms (c : Int) 32) := by
      unfold txtL
      rw [dig_small l (by omega), if_pos (by omega)]
      rfl
    have hb := dig_one l (by omega)
    rw [e0]
    simp only [rdRef, hb, scan_tail _ (tms_asc _ _) h32, hcat]
    rw [if_pos (by omega), if_pos (by rw [show 48 + l - 48 = l by omega, e0]), show 48 + l - 48 = l by omega]

/-- What holds between two rounds. -/
structure RrMid (R : Option (List Nat)) (r : List UInt8) (i : Nat) (n : Int) (ys : List Nat) : Prop where
  lo : 1 ≤ i
  hi : i ≤ r.length + 2
  nlo : -1 ≤ n
  nhi : n ≤ 31
  uniq : ys.Nodup
  low : ∀ x ∈ ys, x < 32
  here : i ≤ r.length + 1 → R = scan (r.drop (i - 1)) n ys
  past : i = r.length + 2 → n = -1 ∧ R = some ys

theorem drop_at {r : List UInt8} {i : Nat} {c : UInt8} (h0 : 1 ≤ i) (h : r[i - 1]? = some c) : r.drop (i - 1) = c :: r.drop i := by
  obtain ⟨h1, h2⟩ := List.getElem?_eq_some_iff.1 h
  rw [List.drop_eq_getElem_cons h1, h2, show i - 1 + 1 = i by omega]

theorem RrMid.digit {R : Option (List Nat)} {r : List UInt8} {i : Nat} {n : Int} {ys : List Nat} (h : RrMid R r i n ys) {c : UInt8} (hc : r[i - 1]? = some c) (hd : digB c = true) (hn : 10 * max n 0 + ((c.toNat : Int) - 48) ≤ 31) :
    RrMid R r (i + 1) (10 * max n 0 + ((c.toNat : Int) - 48)) ys := by
  obtain ⟨h1, _⟩ := List.getElem?_eq_some_iff.1 hc
  have h0 := h.lo
  have e := h.here (by omega)
  rw [drop_at h.lo hc] at e
  simp only [scan, hd, if_true] at e
  rw [if_neg (by omega)] at e
  unfold digB at hd
  simp at hd
  exact ⟨by omega, by omega, by omega, hn, h.uniq, h.low, fun _ => by rw [Nat.add_sub_cancel]; exact e, fun h2 => by omega⟩
theorem RrMid.over {R : Option (List Nat)} {r : List UInt8} {i : Nat} {n : Int} {ys : List Nat} (h : RrMid R r i n ys) {c : UInt8} (hc : r[i - 1]? = some c) (hd : digB c = true) (hn : 31 < 10 * max n 0 + ((c.toNat : Int) - 48)) : R = none := by
  obtain ⟨h1, _⟩ := List.getElem?_eq_some_iff.1 hc
  have h0 := h.lo
  have e := h.here (by omega)
  rw [drop_at h.lo hc] at e
  simp only [scan, hd, if_true] at e
  rw [if_pos hn] at e
  exact e

/-- Here no digit stands. -/
def Stops (r : List UInt8) (i : Nat) : Prop := i = r.length + 1 ∨ ∃ c, r[i - 1]? = some c ∧ digB c = false
theorem RrMid.stop {R : Option (List Nat)} {r : List UInt8} {i : Nat} {n : Int} {ys zs : List Nat} (h : RrMid R r i n ys) (hs : Stops r i) (hz : scan [] n ys = some zs) : RrMid R r (i + 1) (-1) zs := by
  have h0 := h.lo
  obtain ⟨g1, g2⟩ := scan_good [] n ys zs h.nhi h.uniq h.low hz
  rcases hs with rfl | ⟨c, hc, hd⟩
  · have e := h.here (by omega)
    rw [Nat.add_sub_cancel, List.drop_length, hz] at e
    exact ⟨by omega, by omega, by omega, by omega, g1, g2, fun h2 => by omega, fun _ => ⟨rfl, e⟩⟩
  · obtain ⟨h1, _⟩ := List.getElem?_eq_some_iff.1 hc
    have e := h.here (by omega)
    rw [drop_at h.lo hc, scan_nondig hd, hz] at e
    exact ⟨by omega, by omega, by omega, by omega, g1, g2, fun _ => by rw [Nat.add_sub_cancel]; exact e, fun h2 => by omega⟩
theorem RrMid.none {R : Option (List Nat)} {r : List UInt8} {i : Nat} {n : Int} {ys : List Nat} (h : RrMid R r i n ys) (hs : Stops r i) (hz : scan [] n ys = .none) : R = .none := by
  have h0 := h.lo
  rcases hs with rfl | ⟨c, hc, hd⟩
  · have e := h.here (by omega)
    rw [Nat.add_sub_cancel, List.drop_length, hz] at e
    exact e
  · obtain ⟨h1, _⟩ := List.getElem?_eq_some_iff.1 hc
    have e := h.here (by omega)
    rw [drop_at h.lo hc, scan_nondig hd, hz] at e
    exact e
theorem scan_end_out {n : Int} {ys : List Nat} (hn : n < 0) : scan [] n ys = some ys := by simp only [scan]; rw [if_neg (by omega)]
theorem scan_end_old {n : Nat} {ys : List Nat} (h : n ∈ ys) : scan [] (n : Int) ys = none := by simp [scan, h]
theorem scan_end_new {n : Nat} {ys : List Nat} (h : n ∉ ys) : scan [] (n : Int) ys = some (ys ++ [n]) := by simp [scan, h]
theorem has_mem (n : Nat) (ys : List Nat) : decide (∃ x ∈ ys, (x : Int) = (n : Int)) = decide (n ∈ ys) := by
  rw [decide_eq_decide]
  constructor
  · rintro ⟨x, hx, e⟩
    have : x = n := by omega
    exact this ▸ hx
  · intro h
    exact ⟨n, h, rfl⟩
end Go.Proofs.YtkmbllnnaljepaaDoor
