/- Plain facts for AlertMerges. Fields that Good makes stay as they are when Good takes them. -/
import Derived.Test.YtknhkmlihbgjpaaDoorAMerge
namespace Go.Proofs.YtknhkmlihbgjpaaDoor
open Go.ChangeShapes Go.WideShapes Go.RowKit

theorem ahead_ne {a b : Bs} (h : aheadB a b = true) : a ≠ b := by
  rintro rfl
  induction a with
  | nil => cases h
  | cons x a ih =>
    rw [aheadB, if_pos rfl] at h
    exact ih h
theorem with_fold (nm val : Bs) (O A : List (Bs × Bs)) (h : ∀ f ∈ O, aheadB f.1 nm = true) : O.foldl (withS nm val) (A, false) = (A ++ O, false) := by
  induction O generalizing A with
  | nil => simp
  | cons f O ih =>
    have hf := h f (by simp)
    rw [List.foldl_cons, show withS nm val (A, false) f = (A ++ [f], false) by
      unfold withS
      simp only [hf, Bool.or_true, if_true]
      rw [if_neg (ahead_ne hf)], ih _ (fun g hg => h g (by simp [hg]))]
    simp
/-- A field behind all comes behind all. -/
theorem with_behind (nm val : Bs) (O : List (Bs × Bs)) (h : ∀ f ∈ O, aheadB f.1 nm = true) : withR O nm val = O ++ [(nm, val)] := by
  unfold withR
  rw [with_fold nm val O [] h]
  simp
theorem right_front {O R : List (Bs × Bs)} (h : rightB (O ++ R) = true) : rightB O = true := by
  rw [right_iff] at *
  obtain ⟨h1, h2, h3⟩ := h
  rw [List.length_append] at h3
  exact ⟨fun f hf => h1 f (by simp [hf]), (List.pairwise_append.1 h2).1, by omega⟩
theorem good_fold (R O : List (Bs × Bs)) (h : Gd (O ++ R)) : R.foldl goodS O = O ++ R := by
  induction R generalizing O with
  | nil => simp
  | cons f R ih =>
    have h2 := ((right_iff _).1 h.1).2.1
    have hb : ∀ g ∈ O, aheadB g.1 f.1 = true := fun g hg => (List.pairwise_append.1 h2).2.2 g hg f (by simp)
    have hv : f.2.take 30 = f.2 := List.take_of_length_le (h.2 f (by simp))
    have e : O ++ f :: R = (O ++ [f]) ++ R := by simp
    have hr : rightB (O ++ [f]) = true := right_front (R := R) (by rw [← e]; exact h.1)
    have hs : goodS O f = O ++ [f] := by
      unfold goodS
      rw [hv, with_behind f.1 f.2 O hb, if_pos hr]
    rw [List.foldl_cons, hs, ih _ (by rw [← e]; exact h), e]
theorem good_same {F : List (Bs × Bs)} (h : Gd F) : goodN F = F := by
  unfold goodN
  rw [List.take_of_length_le (by have := h.len; omega), good_fold F [] h]
  rfl
theorem prom_name : nameB promB = true := by decide
theorem gS_name (s : Bs) : nameB (gS s) = true := by
  cases h : nameB s with
  | true => rw [gS_yes h]; exact h
  | false => rw [gS_no h]; exact prom_name
theorem gS_same (s : Bs) : gS (gS s) = gS s := gS_yes (gS_name s)
theorem gL_right (l : Int) : rB (gL l) = true := by
  cases h : rB l with
  | true => rw [gL_yes h]; exact h
  | false => rw [gL_no h]; decide
/-- What Good makes may be, if it has fields. -/
theorem good_right {F : List (Bs × Bs)} (h : Gd F) (hp : 0 < F.length) (s : Bs) (l p q : Int) (hq : timesB p q = true) : arB (gS s) F (gL l) p q = true := by
  unfold arB
  rw [gS_name, decide_eq_true hp, h.1, gL_right, hq]
  rfl
theorem id_len {s : Bs} {fs : List (Bs × Bs)} (hs : s.length ≤ 12) (h : ∀ f ∈ fs, f.1.length ≤ 12 ∧ f.2.length ≤ 200) : (idB s fs).length ≤ 13 + 214 * fs.length := by
  unfold idB
  have e : ∀ fs : List (Bs × Bs), (∀ f ∈ fs, f.1.length ≤ 12 ∧ f.2.length ≤ 200) → ((fs.map fun f => ((f.1 ++ [61]) ++ f.2) ++ [0]).flatten).length ≤ 214 * fs.length := by
    intro fs
    induction fs with
    | nil => intro _; simp
    | cons f fs ih =>
      intro h
      have h1 := h f (by simp)
      have h2 := ih fun g hg => h g (by simp [hg])
      rw [List.map_cons, List.flatten_cons, List.length_append, List.length_cons]
      simp only [List.length_append, List.length_cons, List.length_nil] at *
      omega
  have := e fs h
  simp only [List.length_append, List.length_cons, List.length_nil] at *
  omega
theorem sub_or (c d e : Nat) : ((c ||| d) &&& e = c ||| d) ↔ (c &&& e = c ∧ d &&& e = d) := by
  constructor
  · intro h
    have hb : ∀ i, (c.testBit i = true ∨ d.testBit i = true) → e.testBit i = true := by
      intro i hi
      have := congrArg (fun n => Nat.testBit n i) h
      simp only [Nat.testBit_and, Nat.testBit_or] at this
      cases hc : c.testBit i <;> cases hd : d.testBit i <;> simp_all
    constructor
    · apply Nat.eq_of_testBit_eq; intro i; rw [Nat.testBit_and]
      cases hc : c.testBit i
      · rfl
      · rw [hb i (.inl hc)]; rfl
    · apply Nat.eq_of_testBit_eq; intro i; rw [Nat.testBit_and]
      cases hd : d.testBit i
      · rfl
      · rw [hb i (.inr hd)]; rfl
  · rintro ⟨h1, h2⟩
    rw [Nat.and_or_distrib_right, h1, h2]
theorem flB_join (l c m d n e : Int) (hl : rB l = true) (hm : rB m = true) : flB (max l m) ((c.toNat ||| d.toNat : Nat) : Int) n e = (flB l c n e && flB m d n e) := by
  have h1 := rB_true.1 hl
  have h2 := rB_true.1 hm
  rw [Bool.eq_iff_iff, Bool.and_eq_true, flB_true, flB_true, flB_true, subB_true, subB_true, subB_true, Int.toNat_natCast, sub_or]
  constructor
  · rintro ⟨_, h4, h5, h6, h7⟩; exact ⟨⟨h1, h4, by omega, h6⟩, h2, h4, by omega, h7⟩
  · rintro ⟨⟨_, h4, h5, h6⟩, _, _, h8, h9⟩; exact ⟨by omega, h4, by omega, h6, h9⟩
theorem flB_up (l c m d : Int) (hl : rB l = true) (hm : rB m = true) : flB l c (max l m) ((c.toNat ||| d.toNat : Nat) : Int) = true ∧ flB m d (max l m) ((c.toNat ||| d.toNat : Nat) : Int) = true := by
  have h := flB_join l c m d (max l m) ((c.toNat ||| d.toNat : Nat) : Int) hl hm
  have h1 := rB_true.1 hl
  have h2 := rB_true.1 hm
  rw [flB_self, rB_true.2 (by omega), eq_comm, Bool.and_eq_true] at h
  exact h
theorem jL_comm (l m : Int) : jL l m = jL m l := by unfold jL; rw [Bool.and_comm, Int.max_comm]
theorem jC_comm (l c m d : Int) : jC l c m d = jC m d l c := by unfold jC; rw [Bool.and_comm, Nat.or_comm]
theorem laterN_comm (p q : Int) : laterN p q = laterN q p := by unfold laterN; rw [Int.max_comm]; simp only [Or.comm]
theorem jL_self {l : Int} (h : rB l = true) : jL l l = l := by unfold jL; rw [h]; simp
theorem jC_self {l c : Int} (h : rB l = true) (hc : 0 ≤ c) : jC l c l c = c := by unfold jC; rw [h]; simp; omega
theorem laterN_self (q : Int) : laterN q q = q := by unfold laterN; split <;> omega
theorem jL_right {l m : Int} (hl : rB l = true) (hm : rB m = true) : rB (jL l m) = true := by
  unfold jL
  rw [hl, hm]
  rw [rB_true] at *
  simp
  omega
theorem jL_up {l c m d : Int} (hl : rB l = true) (hm : rB m = true) : flB l c (jL l m) (jC l c m d) = true ∧ flB m d (jL l m) (jC l c m d) = true := by
  have h := flB_up l c m d hl hm
  unfold jL jC
  rw [hl, hm]
  exact h
theorem jC_u32 {l c m d : Int} (hc : U32 c) (hd : U32 d) : U32 (jC l c m d) := by
  unfold jC U32 at *
  split
  · have := Nat.or_lt_two_pow (x := c.toNat) (y := d.toNat) (n := 32) (by omega) (by omega)
    omega
  · omega
theorem times_iff {p q : Int} : timesB p q = true ↔ 0 ≤ p ∧ p ≤ 1099511627776 ∧ (q = 0 ∨ (p < q ∧ q ≤ 1099511627776)) := by
  unfold timesB
  simp only [Bool.and_eq_true, Bool.or_eq_true, decide_eq_true_iff]
theorem fires_iff {p q n : Int} : firesB p q n = true ↔ p ≤ n ∧ (q = 0 ∨ n < q) := by
  unfold firesB
  simp only [Bool.and_eq_true, Bool.or_eq_true, decide_eq_true_iff]
theorem later_times {p q p2 q2 : Int} (h : timesB p q = true) (k : timesB p2 q2 = true) : timesB (min p p2) (laterN q q2) = true := by
  rw [times_iff] at *
  unfold laterN
  split <;> omega
theorem later_fires {p q p2 q2 n : Int} (h : firesB p q n = true ∨ firesB p2 q2 n = true) : firesB (min p p2) (laterN q q2) n = true := by
  rw [fires_iff] at *
  rw [fires_iff] at h
  unfold laterN
  split <;> omega
/-- Two alerts of one source and fields that may be: as one they may be. -/
theorem mg_yes {s : Bs} {fs : List (Bs × Bs)} {l p q m p2 q2 : Int} (h : arB s fs l p q = true) (k : arB s fs m p2 q2 = true) : mgB s s fs fs l p q m p2 q2 = true := by
  unfold mgB
  rw [h, k]
  simp
theorem ar_parts {s : Bs} {fs : List (Bs × Bs)} {l p q : Int} (h : arB s fs l p q = true) : nameB s = true ∧ 0 < fs.length ∧ rightB fs = true ∧ rB l = true ∧ timesB p q = true := by
  unfold arB at h
  simpa only [Bool.and_eq_true, decide_eq_true_iff] using h
theorem good_right0 {F : List (Bs × Bs)} (h : Gd F) (hp : 0 < F.length) {s : Bs} (hs : nameB s = true) {l p q : Int} (hl : rB l = true) (hq : timesB p q = true) : arB s F l p q = true := by
  unfold arB
  rw [hs, decide_eq_true hp, h.1, hl, hq]
  rfl
theorem mg_right {s : Bs} {fs : List (Bs × Bs)} {l p q m p2 q2 : Int} (h : arB s fs l p q = true) (k : arB s fs m p2 q2 = true) : arB s fs (jL l m) (min p p2) (laterN q q2) = true := by
  obtain ⟨h1, h2, h3, h4, h5⟩ := ar_parts h
  obtain ⟨_, _, _, k4, k5⟩ := ar_parts k
  unfold arB
  rw [h1, h3, decide_eq_true h2, jL_right h4 k4, later_times h5 k5]
  rfl
theorem samea_self (s : Bs) (F : List (Bs × Bs)) (l c p q : Int) : sameB s s F F l c p q l c p q = true := by
  unfold sameB
  simp
theorem gd_small {F : List (Bs × Bs)} (h : Gd F) : ∀ f ∈ F, f.1.length ≤ 12 ∧ f.2.length ≤ 200 := fun f hf => ⟨(name_len12 (h.name hf)).2, by have := h.2 f hf; omega⟩
theorem gd_id {F : List (Bs × Bs)} (h : Gd F) {s : Bs} (hs : nameB s = true) : (idB s F).length ≤ 2000 := by
  have := id_len (name_len12 hs).2 (gd_small h)
  have := h.len
  omega
/-- Two alerts of one source and fields that may be are one. -/
theorem merge_yes (P P' : Nat → Prop) (s : Bs) (y z : Sl) (F : List (Bs × Bs)) (l c p q m d p2 q2 : Int) (w : World) (ht : Dg.Tabs w) (h : FldsAt P w y.v F) (h2 : FldsAt P' w z.v F) (hF : Gd F) (hG : arB s F l p q = true) (hH : arB s F m p2 q2 = true) (hc : U32 c) (hd : U32 d) :
    Calls Tryd.prog 13 #[alV s y.v l c p q, alV s z.v m d p2 q2] w fun e w' => ∃ x : Sl, e = .returned (.tuple #[alV s x.v (jL l m) (jC l c m d) (min p p2) (laterN q q2), .bool true]) ∧ FldsAt (fun _ => True) w' x.v F ∧ Below w.heap.size w w' := by
  have hs := (ar_parts hG).1
  have h12 := (name_len12 hs).2
  have h8 := hF.len
  have hi := gd_id hF hs
  have hm : ∀ f ∈ F, f.1.length ≤ 9223372036854775807 ∧ f.2.length ≤ 9223372036854775807 := fun f hf => by have := gd_small hF f hf; omega
  refine (merge_any P P' s s y z F F l c p q m d p2 q2 w ht h h2 (by omega) (by omega) (by omega) (by omega) hm hm (by omega) (by omega) hc hd).mono fun e w' h3 => ?_
  obtain ⟨hb, ⟨hno, _⟩ | ⟨_, x, h4, h5⟩⟩ := h3
  · rw [mg_yes hG hH] at hno
    cases hno
  · exact ⟨x, h4, h5.mono (fun _ _ _ => trivial), hb⟩
end Go.Proofs.YtknhkmlihbgjpaaDoor
