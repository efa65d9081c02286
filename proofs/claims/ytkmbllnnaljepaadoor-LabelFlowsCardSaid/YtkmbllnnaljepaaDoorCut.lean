/- strings.Cut at a comma, and label.readTeam: what each call returns. -/
import Derived.Test.YtkmbllnnaljepaaDoorText
import Derived.Lib.SmallJoins
namespace Go.Proofs.YtkmbllnnaljepaaDoor
open Go.ChangeShapes Go.WideShapes Go.RowKit

theorem ba_take (s : ByteArray) (i : Nat) : s.extract 0 i = ⟨(s.data.toList.take i).toArray⟩ := by
  apply ByteArray.ext
  apply Array.ext'
  simp
theorem ba_drop (s : ByteArray) (i : Nat) : s.extract i s.size = ⟨(s.data.toList.drop i).toArray⟩ := by
  apply ByteArray.ext
  apply Array.ext'
  simp only [ByteArray.data_extract, Array.toList_extract, List.extract_eq_take_drop]
  exact List.take_of_length_le (by simp)
theorem ba_toList (s : ByteArray) : s.toList = s.data.toList := ByteArray.toList_eq s
theorem ret_strs {a b c d : ByteArray} {x : Bool} (h : a = c) (k : b = d) : Ending.returned (.tuple #[.string a, .string b, .bool x]) = .returned (.tuple #[.string c, .string d, .bool x]) := by rw [h, k]

set_option maxHeartbeats 400000 in
theorem lcut_none (s : ByteArray) (h : Lib.indexByte s.data.toList 44 = -1) (w : World) :
    Calls Tryd.prog 43 #[.string s, .string ⟨#[44]⟩] w fun e w' => e = .returned (.tuple #[.string s, .string ⟨#[]⟩, .bool false]) ∧ w = w' := by
  go_enter Tryd.func43, Tryd.ntmps43
  go_wp2_with fail
  refine (Tryd.stringslite_Index_one s 44 _).mono ?_
  rintro e w1 ⟨rfl, rfl⟩
  go_wp2
  go_ret3
  exact ⟨rfl, rfl⟩

set_option maxHeartbeats 400000 in
theorem cut_none (s : ByteArray) (h : Lib.indexByte s.data.toList 44 = -1) (w : World) :
    Calls Tryd.prog 40 #[.string s, .string ⟨#[44]⟩] w fun e w' => e = .returned (.tuple #[.string s, .string ⟨#[]⟩, .bool false]) ∧ w = w' := by
  have H := Lib.hid h
  clear h
  go_enter Tryd.func40, Tryd.ntmps40
  go_wp2_with fail
  refine (lcut_none s H.out _).mono ?_
  rintro e w1 ⟨rfl, rfl⟩
  go_wp2
  go_ret3
  exact ⟨rfl, rfl⟩

set_option maxHeartbeats 400000 in
theorem lcut_some (s : ByteArray) (i : Nat) (h : Lib.indexByte s.data.toList 44 = i) (hi : i < s.size) (hs : s.size ≤ 1000000) (w : World) :
    Calls Tryd.prog 43 #[.string s, .string ⟨#[44]⟩] w fun e w' =>
      e = .returned (.tuple #[.string ⟨(s.data.toList.take i).toArray⟩, .string ⟨(s.data.toList.drop (i + 1)).toArray⟩, .bool true]) ∧ ∃ n, w' = w.drewN n := by
  go_enter Tryd.func43, Tryd.ntmps43
  go_wp2_with fail
  refine (Tryd.stringslite_Index_one s 44 _).mono ?_
  rintro e w1 ⟨rfl, rfl⟩
  rw [h]
  have H := Lib.hid h
  clear h
  go_wp2
  go_quiet (fail)
  go_wp2
  go_ret3
  exact ⟨ret_strs (ba_take s i) (ba_drop s (i + 1)), _, rfl⟩

set_option maxHeartbeats 400000 in
theorem cut_some (s : ByteArray) (i : Nat) (h : Lib.indexByte s.data.toList 44 = i) (hi : i < s.size) (hs : s.size ≤ 1000000) (w : World) :
    Calls Tryd.prog 40 #[.string s, .string ⟨#[44]⟩] w fun e w' =>
      e = .returned (.tuple #[.string ⟨(s.data.toList.take i).toArray⟩, .string ⟨(s.data.toList.drop (i + 1)).toArray⟩, .bool true]) ∧ ∃ n, w' = w.drewN n := by
  have H := Lib.hid h
  clear h
  go_enter Tryd.func40, Tryd.ntmps40
  go_wp2_with fail
  refine (lcut_some s i H.out hi hs _).mono ?_
  rintro e w1 ⟨rfl, n, rfl⟩
  go_wp2
  go_ret3
  exact ⟨rfl, n, rfl⟩

/-- The variables that hold the two errors of strconv hold errors. -/
def Errs (w : World) : Prop := (∃ t v, w.cell? ⟨2, 0, none⟩ = some (.iface t v)) ∧ ∃ t v, w.cell? ⟨3, 0, none⟩ = some (.iface t v)
theorem Errs.keep {w w' : World} (h : Errs w) (hb : Below w.heap.size w w') : Errs w' := by
  obtain ⟨⟨t, v, h1⟩, t', v', h2⟩ := h
  exact ⟨⟨t, v, Below.keeps hb h1⟩, t', v', Below.keeps hb h2⟩

/-- The team whose number is written so. -/
def rt (l : List UInt8) : Option Nat := (List.range 32).find? fun k => Lib.decDigits k == l

theorem rt_some {l : List UInt8} {k : Nat} : rt l = some k ↔ k < 32 ∧ Lib.decDigits k = l := by
  unfold rt
  constructor
  · intro h
    have h1 := List.find?_some h
    have h2 := List.mem_of_find?_eq_some h
    simp at h1 h2
    exact ⟨h2, h1⟩
  · rintro ⟨hk, rfl⟩
    have key : ∀ k : Fin 32, (List.range 32).find? (fun j => Lib.decDigits j == Lib.decDigits k.val) = some k.val := by
      intro k
      have hd : ∀ j : Fin 32, Lib.decDigits j.val = (if j.val < 10 then [UInt8.ofNat (48 + j.val)] else [UInt8.ofNat (48 + j.val / 10), UInt8.ofNat (48 + j.val % 10)]) := by
        intro j
        rw [Lib.decDigits]
        split
        · simp_all
        · rw [Lib.decDigits, dif_pos (by omega)]; rfl
      have e : (List.range 32).find? (fun j => Lib.decDigits j == Lib.decDigits k.val) = (List.range 32).find? (fun j => (if j < 10 then [UInt8.ofNat (48 + j)] else [UInt8.ofNat (48 + j / 10), UInt8.ofNat (48 + j % 10)]) == (if k.val < 10 then [UInt8.ofNat (48 + k.val)] else [UInt8.ofNat (48 + k.val / 10), UInt8.ofNat (48 + k.val % 10)])) := by
        have cong : ∀ (L : List Nat) (p q : Nat → Bool), (∀ x ∈ L, p x = q x) → L.find? p = L.find? q := by
          intro L p q
          induction L with
          | nil => intro _; rfl
          | cons a b ih =>
            intro hpq
            rw [List.find?_cons, List.find?_cons, hpq a (by simp), ih (fun x hx => hpq x (by simp [hx]))]
        apply cong
        intro x hx
        simp at hx
        rw [hd ⟨x, hx⟩, hd k]
      rw [e]
      clear e hd
      revert k
      decide +kernel
    exact key ⟨k, hk⟩
theorem rt_none {l : List UInt8} (h : rt l = none) (k : Nat) (hk : k < 32) : Lib.decDigits k ≠ l := fun e => by
  rw [rt_some.2 ⟨hk, e⟩] at h; cases h

set_option maxHeartbeats 400000 in
theorem readTeam_bad (s : ByteArray) (hs : s.size ≤ 1000000) (h : ∀ v, Lib.atoiAll s.data.toList ≠ .ok v) (w : World) (he : Errs w) :
    Calls Tryd.prog 41 #[.string s] w fun e w' => e = .returned (.tuple #[.int .i64 0, .bool false]) ∧ Below w.heap.size w w' := by
  obtain ⟨⟨t, v, h1⟩, t', v', h2⟩ := he
  cases hx : Lib.atoiAll s.data.toList
  · exact absurd hx (h _)
  · have c := Any.strconv_Atoi_syntax Tryd.laysC172 s (by omega) hx _ w h1 (.inr ⟨_, _, rfl⟩)
    clear hx h h1 h2
    have C := Lib.hid c
    clear c
    go_enter Tryd.func41, Tryd.ntmps41
    go_wp2_with fail
    refine C.out.mono ?_
    rintro e w1 ⟨N, rfl, hN, hw, hb⟩
    clear hw C
    go_wp2
    go_ret2
    exact ⟨rfl, hb⟩
  · have c := Tryd.strconv_Atoi_range s (by omega) hx _ w h2 (.inr ⟨_, _, rfl⟩)
    clear hx h h1 h2
    have C := Lib.hid c
    clear c
    go_enter Tryd.func41, Tryd.ntmps41
    go_wp2_with fail
    refine C.out.mono ?_
    rintro e w1 ⟨N, rfl, hN, hw, hb⟩
    clear hw C
    go_wp2
    go_ret2
    exact ⟨rfl, hb⟩

theorem below_bytes {w w' : World} {e : TypeId} (h : w' = w ∨ ∃ t, w' = Lib.bytesWorld w e t) : Below w.heap.size w w' := by
  rcases h with rfl | ⟨t, rfl⟩
  · exact Below.refl _ _
  · exact Go.Joins.below_bytesWorld _ _ _ _ (Nat.le_refl _)

set_option maxHeartbeats 400000 in
theorem readTeam_far (s : ByteArray) (hs : s.size ≤ 1000000) (v : Int) (h : Lib.atoiAll s.data.toList = .ok v) (hv : v < 0 ∨ 32 ≤ v) (w : World) :
    Calls Tryd.prog 41 #[.string s] w fun e w' => e = .returned (.tuple #[.int .i64 0, .bool false]) ∧ Below w.heap.size w w' := by
  have H := Lib.hid h
  clear h
  rcases hv with hv | hv
  all_goals
    go_enter Tryd.func41, Tryd.ntmps41
    go_wp2_with fail
    refine (Tryd.strconv_Atoi_ok s (by omega) v H.out _).mono ?_
    rintro e w1 ⟨rfl, hw⟩
    have hb := below_bytes hw
    clear hw
    go_wp2
    go_ret2
    exact ⟨rfl, hb⟩

set_option maxHeartbeats 400000 in
theorem readTeam_near (s : ByteArray) (hs : s.size ≤ 1000000) (v : Nat) (h : Lib.atoiAll s.data.toList = .ok (v : Int)) (hv : v < 32) (w : World) :
    Calls Tryd.prog 41 #[.string s] w fun e w' =>
      e = .returned (if Lib.decDigits v = s.data.toList then .tuple #[.int .i64 v, .bool true] else .tuple #[.int .i64 0, .bool false]) ∧ Below w.heap.size w w' := by
  have H := Lib.hid h
  clear h
  have hv0 : decide ((v : Int) < 0) = false := by simp
  have hv1 : decide (32 ≤ (v : Int)) = false := by simp; omega
  by_cases hd : Lib.decDigits v = s.data.toList
  · have hb1 : (Lib.decDigits v == s.toList) = true := by rw [hd, beq_iff_eq]; exact (ba_toList s).symm
    rw [if_pos hd]
    clear hd
    go_enter Tryd.func41, Tryd.ntmps41
    go_wp2_with fail
    refine (Tryd.strconv_Atoi_ok s (by omega) v H.out _).mono ?_
    rintro e w1 ⟨rfl, hw⟩
    have hb := below_bytes hw
    clear hw
    go_wp2_with fail
    refine (Tryd.strconv_Itoa_small v (by omega) _).mono ?_
    rintro e w2 ⟨rfl, rfl⟩
    go_wp2
    go_ret2
    exact ⟨rfl, hb⟩
  · have hb1 : (Lib.decDigits v == s.toList) = false := by rw [beq_eq_false_iff_ne, ba_toList]; exact hd
    rw [if_neg hd]
    clear hd
    go_enter Tryd.func41, Tryd.ntmps41
    go_wp2_with fail
    refine (Tryd.strconv_Atoi_ok s (by omega) v H.out _).mono ?_
    rintro e w1 ⟨rfl, hw⟩
    have hb := below_bytes hw
    clear hw
    go_wp2_with fail
    refine (Tryd.strconv_Itoa_small v (by omega) _).mono ?_
    rintro e w2 ⟨rfl, rfl⟩
    go_wp2
    go_ret2
    exact ⟨rfl, hb⟩

theorem atoi_dig (k : Nat) (hk : k < 32) : Lib.atoiAll (Lib.decDigits k) = .ok (k : Int) := by
  have hd : ∀ j : Fin 32, Lib.decDigits j.val = (if j.val < 10 then [UInt8.ofNat (48 + j.val)] else [UInt8.ofNat (48 + j.val / 10), UInt8.ofNat (48 + j.val % 10)]) := by
    intro j
    rw [Lib.decDigits]
    split
    · simp_all
    · rw [Lib.decDigits, dif_pos (by omega)]; rfl
  have key : ∀ j : Fin 32, Lib.atoiAll (if j.val < 10 then [UInt8.ofNat (48 + j.val)] else [UInt8.ofNat (48 + j.val / 10), UInt8.ofNat (48 + j.val % 10)]) = .ok (j.val : Int) := by decide +kernel
  have := key ⟨k, hk⟩
  rw [← hd ⟨k, hk⟩] at this
  exact this

/-- What readTeam answers: a team's number, just where it is written so. -/
theorem readTeam_some (s : ByteArray) (hs : s.size ≤ 1000000) (k : Nat) (h : rt s.data.toList = some k) (w : World) :
    Calls Tryd.prog 41 #[.string s] w fun e w' => e = .returned (.tuple #[.int .i64 k, .bool true]) ∧ Below w.heap.size w w' := by
  obtain ⟨hk, hd⟩ := rt_some.1 h
  have := readTeam_near s hs k (by rw [← hd]; exact atoi_dig k hk) hk w
  rwa [if_pos hd] at this
theorem readTeam_none (s : ByteArray) (hs : s.size ≤ 1000000) (h : rt s.data.toList = none) (w : World) (he : Errs w) :
    Calls Tryd.prog 41 #[.string s] w fun e w' => e = .returned (.tuple #[.int .i64 0, .bool false]) ∧ Below w.heap.size w w' := by
  by_cases hok : ∃ v, Lib.atoiAll s.data.toList = .ok v
  · obtain ⟨v, hv⟩ := hok
    by_cases hr : 0 ≤ v ∧ v < 32
    · obtain ⟨n, rfl⟩ := Int.eq_ofNat_of_zero_le hr.1
      have := readTeam_near s hs n hv (by omega) w
      rwa [if_neg (rt_none h n (by omega))] at this
    · exact readTeam_far s hs v hv (by omega) w
  · exact readTeam_bad s hs (fun v hv => hok ⟨v, hv⟩) w he
end Go.Proofs.YtkmbllnnaljepaaDoor
