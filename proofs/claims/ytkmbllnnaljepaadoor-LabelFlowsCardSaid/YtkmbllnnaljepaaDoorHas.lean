/- Lists of team numbers in memory, and whether a number is in one: what each call of has returns. -/
import Derived.Test.YtkmbllnnaljepaaDoorIter
namespace Go.Proofs.YtkmbllnnaljepaaDoor
open Go.ChangeShapes Go.WideShapes Go.RowKit

/-- The slice v holds the numbers xs. -/
def IntsAt (w : World) (v : Value) (xs : List Nat) : Prop := ∃ a cap, v = .slice a xs.length cap ∧ ∀ (j x : Nat), xs[j]? = some x → ∃ g, a = some ⟨g, 0, none⟩ ∧ w.cell? ⟨g, j, none⟩ = some (.int .i64 (x : Int))
theorem IntsAt.keep {w w' : World} {v : Value} {xs : List Nat} (h : IntsAt w v xs) (hb : Below w.heap.size w w') : IntsAt w' v xs := by
  obtain ⟨a, cap, e, hc⟩ := h
  refine ⟨a, cap, e, fun j x hx => ?_⟩
  obtain ⟨g, e2, h2⟩ := hc j x hx
  exact ⟨g, e2, Below.keeps hb h2⟩
theorem IntsAt.of_own {w : World} {base : Nat} {v : Value} {xs : List Nat} (h : w.ownsRow base 3 1 v xs.length (xs.map intV)) : IntsAt w v xs := by
  obtain ⟨a, cap, e, hs⟩ := own_shape h
  refine ⟨a, cap, e, fun j x hx => ?_⟩
  rcases hs with ⟨_, h0⟩ | ⟨g, o, e2, _, hg, _, hc⟩
  · rw [List.length_eq_zero_iff.1 h0] at hx; simp at hx
  · exact ⟨g, e2, hc w hg j (intV x) (by simp [hx])⟩
theorem IntsAt.nil {w : World} {v : Value} (h : IntsAt w v []) : ∃ a cap, v = .slice a 0 cap := by
  obtain ⟨a, cap, e, _⟩ := h
  exact ⟨a, cap, e⟩
theorem IntsAt.block {w : World} {v : Value} {xs : List Nat} (h : IntsAt w v xs) (hn : xs ≠ []) : ∃ g cap, v = .slice (some ⟨g, 0, none⟩) xs.length cap ∧ ∀ (j x : Nat), xs[j]? = some x → w.cell? ⟨g, j, none⟩ = some (.int .i64 (x : Int)) := by
  obtain ⟨a, cap, e, hc⟩ := h
  cases xs with
  | nil => exact absurd rfl hn
  | cons x xs =>
    obtain ⟨g, e2, _⟩ := hc 0 x rfl
    subst e2
    refine ⟨g, cap, e, fun j y hy => ?_⟩
    obtain ⟨g', e3, h3⟩ := hc j y hy
    injection e3 with e3
    injection e3 with e3
    subst e3
    exact h3

set_option maxHeartbeats 400000 in
theorem has_nil (a : Option Addr) (cap : Nat) (k : Int) (w : World) :
    Calls Tryd.prog 29 #[.slice a 0 cap, .int .i64 k] w fun e w' => e = .returned (.bool false) ∧ w = w' := by
  go_enter Tryd.func29, Tryd.ntmps29
  go_wp2
  go_loop [5] (fun i => i = .int .i64 0) (fun _ => 0)
  case atStart => rfl
  case round =>
    subst hrel
    go_wp2
    go_ret
    exact ⟨rfl, rfl⟩

set_option maxHeartbeats 400000 in
theorem has_some (g cap : Nat) (xs : List Nat) (k : Int) (hx : xs.length ≤ 1000000) (w : World) (hc : ∀ (j x : Nat), xs[j]? = some x → w.cell? ⟨g, j, none⟩ = some (.int .i64 (x : Int))) :
    Calls Tryd.prog 29 #[.slice (some ⟨g, 0, none⟩) xs.length cap, .int .i64 k] w fun e w' => e = .returned (.bool (decide (∃ x ∈ xs, (x : Int) = k))) ∧ w = w' := by
  have Hc := Lib.hid hc
  clear hc
  go_enter Tryd.func29, Tryd.ntmps29
  go_wp2
  go_loop [5] (fun i => ∃ n : Nat, n ≤ xs.length ∧ i = .int .i64 n ∧ Hid (∀ x ∈ xs.take n, (x : Int) ≠ k)) (fun i => xs.length - (intOf i).toNat)
  case atStart => exact ⟨0, Nat.zero_le _, rfl, fun x hx => by simp at hx⟩
  case round =>
    obtain ⟨n, hn, rfl, hno⟩ := hrel
    by_cases hlt : n < xs.length
    · obtain ⟨x, hx⟩ : ∃ x, xs[n]? = some x := ⟨_, List.getElem?_eq_getElem hlt⟩
      have hcx := Hc.out n x hx
      have Hx := Lib.hid hx
      clear hx
      by_cases hk : (x : Int) = k
      · have hkb : ((x : Int) == k) = true := by simpa using hk
        have Hk := Lib.hid hk
        clear hk
        go_wp2
        go_ret
        exact ⟨ret_bool (by rw [eq_comm, decide_eq_true_iff]; exact ⟨x, List.mem_of_getElem? Hx.out, Hk.out⟩), rfl⟩
      · have hkb : ((x : Int) == k) = false := by simpa using hk
        have Hk := Lib.hid hk
        clear hk
        go_wp2
        go_round
        case rel => exact ⟨n + 1, by omega, by go_num, fun y hy => by
          rw [List.take_add_one, Hx.out] at hy
          rcases List.mem_append.1 hy with h | h
          · exact hno y h
          · simp at h; subst h; exact Hk.out⟩
        case measure => simp [intOf]; omega
    · go_wp2
      go_ret
      have hno' := hno
      refine ⟨ret_bool ?_, rfl⟩
      rw [eq_comm, decide_eq_false_iff_not]
      rintro ⟨x, hx, e⟩
      exact hno' x (by rw [List.take_of_length_le (by omega)]; exact hx) e

theorem has_any (v : Value) (xs : List Nat) (k : Int) (hx : xs.length ≤ 1000000) (w : World) (h : IntsAt w v xs) :
    Calls Tryd.prog 29 #[v, .int .i64 k] w fun e w' => e = .returned (.bool (decide (∃ x ∈ xs, (x : Int) = k))) ∧ w = w' := by
  by_cases hn : xs = []
  · subst hn
    obtain ⟨a, cap, rfl⟩ := h.nil
    have e : decide (∃ x ∈ ([] : List Nat), (x : Int) = k) = false := by simp
    rw [e]
    exact has_nil a cap k w
  · obtain ⟨g, cap, rfl, hc⟩ := h.block hn
    exact has_some g cap xs k hx w hc

set_option maxHeartbeats 400000 in
theorem rhas_nil (a : Option Addr) (cap : Nat) (k : Int) (w : World) :
    Calls Tryd.prog 30 #[.slice a 0 cap, .int .i64 k] w fun e w' => e = .returned (.bool false) ∧ w = w' := by
  go_enter Tryd.func30, Tryd.ntmps30
  go_wp2
  go_loop [5] (fun i => i = .int .i64 0) (fun _ => 0)
  case atStart => rfl
  case round =>
    subst hrel
    go_wp2
    go_ret
    exact ⟨rfl, rfl⟩

set_option maxHeartbeats 400000 in
theorem rhas_some (g cap : Nat) (xs : List Nat) (k : Int) (hx : xs.length ≤ 1000000) (w : World) (hc : ∀ (j x : Nat), xs[j]? = some x → w.cell? ⟨g, j, none⟩ = some (.int .i64 (x : Int))) :
    Calls Tryd.prog 30 #[.slice (some ⟨g, 0, none⟩) xs.length cap, .int .i64 k] w fun e w' => e = .returned (.bool (decide (∃ x ∈ xs, (x : Int) = k))) ∧ w = w' := by
  have Hc := Lib.hid hc
  clear hc
  go_enter Tryd.func30, Tryd.ntmps30
  go_wp2
  go_loop [5] (fun i => ∃ n : Nat, n ≤ xs.length ∧ i = .int .i64 n ∧ Hid (∀ x ∈ xs.take n, (x : Int) ≠ k)) (fun i => xs.length - (intOf i).toNat)
  case atStart => exact ⟨0, Nat.zero_le _, rfl, fun x hx => by simp at hx⟩
  case round =>
    obtain ⟨n, hn, rfl, hno⟩ := hrel
    by_cases hlt : n < xs.length
    · obtain ⟨x, hx⟩ : ∃ x, xs[n]? = some x := ⟨_, List.getElem?_eq_getElem hlt⟩
      have hcx := Hc.out n x hx
      have Hx := Lib.hid hx
      clear hx
      by_cases hk : (x : Int) = k
      · have hkb : ((x : Int) == k) = true := by simpa using hk
        have Hk := Lib.hid hk
        clear hk
        go_wp2
        go_ret
        exact ⟨ret_bool (by rw [eq_comm, decide_eq_true_iff]; exact ⟨x, List.mem_of_getElem? Hx.out, Hk.out⟩), rfl⟩
      · have hkb : ((x : Int) == k) = false := by simpa using hk
        have Hk := Lib.hid hk
        clear hk
        go_wp2
        go_round
        case rel => exact ⟨n + 1, by omega, by go_num, fun y hy => by
          rw [List.take_add_one, Hx.out] at hy
          rcases List.mem_append.1 hy with h | h
          · exact hno y h
          · simp at h; subst h; exact Hk.out⟩
        case measure => simp [intOf]; omega
    · go_wp2
      go_ret
      have hno' := hno
      refine ⟨ret_bool ?_, rfl⟩
      rw [eq_comm, decide_eq_false_iff_not]
      rintro ⟨x, hx, e⟩
      exact hno' x (by rw [List.take_of_length_le (by omega)]; exact hx) e

theorem rhas_any (v : Value) (xs : List Nat) (k : Int) (hx : xs.length ≤ 1000000) (w : World) (h : IntsAt w v xs) :
    Calls Tryd.prog 30 #[v, .int .i64 k] w fun e w' => e = .returned (.bool (decide (∃ x ∈ xs, (x : Int) = k))) ∧ w = w' := by
  by_cases hn : xs = []
  · subst hn
    obtain ⟨a, cap, rfl⟩ := h.nil
    have e : decide (∃ x ∈ ([] : List Nat), (x : Int) = k) = false := by simp
    rw [e]
    exact rhas_nil a cap k w
  · obtain ⟨g, cap, rfl, hc⟩ := h.block hn
    exact rhas_some g cap xs k hx w hc
end Go.Proofs.YtkmbllnnaljepaaDoor
