/- The first primes: the document's own way. -/
import Derived.Test.YtlhgpnkhfahlbaaDoorWRoot
import Derived.Test.YtlhgpnkhfahlbaaDoorRBytes
namespace Go.Proofs.YtlhgpnkhfahlbaaDoor
open Go.ChangeShapes Go.WideShapes Go.RowKit

def primeL : List Nat := [2, 3, 5, 7, 11, 13, 17, 19, 23, 29, 31, 37, 41, 43, 47, 53, 59, 61, 67, 71, 73, 79, 83, 89, 97, 101, 103, 107, 109, 113, 127, 131, 137, 139, 149, 151, 157, 163, 167, 173, 179, 181, 191, 193, 197, 199, 211, 223, 227, 229, 233, 239, 241, 251, 257, 263, 269, 271, 277, 281, 283, 293, 307, 311]
theorem prN_all : prN 312 = primeL := by decide +kernel
theorem prN_near : (prN 311).length = 63 := by decide +kernel
theorem prN_mono (n : Nat) : (prN n).length ≤ (prN (n + 1)).length := by
  rw [prN]; split
  · simp
  · exact Nat.le_refl _
theorem prN_le {n m : Nat} (h : n ≤ m) : (prN n).length ≤ (prN m).length := by
  induction h with
  | refl => exact Nat.le_refl _
  | step _ ih => exact Nat.le_trans ih (prN_mono _)
theorem prN_two (n : Nat) : ∀ q ∈ prN n, 2 ≤ q ∧ q < n := by
  induction n with
  | zero => simp [prN]
  | succ n ih =>
    rw [prN]
    split
    · rename_i h
      intro q hq
      rcases List.mem_append.1 hq with hq | hq
      · have := ih q hq; omega
      · simp at hq; subst hq; omega
    · intro q hq
      have := ih q hq; omega
def pal (n : Nat) (xs : List Nat) (i : Nat) : Bool := (xs.take i).all (fun q => n % q != 0)
theorem pal_succ {n : Nat} {xs : List Nat} {i q : Nat} (h : xs[i]? = some q) : pal n xs (i + 1) = (pal n xs i && (n % q != 0)) := by
  unfold pal
  rw [List.take_add_one, h, List.all_append]
  simp
theorem pal_all (n : Nat) (xs : List Nat) : pal n xs xs.length = xs.all (fun q => n % q != 0) := by unfold pal; rw [List.take_length]
theorem prN_step {n : Nat} (h : 2 ≤ n) : prN (n + 1) = if pal n (prN n) (prN n).length then prN n ++ [n] else prN n := by
  rw [prN, pal_all]
  by_cases hb : ((prN n).all fun q => n % q != 0) = true
  · rw [if_pos ⟨h, hb⟩, if_pos hb]
  · rw [if_neg (fun e => hb e.2), if_neg hb]
theorem own_cls {w : World} {base : Nat} {v : Value} {xs : List Nat} (h : w.ownsRow base 40 1 v xs.length (xs.map v64)) : (v = .slice none 0 0 ∧ xs = []) ∨ ∃ g cap, v = .slice (some ⟨g, 0, none⟩) xs.length cap ∧ Cls w g 0 (xs.map v64) ∧ base ≤ g := by
  have hc := h
  rcases h.2 with ⟨rfl, h0⟩ | ⟨g, cap, cur, rfl, hb, hg, hn, _⟩
  · exact .inl ⟨rfl, List.eq_nil_of_length_eq_zero h0⟩
  · refine .inr ⟨g, cap, rfl, fun j u hu => ?_, hb⟩
    have h1 := hc.cells (g := g) rfl j u hu
    rw [add_off] at h1
    rw [Nat.zero_add]; exact h1

set_option maxHeartbeats 1600000 in
theorem primes_any (w : World) :
    Calls Tryd.prog 21 #[] w fun e w' => (∃ g cap, e = .returned (.slice (some ⟨g, 0, none⟩) 64 cap) ∧ Cls w' g 0 (primeL.map v64)) ∧ Below w.heap.size w w' := by
  obtain ⟨i0, hi, hz0, hz1, hz2⟩ := info_parts info_u64
  go_enter Tryd.func21, Tryd.ntmps21
  go_upto_region 3 with fail
  go_loopw [1, 2] (fun v n wr => ∃ k : Nat, 2 ≤ k ∧ k ≤ 312 ∧ n = .int .u64 (k : Int) ∧ wr.ownsRow w.heap.size 40 1 v (prN k).length ((prN k).map v64) ∧ Below w.heap.size w wr) (fun _ n _ => 312 - (intOf n).toNat)
  case atStart => exact ⟨2, by omega, by omega, rfl, World.ownsRow_nil _ _ _ _, Below.refl _ _⟩
  case round =>
    obtain ⟨k, hk2, hk, rfl, hown, hB⟩ := hrel
    by_cases hlt : k < 312
    · have hl63 : (prN k).length ≤ 63 := by
        have h1 := prN_near
        have h2 := prN_le (show k ≤ 311 by omega)
        omega
      have Hst : Unit → prN (k + 1) = _ := fun _ => prN_step hk2
      have Htwo : Unit → ∀ q ∈ prN k, 2 ≤ q ∧ q < k := fun _ => prN_two k
      generalize prN k = xs at *
      have hlen : (xs.length : Int) < 64 := by omega
      obtain ⟨ca, hv⟩ : ∃ ca : Option Addr × Nat, u1 = .slice ca.1 xs.length ca.2 ∧ ∀ (j q : Nat), xs[j]? = some q → ∃ g, ca.1 = some ⟨g, 0, none⟩ ∧ wr.cell? ⟨g, j, none⟩ = some (.int .u64 (q : Int)) := by
        rcases own_cls hown with ⟨rfl, rfl⟩ | ⟨g, cap, rfl, hc, _⟩
        · exact ⟨(none, 0), rfl, fun j q h => by simp at h⟩
        · refine ⟨(some ⟨g, 0, none⟩, cap), rfl, fun j q h => ⟨g, rfl, ?_⟩⟩
          have := hc j _ (at64 h)
          rw [Nat.zero_add] at this; exact this
      obtain ⟨aa, cap⟩ := ca
      obtain ⟨rfl, hcell⟩ := hv
      have Hcell : Unit → ∀ (j q : Nat), xs[j]? = some q → ∃ g, aa = some ⟨g, 0, none⟩ ∧ wr.cell? ⟨g, j, none⟩ = some (.int .u64 (q : Int)) := fun _ => hcell
      clear hcell
      go_upto_region 7 with fail
      generalize wr = wo at *
      try simp only [show ((xs.length : Int) < 64) = True from eq_true hlen, decide_true]
      go_loopw [3, 4] (fun b i wr => ∃ j : Nat, j ≤ xs.length ∧ b = .bool (pal k xs j) ∧ i = .int .i64 (j : Int) ∧ wr = wo) (fun _ i _ => xs.length - (intOf i).toNat)
      case atStart => exact ⟨0, by omega, rfl, rfl, rfl⟩
      case round =>
        obtain ⟨j, hj, rfl, rfl, rfl⟩ := hrel
        by_cases hlt2 : j < xs.length
        · obtain ⟨q, hq⟩ : ∃ q, xs[j]? = some q := ⟨_, List.getElem?_eq_getElem hlt2⟩
          obtain ⟨g, rfl, hc⟩ := Hcell () j q hq
          have hq2 := Htwo () q (List.mem_of_getElem? hq)
          have hji : (j : Int) < (xs.length : Int) := by omega
          have Hs : Unit → pal k xs (j + 1) = _ := fun _ => pal_succ hq
          obtain ⟨r, hr⟩ : ∃ r, r = k % q := ⟨_, rfl⟩
          have hr1 : (k : Int) % (q : Int) = (r : Int) := by rw [hr]; rfl
          have hr2 : (k : Int).tmod (q : Int) = (r : Int) := by rw [hr]; rfl
          have hrl : r < q := by rw [hr]; exact Nat.mod_lt _ (by omega)
          rw [← hr] at Hs
          have hqn : ¬ (q : Int) = 0 := by omega
          have hqb : ((q : Int) == 0) = false := by rw [beq_eq_false_iff_ne]; omega
          have hwr : IntKind.u64.wrap (r : Int) = (r : Int) := by simp [IntKind.wrap, IntKind.bits, IntKind.signed]; omega
          clear hr hq
          cases hp : pal k xs j with
          | true =>
            rw [hp] at Hs
            clear hp
            have hne : (r : Int) = 0 ↔ r = 0 := by omega
            go_wp2_with fail
            all_goals
              go_roundw
              case rel => exact ⟨j + 1, by omega, by rw [Hs ()]; simp; rw [Bool.eq_iff_iff]; simp, by go_num, trivial⟩
              case measure => simp [intOf]; omega
          | false =>
            rw [hp] at Hs
            clear hp
            go_wp2_with fail
            go_roundw
            case rel => exact ⟨j + 1, by omega, by rw [Hs ()]; rfl, by go_num, trivial⟩
            case measure => simp [intOf]; omega
        · obtain rfl : j = xs.length := by omega
          have hms : (xs ++ [k]).length = xs.length + 1 := by simp
          cases hp : pal k xs xs.length with
          | false =>
            rw [hp, if_neg (by simp)] at Hst
            clear hp
            go_wp2_with fail
            go_roundw
            case rel => exact ⟨k + 1, by omega, by omega, by go_num, by rw [Hst ()]; exact hown, hB⟩
            case measure => simp [intOf]; omega
          | true =>
            rw [hp, if_pos rfl] at Hst
            clear hp
            go_upto_region 11 with fail
            go_wp2_with (at_builtin; refine wpList_append_own _ rfl _ _ 43 rfl w.heap.size 40 i0 (.int .u64 0) 1 8 Tryd.underlying43 hi hz0 hz1 hz2 rfl (by decide) _ _ _ rfl (World.ownsRow.alloc hown _) ⟨wr.heap.size, 0, none⟩ 1 1 [.int .u64 (k : Int)] rfl rfl ?c1 ?c2 ?c3 ?c4 ?c5 ?_)
            case c1 =>
              intro j u hj
              match j, hj with
              | 0, hj => simp at hj; subst hj; exact (World.cell?_alloc_at _ _ _ _ rfl).trans rfl
            case c2 => intro u hu; simp at hu; subst hu; rfl
            case c3 => unfold maxLen; omega
            case c4 => omega
            case c5 => have := hB.size; simp; omega
            intro v' w6 hown' hgrow _
            have hown2 : w6.ownsRow w.heap.size 40 1 v' (xs ++ [k]).length ((xs ++ [k]).map v64) := by rw [hms, List.map_append]; exact hown'
            have hlt4 := hown.lt
            have hB6 := (hB.alloc hB.size (.cells #[.int .u64 (k : Int)] 40)).grown hgrow (by simp; have := hB.size; omega) (fun j e => (hlt4 j e).1)
            clear hown hown' hgrow hB
            go_wp2_with fail
            go_roundw
            case rel => exact ⟨k + 1, by omega, by omega, by go_num, by rw [Hst ()]; exact hown2, hB6⟩
            case measure => simp [intOf]; omega
    · obtain rfl : k = 312 := by omega
      rw [prN_all] at hown
      rcases own_cls hown with ⟨_, e⟩ | ⟨g, cap, rfl, hc, _⟩
      · cases e
      · have hll : primeL.length = 64 := rfl
        rw [hll] at hown ⊢
        clear hown
        have Hc : Unit → Cls wr g 0 (primeL.map v64) := fun _ => hc
        clear hc
        go_wp2_with fail
        go_ret
        exact ⟨⟨g, cap, rfl, Hc ()⟩, hB⟩
end Go.Proofs.YtlhgpnkhfahlbaaDoor
