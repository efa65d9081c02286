/- Four digits of sixteen: what the library's ParseUint makes of them. -/
import Derived.Test.YtbkkcojfgdjbhaaDoorJBase
import Derived.Lib.ConvBytes
import Derived.Lib.Hide
import Derived.Laws.Strings3
import Derived.Laws.Closers25
import Derived.Laws.Closers25b
namespace Go.Proofs.YtbkkcojfgdjbhaaDoor
open Go.ChangeShapes Go.WideShapes Go.RowKit

def hexAll : Nat → Bs → Option Nat
  | acc, [] => some acc
  | acc, c :: r => match hexV c with
    | none => none
    | some d => hexAll (acc * 16 + d) r
/-- A letter's small form. -/
def lowV (c : UInt8) : Int := bits .or .u8 (c.toNat : Int) 32
def lowOk (c : UInt8) : Bool := match hexV c with
  | some d => if 48 ≤ c.toNat ∧ c.toNat ≤ 57 then decide (d = c.toNat - 48 ∧ d < 16) else decide (97 ≤ lowV c ∧ lowV c ≤ 102 ∧ (d : Int) = lowV c - 87)
  | none => decide (¬ (48 ≤ c.toNat ∧ c.toNat ≤ 57) ∧ (lowV c < 97 ∨ 102 < lowV c))
theorem low_all : ∀ n : Fin 256, lowOk (UInt8.ofNat n.val) = true := by decide +kernel
theorem low_of (c : UInt8) : lowOk c = true := by
  have h := low_all ⟨c.toNat, c.toNat_lt⟩
  simp only [UInt8.ofNat_toNat] at h
  exact h
theorem low_none {c : UInt8} (h : hexV c = none) : ¬ (48 ≤ c.toNat ∧ c.toNat ≤ 57) ∧ (lowV c < 97 ∨ 102 < lowV c) := by
  have := low_of c
  unfold lowOk at this
  rw [h] at this
  exact of_decide_eq_true this
theorem low_some {c : UInt8} {d : Nat} (h : hexV c = some d) : (48 ≤ c.toNat ∧ c.toNat ≤ 57 ∧ d = c.toNat - 48) ∨ ¬ (48 ≤ c.toNat ∧ c.toNat ≤ 57) ∧ 97 ≤ lowV c ∧ lowV c ≤ 102 ∧ (d : Int) = lowV c - 87 := by
  have := low_of c
  unfold lowOk at this
  rw [h] at this
  simp only at this
  split at this
  · rename_i hd
    exact .inl ⟨hd.1, hd.2, (of_decide_eq_true this).1⟩
  · rename_i hd
    exact .inr ⟨hd, of_decide_eq_true this⟩
theorem lower_any (c : UInt8) (w : World) : Calls Tryd.prog 109 #[.int .u8 (c.toNat : Int)] w fun e w' => e = .returned (.int .u8 (lowV c)) ∧ w' = w := by
  go_enter Tryd.func109, Tryd.ntmps109
  go_wp2
  go_ret
  exact ⟨rfl, rfl⟩
theorem lower_95 (w : World) : Calls Tryd.prog 109 #[.int .u8 95] w fun e w' => e = .returned (.int .u8 127) ∧ w' = w := lower_any 95 w
/-- What ParseUint hands back. -/
def hexT (o : Option Nat) : Value := match o with
  | some v => .tuple #[.int .u64 (v : Int), .nilIface]
  | none => .tuple #[.int .u64 0, .iface 133 (.int .i64 2)]

set_option maxHeartbeats 3200000 in
set_option maxRecDepth 100000 in
theorem parse16 (l : Bs) (hl : l.length = 4) (w : World) :
    Calls Tryd.prog 94 #[.string ⟨l.toArray⟩, .int .i64 16, .int .i64 16] w fun e w' => e = .returned (hexT (hexAll 0 l)) ∧ w' = Lib.bytesWorld w 5 ⟨l.toArray⟩ := by
  obtain ⟨t, ht⟩ : ∃ t : ByteArray, t = ⟨l.toArray⟩ := ⟨_, rfl⟩
  have hsz : t.size = 4 := by rw [ht]; simp [ByteArray.size, hl]
  have hemp : t.toList.isEmpty = false := by rw [ht, text_list]; cases l <;> simp at hl ⊢
  have hcv := Lib.run_convert_string_bytes (P := Tryd.prog) w 9 53 5 t (u := .string) Tryd.underlying9 Tryd.underlying53 Tryd.underlying5
  have hB : ∀ j c, l[j]? = some c → (Lib.bytesWorld w 5 t).cell? ⟨w.heap.size, j, none⟩ = some (.int .u8 (c.toNat : Int)) := fun j c hj => by
    have h1 := Lib.bytesWorld_cell w 5 t j (by rw [hsz, ← hl]; exact (List.getElem?_eq_some_iff.1 hj).1)
    rw [h1, ht]
    simp [List.getD, hj]
  rw [← ht]
  obtain ⟨W1, hW1⟩ : ∃ W1, W1 = Lib.bytesWorld w 5 t := ⟨_, rfl⟩
  rw [← hW1] at hcv hB ⊢
  clear hW1 ht
  have hmv : IntKind.u64.wrap (IntKind.u64.wrap 65536 - 1) = 65535 := by
    rw [IntKind.wrap_u64, IntKind.wrap_u64]
    decide
  have HB : Unit → _ := fun _ => hB
  clear hB
  go_enter Tryd.func94, Tryd.ntmps94
  go_wp2_with fail
  go_loop [12, 13, 101] (fun vu vn vi => ∃ (k acc : Nat), vu = .bool false ∧ vn = .int .u64 (acc : Int) ∧ vi = .int .i64 (k : Int) ∧ k ≤ 4 ∧ Hid (acc < 16 ^ k ∧ hexAll 0 l = hexAll acc (l.drop k))) (fun _ _ vi => 4 - (intOf vi).toNat)
  case atStart => exact ⟨0, 0, rfl, rfl, rfl, by omega, by simp, by simp⟩
  case round =>
    obtain ⟨k, acc, rfl, rfl, rfl, hk, hh⟩ := hrel
    by_cases hkn : k < 4
    · obtain ⟨c, hc⟩ : ∃ c, l[k]? = some c := ⟨_, List.getElem?_eq_getElem (by omega)⟩
      have hcell := HB () k c hc
      have hdrop : l.drop k = c :: l.drop (k + 1) := by rw [List.drop_eq_getElem_cons (by omega)]; congr 1; exact (List.getElem?_eq_some_iff.1 hc).2
      obtain ⟨hacc, hdec⟩ := hh.out
      clear hh
      rw [hdrop] at hdec
      clear hdrop hc
      have hc256 : c.toNat < 256 := c.toNat_lt
      have h16 : 16 ^ k ≤ 4096 := Nat.le_trans (Nat.pow_le_pow_right (by omega) (show k ≤ 3 by omega)) (by decide)
      have hab : acc < 4096 := by omega
      have Klow := Lib.hid (lower_any c)
      cases hv : hexV c with
      | none =>
        obtain ⟨hnd, hlo⟩ := low_none hv
        rw [hexAll, hv] at hdec
        have Hdec : Unit → hexAll 0 l = none := fun _ => hdec
        have hv0 : 0 ≤ lowV c := bits_lo_u8 .or (c.toNat : Int) 32
        have hv1 : lowV c ≤ 255 := bits_hi_u8 .or (c.toNat : Int) 32
        generalize lowV c = lo at *
        generalize c.toNat = cn at *
        clear hdec hv hacc h16
        rcases hlo with hlo | hlo
        · go_wp2_with (first | (with_reducible refine (Klow.out _).mono ?_; rintro e w' ⟨rfl, rfl⟩) | (with_reducible refine (lower_95 _).mono ?_; rintro e w' ⟨rfl, rfl⟩))
          all_goals go_ret2
          all_goals exact ⟨by rw [Hdec ()]; rfl, rfl⟩
        · go_wp2_with (first | (with_reducible refine (Klow.out _).mono ?_; rintro e w' ⟨rfl, rfl⟩) | (with_reducible refine (lower_95 _).mono ?_; rintro e w' ⟨rfl, rfl⟩))
          all_goals go_ret2
          all_goals exact ⟨by rw [Hdec ()]; rfl, rfl⟩
      | some d =>
        rw [hexAll, hv] at hdec
        have Hnx : Unit → Hid (acc * 16 + d < 16 ^ (k + 1) ∧ hexAll 0 l = hexAll (acc * 16 + d) (l.drop (k + 1))) := fun _ => ⟨by
          have hd16 : d < 16 := by rcases low_some hv with h | h <;> omega
          rw [Nat.pow_succ]; omega, hdec⟩
        have a0 : 0 ≤ (acc : Int) := by omega
        have a1 : (acc : Int) ≤ 4095 := by omega
        generalize hA : (acc : Int) = a at *
        have HA : Unit → (acc : Int) = a := fun _ => hA
        clear hA hab
        rcases low_some hv with ⟨h1, h2, h3⟩ | ⟨h1, h2, h3, h4⟩
        · have Hdi : Unit → (d : Int) = (c.toNat : Int) - 48 := fun _ => by omega
          have h95 : ¬ (c.toNat : Int) = 95 := by omega
          have h95' : ((c.toNat : Int) == 95) = false := by rw [beq_eq_false_iff_ne]; omega
          clear hdec hv hacc h16 h3
          generalize c.toNat = cn at *
          go_wp2_with fail
          refine ⟨⟨k + 1, acc * 16 + d, rfl, (by have := Hdi (); have := HA (); congr 1; omega), (by first | rfl | (congr 1; omega)), by omega, Hnx ()⟩, by simp [intOf]; omega⟩
        · have Hdi : Unit → (d : Int) = lowV c - 87 := fun _ => h4
          have h95 : ¬ c.toNat = 95 := fun e => by
            have : c = 95 := UInt8.toNat_inj.1 e
            rw [this] at hv; cases hv
          have h95 : ¬ (c.toNat : Int) = 95 := by omega
          have h95' : ((c.toNat : Int) == 95) = false := by rw [beq_eq_false_iff_ne]; omega
          clear hdec hv hacc h16 h4
          generalize lowV c = lo at *
          generalize c.toNat = cn at *
          go_wp2_with (first | (with_reducible refine (Klow.out _).mono ?_; rintro e w' ⟨rfl, rfl⟩) | (with_reducible refine (lower_95 _).mono ?_; rintro e w' ⟨rfl, rfl⟩))
          all_goals first
            | exact ⟨⟨k + 1, acc * 16 + d, rfl, (by have := Hdi (); have := HA (); congr 1; omega), (by first | rfl | (congr 1; omega)), by omega, Hnx ()⟩, by simp [intOf]; omega⟩
            | (exfalso; omega)
            | trace_state
    · obtain rfl : k = 4 := by omega
      obtain ⟨hacc, hdec⟩ := hh.out
      rw [List.drop_eq_nil_of_le (by omega)] at hdec
      have Hdec : Unit → hexAll 0 l = some acc := fun _ => hdec
      clear hacc hdec hh
      go_wp2_with fail
      go_ret2
      exact ⟨by rw [Hdec ()]; rfl, rfl⟩
end Go.Proofs.YtbkkcojfgdjbhaaDoor
