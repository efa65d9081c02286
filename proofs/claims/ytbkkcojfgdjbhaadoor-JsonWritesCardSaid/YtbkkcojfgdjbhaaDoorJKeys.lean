/- Which keys may be. -/
import Derived.Test.YtbkkcojfgdjbhaaDoorJFit
namespace Go.Proofs.YtbkkcojfgdjbhaaDoor
open Go.ChangeShapes Go.WideShapes Go.RowKit

/-- Each is a text, and none is one of the earlier ones. -/
def kyN : List Bs → List Bs → Bool
  | _, [] => true
  | done, k :: r => textOk k && !done.contains k && kyN (done ++ [k]) r
theorem StrsAt.cut {P : Nat → Prop} {w : World} {g o c : Nat} {ss : List Bs} (hp : P g) (hlt : g < w.heap.size) (hc : ∀ (j : Nat) s, ss[j]? = some s → w.cell? ⟨g, o + j, none⟩ = some (.string ⟨s.toArray⟩)) (k : Nat) (hk : k ≤ ss.length) (hle : ss.length ≤ c) : StrsAt P w (.slice (some ⟨g, o, none⟩) k c) (ss.take k) := by
  have hl : (ss.take k).length = k := by rw [List.length_take]; omega
  refine .inr ⟨g, o, c, by rw [hl], by omega, hp, hlt, fun j s hs => hc j s ?_⟩
  have hj : j < k := by have := (List.getElem?_eq_some_iff.1 hs).1; omega
  rw [List.getElem?_take_of_lt hj] at hs
  exact hs
set_option maxHeartbeats 1600000 in
set_option maxRecDepth 100000 in
theorem fitKeys_any (P : Nat → Prop) (kv : Value) (keys : List Bs) (w : World) (hE : Env w) (h : StrsAt P w kv keys) (hkl : keys.length ≤ 1000000) (hlen : ∀ s ∈ keys, s.length ≤ 9223372036854775807) :
    Calls Tryd.prog 43 #[kv] w fun e w' => e = .returned (.bool (kyN [] keys)) ∧ Below w.heap.size w w' := by
  rcases h with ⟨rfl, a, c, rfl⟩ | ⟨g, o, c, rfl, hle, hp, hlt, hc⟩
  · go_enter Tryd.func43, Tryd.ntmps43
    go_upto_region 2 with fail
    go_loopw [7] (fun i wr => i = .int .i64 0 ∧ wr = w) (fun _ _ => 0)
    case atStart => exact ⟨rfl, rfl⟩
    case round =>
      obtain ⟨rfl, rfl⟩ := hrel
      go_wp2_with fail
      go_ret
      exact ⟨rfl, Below.refl _ _⟩
  · go_enter Tryd.func43, Tryd.ntmps43
    go_upto_region 2 with fail
    have HC : Unit → ∀ (j : Nat) s, keys[j]? = some s → w.cell? ⟨g, o + j, none⟩ = some (.string ⟨s.toArray⟩) := fun _ => hc
    clear hc
    go_loopw [7] (fun i wr => ∃ k : Nat, k ≤ keys.length ∧ i = .int .i64 (k : Int) ∧ Hid (kyN [] keys = kyN (keys.take k) (keys.drop k)) ∧ Below w.heap.size w wr) (fun i _ => keys.length - (intOf i).toNat)
    case atStart => exact ⟨0, by omega, rfl, by simp [Hid], Below.refl _ _⟩
    case round =>
      obtain ⟨k, hk, rfl, hky, hB⟩ := hrel
      by_cases hlt2 : k < keys.length
      · obtain ⟨s, hs⟩ : ∃ s, keys[k]? = some s := ⟨_, List.getElem?_eq_getElem hlt2⟩
        have cs := HC () k s hs
        have hcw : ∀ {j : Nat} {s : Bs}, keys[j]? = some s → wr.cell? ⟨g, o + j, none⟩ = some (.string ⟨s.toArray⟩) := fun {j s} h => by rw [hB.cell hlt]; exact HC () j s h
        replace cs := hcw hs
        have hdrop : keys.drop k = s :: keys.drop (k + 1) := by rw [List.drop_eq_getElem_cons hlt2]; congr 1; exact (List.getElem?_eq_some_iff.1 hs).2
        have htake : keys.take (k + 1) = keys.take k ++ [s] := by rw [List.take_add_one, hs]; rfl
        have Hky : Unit → kyN [] keys = (textOk s && !(keys.take k).contains s && kyN (keys.take (k + 1)) (keys.drop (k + 1))) := fun _ => by rw [hky.out, hdrop, kyN, htake]
        have hki : (k : Int) < (keys.length : Int) := by omega
        have hsl := hlen s (List.mem_of_getElem? hs)
        have K1 := Lib.hid (fitsText_any s wr (hE.keep (hB.mono hE.big)) hsl)
        have hglt : g < wr.heap.size := Nat.lt_of_lt_of_le hlt hB.size
        have K2 : Hid (∀ w2, Below wr.heap.size wr w2 → Calls Tryd.prog 61 #[.slice (some ⟨g, o, none⟩) k c, .string ⟨s.toArray⟩] w2 fun e w' => e = .returned (.bool ((keys.take k).contains s)) ∧ w' = w2) := fun w2 h2 =>
          contains_any P _ (keys.take k) s w2 (StrsAt.cut hp (Nat.lt_of_lt_of_le hglt h2.size) (fun j s' hj => by rw [h2.cell hglt]; exact hcw hj) k hk hle) (by rw [List.length_take]; omega)
        clear hky hdrop htake hcw hs
        have hkc : (k : Int) ≤ (c : Int) := by omega
        generalize (⟨s.toArray⟩ : ByteArray) = X at *
        generalize (keys.take k).contains s = ct at *
        cases hto : textOk s with
        | false =>
          rw [hto] at K1 Hky
          go_wp2_with fail
          refine K1.out.mono ?_
          rintro e w5 ⟨rfl, hb5⟩
          clear K1 K2
          go_wp2_with fail
          go_ret
          exact ⟨by rw [Hky ()]; rfl, hB.trans (hb5.mono hB.size)⟩
        | true =>
          rw [hto] at K1 Hky
          cases ct with
          | true =>
            go_wp2_with fail
            refine K1.out.mono ?_
            rintro e w5 ⟨rfl, hb5⟩
            have K3 := Lib.hid (K2.out w5 hb5)
            clear K1 K2
            go_wp2_with fail
            refine K3.out.mono ?_
            rintro e w6 ⟨rfl, rfl⟩
            clear K3
            go_wp2_with fail
            go_ret
            exact ⟨by rw [Hky ()]; rfl, hB.trans (hb5.mono hB.size)⟩
          | false =>
            go_wp2_with fail
            refine K1.out.mono ?_
            rintro e w5 ⟨rfl, hb5⟩
            have K3 := Lib.hid (K2.out w5 hb5)
            clear K1 K2
            go_wp2_with fail
            refine K3.out.mono ?_
            rintro e w6 ⟨rfl, rfl⟩
            clear K3
            have hB6 := hB.trans (hb5.mono hB.size)
            go_wp2_with fail
            go_roundw
            case rel => exact ⟨k + 1, by omega, by go_num, by rw [Hky ()]; simp [Hid], hB6⟩
            case measure => simp [intOf]; omega
      · obtain rfl : k = keys.length := by omega
        have Hky : Unit → kyN [] keys = true := fun _ => by rw [hky.out, List.drop_eq_nil_of_le (Nat.le_refl _)]; rfl
        clear hky
        go_wp2_with fail
        go_ret
        exact ⟨by rw [Hky ()]; rfl, hB⟩
end Go.Proofs.YtbkkcojfgdjbhaaDoor
