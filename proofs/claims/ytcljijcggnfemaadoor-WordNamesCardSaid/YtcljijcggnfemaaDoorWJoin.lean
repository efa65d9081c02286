/- Words that are joined: the walk. -/
import Derived.Test.YtcljijcggnfemaaDoorWNum
import Derived.Test.YtcljijcggnfemaaDoorShelf
namespace Go.Proofs.YtcljijcggnfemaaDoor
open Go.ChangeShapes Go.WideShapes Go.RowKit

theorem Below.of_drewN (B : Nat) (w : World) (q : Nat) : Below B w (w.drewN q) := ⟨rfl, rfl, rfl, Nat.le_refl _, fun _ _ => rfl⟩
theorem StrsAt.stay {P : Nat → Prop} {w w' : World} {v : Value} {ss : List Bs} (h : StrsAt P w v ss) (k : Below w.heap.size w w') : StrsAt P w' v ss := h.keepN (S := fun _ => False) (Asd.of_below k) (fun _ _ _ e => e)
def ba (s : Bs) : ByteArray := ⟨s.toArray⟩
theorem ba_data (ss : List Bs) : (ss.map ba).map (·.data.toList) = ss := by
  rw [List.map_map]
  exact (List.map_congr_left (g := id) (fun s _ => rfl)).trans (List.map_id _)
theorem ba_inj (a b : List Bs) : (a.map ba = b.map ba) ↔ a = b := by
  constructor
  · intro h
    rw [← ba_data a, ← ba_data b, h]
  · intro h; rw [h]
/-- The line of the words. -/
def joinL (sep : Bs) (ss : List Bs) : Bs := Lib.join ss sep
def joinN (ss : List Bs) : Option Bs := if splitN (joinL [32] ss) = some ss then some (joinL [32] ss) else none
def joinT (o : Option Bs) : Value := match o with
  | some s => .tuple #[.string ⟨s.toArray⟩, .int .i64 0]
  | none => .tuple #[.string ⟨#[]⟩, .int .i64 1]
theorem join_call (P : Nat → Prop) (v : Value) (sep : Bs) (ss : List Bs) (w : World) (h : StrsAt P w v ss) (hn : ss.length ≤ 1000000) (hl : (joinL sep ss).length ≤ 1000000) :
    Calls Tryd.prog 23 #[v, .string ⟨sep.toArray⟩] w fun e w' => e = .returned (.string ⟨(joinL sep ss).toArray⟩) ∧ Below w.heap.size w w' := by
  rcases h with ⟨rfl, a, c, rfl⟩ | ⟨g, o, c, rfl, hle, _, hg, hc⟩
  · exact (Tryd.strings_Join_none a c _ w).mono fun e w' ⟨h1, h2⟩ => ⟨h1, h2 ▸ Below.refl _ _⟩
  · have := Tryd.strings_Join g o c (ss.map ba) ⟨sep.toArray⟩ w (fun j x hx => by
      simp at hx
      obtain ⟨s, hs, rfl⟩ := hx
      exact hc j s hs) hg (by simp; omega) (by simpa using hle) (by rw [ba_data]; exact Nat.le_trans hl (by decide))
    rw [ba_data, List.length_map] at this
    exact this
theorem equal_call (P P' : Nat → Prop) (v v' : Value) (ss ss' : List Bs) (w : World) (h : StrsAt P w v ss) (h' : StrsAt P' w v' ss') (hl : ss.length ≤ 1000000) (hl' : ss'.length ≤ 1000000) (hz : ss' = [] → ss = []) :
    Calls Tryd.prog 24 #[v, v'] w fun e w' => e = .returned (.bool (decide (ss = ss'))) ∧ Below w.heap.size w w' := by
  rcases h with ⟨rfl, a, c, rfl⟩ | ⟨g, o, c, rfl, hle, _, hg, hc⟩
  · have hs : ∃ a' c', v' = .slice a' ss'.length c' := by
      rcases h' with ⟨rfl, a, c, rfl⟩ | ⟨g, o, c, rfl, _⟩
      · exact ⟨a, c, rfl⟩
      · exact ⟨_, _, rfl⟩
    obtain ⟨a', c', rfl⟩ := hs
    refine (Tryd.slices_Equal_string_empty a a' c ss'.length c' w (by omega)).mono fun e w' ⟨h1, h2⟩ => ⟨?_, h2 ▸ Below.refl _ _⟩
    rw [h1]
    congr 3
    rw [List.length_eq_zero_iff]
    exact propext eq_comm
  · rcases h' with ⟨rfl, a', c', rfl⟩ | ⟨g', o', c', rfl, hle', _, hg', hc'⟩
    · obtain rfl := hz rfl
      refine (Tryd.slices_Equal_string_empty _ a' c 0 c' w (by omega)).mono fun e w' ⟨h1, h2⟩ => ⟨?_, h2 ▸ Below.refl _ _⟩
      rw [h1]; rfl
    · refine (Tryd.slices_Equal_string g o ss.length c g' o' ss'.length c' (ss.map ba) (ss'.map ba) w (by simp) (by simp) (by omega) (by omega) (fun j hj => ?_) (fun j hj => ?_)).mono fun e w' ⟨h1, q, h2⟩ => ⟨?_, h2 ▸ Below.of_drewN _ _ _⟩
      · have hj' : j < ss.length := by simpa using hj
        rw [hc j _ (List.getElem?_eq_getElem hj')]
        simp [hj', ba]
      · have hj' : j < ss'.length := by simpa using hj
        rw [hc' j _ (List.getElem?_eq_getElem hj')]
        simp [hj', ba]
      · rw [h1, List.take_of_length_le (by simp), List.take_of_length_le (by simp)]
        congr 3
        exact propext (ba_inj ss ss')
theorem split_len {l : Bs} {ss : List Bs} (h : splitN l = some ss) : ss.length ≤ l.length + 1 := by
  have h1 := step_size (l.foldl stepN St.zero) 32
  have h2 := fold_size l St.zero
  have h3 : St.zero.size = 0 := rfl
  unfold splitN at h
  split at h
  · injection h with h
    rw [← h]
    unfold St.size at *
    omega
  · cases h
theorem split_nil : splitN [] = some [] := by decide
set_option maxHeartbeats 3200000 in
theorem join_any (P : Nat → Prop) (v : Value) (ss : List Bs) (w : World) (h : StrsAt P w v ss) (hn : ss.length ≤ 400000) (hl : (joinL [32] ss).length ≤ 400000) :
    Calls Tryd.prog 13 #[v] w fun e w' => e = .returned (joinT (joinN ss)) ∧ Below w.heap.size w w' := by
  have K := Lib.hid (join_call P v [32] ss w h (by omega) (by omega))
  have H : Unit → joinN ss = if splitN (joinL [32] ss) = some ss then some (joinL [32] ss) else none := fun _ => rfl
  have hz : splitN (joinL [32] ss) = none ∨ ∃ ss', splitN (joinL [32] ss) = some ss' ∧ (ss = [] → ss' = []) := by
    cases hs : splitN (joinL [32] ss) with
    | none => exact .inl rfl
    | some ss' =>
      refine .inr ⟨ss', rfl, fun e => ?_⟩
      rw [e, show joinL [32] [] = [] from rfl, split_nil] at hs
      injection hs with hs; exact hs.symm
  generalize joinN ss = o at *
  go_enter Tryd.func13, Tryd.ntmps13
  go_wp2_with fail
  refine K.out.mono ?_
  rintro e w1 ⟨rfl, hB⟩
  clear K
  have K2 := Lib.hid (split_any (joinL [32] ss) w1 (by omega))
  rcases hz with hz | ⟨ss', hz, hnil⟩
  · rw [hz] at K2 H
    have e := H ()
    rw [if_neg (by simp)] at e
    subst e
    generalize joinL [32] ss = L at *
    go_wp2_with fail
    refine K2.out.mono ?_
    rintro e w2 ⟨rfl, hB2⟩
    clear K2
    go_wp2_with fail
    go_ret2
    exact ⟨rfl, hB.trans (hB2.mono hB.size)⟩
  · have hlen := split_len hz
    rw [hz] at K2 H
    generalize joinL [32] ss = L at *
    go_wp2_with fail
    refine K2.out.mono ?_
    rintro e w2 ⟨⟨v2, rfl, hown⟩, hB2⟩
    clear K2
    have h2 : StrsAt P w2 v ss := (h.stay hB).stay hB2
    have hs2 := own_strs hown
    have K3 := Lib.hid (equal_call _ P v2 v ss' ss w2 hs2 h2 (by omega) (by omega) hnil)
    obtain ⟨a2, c2, rfl, _⟩ := own_slice hown
    have hB3 := hB.trans (hB2.mono hB.size)
    clear hown hs2 h2 hB2 hB
    by_cases he : ss' = ss
    · rw [he] at H
      have e := H ()
      rw [if_pos rfl] at e
      subst e
      rw [decide_eq_true he] at K3
      clear hz hnil hlen
      subst he
      go_wp2_with fail
      refine K3.out.mono ?_
      rintro e w3 ⟨rfl, hB4⟩
      clear K3
      go_wp2_with fail
      go_ret2
      exact ⟨rfl, hB3.trans (hB4.mono hB3.size)⟩
    · have e := H ()
      rw [if_neg (by simpa using he)] at e
      subst e
      rw [decide_eq_false he] at K3
      go_wp2_with fail
      refine K3.out.mono ?_
      rintro e w3 ⟨rfl, hB4⟩
      clear K3
      go_wp2_with fail
      go_ret2
      exact ⟨rfl, hB3.trans (hB4.mono hB3.size)⟩
end Go.Proofs.YtcljijcggnfemaaDoor
