/- A line's words: the walk. -/
import Derived.Test.YtcljijcggnfemaaDoorWRecv
namespace Go.Proofs.YtcljijcggnfemaaDoor
open Go.ChangeShapes Go.WideShapes Go.RowKit

/-- The line up to a byte. -/
def upN (l : Bs) (k : Nat) : St := (l.take k).foldl stepN St.zero
theorem up_succ (l : Bs) (k : Nat) (c : UInt8) (h : l[k]? = some c) : upN l (k + 1) = stepN (upN l k) c := by
  unfold upN
  rw [List.take_add_one, h, List.foldl_append]; rfl
theorem up_all (l : Bs) : upN l l.length = l.foldl stepN St.zero := by unfold upN; rw [List.take_length]
theorem fold_pl (l : Bs) (s : St) (h : s.pl ≤ 5) : (l.foldl stepN s).pl ≤ 5 := by
  induction l generalizing s with
  | nil => exact h
  | cons c l ih => exact ih _ (by rw [step_pl]; exact next_le _ _)
theorem up_pl (l : Bs) (k : Nat) : (upN l k).pl ≤ 5 := fold_pl _ _ (by decide)
theorem up_size (l : Bs) (k : Nat) : (upN l k).size ≤ l.length := by
  have := fold_size (l.take k) St.zero
  have h0 : St.zero.size = 0 := rfl
  have h1 : (l.take k).length ≤ l.length := by rw [List.length_take]; omega
  unfold upN; omega
/-- What Split hands back. -/
def SplitP (w : World) (o : Option (List Bs)) (e : Ending) (w' : World) : Prop :=
  (match o with
    | none => e = .returned (.tuple #[.slice none 0 0, .int .i64 2])
    | some ss => ∃ v, e = .returned (.tuple #[v, .int .i64 0]) ∧ w'.ownsRow w.heap.size 9 1 v ss.length (ss.map sv)) ∧ Below w.heap.size w w'
theorem Sp.start (w : World) : Sp w.heap.size St.zero (.slice none 0 0) (.slice none 0 0) (((w.alloc (.cells #[.slice none 0 0] 22)).alloc (.cells #[.slice none 0 0] 46)).alloc (.cells #[.int .i64 0] 47)) := by
  have a0 := Rw.new w 22 [.slice none 0 0]
  have a1 := Rw.new (w.alloc (.cells #[.slice none 0 0] 22)) 46 [.slice none 0 0]
  have a2 := Rw.new ((w.alloc (.cells #[.slice none 0 0] 22)).alloc (.cells #[.slice none 0 0] 46)) 47 [.int .i64 0]
  have s1 : (w.alloc (.cells #[.slice none 0 0] 22)).heap.size = w.heap.size + 1 := by simp
  have s2 : ((w.alloc (.cells #[.slice none 0 0] 22)).alloc (.cells #[.slice none 0 0] 46)).heap.size = w.heap.size + 2 := by simp
  rw [s1] at a1
  rw [s2] at a2
  have b0 := (Rw.stay a0 ((Below.refl _ _).alloc (Nat.le_refl _) (.cells #[.slice none 0 0] 46))).stay ((Below.refl _ _).alloc (Nat.le_refl _) (.cells #[.int .i64 0] 47))
  have b1 := Rw.stay a1 ((Below.refl _ _).alloc (Nat.le_refl _) (.cells #[.int .i64 0] 47))
  exact ⟨a2, b1, b0, World.ownsRow_nil _ _ _ _, World.ownsRow_nil _ _ _ _⟩
theorem own_base {w : World} {b b' : Nat} {e : TypeId} {s n : Nat} {v : Value} {xs : List Value} (h : w.ownsRow b e s v n xs) (hb : b' ≤ b) : w.ownsRow b' e s v n xs := by
  refine ⟨h.1, ?_⟩
  rcases h.2 with h2 | ⟨g, cap, cur, e1, h3, h4⟩
  · exact .inl h2
  · exact .inr ⟨g, cap, cur, e1, Nat.le_trans hb h3, h4⟩
set_option maxHeartbeats 6400000 in
set_option maxRecDepth 100000 in
theorem split_any (l : Bs) (w : World) (hl : l.length ≤ 500000) : Calls Tryd.prog 18 #[.string ⟨l.toArray⟩] w (SplitP w (splitN l)) := by
  have H : Unit → splitN l = if (stepN (upN l l.length) 32).pl = 0 ∨ (stepN (upN l l.length) 32).pl = 4 then some (stepN (upN l l.length) 32).words else none := fun _ => by unfold splitN; rw [up_all]
  generalize splitN l = o at *
  have hS := Sp.start w
  have hsz : (⟨l.toArray⟩ : ByteArray).size = l.length := by simp [ByteArray.size]
  have hB : Below w.heap.size w (((w.alloc (.cells #[.slice none 0 0] 22)).alloc (.cells #[.slice none 0 0] 46)).alloc (.cells #[.int .i64 0] 47)) := (((Below.refl _ _).alloc (Nat.le_refl _) _).alloc (by simp) _).alloc (by simp; omega) _
  go_enter Tryd.func18, Tryd.ntmps18
  go_upto_region 4 with fail
  rw [show w.heap.size + 1 + 1 = w.heap.size + 2 from rfl]
  obtain ⟨N, hN⟩ : ∃ N, w.heap.size = N := ⟨_, rfl⟩
  rw [hN] at hS hB
  rw [hN]
  generalize World.alloc _ _ = w3 at *
  go_upto_region 5 with fail
  go_upto_region 6 with fail
  clear hsz
  go_loopw [12] (fun i wr => ∃ (k : Nat) (bv wv : Value), k ≤ l.length ∧ i = .int .i64 (k : Int) ∧ Sp N (upN l k) bv wv wr ∧ Below N w wr) (fun i _ => l.length - (intOf i).toNat)
  case atStart => exact ⟨0, _, _, by omega, rfl, hS, hB⟩
  case round =>
    clear hS hB
    obtain ⟨k, bv, wv, hk, rfl, hS, hB⟩ := hrel
    by_cases hlt : k < l.length
    · obtain ⟨c, hc⟩ : ∃ c, l[k]? = some c := ⟨_, List.getElem?_eq_getElem hlt⟩
      have K := Lib.hid (recv_any N (upN l k) c bv wv wr hS (by have := up_size l k; omega) (up_pl l k))
      rw [← up_succ l k c hc] at K
      have hix := at_text l k c hc (k : Int) rfl
      go_wp2_with fail
      refine K.out.mono ?_
      rintro e w4 ⟨rfl, ⟨bv', wv', hS'⟩, hB'⟩
      clear K hS
      replace hB := hB.trans hB'
      clear hB'
      go_wp2_with fail
      go_roundw
      case rel => exact ⟨k + 1, bv', wv', by omega, by simp, hS', hB⟩
      case measure => simp [intOf]; omega
    · obtain rfl : k = l.length := by omega
      have K := Lib.hid (recv_any N (upN l l.length) 32 bv wv wr hS (by have := up_size l l.length; omega) (up_pl l l.length))
      have h5 : (stepN (upN l l.length) 32).pl ≤ 5 := by rw [step_pl]; exact next_le _ _
      generalize stepN (upN l l.length) 32 = s at *
      go_upto_region 10 with fail
      go_wp2_with fail
      refine K.out.mono ?_
      rintro e w4 ⟨rfl, ⟨bv', wv', hS'⟩, hB'⟩
      clear K hS
      replace hB := hB.trans hB'
      clear hB'
      have c1 : w4.cell? ⟨N + 2, 0, none⟩ = some (.int .i64 (s.pl : Int)) := Rw.cell hS'.pl 0
      have c2 : w4.cell? ⟨N, 0, none⟩ = some wv' := Rw.cell hS'.ws 0
      have how : w4.ownsRow w.heap.size 9 1 wv' s.words.length (s.words.map sv) := own_base hS'.ow (by omega)
      rw [← hN] at hB
      obtain ⟨pi, hpi⟩ : ∃ pi : Int, (s.pl : Int) = pi := ⟨_, rfl⟩
      rw [hpi] at c1
      rcases (show pi = 0 ∨ pi = 1 ∨ pi = 2 ∨ pi = 3 ∨ pi = 4 ∨ pi = 5 by omega) with rfl | rfl | rfl | rfl | rfl | rfl
      case inl | inr.inr.inr.inr.inl =>
        have e := H ()
        rw [if_pos (by omega)] at e
        subst e
        obtain ⟨aa, cap, rfl, _⟩ := own_slice how
        clear hS' H
        go_wp2_with fail
        go_ret2
        exact ⟨⟨_, rfl, how⟩, hB⟩
      all_goals
        have e := H ()
        rw [if_neg (by omega)] at e
        subst e
        clear hS' H how
        go_wp2_with fail
        go_ret2
        exact ⟨rfl, hB⟩
end Go.Proofs.YtcljijcggnfemaaDoor
