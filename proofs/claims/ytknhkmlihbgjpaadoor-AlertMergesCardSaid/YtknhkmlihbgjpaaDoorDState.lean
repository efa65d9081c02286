/- The digest of bytes, piece by piece: what is known of the eight words and of the block when some bytes were added. -/
import Derived.Test.YtknhkmlihbgjpaaDoorDMix
namespace Go.Proofs.YtknhkmlihbgjpaaDoor.Dg
open Go

/-- The words behind the first n blocks of the bytes l. -/
def hsN (l : List Nat) : Nat → List Nat
  | 0 => startL
  | n + 1 => mixN (hsN l n) ((l.drop (64 * n)).take 64)
theorem hsN_len (l : List Nat) (n : Nat) : (hsN l n).length = 8 := by
  induction n with
  | zero => rfl
  | succ n ih => exact mixN_len ih
theorem hsN_u (l : List Nat) (n : Nat) : ∀ x ∈ hsN l n, U32 x := by
  induction n with
  | zero => exact start_u
  | succ n ih => exact mixN_u ih
theorem hsN_append (l m : List Nat) (n : Nat) (h : 64 * n ≤ l.length) : hsN (l ++ m) n = hsN l n := by
  induction n with
  | zero => rfl
  | succ n ih =>
    rw [hsN, hsN, ih (by omega), List.drop_append_of_le_length (by omega), List.take_append_of_le_length (by simp; omega)]

/-- The words ws and the block bf are those behind the bytes l. -/
structure St (ws bf l : List Nat) : Prop where
  words : ws = hsN l (l.length / 64)
  len : bf.length = 64
  part : bf.take (l.length % 64) = l.drop (64 * (l.length / 64))
theorem St.ulen {ws bf l : List Nat} (h : St ws bf l) : ws.length = 8 := by rw [h.words]; exact hsN_len _ _
theorem St.u {ws bf l : List Nat} (h : St ws bf l) : ∀ x ∈ ws, U32 x := by rw [h.words]; exact hsN_u _ _
theorem St.nil (bf : List Nat) (h : bf.length = 64) : St startL bf [] := ⟨rfl, h, by simp⟩
/-- A piece that fits into the block. -/
theorem St.piece {ws bf l c : List Nat} (h : St ws bf l) :
    (splice bf (l.length % 64) c).take (l.length % 64 + c.length) = (l ++ c).drop (64 * (l.length / 64)) := by
  rw [List.drop_append_of_le_length (by omega), ← h.part]
  unfold splice
  rw [← List.append_assoc, List.take_append_of_le_length (by simp [h.len]; omega), List.take_of_length_le (by simp [h.len]; omega)]
theorem St.less {ws bf l c : List Nat} (h : St ws bf l) (hc : l.length % 64 + c.length < 64) : St ws (splice bf (l.length % 64) c) (l ++ c) := by
  have e1 : (l ++ c).length / 64 = l.length / 64 := by rw [List.length_append]; omega
  have e2 : (l ++ c).length % 64 = l.length % 64 + c.length := by rw [List.length_append]; omega
  refine ⟨?_, by rw [length_splice]; exact h.len; rw [h.len]; omega, ?_⟩
  · rw [e1, hsN_append _ _ _ (by omega)]; exact h.words
  · rw [e1, e2]; exact h.piece
theorem St.full {ws bf l c : List Nat} (h : St ws bf l) (hc : l.length % 64 + c.length = 64) : St (mixN ws (splice bf (l.length % 64) c)) (splice bf (l.length % 64) c) (l ++ c) := by
  have e1 : (l ++ c).length / 64 = l.length / 64 + 1 := by rw [List.length_append]; omega
  have e2 : (l ++ c).length % 64 = 0 := by rw [List.length_append]; omega
  have hl : (splice bf (l.length % 64) c).length = 64 := by rw [length_splice]; exact h.len; rw [h.len]; omega
  have hp := h.piece (c := c)
  rw [hc, List.take_of_length_le (by omega)] at hp
  refine ⟨?_, hl, ?_⟩
  · rw [e1, hsN, hsN_append _ _ _ (by omega), ← h.words, hp, List.take_of_length_le (by rw [← hp, hl]; omega)]
  · rw [e2, e1, List.take_zero, List.drop_eq_nil_of_le (by rw [List.length_append]; omega)]
end Go.Proofs.YtknhkmlihbgjpaaDoor.Dg
