/- The list of the steps in memory: a row of elements of 257 cells, each a set and a slice of its own. -/
import Derived.Test.YtakkcofmbafneaaPMem
import Derived.Test.YtakkcofmbafneaaPBuild
namespace Go.Proofs.Ytakkcofmbafneaa
open Go.ChangeShapes Go.WideShapes Go.RowKit

def intV (n : Nat) : Value := .int .i64 (n : Int)
def stepC (s : Stp) (f : Value) : List Value := setRow s.set ++ [f]
theorem stepC_len (s : Stp) (f : Value) : (stepC s f).length = 257 := by rw [stepC, List.length_append, setRow_len]; rfl
def stepsC : List Stp → List Value → List Value
  | s :: S, f :: F => stepC s f ++ stepsC S F
  | _, _ => []
theorem stepsC_len {S : List Stp} {F : List Value} (h : F.length = S.length) : (stepsC S F).length = S.length * 257 := by
  induction S generalizing F with
  | nil => simp [stepsC]
  | cons s S ih => cases F with
    | nil => cases h
    | cons f F => rw [stepsC, List.length_append, stepC_len, ih (by simpa using h), List.length_cons]; omega
theorem stepsC_snoc {S : List Stp} {F : List Value} (h : F.length = S.length) (s : Stp) (f : Value) : stepsC (S ++ [s]) (F ++ [f]) = stepsC S F ++ stepC s f := by
  induction S generalizing F with
  | nil => cases F with
    | nil => simp [stepsC]
    | cons f F => cases h
  | cons t S ih => cases F with
    | nil => cases h
    | cons g F => simp only [List.cons_append, stepsC, ih (by simpa using h), List.append_assoc]
/-- Cell c of step k. -/
theorem stepsC_get {S : List Stp} {F : List Value} {k c : Nat} {s : Stp} {f : Value} (hs : S[k]? = some s) (hf : F[k]? = some f) (hc : c < 257) : (stepsC S F)[k * 257 + c]? = (stepC s f)[c]? := by
  induction S generalizing F k with
  | nil => cases hs
  | cons t S ih => cases F with
    | nil => cases hf
    | cons g F => cases k with
      | zero =>
        simp only [List.getElem?_cons_zero, Option.some.injEq] at hs hf
        subst hs hf
        rw [stepsC, Nat.zero_mul, Nat.zero_add, List.getElem?_append_left (by rw [stepC_len]; exact hc)]
      | succ k =>
        rw [List.getElem?_cons_succ] at hs hf
        rw [stepsC, List.getElem?_append_right (by rw [stepC_len]; omega), stepC_len, show (k + 1) * 257 + c - 257 = k * 257 + c by omega]
        exact ih hs hf
theorem stepC_free (s : Stp) (f : Value) : (stepC s f)[256]? = some f := by
  rw [stepC, List.getElem?_append_right (by rw [setRow_len]; omega), setRow_len]; rfl
theorem stepC_set (s : Stp) (f : Value) {c : Nat} (hc : c < 256) : (stepC s f)[c]? = some (.bool (s.set (UInt8.ofNat c))) := by
  rw [stepC, List.getElem?_append_left (by rw [setRow_len]; exact hc), setRow_get _ hc]
theorem stepsC_free {S : List Stp} {F : List Value} {k : Nat} {s : Stp} {f : Value} (hs : S[k]? = some s) (hf : F[k]? = some f) : (stepsC S F)[k * 257 + 256]? = some f := by
  rw [stepsC_get hs hf (by omega), stepC_free]
/-- A further way out of step k: its slice is another one, its set isn't. -/
theorem stepsC_lead {S : List Stp} {F : List Value} {k : Nat} (h : F.length = S.length) (hk : k < S.length) (x : Nat) (f : Value) : (stepsC S F).set (k * 257 + 256) f = stepsC (leadL S k x) (F.set k f) := by
  induction S generalizing F k with
  | nil => cases hk
  | cons t S ih => cases F with
    | nil => cases h
    | cons g F => cases k with
      | zero =>
        rw [stepsC, Nat.zero_mul, Nat.zero_add, List.set_append_left _ _ (by rw [stepC_len]; omega)]
        rw [show leadL (t :: S) 0 x = ⟨t.set, t.free ++ [x]⟩ :: S from rfl, List.set_cons_zero, stepsC]
        refine congrArg (· ++ stepsC S F) ?_
        simp only [stepC]
        rw [List.set_append_right _ _ (by rw [setRow_len]; omega), setRow_len, Nat.sub_self, List.set_cons_zero]
      | succ k =>
        rw [stepsC, List.set_append_right _ _ (by rw [stepC_len]; omega), stepC_len, show (k + 1) * 257 + 256 - 257 = k * 257 + 256 by omega, ih (by simpa using h) (by simpa using hk)]
        simp only [leadL, List.modify_succ_cons, List.set_cons_succ, stepsC]
/-- The steps in memory: all blocks are one's own, and none serves twice. -/
structure StepsAt (w : World) (base : Nat) (V : Value) (S : List Stp) (F : List Value) : Prop where
  len : F.length = S.length
  row : w.ownsRow base 66 257 V S.length (stepsC S F)
  free : ∀ (k : Nat) s f, S[k]? = some s → F[k]? = some f → w.ownsRow base 3 1 f s.free.length (s.free.map intV)
  off : ∀ (k : Nat) f, F[k]? = some f → f.ownBlock = none ∨ f.ownBlock ≠ V.ownBlock
  two : ∀ (i j : Nat) f g, i ≠ j → F[i]? = some f → F[j]? = some g → f.ownBlock = none ∨ f.ownBlock ≠ g.ownBlock
theorem leadL_get {S : List Stp} {k x : Nat} (i : Nat) : (leadL S k x)[i]? = if i = k then (S[k]?).map (fun s => ⟨s.set, s.free ++ [x]⟩) else S[i]? := by
  unfold leadL
  rw [List.getElem?_modify]
  by_cases h : i = k
  · subst h; simp
  · have h' : ¬ k = i := fun e => h e.symm
    cases S[i]? <;> simp [h, h']
end Go.Proofs.Ytakkcofmbafneaa
