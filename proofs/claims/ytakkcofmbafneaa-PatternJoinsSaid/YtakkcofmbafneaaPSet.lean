/- A set of bytes as a row of 256 truths. -/
import Derived.Test.YtakkcofmbafneaaPLst
import Derived.Below
namespace Go.Proofs.Ytakkcofmbafneaa

def setRow (p : UInt8 → Bool) : List Value := (List.range 256).map fun i => Value.bool (p (UInt8.ofNat i))
theorem setRow_len (p : UInt8 → Bool) : (setRow p).length = 256 := by simp [setRow]
theorem setRow_get (p : UInt8 → Bool) {k : Nat} (h : k < 256) : (setRow p)[k]? = some (.bool (p (UInt8.ofNat k))) := by simp [setRow, h]
theorem ofNat_inj {a b : Nat} (ha : a < 256) (hb : b < 256) (h : UInt8.ofNat a = UInt8.ofNat b) : a = b := by
  have := congrArg UInt8.toNat h
  simp at this
  omega
theorem setRow_set (p : UInt8 → Bool) {k : Nat} (h : k < 256) (b : Bool) : (setRow p).set k (.bool b) = setRow (fun x => if x = UInt8.ofNat k then b else p x) := by
  apply List.ext_getElem?
  intro i
  by_cases hi : i < 256
  · by_cases e : k = i
    · subst e
      rw [List.getElem?_set_self (by rw [setRow_len]; exact h), setRow_get _ hi, if_pos rfl]
    · rw [List.getElem?_set_ne e, setRow_get _ hi, setRow_get _ hi, if_neg fun e' => e (ofNat_inj hi h e').symm]
  · rw [List.getElem?_eq_none (by rw [List.length_set, setRow_len]; omega), List.getElem?_eq_none (by rw [setRow_len]; omega)]
theorem setRow_inj {p q : UInt8 → Bool} (h : setRow p = setRow q) : p = q := by
  funext c
  have h1 := congrArg (fun l => l[c.toNat]?) h
  simp only [setRow_get _ c.toNat_lt] at h1
  simpa using h1
theorem setRow_none : setRow noSet = List.replicate 256 (.bool false) := by
  apply List.ext_getElem?
  intro i
  by_cases hi : i < 256
  · rw [setRow_get _ hi, List.getElem?_replicate, if_pos hi]; rfl
  · rw [List.getElem?_eq_none (by rw [setRow_len]; omega), List.getElem?_replicate, if_neg hi]
theorem setRow_one (p : UInt8 → Bool) : ∀ v ∈ setRow p, ∃ b, v = .bool b := by
  intro v hv
  obtain ⟨i, _, rfl⟩ := List.mem_map.1 hv
  exact ⟨_, rfl⟩
/-- On the way of adding the bytes from f on: those ahead of k are there. -/
def upto (p : UInt8 → Bool) (f : UInt8) (k : Nat) : UInt8 → Bool := fun x => p x || (decide (f ≤ x) && decide (x.toNat < k))
theorem upto_start (p : UInt8 → Bool) (f : UInt8) : upto p f f.toNat = p := by
  funext x
  unfold upto
  have : (decide (f ≤ x) && decide (x.toNat < f.toNat)) = false := by
    simp only [Bool.and_eq_false_iff, decide_eq_false_iff_not]
    by_cases h : f ≤ x
    · exact .inr (by rw [UInt8.le_iff_toNat_le] at h; omega)
    · exact .inl h
  rw [this, Bool.or_false]
theorem upto_step (p : UInt8 → Bool) (f : UInt8) {k : Nat} (h1 : f.toNat ≤ k) (h2 : k < 256) : (fun x => if x = UInt8.ofNat k then true else upto p f k x) = upto p f (k + 1) := by
  funext x
  unfold upto
  have hk : (UInt8.ofNat k).toNat = k := by simp; omega
  by_cases e : x = UInt8.ofNat k
  · rw [if_pos e]
    have hx : x.toNat = k := by rw [e, hk]
    have : f ≤ x := by rw [UInt8.le_iff_toNat_le]; omega
    simp [this, hx]
  · rw [if_neg e]
    have hx : x.toNat ≠ k := fun h => e (by rw [← h]; simp)
    congr 2
    simp only [decide_eq_decide]
    omega
theorem upto_end (p : UInt8 → Bool) (f l : UInt8) : upto p f (l.toNat + 1) = fun x => p x || (decide (f ≤ x) && decide (x ≤ l)) := by
  funext x
  unfold upto
  congr 2
  simp only [decide_eq_decide]
  rw [UInt8.le_iff_toNat_le]
  omega
/-- With nothing to add all is as it was. -/
theorem upto_void (p : UInt8 → Bool) {f l : UInt8} (h : l < f) : (fun x => p x || (decide (f ≤ x) && decide (x ≤ l))) = p := by
  funext x
  have : (decide (f ≤ x) && decide (x ≤ l)) = false := by
    simp only [Bool.and_eq_false_iff, decide_eq_false_iff_not]
    by_cases h1 : f ≤ x
    · exact .inr fun h2 => by
        rw [UInt8.le_iff_toNat_le] at h1 h2
        rw [UInt8.lt_iff_toNat_lt] at h
        omega
    · exact .inl h1
  rw [this, Bool.or_false]
/-- On the way of turning: those ahead of k are turned. -/
def turnd (p : UInt8 → Bool) (k : Nat) : UInt8 → Bool := fun x => if x.toNat < k then !p x else p x
theorem turnd_start (p : UInt8 → Bool) : turnd p 0 = p := by funext x; simp [turnd]
theorem turnd_end (p : UInt8 → Bool) : turnd p 256 = fun x => !p x := by funext x; simp [turnd, x.toNat_lt]
theorem turnd_get (p : UInt8 → Bool) {k : Nat} (h : k < 256) : turnd p k (UInt8.ofNat k) = p (UInt8.ofNat k) := by
  have hk : (UInt8.ofNat k).toNat = k := by simp; omega
  unfold turnd
  rw [hk, if_neg (Nat.lt_irrefl k)]
theorem turnd_step (p : UInt8 → Bool) {k : Nat} (h : k < 256) : (fun x => if x = UInt8.ofNat k then !p (UInt8.ofNat k) else turnd p k x) = turnd p (k + 1) := by
  funext x
  unfold turnd
  have hk : (UInt8.ofNat k).toNat = k := by simp; omega
  by_cases e : x = UInt8.ofNat k
  · rw [if_pos e, e, hk, if_pos (by omega)]
  · rw [if_neg e]
    have hx : x.toNat ≠ k := fun h => e (by rw [← h]; simp)
    by_cases h1 : x.toNat < k
    · rw [if_pos h1, if_pos (by omega)]
    · rw [if_neg h1, if_neg (by omega)]
/-- The least byte of a set that isn't empty: the search comes to it. -/
theorem first_there {p : UInt8 → Bool} {k : Nat} (hk : k < 256) (h1 : ∀ j, j < k → p (UInt8.ofNat j) = false) (h2 : p (UInt8.ofNat k) = true) : FstB p (UInt8.ofNat k) := by
  refine ⟨h2, fun d hd => ?_⟩
  rw [UInt8.le_iff_toNat_le]
  have hk' : (UInt8.ofNat k).toNat = k := by simp; omega
  rw [hk']
  refine Nat.le_of_not_lt fun h => ?_
  have := h1 d.toNat h
  rw [UInt8.ofNat_toNat] at this
  rw [this] at hd
  cases hd
theorem first_less {p : UInt8 → Bool} {k : Nat} (hp : p ≠ noSet) (h1 : ∀ j, j < k → p (UInt8.ofNat j) = false) : k < 256 := by
  refine Nat.lt_of_not_le fun h => hp ?_
  funext c
  have := h1 c.toNat (by have := c.toNat_lt; omega)
  rwa [UInt8.ofNat_toNat] at this
end Go.Proofs.Ytakkcofmbafneaa
