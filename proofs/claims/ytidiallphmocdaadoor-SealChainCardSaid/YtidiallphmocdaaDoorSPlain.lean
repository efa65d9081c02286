/- The seal of bytes as a plain function, and what it depends on of a key. -/
import Derived.Test.YtidiallphmocdaaDoorLives
namespace Go.Proofs.YtidiallphmocdaaDoor

def kpad (k : List Nat) : List Nat := k ++ zs (64 - k.length)
/-- The 64 bytes of a key. -/
def kbN (k : List Nat) : List Nat := kpad (if 64 < k.length then shaN k else k)
def mskN (m : Nat) (l : List Nat) : List Nat := l.map (· ^^^ m)
def passN (blk : List Nat) (m : Nat) (r : List Nat) : List Nat := shaN (mskN m blk ++ r)
def sealN (k b : List Nat) : List Nat := passN (kbN k) 92 (passN (kbN k) 54 b)
theorem kpad_len {k : List Nat} (h : k.length ≤ 64) : (kpad k).length = 64 := by rw [kpad, List.length_append, zs_len]; omega
theorem kbN_len (k : List Nat) : (kbN k).length = 64 := by
  unfold kbN
  split
  · exact kpad_len (by rw [shaN_len]; omega)
  · exact kpad_len (by omega)
theorem kpad_u {k : List Nat} (h : ∀ x ∈ k, U8 x) : ∀ x ∈ kpad k, U8 x := by
  intro x hx
  rcases List.mem_append.1 hx with h1 | h1
  · exact h x h1
  · exact zs_u _ x h1
theorem kbN_u {k : List Nat} (h : ∀ x ∈ k, U8 x) : ∀ x ∈ kbN k, U8 x := by
  unfold kbN
  split
  · exact kpad_u (shaN_u k)
  · exact kpad_u h
theorem mskN_len (m : Nat) (l : List Nat) : (mskN m l).length = l.length := by simp [mskN]
theorem mskN_u {m : Nat} (hm : U8 m) {l : List Nat} (h : ∀ x ∈ l, U8 x) : ∀ x ∈ mskN m l, U8 x := by
  intro x hx
  obtain ⟨y, hy, rfl⟩ := List.mem_map.1 hx
  exact Nat.xor_lt_two_pow (n := 8) (h y hy) hm
theorem passN_len (blk : List Nat) (m : Nat) (r : List Nat) : (passN blk m r).length = 32 := by rw [passN, shaN_len]
theorem passN_u (blk : List Nat) (m : Nat) (r : List Nat) : ∀ x ∈ passN blk m r, U8 x := by unfold passN; exact shaN_u _
theorem sealN_len (k b : List Nat) : (sealN k b).length = 32 := by rw [sealN, passN_len]
theorem sealN_u (k b : List Nat) : ∀ x ∈ sealN k b, U8 x := by unfold sealN; exact passN_u _ _ _
/-- A long key is like its digest. -/
theorem kbN_long {k : List Nat} (h : 64 < k.length) : kbN (shaN k) = kbN k := by
  unfold kbN
  rw [if_pos h, if_neg (by rw [shaN_len]; omega)]
/-- A short key is like itself with a byte 0 behind. -/
theorem kbN_more {k : List Nat} (h : k.length < 64) : kbN (k ++ [0]) = kbN k := by
  unfold kbN
  rw [if_neg (by simp; omega), if_neg (by omega)]
  unfold kpad
  rw [List.append_assoc, List.length_append, List.length_singleton]
  congr 1
  rw [show 64 - k.length = (64 - (k.length + 1)) + 1 by omega]
  rfl
theorem seal_long {k : List Nat} (h : 64 < k.length) (b : List Nat) : sealN (shaN k) b = sealN k b := by unfold sealN; rw [kbN_long h]
theorem seal_more {k : List Nat} (h : k.length < 64) (b : List Nat) : sealN (k ++ [0]) b = sealN k b := by unfold sealN; rw [kbN_more h]
/-- What is masked so far. -/
def mskK (m : Nat) (l : List Nat) (n : Nat) : List Nat := mskN m (l.take n) ++ l.drop n
theorem mskK_zero (m : Nat) (l : List Nat) : mskK m l 0 = l := by simp [mskK, mskN]
theorem mskK_all (m : Nat) (l : List Nat) : mskK m l l.length = mskN m l := by simp [mskK]
theorem mskK_len (m : Nat) (l : List Nat) (n : Nat) : (mskK m l n).length = l.length := by simp [mskK, mskN]; omega
theorem mskK_get {m : Nat} {l : List Nat} {n x : Nat} (h : l[n]? = some x) : (mskK m l n)[n]? = some x ∧ mskK m l (n + 1) = (mskK m l n).set n (x ^^^ m) := by
  obtain ⟨hn, hx⟩ := List.getElem?_eq_some_iff.1 h
  have hl : (mskN m (l.take n)).length = n := by rw [mskN_len, List.length_take]; omega
  have hd : l.drop n = x :: l.drop (n + 1) := by rw [← hx]; exact (List.getElem_cons_drop hn).symm
  have ht : l.take (n + 1) = l.take n ++ [x] := by rw [List.take_add_one, h]; rfl
  unfold mskK
  refine ⟨?_, ?_⟩
  · rw [List.getElem?_append_right (by omega), hl, Nat.sub_self, hd]; rfl
  · rw [ht, List.set_append_right (s := mskN m (l.take n)) (t := l.drop n) n _ (by omega), hl, Nat.sub_self, hd]
    simp [mskN]
/-- Chains. -/
def chainN (k : List Nat) (ls : List (List Nat)) : List Nat := ls.foldl (fun d p => sealN k (d ++ p)) (sealN k [])
theorem chainN_len (k : List Nat) (ls : List (List Nat)) : (chainN k ls).length = 32 := by
  unfold chainN
  generalize hd : sealN k [] = d
  have hl : d.length = 32 := by rw [← hd]; exact sealN_len _ _
  clear hd
  induction ls generalizing d with
  | nil => exact hl
  | cons p ps ih => rw [List.foldl_cons]; exact ih _ (sealN_len _ _)
theorem chainN_snoc (k : List Nat) (ls : List (List Nat)) (p : List Nat) : chainN k (ls ++ [p]) = sealN k (chainN k ls ++ p) := by simp [chainN]
theorem sealN_jefe : bs (hexN (sealN [74, 101, 102, 101] [119, 104, 97, 116, 32, 100, 111, 32, 121, 97, 32, 119, 97, 110, 116, 32, 102, 111, 114, 32, 110, 111, 116, 104, 105, 110, 103, 63])) = ⟨#[53, 98, 100, 99, 99, 49, 52, 54, 98, 102, 54, 48, 55, 53, 52, 101, 54, 97, 48, 52, 50, 52, 50, 54, 48, 56, 57, 53, 55, 53, 99, 55, 53, 97, 48, 48, 51, 102, 48, 56, 57, 100, 50, 55, 51, 57, 56, 51, 57, 100, 101, 99, 53, 56, 98, 57, 54, 52, 101, 99, 51, 56, 52, 51]⟩ := by kernel_rfl
end Go.Proofs.YtidiallphmocdaaDoor
