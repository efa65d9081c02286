/- A value's text, and how long it may be: plain. -/
import Derived.Test.YtbkkcojfgdjbhaaDoorJFits
import Derived.Test.YtbkkcojfgdjbhaaDoorJText2
import Derived.Lib.ItoaLen
namespace Go.Proofs.YtbkkcojfgdjbhaaDoor

def opN (k : Int) : UInt8 := if k = 5 then 91 else 123
/-- The entries of a list or an object, as they are written. -/
def kidsW (W : J → Bs) (k : Int) : Bool → List Bs → List J → Bs
  | _, _, [] => []
  | first, keys, j :: r => ((if first then [] else [44]) ++ (if k = 6 then quoteN (keys.headD []) ++ [58] else [])) ++ W j ++ kidsW W k false keys.tail r
def leafW (k n : Int) (s : Bs) : Bs := if k = 1 then [102, 97, 108, 115, 101] else if k = 2 then [116, 114, 117, 101] else if k = 3 then Lib.itoa n else if k = 4 then quoteN s else [110, 117, 108, 108]
/-- The text of a value. -/
def wrN : Nat → J → Bs
  | 0, .mk k n s _ _ => leafW k n s
  | d + 1, .mk k n s keys kids => if k = 5 ∨ k = 6 then [opN k] ++ kidsW (wrN d) k true keys kids ++ [clN k] else leafW k n s
/-- Numbers that a machine has. -/
def Rg : Nat → J → Prop
  | 0, .mk _ n _ _ _ => -9223372036854775808 ≤ n ∧ n ≤ 9223372036854775807
  | d + 1, .mk _ n _ _ kids => (-9223372036854775808 ≤ n ∧ n ≤ 9223372036854775807) ∧ ∀ kid ∈ kids, Rg d kid
theorem Rg.num {d : Nat} {k n : Int} {s : Bs} {keys : List Bs} {kids : List J} (h : Rg d (.mk k n s keys kids)) : -9223372036854775808 ≤ n ∧ n ≤ 9223372036854775807 := by
  cases d with
  | zero => exact h
  | succ d => exact h.1
theorem ky_each {done keys : List Bs} (h : kyN done keys = true) : ∀ s ∈ keys, textOk s = true := by
  induction keys generalizing done with
  | nil => intro s hs; cases hs
  | cons k r ih =>
    rw [kyN] at h
    simp only [Bool.and_eq_true] at h
    intro s hs
    rcases List.mem_cons.1 hs with rfl | hs
    · exact h.1.1
    · exact ih h.2 s hs
theorem textOk_len {s : Bs} (h : textOk s = true) : s.length ≤ 200 := by
  unfold textOk at h
  simp only [Bool.and_eq_true, decide_eq_true_eq] at h
  exact h.1
theorem textOk_valid {s : Bs} (h : textOk s = true) : Lib.validD s = true := by
  unfold textOk at h
  simp only [Bool.and_eq_true, decide_eq_true_eq] at h
  exact h.2
/-- What a value that may be tells of itself. -/
theorem fit_form {d : Nat} {k n : Int} {s : Bs} {keys : List Bs} {kids : List J} {l l2 : Int} (h : fitN d (.mk k n s keys kids) l = some l2) :
    (kids.length : Int) ≤ l - 1 ∧ formB k n s keys.length kids.length = true ∧ ((k ≠ 5 ∧ k ≠ 6 ∧ textOk s = true ∧ l2 = l - 1) ∨ ((k = 5 ∨ k = 6) ∧ ∃ d', d = d' + 1 ∧ kyN [] keys = true ∧ kids.foldl (fun o kid => o.bind (fun x => fitN d' kid x)) (some (l - 1)) = some l2)) := by
  cases d with
  | zero =>
    rw [fitN, fitG] at h
    split at h
    · cases h
    · rename_i h1
      refine ⟨by omega, by cases hf : formB k n s keys.length kids.length <;> simp_all, ?_⟩
      split at h
      · rename_i h2
        split at h
        · rename_i h3; cases h; exact .inl ⟨h2.1, h2.2, h3, rfl⟩
        · cases h
      · cases h
  | succ d =>
    rw [fitN, fitG] at h
    split at h
    · cases h
    · rename_i h1
      refine ⟨by omega, by cases hf : formB k n s keys.length kids.length <;> simp_all, ?_⟩
      split at h
      · rename_i h2
        split at h
        · rename_i h3; cases h; exact .inl ⟨h2.1, h2.2, h3, rfl⟩
        · cases h
      · rename_i h2
        split at h
        · rename_i h3; exact .inr ⟨by omega, d, rfl, h3, h⟩
        · cases h
theorem itoa_len (n : Int) (h : -9223372036854775808 ≤ n ∧ n ≤ 9223372036854775807) : (Lib.itoa n).length ≤ 21 := Lib.itoa_length_le n h.1 h.2
theorem leaf_len {k n : Int} {s : Bs} (hs : k = 4 → s.length ≤ 200) (hn : -9223372036854775808 ≤ n ∧ n ≤ 9223372036854775807) : (leafW k n s).length ≤ 1202 := by
  unfold leafW
  have h1 := itoa_len n hn
  have h2 := quote_len s
  split
  · simp
  · split
    · simp
    · split
      · omega
      · split
        · rename_i h; have := hs h; omega
        · simp
theorem kidsW_len (W : J → Bs) (f : J → Int → Option Int) (k : Int) : ∀ (kids : List J) (keys : List Bs) (first : Bool) (l l2 : Int), (∀ s ∈ keys, s.length ≤ 200) → (∀ j ∈ kids, ∀ x y, f j x = some y → ((W j).length : Int) + 1300 ≤ 3000 * (x - y)) → kids.foldl (fun o kid => o.bind (fun x => f kid x)) (some l) = some l2 → ((kidsW W k first keys kids).length : Int) ≤ 3000 * (l - l2) := by
  intro kids
  induction kids with
  | nil =>
    intro keys first l l2 _ _ h
    cases h
    simp [kidsW]
  | cons j r ih =>
    intro keys first l l2 hk hW h
    rw [List.foldl_cons] at h
    change r.foldl _ (f j l) = _ at h
    cases hx : f j l with
    | none => rw [hx, fold_none] at h; cases h
    | some l3 =>
      rw [hx] at h
      have h1 := hW j (by simp) l l3 hx
      have h2 := ih keys.tail false l3 l2 (fun s hs => hk s (List.mem_of_mem_tail hs)) (fun j hj => hW j (by simp [hj])) h
      have h3 : (keys.headD []).length ≤ 200 := by
        cases keys with
        | nil => simp
        | cons a b => exact hk a (by simp)
      have h4 := quote_len (keys.headD [])
      rw [kidsW]
      simp only [List.length_append]
      have h5 : (if first then ([] : Bs) else [44]).length ≤ 1 := by split <;> simp
      have h6 : (if k = 6 then quoteN (keys.headD []) ++ [58] else []).length ≤ 1203 := by
        split
        · rw [List.length_append]; simp only [List.length_cons, List.length_nil]; omega
        · simp
      omega
theorem wr_len : ∀ (d : Nat) (j : J) (l l2 : Int), Rg d j → fitN d j l = some l2 → ((wrN d j).length : Int) + 1300 ≤ 3000 * (l - l2) := by
  intro d
  induction d with
  | zero =>
    rintro ⟨k, n, s, keys, kids⟩ l l2 hr h
    obtain ⟨_, hf, h⟩ := fit_form h
    rcases h with ⟨_, _, ht, rfl⟩ | ⟨_, d', e, _⟩
    · have := leaf_len (k := k) (fun _ => textOk_len ht) hr.num
      rw [wrN]; omega
    · omega
  | succ d ih =>
    rintro ⟨k, n, s, keys, kids⟩ l l2 hr h
    obtain ⟨_, hf, h⟩ := fit_form h
    rcases h with ⟨h5, h6, ht, rfl⟩ | ⟨h5, d', e, hk, h⟩
    · have := leaf_len (k := k) (fun _ => textOk_len ht) hr.num
      rw [wrN, if_neg (by omega)]; omega
    · obtain rfl : d = d' := by omega
      have := kidsW_len (wrN d) (fitN d) k kids keys true (l - 1) l2 (fun s hs => textOk_len (ky_each hk s hs)) (fun j hj x y hxy => ih j x y (hr.2 j hj) hxy) h
      rw [wrN, if_pos h5]
      simp only [List.length_append, List.length_cons, List.length_nil]
      omega
end Go.Proofs.YtbkkcojfgdjbhaaDoor
