/- Patterns, plain: how a text is read, by the program's own order. -/
import Derived.Test.YtakkcofmbafneaaPRun
namespace Go.Proofs.Ytakkcofmbafneaa

/-- What stands in the way. -/
inductive Er
  | form
  | deep
inductive Res (α : Type)
  | er (e : Er)
  | ok (x : α) (r : Bx)
/-- The bytes that don't stand for themselves. -/
def spcB (c : UInt8) : Bool := c == 42 || c == 43 || c == 63 || c == 124 || c == 40 || c == 41 || c == 91 || c == 93 || c == 92 || c == 46
def signN : Bx → Option (UInt8 × Bx)
  | [] => none
  | c :: s => if c = 92 then (match s with | [] => none | d :: s' => some (d, s')) else some (c, s)
def elemN (s : Bx) : Option ((UInt8 × UInt8) × Bx) :=
  match signN s with
  | none => none
  | some (f, r) => match r with
    | x :: y :: r' => if x = 45 ∧ y ≠ 93 then (match signN (y :: r') with | none => none | some (l, r'') => if f ≤ l then some ((f, l), r'') else none) else some ((f, f), r)
    | _ => some ((f, f), r)
def clsN : Nat → (UInt8 → Bool) → Bx → Option ((UInt8 → Bool) × Bx)
  | 0, _, _ => none
  | _ + 1, _, [] => none
  | n + 1, p, c :: r => if c = 93 then some (p, r) else
    match elemN (c :: r) with
    | none => none
    | some ((f, l), r') => clsN n (fun x => p x || (decide (f ≤ x) && decide (x ≤ l))) r'
def cls1 (s : Bx) : Option ((UInt8 → Bool) × Bx) :=
  match s with
  | [] => none
  | c :: _ => if c = 93 then none else clsN (s.length) noSet s
/-- Behind its [. -/
def classN (s : Bx) : Option ((UInt8 → Bool) × Bx) :=
  match s with
  | [] => none
  | c :: r => if c = 94 then (cls1 r).map (fun x => (fun b => !x.1 b, x.2)) else cls1 (c :: r)
/-- How often, of what stands behind an atom. -/
def often (r : Re) : Bx → Re × Bx
  | [] => (r, [])
  | c :: s => if c = 42 then (.star r, s) else if c = 43 then (.plus r, s) else if c = 63 then (.opt r, s) else (r, c :: s)
mutual
def altN : Nat → Nat → Bx → Res Al
  | 0, _, _ => .er .form
  | n + 1, d, s => match seqN n d s with
    | .er e => .er e
    | .ok q r => match r with
      | [] => .ok (.one q) []
      | c :: r' => if c = 124 then (match altN n d r' with | .er e => .er e | .ok a r'' => .ok (.more q a) r'') else .ok (.one q) (c :: r')
def seqN : Nat → Nat → Bx → Res Sq
  | 0, _, _ => .er .form
  | _ + 1, _, [] => .ok .nil []
  | n + 1, d, c :: s => if c = 124 ∨ c = 41 then .ok .nil (c :: s) else
    match partN n d (c :: s) with
    | .er e => .er e
    | .ok x r => match seqN n d r with
      | .er e => .er e
      | .ok q r' => .ok (.cons x q) r'
def partN : Nat → Nat → Bx → Res Re
  | 0, _, _ => .er .form
  | n + 1, d, s => match atomN n d s with
    | .er e => .er e
    | .ok x r => .ok (often x r).1 (often x r).2
def atomN : Nat → Nat → Bx → Res Re
  | 0, _, _ => .er .form
  | _ + 1, _, [] => .er .form
  | n + 1, d, c :: s =>
    if c = 40 then (if d = 8 then .er .deep else match altN n (d + 1) s with
      | .er e => .er e
      | .ok a r => match r with
        | [] => .er .form
        | x :: r' => if x = 41 then .ok (.grp a) r' else .er .form)
    else if c = 91 then (match classN s with
      | none => .er .form
      | some (p, r) => .ok (.set p) r)
    else if c = 46 then .ok (.set fun _ => true) s
    else if c ≠ 92 ∧ spcB c = true then .er .form
    else match signN (c :: s) with
      | none => .er .form
      | some (x, r) => .ok (.set fun b => b == x) r
end
theorem signN_len {s r : Bx} {c : UInt8} (h : signN s = some (c, r)) : r.length < s.length := by
  cases s with
  | nil => cases h
  | cons x s =>
    unfold signN at h
    simp only at h
    split at h
    · cases s with
      | nil => cases h
      | cons d s' =>
        simp at h
        rw [← h.2]
        simp; omega
    · simp at h
      rw [← h.2]
      simp
theorem elemN_len {s r : Bx} {f l : UInt8} (h : elemN s = some ((f, l), r)) : r.length < s.length := by
  unfold elemN at h
  cases hs : signN s with
  | none => rw [hs] at h; cases h
  | some x =>
    obtain ⟨f', r'⟩ := x
    have h1 := signN_len hs
    rw [hs] at h
    simp only at h
    split at h
    · rename_i x y r''
      split at h
      · cases hs2 : signN (y :: r'') with
        | none => rw [hs2] at h; cases h
        | some z =>
          obtain ⟨l', r3⟩ := z
          have h2 := signN_len hs2
          rw [hs2] at h
          simp only at h
          split at h
          · simp at h
            rw [← h.2]
            simp only [List.length_cons] at h1 h2
            omega
          · cases h
      · simp at h
        rw [← h.2]
        exact h1
    · simp at h
      rw [← h.2]
      exact h1
theorem clsN_len {n : Nat} {p q : UInt8 → Bool} {s r : Bx} (h : clsN n p s = some (q, r)) : r.length < s.length := by
  induction n generalizing p s with
  | zero => cases h
  | succ n ih => cases s with
    | nil => cases h
    | cons c s =>
      rw [clsN] at h
      split at h
      · simp at h
        rw [← h.2]
        simp
      · cases he : elemN (c :: s) with
        | none => rw [he] at h; cases h
        | some x =>
          obtain ⟨⟨f, l⟩, r'⟩ := x
          rw [he] at h
          have h1 := elemN_len he
          have h2 := ih h
          omega
theorem cls1_len {p : UInt8 → Bool} {s r : Bx} (h : cls1 s = some (p, r)) : r.length < s.length := by
  unfold cls1 at h
  cases s with
  | nil => cases h
  | cons c s =>
    simp only at h
    split at h
    · cases h
    · exact clsN_len h
theorem classN_len {p : UInt8 → Bool} {s r : Bx} (h : classN s = some (p, r)) : r.length < s.length := by
  unfold classN at h
  cases s with
  | nil => cases h
  | cons c s =>
    simp only at h
    split at h
    · cases hc : cls1 s with
      | none => rw [hc] at h; cases h
      | some x =>
        obtain ⟨p', r'⟩ := x
        rw [hc] at h
        simp at h
        have := cls1_len hc
        rw [← h.2]
        simp; omega
    · exact cls1_len h
theorem often_good {r : Re} {s : Bx} (h1 : atomR r) (h2 : okR r) : okR (often r s).1 ∧ (often r s).2.length ≤ s.length ∧ lenR (often r s).1 + (often r s).2.length ≤ lenR r + s.length := by
  cases s with
  | nil => exact ⟨h2, Nat.le_refl _, Nat.le_refl _⟩
  | cons c s =>
    rw [often]
    split
    · exact ⟨by rw [okR]; exact ⟨h1, h2⟩, by simp, by simp only [lenR, List.length_cons]; omega⟩
    · split
      · exact ⟨by rw [okR]; exact ⟨h1, h2⟩, by simp, by simp only [lenR, List.length_cons]; omega⟩
      · split
        · exact ⟨by rw [okR]; exact ⟨h1, h2⟩, by simp, by simp only [lenR, List.length_cons]; omega⟩
        · exact ⟨h2, Nat.le_refl _, Nat.le_refl _⟩
/-- What is read is a pattern, and has no more steps than bytes (and the two of its alternatives). -/
theorem reads_good (n : Nat) : (∀ d s a r, altN n d s = .ok a r → okA a ∧ r.length ≤ s.length ∧ lenA a + r.length ≤ s.length + 1) ∧ (∀ d s q r, seqN n d s = .ok q r → okS q ∧ lenS q + r.length ≤ s.length) ∧
    (∀ d s x r, partN n d s = .ok x r → okR x ∧ lenR x + r.length ≤ s.length) ∧ ∀ d s x r, atomN n d s = .ok x r → atomR x ∧ okR x ∧ lenR x + r.length ≤ s.length := by
  induction n with
  | zero => exact ⟨fun d s a r h => by rw [altN] at h; (cases h), fun d s a r h => by rw [seqN] at h; (cases h), fun d s a r h => by rw [partN] at h; (cases h), fun d s a r h => by rw [atomN] at h; (cases h)⟩
  | succ n ih =>
    obtain ⟨iA, iS, iP, iT⟩ := ih
    refine ⟨fun d s a r h => ?_, fun d s q r h => ?_, fun d s x r h => ?_, fun d s x r h => ?_⟩
    · rw [altN] at h
      cases hs : seqN n d s with
      | er e => rw [hs] at h; cases h
      | ok q r1 =>
        rw [hs] at h
        have h1 := iS _ _ _ _ hs
        cases r1 with
        | nil =>
          simp only at h
          cases h
          simp only [okA, lenA]
          simp at h1 ⊢
          exact ⟨h1.1, by omega⟩
        | cons c r2 =>
          simp only at h
          split at h
          · cases ha : altN n d r2 with
            | er e => rw [ha] at h; cases h
            | ok a' r3 =>
              rw [ha] at h
              simp only at h
              cases h
              have h2 := iA _ _ _ _ ha
              simp only [okA, lenA, List.length_cons] at h1 h2 ⊢
              exact ⟨⟨h1.1, h2.1⟩, by omega, by omega⟩
          · cases h
            simp only [okA, lenA, List.length_cons] at h1 ⊢
            exact ⟨h1.1, by omega, by omega⟩
    · cases s with
      | nil =>
        rw [seqN] at h
        cases h
        exact ⟨by rw [okS]; trivial, by rw [lenS]; simp⟩
      | cons c s =>
        rw [seqN] at h
        split at h
        · cases h
          exact ⟨by rw [okS]; trivial, by rw [lenS]; simp⟩
        · cases hp : partN n d (c :: s) with
          | er e => rw [hp] at h; cases h
          | ok x r1 =>
            rw [hp] at h
            simp only at h
            cases hq : seqN n d r1 with
            | er e => rw [hq] at h; cases h
            | ok q' r2 =>
              rw [hq] at h
              cases h
              have h1 := iP _ _ _ _ hp
              have h2 := iS _ _ _ _ hq
              rw [okS, lenS]
              exact ⟨⟨h1.1, h2.1⟩, by omega⟩
    · rw [partN] at h
      cases ht : atomN n d s with
      | er e => rw [ht] at h; cases h
      | ok y r1 =>
        rw [ht] at h
        cases h
        have h1 := iT _ _ _ _ ht
        have h2 := often_good (s := r1) h1.1 h1.2.1
        exact ⟨h2.1, by omega⟩
    · cases s with
      | nil => rw [atomN] at h; cases h
      | cons c s =>
        rw [atomN] at h
        split at h
        · split at h
          · cases h
          · cases ha : altN n (d + 1) s with
            | er e => rw [ha] at h; cases h
            | ok a r1 =>
              rw [ha] at h
              have h1 := iA _ _ _ _ ha
              cases r1 with
              | nil => cases h
              | cons y r2 =>
                simp only at h
                split at h
                · cases h
                  simp only [atomR, okR, lenR, List.length_cons] at h1 ⊢
                  exact ⟨trivial, h1.1, by omega⟩
                · cases h
        · split at h
          · cases hc : classN s with
            | none => rw [hc] at h; cases h
            | some z =>
              obtain ⟨p, r1⟩ := z
              rw [hc] at h
              cases h
              have h1 := classN_len hc
              simp only [atomR, okR, lenR, List.length_cons]
              exact ⟨trivial, trivial, by omega⟩
          · split at h
            · cases h
              simp only [atomR, okR, lenR, List.length_cons]
              exact ⟨trivial, trivial, by omega⟩
            · split at h
              · cases h
              · cases hs : signN (c :: s) with
                | none => rw [hs] at h; cases h
                | some z =>
                  obtain ⟨b, r1⟩ := z
                  rw [hs] at h
                  cases h
                  have h1 := signN_len hs
                  simp only [atomR, okR, lenR, List.length_cons] at h1 ⊢
                  exact ⟨trivial, trivial, by omega⟩
end Go.Proofs.Ytakkcofmbafneaa
