/- Patterns, plain: no step leads to more steps than its part has, and one. -/
import Derived.Test.YtakkcofmbafneaaPCtx
namespace Go.Proofs.Ytakkcofmbafneaa

theorem addFree_in {l : List Stp} {n : Nat} {s : Stp} (h : s ∈ addFree l n) : ∃ t ∈ l, s.free.length ≤ t.free.length + 1 := by
  cases l with
  | nil => cases h
  | cons a l =>
    rw [addFree] at h
    rcases List.mem_cons.1 h with rfl | h
    · exact ⟨a, List.mem_cons_self .., by simp⟩
    · exact ⟨s, List.mem_cons_of_mem _ h, by omega⟩
theorem starts_len (a : Al) (b : Nat) : (startsA a b).length ≤ lenA a := by
  cases a with
  | one q => rw [startsA, lenA]; simp
  | more q a =>
    have := starts_len a (b + lenS q + 1)
    rw [startsA, lenA, List.length_cons]
    omega
mutual
theorem free_R (r : Re) (b : Nat) (h : okR r) : (atomR r → ∀ s ∈ stR r b, s.free.length ≤ lenR r) ∧ ∀ s ∈ stR r b, s.free.length ≤ lenR r + 1 := by
  cases r with
  | set p =>
    rw [stR, lenR]
    exact ⟨fun _ s hs => by simp at hs; subst hs; simp, fun s hs => by simp at hs; subst hs; simp⟩
  | grp a =>
    rw [stR, lenR]
    have h1 := free_A a (b + 1) (b + 1 + lenA a) h
    have h2 := starts_len a (b + 1)
    have : ∀ s ∈ (⟨noSet, startsA a (b + 1)⟩ :: stA a (b + 1) (b + 1 + lenA a)), s.free.length ≤ 1 + lenA a := fun s hs => by
      rcases List.mem_cons.1 hs with rfl | hs
      · simp only; omega
      · have := h1 s hs; omega
    exact ⟨fun _ => this, fun s hs => by have := this s hs; omega⟩
  | star r =>
    rw [stR, lenR]
    have h1 := (free_R r b h.2).1 h.1
    refine ⟨fun e => e.elim, fun s hs => ?_⟩
    rcases List.mem_append.1 hs with hs | hs
    · obtain ⟨t, ht, hle⟩ := addFree_in hs
      have := h1 t ht; omega
    · simp at hs; subst hs; simp
  | plus r =>
    rw [stR, lenR]
    have h1 := (free_R r b h.2).1 h.1
    refine ⟨fun e => e.elim, fun s hs => ?_⟩
    rcases List.mem_append.1 hs with hs | hs
    · have := h1 s hs; omega
    · simp at hs; subst hs; simp
  | opt r =>
    rw [stR, lenR]
    have h1 := (free_R r b h.2).1 h.1
    refine ⟨fun e => e.elim, fun s hs => ?_⟩
    obtain ⟨t, ht, hle⟩ := addFree_in hs
    have := h1 t ht; omega
theorem free_A (a : Al) (b E : Nat) (h : okA a) : ∀ s ∈ stA a b E, s.free.length ≤ lenA a + 1 := by
  cases a with
  | one q =>
    rw [stA, lenA]
    have h1 := free_S q b h
    intro s hs
    rcases List.mem_append.1 hs with hs | hs
    · have := h1 s hs; omega
    · simp at hs; subst hs; simp
  | more q a =>
    rw [stA, lenA]
    have h1 := free_S q b h.1
    have h2 := free_A a (b + lenS q + 1) E h.2
    intro s hs
    rcases List.mem_append.1 hs with hs | hs
    · have := h1 s hs; omega
    · rcases List.mem_cons.1 hs with rfl | hs
      · simp
      · have := h2 s hs; omega
theorem free_S (q : Sq) (b : Nat) (h : okS q) : ∀ s ∈ stS q b, s.free.length ≤ lenS q + 1 := by
  cases q with
  | nil => intro s hs; rw [stS] at hs; cases hs
  | cons r q =>
    rw [stS, lenS]
    have h1 := (free_R r b h.1).2
    have h2 := free_S q (b + lenR r) h.2
    intro s hs
    rcases List.mem_append.1 hs with hs | hs
    · have := h1 s hs; omega
    · have := h2 s hs; omega
end
/-- No step leads to many. -/
def Fb (S : List Stp) : Prop := ∀ s ∈ S, s.free.length ≤ 400
theorem Fb.app {S T : List Stp} (h : Fb S) (k : Fb T) : Fb (S ++ T) := fun s hs => (List.mem_append.1 hs).elim (h s) (k s)
theorem Fb.left {S T : List Stp} (h : Fb (S ++ T)) : Fb S := fun s hs => h s (List.mem_append_left _ hs)
theorem Fb.right {S T : List Stp} (h : Fb (S ++ T)) : Fb T := fun s hs => h s (List.mem_append_right _ hs)
theorem Fb.one {p : UInt8 → Bool} {f : List Nat} (h : f.length ≤ 400) : Fb [⟨p, f⟩] := fun s hs => by simp at hs; subst hs; exact h
theorem Fb.ofR {r : Re} {b : Nat} (h : okR r) (hl : lenR r ≤ 390) : Fb (stR r b) := fun s hs => by have := (free_R r b h).2 s hs; omega
theorem Fb.ofS {q : Sq} {b : Nat} (h : okS q) (hl : lenS q ≤ 390) : Fb (stS q b) := fun s hs => by have := free_S q b h s hs; omega
end Go.Proofs.Ytakkcofmbafneaa
