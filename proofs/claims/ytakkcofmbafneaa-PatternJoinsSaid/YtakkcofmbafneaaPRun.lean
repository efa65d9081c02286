/- Patterns, plain: the steps that a text leads to, byte by byte; what is reached without a byte, one after the other. -/
import Derived.Test.YtakkcofmbafneaaPMain
namespace Go.Proofs.Ytakkcofmbafneaa

def Eps (S : List Stp) (k j : Nat) : Prop := ∃ n, In S 0 S.length n k [] j
/-- The text leads from the first step to step k. -/
def At (S : List Stp) (s : Bx) (k : Nat) : Prop := ∃ n, In S 0 S.length n 0 s k
def Suc (S : List Stp) (k m : Nat) : Prop := ∃ st, S[k]? = some st ∧ m ∈ st.free
theorem In.split {S : List Stp} {b e n k j : Nat} {u : Bx} (h : In S b e n k u j) : ∀ s t, u = s ++ t → ∃ i n1 n2, In S b e n1 k s i ∧ In S b e n2 i t j := by
  induction h with
  | refl k =>
    intro s t e
    obtain ⟨rfl, rfl⟩ := List.append_eq_nil_iff.1 e.symm
    exact ⟨k, 0, 0, .refl _, .refl _⟩
  | eps h1 h2 h3 h4 _ ih =>
    intro s t e
    obtain ⟨i, n1, n2, a1, a2⟩ := ih s t e
    exact ⟨i, n1 + 1, n2, .eps h1 h2 h3 h4 a1, a2⟩
  | @byte n k j u st c h1 h2 h3 h4 h5 ih =>
    intro s t e
    cases s with
    | nil => exact ⟨k, 0, n + 1, .refl _, by rw [List.nil_append] at e; rw [← e]; exact .byte h1 h2 h3 h4 h5⟩
    | cons d s =>
      simp at e
      obtain ⟨rfl, e⟩ := e
      obtain ⟨i, n1, n2, a1, a2⟩ := ih s t e
      exact ⟨i, n1 + 1, n2, .byte h1 h2 h3 h4 a1, a2⟩
theorem In.over {S : List Stp} {b e n k j : Nat} {u : Bx} (h : In S b e n k u j) : ∀ c t, u = c :: t → ∃ i st n1 n2, In S b e n1 k [] i ∧ S[i]? = some st ∧ st.set c = true ∧ In S b e n2 (i + 1) t j := by
  induction h with
  | refl k => intro c t e; cases e
  | eps h1 h2 h3 h4 _ ih =>
    intro c t e
    obtain ⟨i, st, n1, n2, a1, a2, a3, a4⟩ := ih c t e
    exact ⟨i, st, n1 + 1, n2, .eps h1 h2 h3 h4 a1, a2, a3, a4⟩
  | @byte n k j u st d h1 h2 h3 h4 h5 ih =>
    intro c t e
    injection e with e1 e2
    subst e1 e2
    exact ⟨k, st, 0, n, .refl _, h3, h4, h5⟩
theorem at_over {S : List Stp} {s t : Bx} {c : UInt8} {k : Nat} (h : At S (s ++ c :: t) k) : ∃ j st, At S s j ∧ S[j]? = some st ∧ st.set c = true ∧ ∃ n, In S 0 S.length n (j + 1) t k := by
  obtain ⟨n, h⟩ := h
  obtain ⟨i, n1, n2, a1, a2⟩ := h.split s (c :: t) rfl
  obtain ⟨j, st, m1, m2, b1, b2, b3, b4⟩ := a2.over c t rfl
  have := a1.trans b1
  rw [List.append_nil] at this
  exact ⟨j, st, ⟨_, this⟩, b2, b3, _, b4⟩
theorem at_snoc {S : List Stp} {s : Bx} {c : UInt8} {k : Nat} : At S (s ++ [c]) k ↔ ∃ j st, At S s j ∧ S[j]? = some st ∧ st.set c = true ∧ Eps S (j + 1) k := by
  constructor
  · intro h
    exact at_over h
  · rintro ⟨j, st, ⟨n, h1⟩, h2, h3, ⟨m, h4⟩⟩
    exact ⟨_, h1.trans (.byte (Nat.zero_le _) (some_lt h2) h2 h3 h4)⟩
theorem Eps.refl {S : List Stp} (k : Nat) : Eps S k k := ⟨0, .refl _⟩
theorem Suc.eps {S : List Stp} {k m j : Nat} (h : Suc S k m) (h' : Eps S m j) : Eps S k j := by
  obtain ⟨st, h1, h2⟩ := h
  obtain ⟨n, h3⟩ := h'
  exact ⟨n + 1, .eps (Nat.zero_le _) (some_lt h1) h1 h2 h3⟩
/-- A set with all that it leads to without a byte. -/
def Shut (S : List Stp) (R : Nat → Prop) : Prop := ∀ k, R k → ∀ m, Suc S k m → R m
theorem Shut.eps {S : List Stp} {R : Nat → Prop} (h : Shut S R) {k j : Nat} (hk : R k) (he : Eps S k j) : R j := by
  obtain ⟨n, he⟩ := he
  have : ∀ {n k j : Nat} {u : Bx}, In S 0 S.length n k u j → u = [] → R k → R j := fun {n k j u} hi => by
    induction hi with
    | refl k => exact fun _ hk => hk
    | eps h1 h2 h3 h4 _ ih => exact fun e hk => ih e (h _ hk _ ⟨_, h3, h4⟩)
    | byte => exact fun e => by cases e
  exact this he rfl hk
/-- What a search from k on finds: R1, of which R0 was there. -/
structure Rch (S : List Stp) (R0 : Nat → Prop) (k : Nat) (R1 : Nat → Prop) : Prop where
  sub : ∀ j, R0 j → R1 j
  here : R1 k
  new : ∀ j, R1 j → R0 j ∨ Eps S k j
  shut : ∀ j, R1 j → R0 j ∨ ∀ m, Suc S j m → R1 m
/-- .. on its way, with the first ones of k's followers done. -/
structure RchL (S : List Stp) (R0 : Nat → Prop) (k : Nat) (l : List Nat) (R : Nat → Prop) : Prop where
  sub : ∀ j, R0 j → R j
  here : R k
  new : ∀ j, R j → R0 j ∨ Eps S k j
  shut : ∀ j, R j → R0 j ∨ j = k ∨ ∀ m, Suc S j m → R m
  done : ∀ m ∈ l, R m
theorem rch_hit {S : List Stp} {R : Nat → Prop} {k : Nat} (h : R k) : Rch S R k R := ⟨fun _ h => h, h, fun _ h => .inl h, fun _ h => .inl h⟩
theorem rchL_start (S : List Stp) (R : Nat → Prop) (k : Nat) : RchL S R k [] (fun j => R j ∨ j = k) :=
  ⟨fun _ h => .inl h, .inr rfl, fun j h => h.elim .inl (fun e => by subst e; exact .inr (.refl _)), fun j h => h.elim .inl (fun e => .inr (.inl e)), fun _ h => by cases h⟩
theorem RchL.step {S : List Stp} {R0 R R' : Nat → Prop} {k m : Nat} {l : List Nat} (h : RchL S R0 k l R) (hm : Suc S k m) (h' : Rch S R m R') : RchL S R0 k (l ++ [m]) R' :=
  ⟨fun j hj => h'.sub j (h.sub j hj), h'.sub k h.here, fun j hj => (h'.new j hj).elim (h.new j) (fun e => .inr (hm.eps e)),
   fun j hj => (h'.shut j hj).elim (fun a => (h.shut j a).elim .inl (fun b => b.elim (fun e => .inr (.inl e)) (fun c => .inr (.inr fun m' hm' => h'.sub _ (c m' hm'))))) (fun c => .inr (.inr c)),
   fun m' hm' => (List.mem_append.1 hm').elim (fun a => h'.sub _ (h.done _ a)) (fun a => by rw [List.mem_singleton.1 a]; exact h'.here)⟩
theorem RchL.stop {S : List Stp} {R0 R : Nat → Prop} {k : Nat} {l : List Nat} (h : RchL S R0 k l R) (hl : ∀ m, Suc S k m → m ∈ l) : Rch S R0 k R :=
  ⟨h.sub, h.here, h.new, fun j hj => (h.shut j hj).elim .inl (fun b => .inr (b.elim (fun e => by subst e; exact fun m hm => h.done m (hl m hm)) (fun c => c)))⟩
theorem Rch.all {S : List Stp} {R0 R1 : Nat → Prop} {k : Nat} (h0 : Shut S R0) (h : Rch S R0 k R1) : Shut S R1 ∧ ∀ j, R1 j ↔ R0 j ∨ Eps S k j := by
  have hs : Shut S R1 := fun j hj m hm => (h.shut j hj).elim (fun a => h.sub m (h0 j a m hm)) (fun c => c m hm)
  exact ⟨hs, fun j => ⟨h.new j, fun e => e.elim (h.sub j) (fun e => hs.eps h.here e)⟩⟩
/-- The steps of a whole pattern. -/
theorem runs {a : Al} (ho : okA a) (s : Bx) : At (stR (.grp a) 0) s (stR (.grp a) 0).length ↔ langA a s := by
  have h := waysR (.grp a) (stR (.grp a) 0) 0 (by rw [okR]; exact ho) (fun i _ => by rw [Nat.zero_add]) s
  rw [langR, Nat.zero_add, ← stR_length (.grp a) 0] at h
  exact h
end Go.Proofs.Ytakkcofmbafneaa
