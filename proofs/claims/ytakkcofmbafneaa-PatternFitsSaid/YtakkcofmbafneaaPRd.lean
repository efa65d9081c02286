/- A pattern is read. -/
import Derived.Test.YtakkcofmbafneaaPAlt
import Derived.Test.YtakkcofmbafneaaPA
namespace Go.Proofs.Ytakkcofmbafneaa
open Go.ChangeShapes Go.WideShapes Go.RowKit

theorem reads_all (n : Nat) : AltC n ∧ SeqC n ∧ PartC n ∧ AtomC n := by
  induction n using Nat.strongRecOn with
  | ind n ih => cases n with
    | zero => exact ⟨fun R d l X V F w D _ _ _ _ _ h => by omega, fun R d l X V F w D _ _ _ _ _ h => by omega, fun R d c l X V F w D _ _ _ _ _ h => by omega, fun R d c l X V F w D _ _ _ _ _ h => by omega⟩
    | succ n => exact ⟨alt_step n fun m h => (ih m (by omega)).2.1, seq_step n fun m h => (ih m (by omega)).2.2.1, part_step n (ih n (by omega)).2.2.2, atom_step n (ih n (by omega)).1⟩
/-- A pattern in memory: its text, its steps. -/
structure PatAt (w : World) (G base : Nat) (t : Bs) (S : List Stp) (V : Value) (F : List Value) : Prop where
  row : Rw w G 58 [sv t, V]
  st : StepsAt w base V S F
theorem PatAt.keep {w w' : World} {G base : Nat} {t : Bs} {S : List Stp} {V : Value} {F : List Value} {T : Nat → Prop} (h : PatAt w G base t S V F) (k : Asd T w w') (h1 : ¬ T G) (h2 : ∀ i, Foot V F i → ¬ T i) : PatAt w' G base t S V F := ⟨h.row.keep k h1, h.st.keep k h2⟩
theorem PatAt.stay {w w' : World} {G base : Nat} {t : Bs} {S : List Stp} {V : Value} {F : List Value} (h : PatAt w G base t S V F) (k : Below w.heap.size w w') : PatAt w' G base t S V F := ⟨h.row.stay k, h.st.stay k⟩
/-- The pattern of a text, or what stands in the way. -/
def resP : Res Al → Option Al
  | .ok a _ => some a
  | .er _ => none
def resE : Res Al → Int
  | .ok _ _ => 0
  | .er e => erV e
def patM (p : Bs) : Option Al := if 100 < p.length then none else resP (readN p)
def errM (p : Bs) : Int := if 100 < p.length then 4 else resE (readN p)
def stepsM (a : Al) : List Stp := stR (.grp a) 0
def ReadQ (p : Bs) (w : World) (e : Ending) (w' : World) : Prop := Below w.heap.size w w' ∧ match patM p with
  | none => e = .returned (.tuple #[.pointer none, .int .i64 (errM p)])
  | some a => ∃ G V F, e = .returned (.tuple #[.pointer (some ⟨G, 0, none⟩), .int .i64 0]) ∧ w.heap.size ≤ G ∧ PatAt w' G w.heap.size p (stepsM a) V F
theorem readN_er {p : Bs} {e : Er} (h : altN (4 * p.length + 4) 0 p = .er e) : readN p = .er e := by unfold readN; rw [h]
theorem readN_end {p : Bs} {a : Al} (h : altN (4 * p.length + 4) 0 p = .ok a []) : readN p = .ok a [] := by unfold readN; rw [h]
theorem readN_more {p r : Bs} {a : Al} {c : UInt8} (h : altN (4 * p.length + 4) 0 p = .ok a (c :: r)) : readN p = .er .form := by unfold readN; rw [h]
theorem foot_void (k : Nat) : ¬ Foot (.slice none 0 0) [] k := by
  rintro (e | ⟨f, hf, _⟩)
  · cases e
  · cases hf
theorem StepsAt.mono {w : World} {b b' : Nat} {V : Value} {S : List Stp} {F : List Value} (h : StepsAt w b V S F) (hb : ∀ k, Foot V F k → b' ≤ k) : StepsAt w b' V S F := by
  have up : ∀ {e : TypeId} {s n : Nat} {v : Value} {xs : List Value}, w.ownsRow b e s v n xs → (∀ k, v.ownBlock = some k → b' ≤ k) → w.ownsRow b' e s v n xs := fun {e s n v xs} hr hk => by
    rcases hr with ⟨h1, h2 | ⟨g, cap, cur, rfl, hg, h3⟩⟩
    · exact ⟨h1, .inl h2⟩
    · exact ⟨h1, .inr ⟨g, cap, cur, rfl, hk g rfl, h3⟩⟩
  exact ⟨h.len, up h.row fun k e => hb k (.inl e), fun i s f h1 h2 => up (h.free i s f h1 h2) fun k e => hb k (.inr ⟨f, List.mem_of_getElem? h2, e⟩), h.off, h.two⟩
set_option maxHeartbeats 1600000 in
set_option maxRecDepth 100000 in
theorem read_any (p : Bs) (w : World) (hp : p.length ≤ 100000) : Calls Try.prog 11 #[.string ⟨p.toArray⟩] w (ReadQ p w) := by
  have hsz : (⟨p.toArray⟩ : ByteArray).size = p.length := by simp [ByteArray.size]
  unfold ReadQ
  by_cases hl : 100 < p.length
  · rw [show patM p = none by unfold patM; rw [if_pos hl], show errM p = 4 by unfold errM; rw [if_pos hl]]
    have hgt : (100 : Int) < ((⟨p.toArray⟩ : ByteArray).size : Int) := by rw [hsz]; omega
    clear hsz
    generalize (⟨p.toArray⟩ : ByteArray) = T at *
    go_enter Try.func11, Try.ntmps11
    go_wp2_with fail
    go_ret2
    exact ⟨Below.refl _ _, rfl⟩
  · have hgt : ¬ ((100 : Int) < ((⟨p.toArray⟩ : ByteArray).size : Int)) := by rw [hsz]; omega
    clear hsz
    obtain ⟨o, ho⟩ : ∃ o, altN (4 * p.length + 4) 0 p = o := ⟨_, rfl⟩
    cases o with
    | er er =>
      have hr := readN_er ho
      rw [show patM p = none by unfold patM; rw [if_neg hl, hr]; rfl, show errM p = erV er by unfold errM; rw [if_neg hl, hr]; rfl]
      have hne := erV_ne er
      have hne2 : (erV er == 0) = false := by cases er <;> rfl
      clear hr
      obtain ⟨T, hT⟩ : ∃ T, (⟨p.toArray⟩ : ByteArray) = T := ⟨_, rfl⟩
      have r1 := Rw.new w 55 [sv p, .slice none 0 0]
      have hb1 := (Below.refl w.heap.size w).alloc (Nat.le_refl _) (.cells [sv p, .slice none 0 0].toArray 55)
      rw [show sv p = .string T by rw [← hT]; rfl] at hb1
      have r1' : Rq (w.alloc (.cells #[.string T, .slice none 0 0] 55)) w.heap.size p (.slice none 0 0) := by rw [← hT]; exact r1
      change Below w.heap.size w (w.alloc (.cells #[.string T, .slice none 0 0] 55)) at hb1
      have HT : Unit → (⟨p.toArray⟩ : ByteArray) = T := fun _ => hT
      rw [hT] at hgt ⊢
      clear hT r1
      go_enter Try.func11, Try.ntmps11
      go_upto_region 4 with fail
      generalize w.alloc (.cells #[.string T, .slice none 0 0] 55) = w1 at *
      have h1 : RdAt w1 w.heap.size p [] (.slice none 0 0) [] := ⟨r1', StepsAt.void _ _⟩
      have K := (reads_all (4 * p.length + 4)).1 w.heap.size 0 p [] (.slice none 0 0) [] w1 0 h1 rfl (by omega) (by simp; omega) (fun s hs => by cases hs) (Nat.le_refl _)
      rw [ho] at K
      have hsz1 := hb1.size
      clear r1' h1 ho
      replace K := Lib.hid K
      go_wp2_with fail
      refine K.out.mono ?_
      rintro e w2 ⟨rfl, hA⟩
      have hB : Below w.heap.size w w2 := hb1.trans (hA.toBelow hsz1 fun k hk => by rcases hk with rfl | hk; exact Nat.le_refl _; exact absurd hk (foot_void k))
      clear K hb1 hsz1 hA
      go_wp2_with fail
      go_ret2
      exact ⟨hB, rfl⟩
    | ok a r =>
      cases r with
      | cons c r =>
        have hr := readN_more ho
        rw [show patM p = none by unfold patM; rw [if_neg hl, hr]; rfl, show errM p = 2 by unfold errM; rw [if_neg hl, hr]; rfl]
        clear hr
        obtain ⟨T, hT⟩ : ∃ T, (⟨p.toArray⟩ : ByteArray) = T := ⟨_, rfl⟩
        have r1 := Rw.new w 55 [sv p, .slice none 0 0]
        have hb1 := (Below.refl w.heap.size w).alloc (Nat.le_refl _) (.cells [sv p, .slice none 0 0].toArray 55)
        rw [show sv p = .string T by rw [← hT]; rfl] at hb1
        have r1' : Rq (w.alloc (.cells #[.string T, .slice none 0 0] 55)) w.heap.size p (.slice none 0 0) := by rw [← hT]; exact r1
        change Below w.heap.size w (w.alloc (.cells #[.string T, .slice none 0 0] 55)) at hb1
        have HT : Unit → (⟨p.toArray⟩ : ByteArray) = T := fun _ => hT
        rw [hT] at hgt ⊢
        clear hT r1
        go_enter Try.func11, Try.ntmps11
        go_upto_region 4 with fail
        generalize w.alloc (.cells #[.string T, .slice none 0 0] 55) = w1 at *
        have h1 : RdAt w1 w.heap.size p [] (.slice none 0 0) [] := ⟨r1', StepsAt.void _ _⟩
        have K := (reads_all (4 * p.length + 4)).1 w.heap.size 0 p [] (.slice none 0 0) [] w1 0 h1 rfl (by omega) (by simp; omega) (fun s hs => by cases hs) (Nat.le_refl _)
        rw [ho] at K
        have hsz1 := hb1.size
        clear r1' h1 ho
        replace K := Lib.hid K
        go_wp2_with fail
        refine K.out.mono ?_
        rintro e w2 ⟨rfl, V2, F2, h2, g2⟩
        have hA := g2.asd
        have hB : Below w.heap.size w w2 := hb1.trans (hA.toBelow hsz1 fun k hk => by rcases hk with rfl | hk; exact Nat.le_refl _; exact absurd hk (foot_void k))
        have c2 := h2.q.rest
        have he := full_text c r
        generalize (⟨(c :: r).toArray⟩ : ByteArray) = Y at c2 he
        clear K hb1 hsz1 hA g2 h2
        go_wp2_with fail
        go_ret2
        exact ⟨hB, rfl⟩
      | nil =>
        have hr := readN_end ho
        rw [show patM p = some a by unfold patM; rw [if_neg hl, hr]; rfl]
        clear hr
        obtain ⟨T, hT⟩ : ∃ T, (⟨p.toArray⟩ : ByteArray) = T := ⟨_, rfl⟩
        have r1 := Rw.new w 55 [sv p, .slice none 0 0]
        have hb1 := (Below.refl w.heap.size w).alloc (Nat.le_refl _) (.cells [sv p, .slice none 0 0].toArray 55)
        rw [show sv p = .string T by rw [← hT]; rfl] at hb1
        have r1' : Rq (w.alloc (.cells #[.string T, .slice none 0 0] 55)) w.heap.size p (.slice none 0 0) := by rw [← hT]; exact r1
        change Below w.heap.size w (w.alloc (.cells #[.string T, .slice none 0 0] 55)) at hb1
        have HT : Unit → (⟨p.toArray⟩ : ByteArray) = T := fun _ => hT
        rw [hT] at hgt ⊢
        clear hT r1
        go_enter Try.func11, Try.ntmps11
        go_upto_region 4 with fail
        generalize w.alloc (.cells #[.string T, .slice none 0 0] 55) = w1 at *
        have h1 : RdAt w1 w.heap.size p [] (.slice none 0 0) [] := ⟨r1', StepsAt.void _ _⟩
        have K := (reads_all (4 * p.length + 4)).1 w.heap.size 0 p [] (.slice none 0 0) [] w1 0 h1 rfl (by omega) (by simp; omega) (fun s hs => by cases hs) (Nat.le_refl _)
        rw [ho] at K
        have hsz1 := hb1.size
        clear r1' h1 ho
        replace K := Lib.hid K
        go_wp2_with fail
        refine K.out.mono ?_
        rintro e w2 ⟨rfl, V2, F2, h2, g2⟩
        have hA := g2.asd
        have hB : Below w.heap.size w w2 := hb1.trans (hA.toBelow hsz1 fun k hk => by rcases hk with rfl | hk; exact Nat.le_refl _; exact absurd hk (foot_void k))
        have c2 := h2.q.rest
        have c3 := h2.q.steps
        have he := null_text
        generalize (⟨([] : Bs).toArray⟩ : ByteArray) = Y at c2 he
        have r3 := Rw.new w2 58 [sv p, V2]
        have hb3 := (Below.refl w2.heap.size w2).alloc (Nat.le_refl _) (.cells [sv p, V2].toArray 58)
        have s3 := h2.st.stay hb3
        rw [show sv p = .string T by rw [← HT ()]; rfl] at hb3 s3 r3
        have hsz2 := hB.size
        obtain ⟨aV, cV, eV, _⟩ := own_slice h2.st.row
        subst eV
        clear K hb1 hsz1 hA h2 g2
        go_wp2_with fail
        go_ret2
        refine ⟨hB.trans (hb3.mono hsz2), w2.heap.size, _, F2, rfl, hsz2, ⟨?_, s3.mono fun k hk => ?_⟩⟩
        · rw [show sv p = .string T by rw [← HT ()]; rfl]
          exact r3
        · have := (s3.lt hk).1; omega
/-- Right. -/
theorem right_any (p : Bs) (w : World) (hp : p.length ≤ 100000) : Calls Try.prog 12 #[.string ⟨p.toArray⟩] w fun e w' => e = .returned (.int .i64 (errM p)) ∧ Below w.heap.size w w' := by
  have K := Lib.hid (read_any p w hp)
  have hE : ∀ a, patM p = some a → errM p = 0 := fun a h => by
    unfold patM at h
    unfold errM
    split at h
    · cases h
    · rename_i hl
      rw [if_neg hl]
      cases hr : readN p with
      | er e => rw [hr] at h; cases h
      | ok a r => rfl
  generalize (⟨p.toArray⟩ : ByteArray) = T at *
  go_enter Try.func12, Try.ntmps12
  go_wp2_with fail
  refine K.out.mono ?_
  rintro e w1 ⟨hB, hm⟩
  clear K
  cases hP : patM p with
  | none =>
    rw [hP] at hm
    obtain rfl := hm
    clear hP hE
    go_wp2_with fail
    go_ret
    exact ⟨rfl, hB⟩
  | some a =>
    rw [hP] at hm
    obtain ⟨G, V, F, rfl, _⟩ := hm
    have h0 := hE a hP
    clear hE hP
    go_wp2_with fail
    go_ret
    exact ⟨by rw [h0]; rfl, hB⟩
end Go.Proofs.Ytakkcofmbafneaa
