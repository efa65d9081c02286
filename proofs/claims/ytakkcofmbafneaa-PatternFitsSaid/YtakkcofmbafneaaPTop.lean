/- Patterns: what the callers see; the document's example. -/
import Derived.Test.YtakkcofmbafneaaPLeast2
namespace Go.Proofs.Ytakkcofmbafneaa
open Go.ChangeShapes Go.WideShapes Go.RowKit

theorem patM_ok {p : Bs} {a : Al} (h : patM p = some a) : okA a ∧ lenA a ≤ 101 ∧ p.length ≤ 100 ∧ readN p = .ok a [] := by
  unfold patM at h
  split at h
  · cases h
  · rename_i hl
    cases hr : readN p with
    | er e => rw [hr] at h; cases h
    | ok a' r =>
      rw [hr] at h
      injection h with h
      subst h
      obtain ⟨rfl, h2, h3⟩ := readN_ok hr
      have := ((reads_good _).1 _ _ _ _ h2).2.2
      simp only [List.length_nil] at this
      exact ⟨h3, by omega, by omega, rfl⟩
theorem fits_meth {G base : Nat} {p : Bs} {a : Al} {V : Value} {F : List Value} (ho : okA a) (hl : lenA a ≤ 101) (s : Bs) (w : World) (hP : PatAt w G base p (stepsM a) V F) (hs : s.length ≤ 100000) :
    Calls Try.prog 16 #[.pointer (some ⟨G, 0, none⟩), .string ⟨s.toArray⟩] w fun e w' => (∃ b, e = .returned (.bool b) ∧ (b = true ↔ langA a s)) ∧ Below w.heap.size w w' :=
  (fitsm_any G base p (stepsM a) V F (tame_steps ho (by omega)) s w hP hs).mono fun e w' ⟨⟨b, he, hb⟩, hB⟩ => ⟨⟨b, he, hb.trans (runs ho s)⟩, hB⟩
theorem least_meth {G base : Nat} {p : Bs} {a : Al} {V : Value} {F : List Value} (ho : okA a) (hl : lenA a ≤ 101) (w : World) (hP : PatAt w G base p (stepsM a) V F) :
    Calls Try.prog 18 #[.pointer (some ⟨G, 0, none⟩)] w fun e w' => (∃ o, e = .returned (wayT o) ∧ IsLst (langA a) o ∧ Bd 102 o) ∧ Below w.heap.size w w' := by
  have hlen : (stepsM a).length = lenR (.grp a) := stR_length _ _
  have h1 : lenR (.grp a) = 1 + lenA a := by rw [lenR]
  refine (leastm_any G base p (stepsM a) V F (tame_steps ho (by omega)) (by omega) w hP).mono fun e w' ⟨⟨o, he, h2, h3⟩, hB⟩ => ⟨⟨o, he, least_whole ho h2, h3.mono (by omega)⟩, hB⟩
theorem fits_none (T : ByteArray) (w : World) : Calls Try.prog 16 #[.pointer none, .string T] w fun e w' => e = .returned (.bool false) ∧ w' = w := by
  go_enter Try.func16, Try.ntmps16
  go_wp2_with fail
  go_ret
  exact ⟨rfl, rfl⟩
theorem least_none (w : World) : Calls Try.prog 18 #[.pointer none] w fun e w' => e = .returned (wayT none) ∧ w' = w := by
  go_enter Try.func18, Try.ntmps18
  go_wp2_with fail
  go_ret2
  exact ⟨rfl, rfl⟩
theorem text_none (w : World) : Calls Try.prog 17 #[.pointer none] w fun e w' => e = .returned (.string ⟨#[]⟩) ∧ w' = w := by
  go_enter Try.func17, Try.ntmps17
  go_wp2_with fail
  go_ret
  exact ⟨rfl, rfl⟩
/-- A text fits a pattern that may be. -/
def FitP (p s : Bs) : Prop := ∃ a, patM p = some a ∧ langA a s
set_option maxHeartbeats 800000 in
set_option maxRecDepth 100000 in
theorem fits_any (p s : Bs) (w : World) (hp : p.length ≤ 100000) (hs : s.length ≤ 100000) :
    Calls Try.prog 15 #[.string ⟨p.toArray⟩, .string ⟨s.toArray⟩] w fun e w' => (∃ b, e = .returned (.bool b) ∧ (b = true ↔ FitP p s)) ∧ Below w.heap.size w w' := by
  have K := Lib.hid (read_any p w hp)
  have HM := fun (a : Al) (h : patM p = some a) (G base : Nat) (V : Value) (F : List Value) (w : World) (hP : PatAt w G base p (stepsM a) V F) => fits_meth (patM_ok h).1 (patM_ok h).2.1 s w hP hs
  have H0 := Lib.hid fun w => fits_none ⟨s.toArray⟩ w
  generalize (⟨p.toArray⟩ : ByteArray) = T at *
  generalize (⟨s.toArray⟩ : ByteArray) = U at *
  cases hm : patM p with
  | none =>
    unfold ReadQ at K
    rw [hm] at K
    have HF : Unit → ¬ FitP p s := fun _ ⟨a, h, _⟩ => by rw [hm] at h; cases h
    clear HM hm
    go_enter Try.func15, Try.ntmps15
    go_wp2_with fail
    refine K.out.mono ?_
    rintro e w1 ⟨hB, rfl⟩
    clear K
    go_wp2_with fail
    refine (H0.out _).mono ?_
    rintro e w2 ⟨rfl, hw2⟩
    obtain rfl : w1 = w2 := hw2.symm
    clear H0
    go_wp2_with fail
    go_ret
    exact ⟨⟨false, rfl, ⟨fun e => (by cases e), fun h => absurd h (HF ())⟩⟩, hB⟩
  | some a =>
    unfold ReadQ at K
    rw [hm] at K
    have HF : Unit → (FitP p s ↔ langA a s) := fun _ => ⟨fun ⟨a', h, h'⟩ => by rw [hm] at h; injection h with h; rw [h]; exact h', fun h => ⟨a, hm, h⟩⟩
    have HM2 := Lib.hid (HM a hm)
    clear HM hm H0
    go_enter Try.func15, Try.ntmps15
    go_wp2_with fail
    refine K.out.mono ?_
    rintro e w1 ⟨hB, G, V, F, rfl, hG, hP⟩
    clear K
    have K2 := Lib.hid (HM2.out G _ V F w1 hP)
    clear HM2 hP hG
    go_wp2_with fail
    refine K2.out.mono ?_
    rintro e w2 ⟨⟨b, rfl, hb⟩, hB2⟩
    clear K2
    go_wp2_with fail
    go_ret
    exact ⟨⟨b, rfl, hb.trans (HF ()).symm⟩, hB.trans (hB2.mono hB.size)⟩
theorem ex_pat : patM exP = some exA := by unfold patM; rw [if_neg (by decide), ex_read]; rfl
theorem ex_err : errM [40] = 2 := by unfold errM; rw [if_neg (by decide), open_read]; rfl
set_option maxHeartbeats 3200000 in
set_option maxRecDepth 100000 in
/-- The document's example. -/
theorem lives_any (w : World) : Calls Try.prog 9 #[] w fun e w' => e = .returned (.bool true) ∧ Below w.heap.size w w' := by
  have K := read_any exP w (by decide)
  unfold ReadQ at K
  rw [ex_pat] at K
  have hok := (patM_ok ex_pat).1
  have hln := (patM_ok ex_pat).2.1
  replace K := Lib.hid K
  go_enter Try.func9, Try.ntmps9
  go_wp2_with fail
  refine K.out.mono ?_
  rintro e w1 ⟨hB, G, V, F, rfl, hG, hP⟩
  clear K
  have K2 := Lib.hid (least_meth hok hln w1 hP)
  go_wp2_with fail
  refine K2.out.mono ?_
  rintro e w2 ⟨⟨o, rfl, ho, _⟩, hB2⟩
  obtain rfl := ex_least ho
  have hP2 := hP.stay hB2
  have hB3 := hB.trans (hB2.mono hB.size)
  clear K2 hB hB2 hP ho
  have K3 := Lib.hid (fits_meth hok hln [97] w2 hP2 (by decide))
  simp only [wayT]
  go_wp2_with fail
  refine K3.out.mono ?_
  rintro e w3 ⟨⟨b, rfl, hb⟩, hB4⟩
  obtain rfl := hb.2 ex_a
  have hP3 := hP2.stay hB4
  have hB5 := hB3.trans (hB4.mono hB3.size)
  clear K3 hb hB3 hB4 hP2
  have K4 := Lib.hid (fits_meth hok hln [98] w3 hP3 (by decide))
  go_wp2_with fail
  refine K4.out.mono ?_
  rintro e w4 ⟨⟨b, rfl, hb⟩, hB6⟩
  obtain rfl := hb.2 ex_b
  have hP4 := hP3.stay hB6
  have hB7 := hB5.trans (hB6.mono hB5.size)
  clear K4 hb hB5 hB6 hP3
  have K5 := Lib.hid (fits_meth hok hln [98, 55] w4 hP4 (by decide))
  go_wp2_with fail
  refine K5.out.mono ?_
  rintro e w5 ⟨⟨b, rfl, hb⟩, hB8⟩
  obtain rfl := hb.2 ex_b7
  have hP5 := hP4.stay hB8
  have hB9 := hB7.trans (hB8.mono hB7.size)
  clear K5 hb hB7 hB8 hP4
  have K6 := Lib.hid (fits_meth hok hln [97, 98] w5 hP5 (by decide))
  go_wp2_with fail
  refine K6.out.mono ?_
  rintro e w6 ⟨⟨b, rfl, hb⟩, hB10⟩
  obtain rfl : b = false := by cases b with | false => rfl | true => exact absurd (hb.1 rfl) ex_ab
  have hB11 := hB9.trans (hB10.mono hB9.size)
  clear K6 hb hB9 hB10 hP5
  have K7 := right_any [40] w6 (by decide)
  rw [ex_err] at K7
  replace K7 := Lib.hid K7
  go_wp2_with fail
  refine K7.out.mono ?_
  rintro e w7 ⟨rfl, hB12⟩
  have hB13 := hB11.trans (hB12.mono hB11.size)
  clear K7 hB11 hB12
  go_wp2_with fail
  go_ret
  exact ⟨rfl, hB13⟩
theorem take_text (l : Bs) (m : Nat) (z : Int) (hz : z = (m : Int)) : (⟨l.toArray⟩ : ByteArray).extract 0 (min (l.length : Int) z).toNat = ⟨(l.take m).toArray⟩ := by
  subst hz
  rw [extract_text, List.drop_zero, show (min (l.length : Int) (m : Int)).toNat = min l.length m by omega]
  congr 2
  rw [Nat.min_comm, ← List.take_take, List.take_length]
/-- The first 60 bytes. -/
theorem early_any (l : Bs) (w : World) (hl : l.length ≤ 9223372036854775807) : Calls Try.prog 14 #[.string ⟨l.toArray⟩] w fun e w' => e = .returned (.string ⟨(l.take 60).toArray⟩) ∧ w' = w := by
  have hsz : (⟨l.toArray⟩ : ByteArray).size = l.length := by simp [ByteArray.size]
  have ht := take_text l 60 60 rfl
  generalize (⟨(l.take 60).toArray⟩ : ByteArray) = T at *
  have hle : (l.length : Int) ≤ 9223372036854775807 := by omega
  go_enter Try.func14, Try.ntmps14
  go_wp2_with fail
  go_ret
  exact ⟨rfl, rfl⟩
end Go.Proofs.Ytakkcofmbafneaa
