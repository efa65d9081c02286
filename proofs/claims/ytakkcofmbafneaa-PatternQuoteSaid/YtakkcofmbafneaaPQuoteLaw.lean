/- PatternQuote returns true, whatever the texts. -/
import Derived.Test.YtakkcofmbafneaaPRefQ
namespace Go.Proofs.Ytakkcofmbafneaa
open Go.ChangeShapes Go.WideShapes Go.RowKit

theorem errM_quote {s : Bs} (h : ¬ 100 < (quoteN s).length) : errM (quoteN s) = 0 := by
  unfold errM
  rw [if_neg h, quote_read]
  rfl
theorem fit_quote {s : Bs} (h : ¬ 100 < (quoteN s).length) (t : Bs) : FitP (quoteN s) t ↔ t = s := by
  have hp : patM (quoteN s) = some (.one (chrs s)) := by unfold patM; rw [if_neg h, quote_read]; rfl
  constructor
  · rintro ⟨a, h1, h2⟩
    rw [hp] at h1
    injection h1 with h1
    subst h1
    rw [langA] at h2
    exact (chrs_lang s t).1 h2
  · rintro rfl
    exact ⟨_, hp, by rw [langA]; exact (chrs_lang _ _).2 rfl⟩
set_option maxHeartbeats 3200000 in
theorem quotelaw_any (s t : Bs) (w : World) (hs : s.length ≤ 9223372036854775807) (ht : t.length ≤ 9223372036854775807) :
    Calls Try.prog 5 #[.string ⟨s.toArray⟩, .string ⟨t.toArray⟩] w fun e w' => e = .returned (.bool true) ∧ Below w.heap.size w w' := by
  have KE := Lib.hid fun w => early_any s w hs
  have KE2 := Lib.hid fun w => early_any t w ht
  have KL := Lib.hid fun w => lives_any w
  have hSl : (s.take 60).length ≤ 60 := by rw [List.length_take]; omega
  have hUl : (t.take 60).length ≤ 60 := by rw [List.length_take]; omega
  obtain ⟨S, hS⟩ : ∃ S, s.take 60 = S := ⟨_, rfl⟩
  obtain ⟨U, hU⟩ : ∃ U, t.take 60 = U := ⟨_, rfl⟩
  simp only [hS] at KE hSl
  simp only [hU] at KE2 hUl
  have hq := quoteN_len S
  have KQ := Lib.hid fun w => quote_any S w (by omega)
  have KR := Lib.hid fun w => rquote_any S w (by omega)
  have hfit := fun h => fit_quote (s := S) h
  have herr := fun h => errM_quote (s := S) h
  obtain ⟨Q, hQ⟩ : ∃ Q, quoteN S = Q := ⟨_, rfl⟩
  rw [hQ] at KQ KR hq hfit herr
  have KG := Lib.hid fun w => right_any Q w (by omega)
  have KF := Lib.hid fun w => fits_any Q S w (by omega) (by omega)
  have KF2 := Lib.hid fun w => fits_any Q U w (by omega) (by omega)
  have hz1 : ((⟨Q.toArray⟩ : ByteArray).size : Int) = (Q.length : Int) := by simp [ByteArray.size]
  have hz2 : ((⟨S.toArray⟩ : ByteArray).size : Int) = (S.length : Int) := by simp [ByteArray.size]
  have hsame := same_text S U
  have hlq : ¬ (2 * (S.length : Int) < (Q.length : Int)) := by omega
  have hSi : (S.length : Int) ≤ 60 := by omega
  generalize (⟨s.toArray⟩ : ByteArray) = T at *
  generalize (⟨t.toArray⟩ : ByteArray) = T2 at *
  generalize (⟨Q.toArray⟩ : ByteArray) = TQ at *
  have KX : Unit → ∀ b, (b = true ↔ FitP Q U) → ¬ 100 < Q.length → (b == (S == U)) = true := fun _ b hb h => by
    rw [hfit h] at hb
    by_cases e : U = S
    · rw [hb.2 e, e]; simp
    · have : b = false := by cases b with | false => rfl | true => exact absurd (hb.1 rfl) e
      rw [this, show (S == U) = false by rw [beq_eq_false_iff_ne]; exact fun e' => e e'.symm]; rfl
  have KY : Unit → ∀ b, (b = true ↔ FitP Q S) → ¬ 100 < Q.length → b = true := fun _ b hb h => hb.2 ((hfit h S).2 rfl)
  have HE : Unit → ¬ 100 < Q.length → errM Q = 0 := fun _ h => herr h
  have HL : Unit → 100 < Q.length → errM Q = 4 := fun _ h => by unfold errM; rw [if_pos h]
  clear hfit herr hS hU hQ hq hs ht hUl hSl
  generalize (⟨S.toArray⟩ : ByteArray) = TS at *
  generalize (⟨U.toArray⟩ : ByteArray) = TU at *
  go_enter Try.func5, Try.ntmps5
  go_wp2_with fail
  refine (KL.out _).mono ?_
  rintro e w1 ⟨rfl, hB1⟩
  clear KL
  go_wp2_with fail
  refine (KE.out _).mono ?_
  rintro e w2 ⟨rfl, hw2⟩
  obtain rfl : w1 = w2 := hw2.symm
  clear KE
  go_wp2_with fail
  refine (KE2.out _).mono ?_
  rintro e w2 ⟨rfl, hw2⟩
  obtain rfl : w1 = w2 := hw2.symm
  clear KE2
  go_wp2_with fail
  refine (KQ.out _).mono ?_
  rintro e w2 ⟨rfl, hb⟩
  have hB2 := hB1.trans (hb.mono hB1.size)
  clear KQ hB1 hb
  go_wp2_with fail
  refine (KR.out _).mono ?_
  rintro e w3 ⟨rfl, hb⟩
  have hB3 := hB2.trans (hb.mono hB2.size)
  clear KR hB2 hb
  by_cases hl : 100 < Q.length
  · have hli : (100 : Int) < (Q.length : Int) := by omega
    have he := HL () hl
    clear KX KY HE HL KF KF2
    rw [he] at KG
    clear he
    go_wp2_with fail
    refine (KG.out _).mono ?_
    rintro e w4 ⟨rfl, hb⟩
    have hB4 := hB3.trans (hb.mono hB3.size)
    clear KG hB3 hb
    go_wp2_with fail
    go_ret
    exact ⟨rfl, hB4⟩
  · have hli : ¬ ((100 : Int) < (Q.length : Int)) := by omega
    have he := HE () hl
    rw [he] at KG
    clear he HE HL
    go_wp2_with fail
    refine (KG.out _).mono ?_
    rintro e w4 ⟨rfl, hb⟩
    have hB4 := hB3.trans (hb.mono hB3.size)
    clear KG hB3 hb
    go_wp2_with fail
    refine (KF.out _).mono ?_
    rintro e w5 ⟨⟨b, rfl, hbb⟩, hb⟩
    have hB5 := hB4.trans (hb.mono hB4.size)
    obtain rfl := KY () b hbb hl
    clear KF hB4 hb KY hbb
    go_wp2_with fail
    refine (KF2.out _).mono ?_
    rintro e w6 ⟨⟨b, rfl, hbb⟩, hb⟩
    have hB6 := hB5.trans (hb.mono hB5.size)
    have hx := KX () b hbb hl
    clear KF2 hB5 hb KX hbb
    generalize (S == U) = su at *
    go_wp2_with fail
    go_ret
    exact ⟨by simp, hB6⟩
end Go.Proofs.Ytakkcofmbafneaa
