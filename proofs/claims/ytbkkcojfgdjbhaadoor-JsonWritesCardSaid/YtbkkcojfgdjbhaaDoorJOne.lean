/- One sign of a text. -/
import Derived.Test.YtbkkcojfgdjbhaaDoorJEsc
import Derived.Lib.MapLaws
import Derived.Lib.RuneCount
namespace Go.Proofs.YtbkkcojfgdjbhaaDoor
open Go.ChangeShapes Go.WideShapes Go.RowKit

theorem dec_is (c : UInt8) (r : Bs) : Lib.decodeGo ⟨(c :: r).toArray⟩ = Lib.decodeL (c :: r) := by
  unfold Lib.decodeGo Lib.decodeL
  rw [if_neg (by simp [ByteArray.size])]
theorem dec_nil : Lib.decodeGo ⟨([] : Bs).toArray⟩ = (65533, 0) := by
  unfold Lib.decodeGo
  rw [if_pos (by simp [ByteArray.size])]
theorem dec_pos (c : UInt8) (r : Bs) : 1 ≤ (Lib.decodeL (c :: r)).2 := Lib.decode_width_pos _ 0 (by simp [ByteArray.size])

set_option maxHeartbeats 1600000 in
set_option maxRecDepth 100000 in
theorem sign_any (R : Nat) (l : Bs) (n : Nat) (M : Value) (w : World) (h : Rq w R l n M) (hE : Env w) (hR : 10 ≤ R) (hl : l.length ≤ 1000000) :
    Calls Tryd.prog 67 #[.pointer (some ⟨R, 0, none⟩)] w (SignP R n M w (signN l)) := by
  have KD := Lib.hid (Tryd.utf8_DecodeRuneInString ⟨l.toArray⟩ w hE.utf)
  cases l with
  | nil =>
    have c0 := h.rest
    have K := Lib.hid (take_miss R 92 [] n M w h (by simp) 92 rfl)
    rw [dec_nil] at KD
    generalize (⟨([] : Bs).toArray⟩ : ByteArray) = X at *
    go_enter Tryd.func67, Tryd.ntmps67
    go_wp2_with fail
    refine K.out.mono ?_
    rintro e w1 ⟨rfl, rfl⟩
    clear K
    go_wp2_with fail
    refine KD.out.mono ?_
    rintro e w2 ⟨rfl, hb⟩
    go_wp2_with fail
    go_ret2
    exact ⟨⟨_, _, rfl, h.stay hb⟩, Asd.of_below hb⟩
  | cons c r =>
    have hlr : r.length ≤ 1000000 := by simp at hl; omega
    unfold signN
    simp only
    by_cases ec : c = 92
    · subst ec
      rw [if_pos rfl]
      clear KD
      have K := Lib.hid (take_hit R 92 r n M w h)
      go_enter Tryd.func67, Tryd.ntmps67
      go_wp2_with fail
      refine K.out.mono ?_
      rintro e w1 ⟨rfl, h1, a1⟩
      have K2 := Lib.hid (esc_any R r n M w1 h1 (hE.one a1 hR) hR hlr)
      clear K h hE
      cases hcp : escN r with
      | none =>
        rw [hcp] at K2
        go_wp2_with fail
        refine K2.out.mono ?_
        rintro e w2 ⟨⟨v, r2, rfl, h2⟩, a2⟩
        go_wp2_with fail
        go_ret2
        exact ⟨by rw [hcp]; exact ⟨_, _, rfl, h2⟩, a1.andThen a2⟩
      | some x =>
        obtain ⟨v, r2⟩ := x
        rw [hcp] at K2
        go_wp2_with fail
        refine K2.out.mono ?_
        rintro e w2 ⟨⟨rfl, h2⟩, a2⟩
        go_wp2_with fail
        go_ret2
        exact ⟨by rw [hcp]; exact ⟨rfl, h2⟩, a1.andThen a2⟩
    · rw [if_neg ec]
      rw [dec_is] at KD
      have hle := Lib.decodeL_le (c :: r) (by simp)
      have c0 := h.rest
      have K := Lib.hid (take_miss R 92 (c :: r) n M w h (by simpa using ec) 92 rfl)
      have hpos := dec_pos c r
      generalize Lib.decodeL (c :: r) = d at *
      obtain ⟨dv, dw⟩ := d
      simp only at hle hpos KD ⊢
      have hc := cut_text (c :: r) dw hle (dw : Int) rfl
      generalize hX : (⟨(c :: r).toArray⟩ : ByteArray) = X at hc c0 KD
      have HX : Unit → (⟨(c :: r).toArray⟩ : ByteArray) = X := fun _ => hX
      clear hX
      have d0 : 0 ≤ (dv : Int) := by omega
      have g0 : 1 ≤ (dw : Int) := by omega
      by_cases hbad : dv < 32 ∨ dv = 65533 ∧ dw ≤ 1
      · rw [if_pos hbad]
        have hbi : (dv : Int) < 32 ∨ (dv : Int) = 65533 ∧ (dw : Int) ≤ 1 := by omega
        clear hbad hle hpos
        generalize (dv : Int) = D at *
        generalize (dw : Int) = G at *
        go_enter Tryd.func67, Tryd.ntmps67
        go_wp2_with fail
        refine K.out.mono ?_
        rintro e w1 ⟨rfl, rfl⟩
        clear K
        go_wp2_with fail
        refine KD.out.mono ?_
        rintro e w2 ⟨rfl, hb⟩
        rcases hbi with hbi | ⟨hbi, hbj⟩
        · go_wp2_with fail
          go_ret2
          exact ⟨⟨_, _, rfl, h.stay hb⟩, Asd.of_below hb⟩
        · subst hbi
          go_wp2_with fail
          go_ret2
          exact ⟨⟨_, _, rfl, h.stay hb⟩, Asd.of_below hb⟩
      · rw [if_neg hbad]
        have hb1 : ¬ (dv : Int) < 32 := by omega
        have hb2 : ((dv : Int) == 65533) = false ∨ ((dv : Int) = 65533 ∧ ¬ (dw : Int) ≤ 1) := by
          by_cases e : (dv : Int) = 65533
          · exact .inr ⟨e, by omega⟩
          · exact .inl (by rw [beq_eq_false_iff_ne]; exact e)
        clear hbad hle hpos
        generalize (c :: r).drop dw = rest at *
        generalize hD : (dv : Int) = D at *
        have HD : Unit → (dv : Int) = D := fun _ => hD
        clear hD
        generalize (dw : Int) = G at *
        go_enter Tryd.func67, Tryd.ntmps67
        go_wp2_with fail
        refine K.out.mono ?_
        rintro e w1 ⟨rfl, rfl⟩
        clear K
        go_wp2_with fail
        refine KD.out.mono ?_
        rintro e w2 ⟨rfl, hb⟩
        replace h := h.stay hb
        have c1 := h.rest
        rw [HX ()] at c1
        have f1 := Rw.frozen h 0
        clear c0 KD
        rcases hb2 with hb2 | ⟨hb2, hb3⟩
        · go_wp2_with fail
          go_ret2
          exact ⟨⟨by rw [← HD ()]; rfl, h.set rest⟩, (Asd.of_below hb).set1 _ _⟩
        · subst hb2
          go_wp2_with fail
          go_ret2
          exact ⟨⟨by rw [← HD ()]; rfl, h.set rest⟩, (Asd.of_below hb).set1 _ _⟩
end Go.Proofs.YtbkkcojfgdjbhaaDoor
