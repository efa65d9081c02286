/- What follows a backslash, and a sign of a text. -/
import Derived.Test.YtbkkcojfgdjbhaaDoorJSign
namespace Go.Proofs.YtbkkcojfgdjbhaaDoor
open Go.ChangeShapes Go.WideShapes Go.RowKit

def escL : Bs := [34, 92, 47, 98, 102, 110, 114, 116]
def unescL : Bs := [34, 92, 47, 8, 12, 10, 13, 9]
def escI (c : UInt8) : Int := Lib.indexByte escL c
def escOk (c : UInt8) : Bool := match escV c with
  | some v => decide (0 ≤ escI c ∧ escI c < 8 ∧ (unescL[(escI c).toNat]?).map (fun b => (b.toNat : Int)) = some v)
  | none => decide (escI c = -1)
theorem esc_all : ∀ n : Fin 256, escOk (UInt8.ofNat n.val) = true := by decide +kernel
theorem esc_of (c : UInt8) : escOk c = true := by
  have h := esc_all ⟨c.toNat, c.toNat_lt⟩
  simp only [UInt8.ofNat_toNat] at h
  exact h
theorem esc_none {c : UInt8} (h : escV c = none) : escI c = -1 := by
  have := esc_of c
  unfold escOk at this
  rw [h] at this
  exact of_decide_eq_true this
theorem esc_some {c : UInt8} {v : Int} (h : escV c = some v) : ∃ k b, escI c = ((k : Nat) : Int) ∧ k < 8 ∧ unescL[k]? = some b ∧ (b.toNat : Int) = v := by
  have := esc_of c
  unfold escOk at this
  rw [h] at this
  obtain ⟨h1, h2, h3⟩ := of_decide_eq_true this
  obtain ⟨b, hb, rfl⟩ := Option.map_eq_some_iff.1 h3
  exact ⟨(escI c).toNat, b, by omega, by omega, hb, rfl⟩
theorem index_any (c : UInt8) (w : World) : Calls Tryd.prog 93 #[.string ⟨#[34, 92, 47, 98, 102, 110, 114, 116]⟩, .int .u8 (c.toNat : Int)] w fun e w' => e = .returned (.int .i64 (escI c)) ∧ w' = w :=
  (Tryd.strings_IndexByte ⟨#[34, 92, 47, 98, 102, 110, 114, 116]⟩ (c.toNat : Int) w).mono fun e w' h => by
    rw [show ((c.toNat : Int)).toNat.toUInt8 = c from UInt8.ofNat_toNat] at h
    exact h

set_option maxHeartbeats 1600000 in
set_option maxRecDepth 100000 in
theorem esc_any (R : Nat) (l : Bs) (n : Nat) (M : Value) (w : World) (h : Rq w R l n M) (hE : Env w) (hR : 10 ≤ R) (hl : l.length ≤ 1000000) :
    Calls Tryd.prog 79 #[.pointer (some ⟨R, 0, none⟩)] w (SignP R n M w (escN l)) := by
  cases l with
  | nil =>
    have c0 := h.rest
    have he := null_text
    have K := Lib.hid (take_miss R 117 [] n M w h (by simp) 117 rfl)
    generalize (⟨([] : Bs).toArray⟩ : ByteArray) = X at *
    go_enter Tryd.func79, Tryd.ntmps79
    go_wp2_with fail
    refine K.out.mono ?_
    rintro e w1 ⟨rfl, rfl⟩
    clear K
    go_wp2_with fail
    go_ret2
    exact ⟨⟨_, _, rfl, h⟩, Asd.refl _ _⟩
  | cons c r =>
    have hlr : r.length ≤ 1000000 := by simp at hl; omega
    unfold escN
    simp only
    by_cases ec : c = 117
    · subst ec
      rw [if_pos rfl]
      have K := Lib.hid (take_hit R 117 r n M w h)
      go_enter Tryd.func79, Tryd.ntmps79
      go_wp2_with fail
      refine K.out.mono ?_
      rintro e w1 ⟨rfl, h1, a1⟩
      have K2 := Lib.hid (cp_any R r n M w1 h1 (hE.one a1 hR) hR hlr)
      clear K h hE
      cases hcp : cpN r with
      | none =>
        rw [hcp] at K2
        go_wp2_with fail
        refine K2.out.mono ?_
        rintro e w2 ⟨⟨v, r2, rfl, h2⟩, a2⟩
        go_wp2_with fail
        go_ret2
        exact ⟨by rw [hcp]; exact ⟨_, _, rfl, h2⟩, a1.andThen a2⟩
      | some x =>
        obtain ⟨v, r2⟩ := x
        rw [hcp] at K2
        go_wp2_with fail
        refine K2.out.mono ?_
        rintro e w2 ⟨⟨rfl, h2⟩, a2⟩
        go_wp2_with fail
        go_ret2
        exact ⟨by rw [hcp]; exact ⟨rfl, h2⟩, a1.andThen a2⟩
    · rw [if_neg ec]
      have c0 := h.rest
      have f0 := Rw.frozen h 0
      have he := full_text c r
      have hi := at_text (c :: r) 0 c rfl 0 rfl
      have hc := cut_text (c :: r) 1 (by simp) 1 rfl
      rw [List.drop_one, List.tail_cons] at hc
      have K := Lib.hid (take_miss R 117 (c :: r) n M w h (by simpa using ec) 117 rfl)
      have KI := Lib.hid (index_any c)
      generalize (⟨(c :: r).toArray⟩ : ByteArray) = X at *
      cases hv : escV c with
      | none =>
        have hI := esc_none hv
        rw [hI] at KI
        simp only [Option.map_none]
        go_enter Tryd.func79, Tryd.ntmps79
        go_wp2_with fail
        refine K.out.mono ?_
        rintro e w1 ⟨rfl, rfl⟩
        clear K
        go_wp2_with fail
        refine (KI.out _).mono ?_
        rintro e w1 ⟨rfl, rfl⟩
        go_wp2_with fail
        go_ret2
        exact ⟨⟨_, _, rfl, h⟩, Asd.refl _ _⟩
      | some v =>
        obtain ⟨k, b, hI, hk, hb, rfl⟩ := esc_some hv
        rw [hI] at KI
        simp only [Option.map_some]
        have hx := at_text unescL k b hb (k : Int) rfl
        have hki : ¬ (k : Int) < 0 := by omega
        have hb2 : b.toNat < 256 := b.toNat_lt
        have b0 : 0 ≤ (b.toNat : Int) := by omega
        have b1 : (b.toNat : Int) ≤ 255 := by omega
        clear hb2 hI hv hb
        change ∀ w, Sem.run Tryd.prog (Instr.index 9 (.string ⟨#[34, 92, 47, 8, 12, 10, 13, 9]⟩) (.int .i64 (k : Int))) w = _ at hx
        generalize (b.toNat : Int) = B at *
        have hw : IntKind.i32.wrap B = B := by simp [IntKind.wrap, IntKind.bits, IntKind.signed]; omega
        go_enter Tryd.func79, Tryd.ntmps79
        go_wp2_with fail
        refine K.out.mono ?_
        rintro e w1 ⟨rfl, rfl⟩
        clear K
        go_wp2_with fail
        refine (KI.out _).mono ?_
        rintro e w1 ⟨rfl, rfl⟩
        go_wp2_with fail
        go_ret2
        exact ⟨⟨rfl, h.set r⟩, Asd.one _ _ _ _⟩
end Go.Proofs.YtbkkcojfgdjbhaaDoor
