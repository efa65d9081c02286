/- What follows \u, what follows a backslash, a sign of a text. -/
import Derived.Test.YtbkkcojfgdjbhaaDoorJFour
namespace Go.Proofs.YtbkkcojfgdjbhaaDoor
open Go.ChangeShapes Go.WideShapes Go.RowKit

theorem four_len {l r : Bs} {v : Nat} (h : fourN l = some (v, r)) : r.length + 4 = l.length := by
  by_cases hl : 4 ≤ l.length
  · rw [four_is hl] at h
    cases hh : hexAll 0 (l.take 4) with
    | none => rw [hh] at h; cases h
    | some x =>
      rw [hh] at h
      simp at h
      rw [← h.2, List.length_drop]; omega
  · rw [four_short (by omega)] at h; cases h

set_option maxHeartbeats 1600000 in
set_option maxRecDepth 100000 in
theorem cp_any (R : Nat) (l : Bs) (n : Nat) (M : Value) (w : World) (h : Rq w R l n M) (hE : Env w) (hR : 10 ≤ R) (hl : l.length ≤ 1000000) :
    Calls Tryd.prog 92 #[.pointer (some ⟨R, 0, none⟩)] w (SignP R n M w (cpN l)) := by
  have K := Lib.hid (four_any R l n M w h hE hl)
  have hlen := @four_len l
  have hlt := @four_lt l
  unfold cpN
  cases hf : fourN l with
  | none =>
    rw [hf] at K
    clear hf hlen hlt
    go_enter Tryd.func92, Tryd.ntmps92
    go_wp2_with fail
    refine K.out.mono ?_
    rintro e w1 ⟨⟨v, r, rfl, h1⟩, a1⟩
    go_wp2_with fail
    go_ret2
    exact ⟨⟨_, _, rfl, h1⟩, a1⟩
  | some x =>
    obtain ⟨hi, r⟩ := x
    replace hlen := hlen hf
    replace hlt := hlt hf
    rw [hf] at K
    simp only
    clear hf
    have K : Hid (Calls Tryd.prog 107 #[.pointer (some ⟨R, 0, none⟩)] w fun e w' => (e = .returned (.tuple #[.int .i32 (hi : Int), .bool true]) ∧ Rq w' R r n M) ∧ Asd (· = R) w w') := K
    have u0 : 0 ≤ (hi : Int) := by omega
    have u1 : (hi : Int) ≤ 65535 := by omega
    by_cases c1 : hi < 55296 ∨ 57343 < hi
    · rw [if_pos c1]
      have c1i : (hi : Int) < 55296 ∨ 57343 < (hi : Int) := by omega
      clear c1 hlt
      generalize (hi : Int) = H at *
      go_enter Tryd.func92, Tryd.ntmps92
      rcases c1i with c1i | c1i
      · go_wp2_with fail
        refine K.out.mono ?_
        rintro e w1 ⟨⟨rfl, h1⟩, a1⟩
        go_wp2_with fail
        go_ret2
        exact ⟨⟨rfl, h1⟩, a1⟩
      · go_wp2_with fail
        refine K.out.mono ?_
        rintro e w1 ⟨⟨rfl, h1⟩, a1⟩
        go_wp2_with fail
        go_ret2
        exact ⟨⟨rfl, h1⟩, a1⟩
    · rw [if_neg c1]
      have c1i : ¬ (hi : Int) < 55296 := by omega
      have c2i : ¬ 57343 < (hi : Int) := by omega
      by_cases c2 : 56320 ≤ hi
      · rw [if_pos c2]
        have c3i : 56320 ≤ (hi : Int) := by omega
        clear c1 c2 hlt
        generalize (hi : Int) = H at *
        go_enter Tryd.func92, Tryd.ntmps92
        go_wp2_with fail
        refine K.out.mono ?_
        rintro e w1 ⟨⟨rfl, h1⟩, a1⟩
        go_wp2_with fail
        go_ret2
        exact ⟨⟨_, _, rfl, h1⟩, a1⟩
      · rw [if_neg c2]
        have c3i : ¬ 56320 ≤ (hi : Int) := by omega
        clear c1 c2 hlt
        cases r with
        | nil =>
          generalize (hi : Int) = H at *
          go_enter Tryd.func92, Tryd.ntmps92
          go_wp2_with fail
          refine K.out.mono ?_
          rintro e w1 ⟨⟨rfl, h1⟩, a1⟩
          go_wp2_with fail
          refine (take_miss R 92 [] n M w1 h1 (by simp) 92 rfl).mono ?_
          rintro e w2 ⟨rfl, rfl⟩
          go_wp2_with fail
          go_ret2
          exact ⟨⟨_, _, rfl, h1⟩, a1⟩
        | cons a r1 =>
          simp only
          by_cases ea : a = 92
          · subst ea
            rw [if_pos rfl]
            cases r1 with
            | nil =>
              simp only [pairN]
              generalize (hi : Int) = H at *
              go_enter Tryd.func92, Tryd.ntmps92
              go_wp2_with fail
              refine K.out.mono ?_
              rintro e w1 ⟨⟨rfl, h1⟩, a1⟩
              go_wp2_with fail
              refine (take_hit R 92 _ n M w1 h1).mono ?_
              rintro e w2 ⟨rfl, h2, a2⟩
              replace a2 := a1.andThen a2
              clear a1 h1
              go_wp2_with fail
              refine (take_miss R 117 [] n M w2 h2 (by simp) 117 rfl).mono ?_
              rintro e w3 ⟨rfl, rfl⟩
              go_wp2_with fail
              go_ret2
              exact ⟨⟨_, _, rfl, h2⟩, a2⟩
            | cons b r2 =>
              simp only [pairN]
              by_cases eb : b = 117
              · subst eb
                rw [if_pos rfl]
                have hl2 : r2.length ≤ 1000000 := by simp at hlen; omega
                have hlt2 := @four_lt r2
                cases hf2 : fourN r2 with
                | none =>
                  simp only
                  generalize (hi : Int) = H at *
                  go_enter Tryd.func92, Tryd.ntmps92
                  go_wp2_with fail
                  refine K.out.mono ?_
                  rintro e w1 ⟨⟨rfl, h1⟩, a1⟩
                  go_wp2_with fail
                  refine (take_hit R 92 _ n M w1 h1).mono ?_
                  rintro e w2 ⟨rfl, h2, a2⟩
                  replace a2 := a1.andThen a2
                  clear a1 h1
                  go_wp2_with fail
                  refine (take_hit R 117 _ n M w2 h2).mono ?_
                  rintro e w3 ⟨rfl, h3, a3⟩
                  replace a3 := a2.andThen a3
                  clear a2 h2
                  have K2 := Lib.hid (four_any R r2 n M w3 h3 (hE.one a3 hR) hl2)
                  rw [hf2] at K2
                  clear hf2 hlt2 hE
                  go_wp2_with fail
                  refine K2.out.mono ?_
                  rintro e w4 ⟨⟨v, r, rfl, h4⟩, a4⟩
                  replace a4 := a3.andThen a4
                  go_wp2_with fail
                  go_ret2
                  exact ⟨⟨_, _, rfl, h4⟩, a4⟩
                | some x =>
                  obtain ⟨lo, r3⟩ := x
                  replace hlt2 := hlt2 hf2
                  simp only
                  have v0 : 0 ≤ (lo : Int) := by omega
                  have v1 : (lo : Int) ≤ 65535 := by omega
                  have KK : ∀ w3, Rq w3 R r2 n M → Env w3 → Calls Tryd.prog 107 #[.pointer (some ⟨R, 0, none⟩)] w3 fun e w' => (e = .returned (.tuple #[.int .i32 (lo : Int), .bool true]) ∧ Rq w' R r3 n M) ∧ Asd (· = R) w3 w' := fun w3 h3 e3 => by
                    have := four_any R r2 n M w3 h3 e3 hl2
                    rw [hf2] at this
                    exact this
                  clear hf2
                  by_cases c4 : lo < 56320 ∨ 57343 < lo
                  · rw [if_pos c4]
                    have c4i : (lo : Int) < 56320 ∨ 57343 < (lo : Int) := by omega
                    clear c4 hlt2
                    generalize (hi : Int) = H at *
                    generalize (lo : Int) = L at *
                    go_enter Tryd.func92, Tryd.ntmps92
                    go_wp2_with fail
                    refine K.out.mono ?_
                    rintro e w1 ⟨⟨rfl, h1⟩, a1⟩
                    go_wp2_with fail
                    refine (take_hit R 92 _ n M w1 h1).mono ?_
                    rintro e w2 ⟨rfl, h2, a2⟩
                    replace a2 := a1.andThen a2
                    clear a1 h1
                    go_wp2_with fail
                    refine (take_hit R 117 _ n M w2 h2).mono ?_
                    rintro e w3 ⟨rfl, h3, a3⟩
                    replace a3 := a2.andThen a3
                    clear a2 h2
                    have K2 := Lib.hid (KK w3 h3 (hE.one a3 hR))
                    clear KK hE
                    go_wp2_with fail
                    refine K2.out.mono ?_
                    rintro e w4 ⟨⟨rfl, h4⟩, a4⟩
                    replace a4 := a3.andThen a4
                    rcases c4i with c4i | c4i
                    · go_wp2_with fail
                      go_ret2
                      exact ⟨⟨_, _, rfl, h4⟩, a4⟩
                    · go_wp2_with fail
                      go_ret2
                      exact ⟨⟨_, _, rfl, h4⟩, a4⟩
                  · rw [if_neg c4]
                    have c4i : ¬ (lo : Int) < 56320 := by omega
                    have c5i : ¬ 57343 < (lo : Int) := by omega
                    clear c4 hlt2
                    generalize (hi : Int) = H at *
                    generalize (lo : Int) = L at *
                    have w1 : IntKind.i32.wrap (H - 55296) = H - 55296 := by simp [IntKind.wrap, IntKind.bits, IntKind.signed]; omega
                    have w2 : IntKind.i32.wrap ((H - 55296) * 1024) = (H - 55296) * 1024 := by simp [IntKind.wrap, IntKind.bits, IntKind.signed]; omega
                    have w3 : IntKind.i32.wrap (65536 + (H - 55296) * 1024) = 65536 + (H - 55296) * 1024 := by simp [IntKind.wrap, IntKind.bits, IntKind.signed]; omega
                    have w4 : IntKind.i32.wrap (65536 + (H - 55296) * 1024 + L) = 65536 + (H - 55296) * 1024 + L := by simp [IntKind.wrap, IntKind.bits, IntKind.signed]; omega
                    have w5 : IntKind.i32.wrap (65536 + (H - 55296) * 1024 + L - 56320) = 65536 + (H - 55296) * 1024 + L - 56320 := by simp [IntKind.wrap, IntKind.bits, IntKind.signed]; omega
                    go_enter Tryd.func92, Tryd.ntmps92
                    go_wp2_with fail
                    refine K.out.mono ?_
                    rintro e w1 ⟨⟨rfl, h1⟩, a1⟩
                    go_wp2_with fail
                    refine (take_hit R 92 _ n M w1 h1).mono ?_
                    rintro e w2 ⟨rfl, h2, a2⟩
                    replace a2 := a1.andThen a2
                    clear a1 h1
                    go_wp2_with fail
                    refine (take_hit R 117 _ n M w2 h2).mono ?_
                    rintro e w3 ⟨rfl, h3, a3⟩
                    replace a3 := a2.andThen a3
                    clear a2 h2
                    have K2 := Lib.hid (KK w3 h3 (hE.one a3 hR))
                    clear KK hE
                    go_wp2_with fail
                    refine K2.out.mono ?_
                    rintro e w4 ⟨⟨rfl, h4⟩, a4⟩
                    replace a4 := a3.andThen a4
                    go_wp2_with fail
                    go_ret2
                    exact ⟨⟨rfl, h4⟩, a4⟩
              · rw [if_neg eb]
                generalize (hi : Int) = H at *
                go_enter Tryd.func92, Tryd.ntmps92
                go_wp2_with fail
                refine K.out.mono ?_
                rintro e w1 ⟨⟨rfl, h1⟩, a1⟩
                go_wp2_with fail
                refine (take_hit R 92 _ n M w1 h1).mono ?_
                rintro e w2 ⟨rfl, h2, a2⟩
                replace a2 := a1.andThen a2
                clear a1 h1
                go_wp2_with fail
                refine (take_miss R 117 (b :: r2) n M w2 h2 (by simpa using eb) 117 rfl).mono ?_
                rintro e w3 ⟨rfl, rfl⟩
                go_wp2_with fail
                go_ret2
                exact ⟨⟨_, _, rfl, h2⟩, a2⟩
          · rw [if_neg ea]
            generalize (hi : Int) = H at *
            go_enter Tryd.func92, Tryd.ntmps92
            go_wp2_with fail
            refine K.out.mono ?_
            rintro e w1 ⟨⟨rfl, h1⟩, a1⟩
            go_wp2_with fail
            refine (take_miss R 92 (a :: r1) n M w1 h1 (by simpa using ea) 92 rfl).mono ?_
            rintro e w2 ⟨rfl, rfl⟩
            go_wp2_with fail
            go_ret2
            exact ⟨⟨_, _, rfl, h1⟩, a1⟩
end Go.Proofs.YtbkkcojfgdjbhaaDoor
