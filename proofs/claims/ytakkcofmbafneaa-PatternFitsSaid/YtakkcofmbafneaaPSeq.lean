/- The reader: parts, one behind the other. -/
import Derived.Test.YtakkcofmbafneaaPPart
namespace Go.Proofs.Ytakkcofmbafneaa
open Go.ChangeShapes Go.WideShapes Go.RowKit

def appS : Sq → Sq → Sq
  | .nil, q => q
  | .cons r p, q => .cons r (appS p q)
theorem appS_nil (p : Sq) : appS p .nil = p := by
  match p with
  | .nil => rfl
  | .cons r p => rw [appS, appS_nil p]
theorem appS_snoc (p : Sq) (x : Re) (q : Sq) : appS (appS p (.cons x .nil)) q = appS p (.cons x q) := by
  match p with
  | .nil => rfl
  | .cons r p => rw [appS, appS, appS_snoc p x q, appS]
theorem appS_len (p q : Sq) : lenS (appS p q) = lenS p + lenS q := by
  match p with
  | .nil => rw [appS, lenS]; omega
  | .cons r p => rw [appS, lenS, lenS, appS_len p q]; omega
theorem appS_lay (p q : Sq) (b : Nat) : stS (appS p q) b = stS p b ++ stS q (b + lenS p) := by
  match p with
  | .nil => rw [appS, lenS, stS]; rfl
  | .cons r p => rw [appS, stS, stS, appS_lay p q, lenS, List.append_assoc, Nat.add_assoc]
theorem appS_ok (p : Sq) (x : Re) (h : okS p) (h' : okR x) : okS (appS p (.cons x .nil)) := by
  match p, h with
  | .nil, _ => rw [appS, okS, okS]; exact ⟨h', trivial⟩
  | .cons r p, h => rw [okS] at h; rw [appS, okS]; exact ⟨h.1, appS_ok p x h.2 h'⟩
theorem one_lay (x : Re) (b : Nat) : stS (.cons x .nil) b = stR x b := by rw [stS, stS, List.append_nil]
def outS (p : Sq) : Res Sq → Res Sq
  | .er e => .er e
  | .ok q r => .ok (appS p q) r
theorem seq_nil {m d : Nat} (h : 0 < m) (p : Sq) : outS p (seqN m d []) = .ok p [] := by
  obtain ⟨m, rfl⟩ : ∃ k, m = k + 1 := ⟨m - 1, by omega⟩
  rw [seqN, outS, appS_nil]
theorem seq_stop {m d : Nat} {c : UInt8} {s : Bx} (hc : c = 124 ∨ c = 41) (p : Sq) : outS p (seqN (m + 1) d (c :: s)) = .ok p (c :: s) := by
  rw [seqN, if_pos hc, outS, appS_nil]
theorem seq_er {m d : Nat} {c : UInt8} {s : Bx} {e : Er} (hc : ¬ (c = 124 ∨ c = 41)) (h : partN m d (c :: s) = .er e) (p : Sq) : outS p (seqN (m + 1) d (c :: s)) = .er e := by
  rw [seqN, if_neg hc, h, outS]
theorem seq_ok {m d : Nat} {c : UInt8} {s r : Bx} {x : Re} (hc : ¬ (c = 124 ∨ c = 41)) (h : partN m d (c :: s) = .ok x r) (p : Sq) : outS p (seqN (m + 1) d (c :: s)) = outS (appS p (.cons x .nil)) (seqN m d r) := by
  rw [seqN, if_neg hc, h]
  simp only
  cases seqN m d r with
  | er e => rfl
  | ok q r' => simp only [outS, appS_snoc]
theorem byte_ne {c k : UInt8} (h : c ≠ k) (K : Int) (hK : K = (k.toNat : Int)) : ((c.toNat : Int) != K) = true := by
  subst hK
  rw [bne, u8_eq c k]; simpa using h
theorem byte_is {c k : UInt8} (h : c = k) (K : Int) (hK : K = (k.toNat : Int)) : ((c.toNat : Int) != K) = false := by
  subst hK
  rw [bne, u8_eq c k]; simpa using h
set_option maxHeartbeats 3200000 in
set_option maxRecDepth 100000 in
theorem seq_step (n : Nat) (HP : ∀ m, m ≤ n → PartC m) : SeqC (n + 1) := fun R d l X V F w D h hD hd hX hf hn => by
  obtain ⟨O, hO⟩ : ∃ O, seqN (n + 1) d l = O := ⟨_, rfl⟩
  rw [hO]
  have HO : Unit → outS .nil (seqN (n + 1) d l) = O := fun _ => by rw [hO]; cases O <;> rfl
  clear hO
  have HP' : Unit → ∀ m, m ≤ n → PartC m := fun _ => HP
  have HF : Unit → Fb X := fun _ => hf
  have HD : Unit → D = (d : Int) := fun _ => hD
  clear HP hf hD
  go_enter Try.func32, Try.ntmps32
  go_wp2_with fail
  go_loopw [] (fun wr => ∃ m Q s V' F', outS Q (seqN m d s) = O ∧ 4 * s.length + 3 ≤ m ∧ m ≤ n + 1 ∧ RdAt wr R s (X ++ stS Q X.length) V' F' ∧ Grow R V F V' F' w wr ∧ X.length + lenS Q + s.length ≤ 300 ∧ okS Q) (fun wr => restLen wr R)
  case atStart => exact ⟨n + 1, .nil, l, V, F, HO (), hn, Nat.le_refl _, by rw [stS, List.append_nil]; exact h, Grow.refl _ _ _ _, by rw [lenS]; omega, by rw [okS]; trivial⟩
  case round =>
    obtain ⟨m, Q, s, V1, F1, hO, hm, hm1, h1, g1, hl, hok⟩ := hrel
    have HQ : Unit → outS Q (seqN m d s) = O := fun _ => hO
    clear hO HO h hn
    have hlen := h1.q.len
    have c0 := h1.q.rest
    cases s with
    | nil =>
      have hON : O = .ok Q [] := by rw [← HQ ()]; exact seq_nil (by omega) Q
      have he := null_text
      generalize (⟨([] : Bs).toArray⟩ : ByteArray) = Y at c0 he
      clear HQ hlen hm
      subst hON
      go_wp2_with fail
      go_ret
      exact ⟨rfl, V1, F1, h1, g1⟩
    | cons c s =>
      obtain ⟨m, rfl⟩ : ∃ k, m = k + 1 := ⟨m - 1, by omega⟩
      have he := full_text c s
      have hi := at_text (c :: s) 0 c rfl 0 rfl
      generalize (⟨(c :: s).toArray⟩ : ByteArray) = Y at c0 he hi
      by_cases h124 : c = 124
      · have hON : O = .ok Q (c :: s) := by rw [← HQ ()]; exact seq_stop (.inl h124) Q
        have e1 := byte_is h124 124 rfl
        clear HQ hlen hm
        subst hON
        go_wp2_with fail
        go_ret
        exact ⟨rfl, V1, F1, h1, g1⟩
      · have e1 := byte_ne h124 124 rfl
        by_cases h41 : c = 41
        · have hON : O = .ok Q (c :: s) := by rw [← HQ ()]; exact seq_stop (.inr h41) Q
          have e2 := byte_is h41 41 rfl
          clear HQ hlen hm
          subst hON
          go_wp2_with fail
          go_ret
          exact ⟨rfl, V1, F1, h1, g1⟩
        · have e2 := byte_ne h41 41 rfl
          have hc : ¬ (c = 124 ∨ c = 41) := fun e => e.elim h124 h41
          have hfb : Fb (X ++ stS Q X.length) := Fb.app (HF ()) (Fb.ofS hok (by omega))
          have hS : (X ++ stS Q X.length).length = X.length + lenS Q := by rw [List.length_append, stS_length]
          have K := HP' () m (by omega) R d c s (X ++ stS Q X.length) V1 F1 wr D h1 (HD ()) hd (by rw [hS]; omega) hfb (by omega)
          have hgood := fun x r => (reads_good m).2.2.1 d (c :: s) x r
          obtain ⟨o, ho⟩ : ∃ o, partN m d (c :: s) = o := ⟨_, rfl⟩
          rw [ho] at K hgood
          rw [hS] at K
          replace K := Lib.hid K
          cases o with
          | er er =>
            have hON : O = .er er := by rw [← HQ ()]; exact seq_er hc ho Q
            clear HQ hgood ho hlen h1 hfb hm
            subst hON
            have hne := erV_ne er
            go_wp2_with fail
            refine K.out.mono ?_
            rintro e w2 ⟨rfl, hA⟩
            clear K
            go_wp2_with fail
            go_ret
            exact ⟨rfl, g1.andAsd hA⟩
          | ok x r =>
            have hON : Unit → outS (appS Q (.cons x .nil)) (seqN m d r) = O := fun _ => by rw [← HQ ()]; exact (seq_ok hc ho Q).symm
            obtain ⟨hokx, hlx⟩ := hgood x r rfl
            have hpos := lenR_pos x
            have hlay : (X ++ stS Q X.length) ++ stR x (X.length + lenS Q) = X ++ stS (appS Q (.cons x .nil)) X.length := by rw [appS_lay, one_lay, List.append_assoc]
            have hlq : lenS (appS Q (.cons x .nil)) = lenS Q + lenR x := by rw [appS_len, lenS, lenS]; omega
            clear HQ hgood ho h1 hfb
            go_wp2_with fail
            refine K.out.mono ?_
            rintro e w2 ⟨rfl, V2, F2, h2, g2⟩
            clear K
            simp only [hlay] at h2
            have hl2 := h2.q.len
            go_wp2_with fail
            go_roundw
            case rel => exact ⟨m, _, r, V2, F2, hON (), by simp only [List.length_cons] at hlx hm; omega, by omega, h2, g1.trans g2, by rw [hlq]; omega, appS_ok Q x hok hokx⟩
            case measure => rw [hl2, hlen]; omega
end Go.Proofs.Ytakkcofmbafneaa
