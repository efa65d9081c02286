/- Four digits of a text, what follows \u, what follows a backslash, a sign. -/
import Derived.Test.YtbkkcojfgdjbhaaDoorJEnv
import Derived.Lib.AtoiErrMem
namespace Go.Proofs.YtbkkcojfgdjbhaaDoor
open Go.ChangeShapes Go.WideShapes Go.RowKit

theorem Asd.any {S S' : Nat → Prop} {w w' : World} (h : Asd S w w') (k : ∀ i, S i → S' i) : Asd S' w w' := ⟨h.os, h.tape, h.output, h.size, fun i hi hn => h.block i hi (fun e => hn (k i e))⟩
theorem bytes_below (w : World) (l : Bs) : Below w.heap.size w (Lib.bytesWorld w 5 ⟨l.toArray⟩) := Lib.bytesWorld_below w _ _
set_option maxHeartbeats 800000 in
theorem uint16 (l : Bs) (hl : l.length = 4) (w : World) (hE : Env w) :
    Calls Tryd.prog 116 #[.string ⟨l.toArray⟩, .int .i64 16, .int .i64 16] w fun e w' => (match hexAll 0 l with
      | some v => e = .returned (.tuple #[.int .u64 (v : Int), .nilIface])
      | none => ∃ t p, e = .returned (.tuple #[.int .u64 0, .iface t p])) ∧ Below w.heap.size w w' := by
  have K := Lib.hid (parse16 l hl w)
  have hb := bytes_below w l
  have hE' := hE.keep (hb.mono hE.big)
  obtain ⟨te, pe, hv⟩ := hE'.syn
  generalize Lib.bytesWorld w 5 ⟨l.toArray⟩ = W at *
  have KE := Lib.hid (Any.strconv_toError_syntax Tryd.laysC245 ⟨#[80, 97, 114, 115, 101, 85, 105, 110, 116]⟩ ⟨l.toArray⟩ 16 16 _ W (by simp [ByteArray.size, hl]) hv (.inr ⟨te, pe, rfl⟩))
  generalize hX : (⟨l.toArray⟩ : ByteArray) = X at *
  clear hX hE' hE hv
  cases hh : hexAll 0 l with
  | some v =>
    rw [hh] at K
    go_enter Tryd.func116, Tryd.ntmps116
    go_wp2_with fail
    refine K.out.mono ?_
    rintro e w1 ⟨rfl, rfl⟩
    unfold hexT
    go_wp2_with fail
    go_ret2
    exact ⟨rfl, hb⟩
  | none =>
    rw [hh] at K
    go_enter Tryd.func116, Tryd.ntmps116
    go_wp2_with fail
    refine K.out.mono ?_
    rintro e w1 ⟨rfl, rfl⟩
    unfold hexT
    go_wp2_with fail
    refine KE.out.mono ?_
    rintro e w2 ⟨N, rfl, _, _, hb2⟩
    go_wp2_with fail
    go_ret2
    exact ⟨⟨_, _, rfl⟩, hb.trans (hb2.mono hb.size)⟩
theorem hexV_lt {c : UInt8} {d : Nat} (h : hexV c = some d) : d < 16 := by rcases low_some h with h | h <;> omega
theorem four_short {l : Bs} (h : l.length < 4) : fourN l = none := by
  match l, h with
  | [], _ => rfl
  | [_], _ => rfl
  | [_, _], _ => rfl
  | [_, _, _], _ => rfl
  | _ :: _ :: _ :: _ :: _, h => simp at h; omega
theorem four_is {l : Bs} (h : 4 ≤ l.length) : fourN l = (hexAll 0 (l.take 4)).map (fun v => (v, l.drop 4)) := by
  match l, h with
  | a :: b :: c :: d :: r, _ =>
    simp only [List.take_succ_cons, List.take_zero, List.drop_succ_cons, List.drop_zero, fourN, hexAll]
    cases hexV a with
    | none => rfl
    | some x => cases hexV b with
      | none => rfl
      | some y => cases hexV c with
        | none => rfl
        | some z => cases hexV d with
          | none => rfl
          | some u =>
            simp
            omega
theorem hexAll_lt {l : Bs} {acc v : Nat} (h : hexAll acc l = some v) : v < (acc + 1) * 16 ^ l.length := by
  induction l generalizing acc with
  | nil => simp [hexAll] at h; simp; omega
  | cons c l ih =>
    rw [hexAll] at h
    cases hc : hexV c with
    | none => rw [hc] at h; cases h
    | some d =>
      rw [hc] at h
      have h1 := ih h
      have h2 := hexV_lt hc
      rw [List.length_cons, Nat.pow_succ]
      have h3 : (acc * 16 + d + 1) * 16 ^ l.length ≤ ((acc + 1) * 16) * 16 ^ l.length := Nat.mul_le_mul_right _ (by omega)
      rw [Nat.mul_assoc, Nat.mul_comm 16] at h3
      omega
theorem four_lt {l r : Bs} {v : Nat} (h : fourN l = some (v, r)) : v < 65536 := by
  by_cases hl : 4 ≤ l.length
  · rw [four_is hl] at h
    cases hh : hexAll 0 (l.take 4) with
    | none => rw [hh] at h; cases h
    | some x =>
      rw [hh] at h
      have := hexAll_lt hh
      rw [List.length_take, show min 4 l.length = 4 by omega] at this
      simp at h
      omega
  · rw [four_short (by omega)] at h; cases h
/-- What a call that reads a sign hands back. -/
def SignP (R n : Nat) (M : Value) (w : World) (o : Option (Int × Bs)) (e : Ending) (w' : World) : Prop :=
  (match o with
    | some (v, r) => e = .returned (.tuple #[.int .i32 v, .bool true]) ∧ Rq w' R r n M
    | none => ∃ v r, e = .returned (.tuple #[.int .i32 v, .bool false]) ∧ Rq w' R r n M) ∧ Asd (· = R) w w'

set_option maxHeartbeats 800000 in
theorem four_any (R : Nat) (l : Bs) (n : Nat) (M : Value) (w : World) (h : Rq w R l n M) (hE : Env w) (hl : l.length ≤ 1000000) :
    Calls Tryd.prog 107 #[.pointer (some ⟨R, 0, none⟩)] w (SignP R n M w (fourN l |>.map fun x => ((x.1 : Int), x.2))) := by
  have c0 := h.rest
  have hs : (⟨l.toArray⟩ : ByteArray).size = l.length := by simp [ByteArray.size]
  by_cases h4 : l.length < 4
  · rw [four_short h4]
    have hsi : (l.length : Int) < 4 := by omega
    generalize hX : (⟨l.toArray⟩ : ByteArray) = X at *
    clear hX
    go_enter Tryd.func107, Tryd.ntmps107
    go_wp2_with fail
    go_ret2
    exact ⟨⟨_, _, rfl, h⟩, Asd.refl _ _⟩
  · rw [four_is (by omega)]
    have hlt := @hexAll_lt (l.take 4) 0
    have hl4 : (l.take 4).length = 4 := by rw [List.length_take]; omega
    rw [hl4] at hlt
    have K := Lib.hid (uint16 (l.take 4) hl4 w hE)
    have hu := cut_upto l 4 (by omega) 4 rfl
    have hc := cut_text l 4 (by omega) 4 rfl
    have hsi : ¬ (l.length : Int) < 4 := by omega
    clear h4
    cases hh : hexAll 0 (l.take 4) with
    | none =>
      rw [hh] at K
      generalize hX : (⟨l.toArray⟩ : ByteArray) = X at *
      generalize hY : (⟨(l.take 4).toArray⟩ : ByteArray) = Y at *
      clear hX hY hh hlt
      go_enter Tryd.func107, Tryd.ntmps107
      go_wp2_with fail
      refine K.out.mono ?_
      rintro e w1 ⟨⟨t, p, rfl⟩, hb⟩
      replace h := h.stay hb
      clear K c0
      go_wp2_with fail
      go_ret2
      exact ⟨⟨_, _, rfl, h⟩, Asd.of_below hb⟩
    | some v =>
      have hv := hlt hh
      rw [hh] at K
      generalize hX : (⟨l.toArray⟩ : ByteArray) = X at *
      generalize hY : (⟨(l.take 4).toArray⟩ : ByteArray) = Y at *
      generalize l.drop 4 = r at *
      have HX : Unit → (⟨l.toArray⟩ : ByteArray) = X := fun _ => hX
      clear hX hY hh hlt
      go_enter Tryd.func107, Tryd.ntmps107
      go_wp2_with fail
      refine K.out.mono ?_
      rintro e w1 ⟨rfl, hb⟩
      replace h := h.stay hb
      have c1 := h.rest
      rw [HX ()] at c1
      have f1 := Rw.frozen h 0
      have v0 : 0 ≤ (v : Int) := by omega
      have v1 : (v : Int) ≤ 65535 := by omega
      generalize hvi : (v : Int) = vi at *
      have HV : Unit → (v : Int) = vi := fun _ => hvi
      clear hvi
      have hw : IntKind.i32.wrap vi = vi := by simp [IntKind.wrap, IntKind.bits, IntKind.signed]; omega
      clear K c0 hv
      go_wp2_with fail
      go_ret2
      exact ⟨⟨by rw [← HV ()]; rfl, h.set r⟩, (Asd.of_below hb).set1 _ _⟩
end Go.Proofs.YtbkkcojfgdjbhaaDoor
