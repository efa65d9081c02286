/- A text, up to its end. -/
import Derived.Test.YtbkkcojfgdjbhaaDoorJOne
import Derived.Lib.QuoteLoop
import Derived.Laws.BytesArg
import Derived.Deep.Cut
import Derived.Deep.CutRange
namespace Go.Proofs.YtbkkcojfgdjbhaaDoor
open Go.ChangeShapes Go.WideShapes Go.RowKit

theorem pair_len {h : Nat} {l r : Bs} {v : Int} (e : pairN h l = some (v, r)) : r.length < l.length := by
  cases l with
  | nil => cases e
  | cons b l =>
    rw [pairN] at e
    split at e
    · cases hf : fourN l with
      | none => rw [hf] at e; cases e
      | some x =>
        obtain ⟨o, r3⟩ := x
        have := four_len hf
        rw [hf] at e
        simp only at e
        split at e
        · cases e
        · simp at e
          rw [← e.2, List.length_cons]; omega
    · cases e
theorem cp_len {l r : Bs} {v : Int} (e : cpN l = some (v, r)) : r.length < l.length := by
  unfold cpN at e
  cases hf : fourN l with
  | none => rw [hf] at e; cases e
  | some x =>
    obtain ⟨h, r1⟩ := x
    have h1 := four_len hf
    rw [hf] at e
    simp only at e
    split at e
    · simp at e; rw [← e.2]; omega
    · split at e
      · cases e
      · cases r1 with
        | nil => cases e
        | cons a r1 =>
          simp only at e
          split at e
          · have := pair_len e
            rw [List.length_cons] at h1; omega
          · cases e
theorem esc_len {l r : Bs} {v : Int} (e : escN l = some (v, r)) : r.length < l.length := by
  cases l with
  | nil => cases e
  | cons c l =>
    unfold escN at e
    simp only at e
    split at e
    · have := cp_len e
      rw [List.length_cons]; omega
    · cases hv : escV c with
      | none => rw [hv] at e; cases e
      | some x => rw [hv] at e; simp at e; rw [← e.2, List.length_cons]; omega
theorem sign_len {l r : Bs} {v : Int} (e : signN l = some (v, r)) : r.length < l.length := by
  cases l with
  | nil => cases e
  | cons c l =>
    unfold signN at e
    simp only at e
    split at e
    · have := esc_len e
      rw [List.length_cons]; omega
    · split at e
      · cases e
      · simp at e
        have := dec_pos c l
        rw [← e.2, List.length_drop, List.length_cons]; omega
theorem pair_val {h : Nat} {l r : Bs} {v : Int} (h0 : 55296 ≤ h) (h1 : h < 56320) (e : pairN h l = some (v, r)) : 65536 ≤ v ∧ v ≤ 1114111 := by
  cases l with
  | nil => cases e
  | cons b l =>
    rw [pairN] at e
    split at e
    · cases hf : fourN l with
      | none => rw [hf] at e; cases e
      | some x =>
        obtain ⟨o, r3⟩ := x
        rw [hf] at e
        simp only at e
        split at e
        · cases e
        · simp at e
          omega
    · cases e
theorem cp_val {l r : Bs} {v : Int} (e : cpN l = some (v, r)) : 0 ≤ v ∧ v ≤ 1114111 ∧ (v < 55296 ∨ 57343 < v) := by
  unfold cpN at e
  cases hf : fourN l with
  | none => rw [hf] at e; cases e
  | some x =>
    obtain ⟨h, r1⟩ := x
    have h1 := four_lt hf
    rw [hf] at e
    simp only at e
    split at e
    · simp at e; omega
    · split at e
      · cases e
      · cases r1 with
        | nil => cases e
        | cons a r1 =>
          simp only at e
          split at e
          · have := pair_val (by omega) (by omega) e
            omega
          · cases e
theorem escV_val {c : UInt8} {v : Int} (h : escV c = some v) : 0 ≤ v ∧ v < 128 := by
  unfold escV at h
  repeat' split at h
  all_goals first | cases h | skip
  all_goals omega
theorem sign_val {l r : Bs} {v : Int} (e : signN l = some (v, r)) : 0 ≤ v ∧ v ≤ 1114111 ∧ (v < 55296 ∨ 57343 < v) := by
  cases l with
  | nil => cases e
  | cons c l =>
    unfold signN at e
    simp only at e
    split at e
    · cases l with
      | nil => cases e
      | cons d l =>
        unfold escN at e
        simp only at e
        split at e
        · exact cp_val e
        · cases hv : escV d with
          | none => rw [hv] at e; cases e
          | some x =>
            have := escV_val hv
            rw [hv] at e; simp at e; omega
    · split at e
      · cases e
      · simp at e
        have := Lib.rune_valid ⟨(c :: l).toArray⟩
        simp only [Lib.validRune, decide_eq_true_eq] at this
        rw [← e.1]
        unfold Lib.decodeL
        omega
theorem rune_len (v : Int) : (Lib.encodeRune v).length ≤ 4 := by
  unfold Lib.encodeRune
  rw [List.length_map]; exact Lib.encodeRuneZ_length_le v
/-- How many rounds there may be makes no odds. -/
theorem tx_fuel (f g : Nat) (acc l : Bs) (hf : l.length < f) (hg : l.length < g) : txN f acc l = txN g acc l := by
  induction f generalizing g acc l with
  | zero => omega
  | succ f ih =>
    cases g with
    | zero => omega
    | succ g =>
      cases l with
      | nil => rfl
      | cons c r =>
        rw [txN, txN]
        split
        · rfl
        · cases hs : signN (c :: r) with
          | none => rfl
          | some x =>
            obtain ⟨v, r2⟩ := x
            have := sign_len hs
            simp only
            exact ih g _ r2 (by omega) (by omega)

theorem Asd.grow {R : Nat} {w w' : World} (h : Asd (· = R) w w') : w.grownBy w' (some R) := ⟨h.os, h.tape, h.output, h.size, fun k hk hn => h.block k hk (fun e => hn (by rw [e]))⟩
theorem own_asd {w w' : World} {base R : Nat} {e : TypeId} {s n : Nat} {v : Value} {xs : List Value} (h : w.ownsRow base e s v n xs) (k : Asd (· = R) w w') (hR : R < base) : w'.ownsRow base e s v n xs := by
  refine h.kept k.grow ?_
  by_cases hn : v.ownBlock = none
  · exact .inl hn
  · right
    intro e
    have := (h.lt R e).1
    omega
/-- The text of bytes that one owns. -/
theorem own_string {w : World} {base : Nat} {v : Value} {l : Bs} (h : w.ownsRow base 5 1 v l.length (Lib.byteCells l)) : (convert 53 9 v).run Tryd.prog w = .ok (.string ⟨l.toArray⟩) w := by
  have hc := h
  rcases h.2 with ⟨rfl, h0⟩ | ⟨g, cap, cur, rfl, hb, hg, hn, _⟩
  · obtain rfl : l = [] := List.eq_nil_of_length_eq_zero h0
    exact run_convert_bytes_nil w _ 5 (by kernel_rfl) (by kernel_rfl) _ _ _ (by kernel_rfl)
  · have := run_convert_bytes_arg (P := Tryd.prog) w 53 5 (by kernel_rfl) (by kernel_rfl) g 0 l.length cap (l.map fun b => (b.toNat : Int)) (by simp) (fun i hi => by
      have h1 := hc.cells (g := g) rfl i (.int .u8 ((l[i]'hi).toNat : Int)) (by simp [Lib.byteCells, hi])
      rw [show (⟨g, 0 + i, none⟩ : Addr) = (⟨g, 0, none⟩ : Addr).add i by unfold Addr.add; split <;> simp_all]
      rw [h1]
      simp [hi]) 9 (by kernel_rfl)
    refine this.trans (congrArg (fun s => Result.ok (Value.string s) w) ?_)
    apply ByteArray.ext
    apply Array.ext'
    rw [strOfNums_data, List.map_map]
    refine (List.map_congr_left (g := id) fun b _ => ?_).trans (List.map_id _)
    simp
/-- How long what is left is. -/
def restLen (w : World) (R : Nat) : Nat := match w.cell? ⟨R, 0, none⟩ with
  | some (.string s) => s.size
  | _ => 0
theorem Rq.len {w : World} {R : Nat} {l : Bs} {n : Nat} {M : Value} (h : Rq w R l n M) : restLen w R = l.length := by
  unfold restLen
  rw [h.rest]
  simp [ByteArray.size]
/-- What a call that reads a text hands back. -/
def TextP (R n : Nat) (M : Value) (w : World) (o : Rs Bs) (e : Ending) (w' : World) : Prop :=
  (match o with
    | .ok s r => e = .returned (.tuple #[.string ⟨s.toArray⟩, .int .i64 0]) ∧ Rq w' R r n M
    | .err er => ∃ s r, e = .returned (.tuple #[.string s, .int .i64 er]) ∧ Rq w' R r n M) ∧ Asd (· = R) w w'
/-- What lies in memory while a text is read: its signs so far, what is left. -/
def Tx (R n : Nat) (M : Value) (w : World) (r0 acc l : Bs) (v : Value) (wr : World) : Prop :=
  txN (r0.length + 1) [] r0 = txN (l.length + 1) acc l ∧ acc.length + 4 * l.length ≤ 4 * r0.length ∧ l.length ≤ r0.length ∧ wr.ownsRow w.heap.size 5 1 v acc.length (Lib.byteCells acc) ∧ Rq wr R l n M ∧ Asd (· = R) w wr

set_option maxHeartbeats 1600000 in
set_option maxRecDepth 100000 in
theorem text_any (R : Nat) (l : Bs) (n : Nat) (M : Value) (w : World) (h : Rq w R l n M) (hE : Env w) (hR : 10 ≤ R) (hl : l.length ≤ 1000000) :
    Calls Tryd.prog 46 #[.pointer (some ⟨R, 0, none⟩)] w (TextP R n M w (textN l)) := by
  have hRw : R < w.heap.size := Rw.lt h
  by_cases hq : l.head? = some 34
  · obtain ⟨r, rfl⟩ : ∃ r, l = 34 :: r := by
      cases l with
      | nil => cases hq
      | cons c r => simp at hq; exact ⟨r, by rw [hq]⟩
    have hlr : r.length ≤ 1000000 := by simp at hl; omega
    have K := Lib.hid (take_hit R 34 r n M w h)
    have Ht : Unit → textN (34 :: r) = match txN (r.length + 1) [] r with
      | .err e => .err e
      | .ok s r2 => if 200 < s.length then .err 4 else .ok s r2 := fun _ => rfl
    go_enter Tryd.func46, Tryd.ntmps46
    go_wp2_with fail
    refine K.out.mono ?_
    rintro e w1 ⟨rfl, h1, a1⟩
    clear K h hq
    go_upto_region 4 with fail
    have hT : Tx R n M w r [] r (.slice none 0 0) w1 := ⟨rfl, by simp, Nat.le_refl _, World.ownsRow_nil _ _ _ _, h1, a1⟩
    clear h1 a1
    go_loopw [4] (fun v wr => ∃ acc l, Tx R n M w r acc l v wr) (fun _ wr => restLen wr R)
    case atStart => exact ⟨[], r, hT⟩
    case round =>
      clear hT
      obtain ⟨acc, l, hx, hb, hll, hown, hq, ha⟩ := hrel
      have HX : Unit → txN (r.length + 1) [] r = txN (l.length + 1) acc l := fun _ => hx
      clear hx
      by_cases he : l.head? = some 34
      · obtain ⟨r2, rfl⟩ : ∃ r2, l = 34 :: r2 := by
          cases l with
          | nil => cases he
          | cons c r => simp at he; exact ⟨r, by rw [he]⟩
        have Hok : Unit → txN (r.length + 1) [] r = .ok acc r2 := fun _ => by rw [HX ()]; rfl
        have K := Lib.hid (take_hit R 34 r2 n M wr hq)
        clear HX hq he
        have hslen : (acc.length : Int) ≤ 8000000 := by omega
        go_upto_region 4 with fail
        go_wp2_with fail
        refine K.out.mono ?_
        rintro e w2 ⟨rfl, h2, a2⟩
        clear K
        replace ha := ha.andThen a2
        replace hown := own_asd hown a2 hRw
        have hs := own_string hown
        obtain ⟨aa, cap, rfl⟩ : ∃ aa cap, u4 = .slice aa acc.length cap := by
          rcases hown.2 with ⟨rfl, h0⟩ | ⟨g, cap, cur, rfl, _⟩
          · exact ⟨none, 0, by rw [h0]⟩
          · exact ⟨_, _, rfl⟩
        clear hown a2
        by_cases hlong : 200 < acc.length
        · have hli : (200 : Int) < (acc.length : Int) := by omega
          go_wp2_with fail
          go_ret2
          refine ⟨?_, ha⟩
          rw [Ht (), Hok ()]
          simp only
          rw [if_pos hlong]
          exact ⟨_, _, rfl, h2⟩
        · have hli : ¬ (200 : Int) < (acc.length : Int) := by omega
          go_wp2_with fail
          go_ret2
          refine ⟨?_, ha⟩
          rw [Ht (), Hok ()]
          simp only
          rw [if_neg hlong]
          exact ⟨rfl, h2⟩
      · have K := Lib.hid (take_miss R 34 l n M wr hq he 34 rfl)
        have K2 := Lib.hid (sign_any R l n M wr hq (hE.one ha hR) hR (by omega))
        have Htx : Unit → txN (r.length + 1) [] r = (match signN l with
          | none => .err 2
          | some (v, r2) => txN l.length (acc ++ Lib.encodeRune v) r2) := fun _ => by
            rw [HX ()]
            cases l with
            | nil => rfl
            | cons c l =>
              rw [txN, if_neg (by simpa using he)]
              rfl
        have hlen : l.length ≤ 1000000 := by omega
        cases hs : signN l with
        | none =>
          rw [hs] at K2 Htx
          clear HX
          go_wp2_with fail
          refine K.out.mono ?_
          rintro e w2 ⟨rfl, rfl⟩
          clear K
          go_wp2_with fail
          refine K2.out.mono ?_
          rintro e w3 ⟨⟨v, r3, rfl, h3⟩, a3⟩
          clear K2
          replace ha := ha.andThen a3
          go_wp2_with fail
          go_ret2
          refine ⟨?_, ha⟩
          rw [Ht (), Htx ()]
          exact ⟨_, _, rfl, h3⟩
        | some x =>
          obtain ⟨v, r2⟩ := x
          have hsl := sign_len hs
          have hsv := sign_val hs
          have hrl := rune_len v
          rw [hs] at K2 Htx
          have Hnx : Unit → txN (r.length + 1) [] r = txN (r2.length + 1) (acc ++ Lib.encodeRune v) r2 := fun _ => by
            rw [Htx ()]
            exact tx_fuel _ _ _ _ (by omega) (by omega)
          have hbn : (acc ++ Lib.encodeRune v).length + 4 * r2.length ≤ 4 * r.length := by rw [List.length_append]; omega
          have hb2 : acc.length + 4 ≤ 140737488355328 := by omega
          have hrl2 := hq.len
          clear HX Htx hs
          go_wp2_with fail
          refine K.out.mono ?_
          rintro e w2 ⟨rfl, rfl⟩
          clear K
          go_wp2_with fail
          refine K2.out.mono ?_
          rintro e w3 ⟨⟨rfl, h3⟩, a3⟩
          clear K2
          replace hown := own_asd hown a3 hRw
          replace ha := ha.andThen a3
          have K3 := Lib.hid (Tryd.utf8_AppendRune_plain w.heap.size u4 acc.length _ v (by omega) (by omega) w3 hown hb2 ha.size)
          have hlt := hown.lt
          go_wp2_with fail
          refine K3.out.mono ?_
          rintro e w4 ⟨v4, rfl, hown4, o, hg⟩
          clear K3
          have h4 : Rq w4 R r2 n M := by
            have hR3 := Rw.lt h3
            have e1 : w4.heap[R]? = (w3.alloc o).heap[R]? := hg.block R (by simp; omega) (fun e => by have := (hlt R e.symm).1; omega)
            unfold Rq Rw at h3 ⊢
            rw [e1, Below.heap_alloc _ _ _ hR3]; exact h3
          have ha4 : Asd (· = R) w w4 := (ha.alloc o).grown hg (fun k e => .inr (hlt k e).1)
          have hown5 : w4.ownsRow w.heap.size 5 1 v4 (acc ++ Lib.encodeRune v).length (Lib.byteCells (acc ++ Lib.encodeRune v)) := by
            have e1 : (Lib.runeCells v).length = (Lib.encodeRune v).length := by simp [Lib.runeCells, Lib.encodeRune]
            have e2 : Lib.byteCells (acc ++ Lib.encodeRune v) = Lib.byteCells acc ++ Lib.runeCells v := by rw [← Lib.byteCells_encodeRune]; simp [Lib.byteCells]
            rw [List.length_append, ← e1, e2]; exact hown4
          have hrl4 := h4.len
          clear hown hown4 hg h3 a3 ha hlt
          go_wp2_with fail
          go_roundw
          case rel => exact ⟨_, r2, Hnx (), hbn, by omega, hown5, h4, ha4⟩
          case measure => rw [hrl4, hrl2]; exact hsl
  · have K := Lib.hid (take_miss R 34 l n M w h hq 34 rfl)
    have Ht : Unit → textN l = .err 2 := fun _ => by
      cases l with
      | nil => rfl
      | cons c r => unfold textN; simp only; rw [if_neg (by simpa using hq)]
    go_enter Tryd.func46, Tryd.ntmps46
    go_wp2_with fail
    refine K.out.mono ?_
    rintro e w2 ⟨rfl, rfl⟩
    clear K
    go_wp2_with fail
    go_ret2
    exact ⟨by rw [Ht ()]; exact ⟨_, _, rfl, h⟩, Asd.refl _ _⟩
end Go.Proofs.YtbkkcojfgdjbhaaDoor
