/- What a text is read as. -/
import Derived.Test.YtbkkcojfgdjbhaaDoorJValue
namespace Go.Proofs.YtbkkcojfgdjbhaaDoor
open Go.ChangeShapes Go.WideShapes Go.RowKit

theorem below_setRow {B : Nat} {a w : World} (h : Below B a w) {g : Nat} (hg : B ≤ g) (cs : Array Value) : Below B a (w.setRow g cs) :=
  ⟨h.os, h.tape, h.output, by rw [setRow_size]; exact h.size, fun k hk => by rw [setRow_other w g k cs (by omega)]; exact h.block k hk⟩
theorem ins_any (w : World) (mb : Nat) (es : Array MapEntry) (c : Nat) (key : ByteArray) (v : Value) (h : w.heap[mb]? = some (.map es c)) (hf : (Instr.findKey 9 (.string key) es.toList).run Tryd.prog w = .ok none w) :
    ∃ w', (Instr.mapUpdate 61 (.map (some mb)) (.string key) v).run Tryd.prog w = .ok () w' ∧ w'.heap[mb]? = some (.map (es.push ⟨.string key, v, c⟩) (c + 1)) ∧ Asd (· = mb) w w' ∧ w'.heap.size = w.heap.size := by
  have hg := Go.MapKept.run_getObj_map (P := Tryd.prog) h
  have hck : ∀ e, (Instr.checkKey e 10000 9 (.string key)).run Tryd.prog w = .ok () w := fun e => Go.MapKept.run_checkKey (k := .string key) Tryd.underlying9 (show Go.MapKept.IsKey .string (.string key) from trivial) e 9999
  have hlt : mb < w.heap.size := (Array.getElem?_eq_some_iff.1 h).1
  refine ⟨{ w with heap := w.heap.setIfInBounds mb (.map (es.push ⟨.string key, v, c⟩) (c + 1)) }, ?_, ?_, ⟨rfl, rfl, rfl, by simp, fun k _ hn => ?_⟩, by simp⟩
  · simp only [Instr.mapUpdate, Sem.run_bind, run_underlying Tryd.underlying61, Result.andThen_ok, hg, hck, hf]
    exact Go.MapKept.run_setObj_map _ h
  · simp [hlt]
  · simp only
    rw [Array.getElem?_setIfInBounds_ne (fun e => hn e.symm)]
/-- The map of the words is made. -/
theorem words_made (w : World) : ∃ W1 W2 W3, (Instr.mapUpdate 61 (.map (some w.heap.size)) (.string ⟨#[110, 117, 108, 108]⟩) (.int .i64 0)).run Tryd.prog (w.alloc (.map #[] 0)) = .ok () W1 ∧ (Instr.mapUpdate 61 (.map (some w.heap.size)) (.string ⟨#[102, 97, 108, 115, 101]⟩) (.int .i64 1)).run Tryd.prog W1 = .ok () W2 ∧
    (Instr.mapUpdate 61 (.map (some w.heap.size)) (.string ⟨#[116, 114, 117, 101]⟩) (.int .i64 2)).run Tryd.prog W2 = .ok () W3 ∧ Wm W3 w.heap.size ∧ Below w.heap.size w W3 ∧ W3.heap.size = w.heap.size + 1 := by
  have hm : (w.alloc (.map #[] 0)).heap[w.heap.size]? = some (.map #[] 0) := heap_alloc_last w _
  have hb : Below w.heap.size w (w.alloc (.map #[] 0)) := (Below.refl _ _).alloc (Nat.le_refl _) _
  have hsz : (w.alloc (.map #[] 0)).heap.size = w.heap.size + 1 := by simp
  generalize w.alloc (.map #[] 0) = W0 at *
  obtain ⟨W1, r1, m1, a1, s1⟩ := ins_any W0 w.heap.size #[] 0 ⟨#[110, 117, 108, 108]⟩ (.int .i64 0) hm (by kernel_rfl)
  obtain ⟨W2, r2, m2, a2, s2⟩ := ins_any W1 w.heap.size _ _ ⟨#[102, 97, 108, 115, 101]⟩ (.int .i64 1) m1 (by kernel_rfl)
  obtain ⟨W3, r3, m3, a3, s3⟩ := ins_any W2 w.heap.size _ _ ⟨#[116, 114, 117, 101]⟩ (.int .i64 2) m2 (by kernel_rfl)
  have aa := (a1.andThen a2).andThen a3
  refine ⟨W1, W2, W3, r1, r2, r3, ⟨0, 1, 2, 3, m3⟩, hb.trans (aa.toBelow (by omega) (fun k e => by rw [e]; exact Nat.le_refl _)), by omega⟩
theorem info_rd : (Tryd.prog.info? 63).map (fun i => (i.zero, i.size)) = some (some (.agg #[.string ⟨#[]⟩, .int .i64 0, .map none]), 3) := by kernel_rfl
theorem zero_rd (w : World) : (zeroValue 63).run Tryd.prog w = .ok (.agg #[.string ⟨#[]⟩, .int .i64 0, .map none]) w := (zero_of_info info_rd).1 w

set_option maxHeartbeats 3200000 in
set_option maxRecDepth 100000 in
theorem read_any (l : Bs) (w : World) (hE : Env w) (hl : l.length ≤ 1000000) :
    Calls Tryd.prog 19 #[.string ⟨l.toArray⟩] w fun e w' => ∃ cs, e = .returned (.tuple #[.agg cs.toArray, .int .i64 (readN l).2]) ∧ JAt (fun k => w.heap.size ≤ k) w' 7 cs (readN l).1 ∧ Below w.heap.size w w' := by
  have hz := zero_val
  have hzr := zero_rd
  have hmm := @run_makeMap Tryd.prog
  have hb1 : Below w.heap.size w (w.alloc (.cells zero5.toArray 29)) := (Below.refl _ _).alloc (Nat.le_refl _) _
  have rN := Rw.new w 29 zero5
  have hsz1 : (w.alloc (.cells zero5.toArray 29)).heap.size = w.heap.size + 1 := by simp
  obtain ⟨W1, W2, W3, r1, r2, r3, hm, hb3, hs3⟩ := words_made (w.alloc (.cells zero5.toArray 29))
  rw [hsz1] at r1 r2 r3 hm hb3 hs3
  go_enter Tryd.func19, Tryd.ntmps19
  go_upto_region 2 with fail
  have hq4 : Rq (W3.alloc (.cells #[.string ⟨l.toArray⟩, .int .i64 0, .map (some (w.heap.size + 1))] 63)) (w.heap.size + 1 + 1) l 0 (.map (some (w.heap.size + 1))) := by
    have := Rw.new W3 63 [sv l, .int .i64 ((0 : Nat) : Int), .map (some (w.heap.size + 1))]
    rw [hs3] at this
    exact this
  have hb4 : Below W3.heap.size W3 (W3.alloc (.cells #[.string ⟨l.toArray⟩, .int .i64 0, .map (some (w.heap.size + 1))] 63)) := (Below.refl _ _).alloc (Nat.le_refl _) _
  have hbb : Below w.heap.size w W3 := hb1.trans (hb3.mono (by omega))
  have hB4 : Below w.heap.size w (W3.alloc (.cells #[.string ⟨l.toArray⟩, .int .i64 0, .map (some (w.heap.size + 1))] 63)) := hbb.trans (hb4.mono (by omega))
  have hE4 := hE.keep (hB4.mono hE.big)
  have hm4 := hm.keep (S := fun _ => False) (Asd.of_below hb4) (fun e => e)
  have rN4 : Rw (W3.alloc (.cells #[.string ⟨l.toArray⟩, .int .i64 0, .map (some (w.heap.size + 1))] 63)) w.heap.size 29 zero5 := by
    have e1 : W3.heap[w.heap.size]? = _ := hb3.block w.heap.size (by omega)
    have r3 : Rw W3 w.heap.size 29 zero5 := by unfold Rw at rN ⊢; rw [e1]; exact rN
    exact r3.stay hb4
  have hbig := hE.big
  clear hb1 hb3 hb4 hbb rN hm hE r1 r2 r3 hs3 hsz1 hmm
  generalize W3.alloc (.cells #[.string ⟨l.toArray⟩, .int .i64 0, .map (some (w.heap.size + 1))] 63) = W4 at *
  generalize hN : w.heap.size = N at *
  have HN : Unit → w.heap.size = N := fun _ => hN
  clear hN
  go_wp2_with fail
  refine (skip_any (N + 1 + 1) l 0 _ W4 hq4).mono ?_
  rintro e w5 ⟨rfl, hq5, a5⟩
  have hE5 := hE4.one a5 (by omega)
  have hm5 := hm4.keep a5 (by omega)
  have rN5 := rN4.keep a5 (by omega)
  have hB5 : Below N w w5 := hB4.trans (a5.toBelow (by have := Rw.lt hq4; omega) (fun k e => by omega))
  have hsk := skip_len l
  have Hrd : Unit → readN l = match valN 6 (skipB l) 0 with
    | .err e => (.zero, e)
    | .ok (j, _) r => if r = [] then (j, 0) else (.zero, 2) := fun _ => rfl
  have KV : Hid (Calls Tryd.prog 31 #[.pointer (some ⟨N + 1 + 1, 0, none⟩), .int .i64 0] w5 (ValQ (N + 1 + 1) (N + 1) w5 6 (valN 6 (skipB l) 0))) := val_any 6 (Nat.le_refl _) (N + 1 + 1) (N + 1) (skipB l) 0 w5 hq5 hE5 hm5 (by omega) (by omega) (by omega) (by omega)
  have hsz5 := Rw.lt hq5
  clear hq4 a5 hE4 hm4 rN4 hB4 hE5 hm5
  cases hv : valN 6 (skipB l) 0 with
  | err er =>
    have HR : Unit → readN l = (.zero, er) := fun _ => by rw [Hrd (), hv]
    rw [hv] at KV
    clear Hrd hv
    go_wp2_with fail
    refine KV.out.mono ?_
    rintro e w6 ⟨⟨⟨cs, rfl, h5, h1, hne⟩, r6, n6, hq6⟩, a6⟩
    clear KV
    have rN6 := rN5.keep a6 (by omega)
    have hB6 : Below N w w6 := hB5.trans (a6.toBelow (by omega) (fun k e => by omega))
    have hb7 : Below w6.heap.size w6 (w6.alloc (.cells cs.toArray 29)) := (Below.refl _ _).alloc (Nat.le_refl _) _
    have rN7 := rN6.stay hb7
    have hB7 := hB6.trans (hb7.mono (by have := Rw.lt rN6; omega))
    go_upto_region 4 with (refine store_arr w6.heap.size 29 zero5 (Rw.new w6 _ zero5) 5 rfl 29 (by kernel_rfl) cs h5 h1 _ _ rfl rfl rfl rfl ?_)
    rw [World.setRow_alloc_new]
    generalize w6.alloc (.cells cs.toArray 29) = W7 at *
    go_wp2_with (refine store_arr N 29 zero5 rN7 5 rfl 29 (by kernel_rfl) zero5 rfl (one5 _ _ _ rfl rfl) _ _ rfl rfl rfl rfl ?_)
    refine ret_val N 29 zero5 (rN7.row _) rfl _ rfl rfl rfl rfl ?_
    rw [HR (), HN ()]
    exact ⟨zero5, rfl, JAt.leaf _ _ _ _ _ _, below_setRow hB7 (Nat.le_refl _) _⟩
  | ok x r6 =>
    obtain ⟨j, n6⟩ := x
    rw [hv] at KV
    have hsz6 : w5.heap.size ≥ N := by omega
    go_wp2_with fail
    refine KV.out.mono ?_
    rintro e w6 ⟨⟨⟨cs, rfl, hJ⟩, hq6⟩, a6⟩
    obtain ⟨h5, h1⟩ := hJ.five
    clear KV
    have rN6 := rN5.keep a6 (by omega)
    have hB6 : Below N w w6 := hB5.trans (a6.toBelow (by omega) (fun k e => by omega))
    have hb7 : Below w6.heap.size w6 (w6.alloc (.cells cs.toArray 29)) := (Below.refl _ _).alloc (Nat.le_refl _) _
    have rN7 := rN6.stay hb7
    have rT7 := Rw.new w6 29 cs
    have hT6 : N < w6.heap.size := Rw.lt rN6
    have hB7 := hB6.trans (hb7.mono (by omega))
    have hq7 := hq6.stay hb7
    have hJ7 := hJ.keep (S := fun _ => False) (Asd.of_below hb7) (fun _ _ _ e => e)
    go_upto_region 4 with (refine store_arr w6.heap.size 29 zero5 (Rw.new w6 _ zero5) 5 rfl 29 (by kernel_rfl) cs h5 h1 _ _ rfl rfl rfl rfl ?_)
    rw [World.setRow_alloc_new]
    generalize w6.alloc (.cells cs.toArray 29) = W7 at *
    generalize w6.heap.size = T at *
    have cr := hq7.rest
    clear hq6 a6 rN6 hb7 hB6 hJ
    cases r6 with
    | nil =>
      have HR : Unit → readN l = (j, 0) := fun _ => by rw [Hrd (), hv]; rfl
      have he := null_text
      clear Hrd hv
      generalize (⟨([] : Bs).toArray⟩ : ByteArray) = X at *
      go_wp2_with (first
        | (refine load_val T 29 cs rT7 h5 _ rfl rfl rfl ?_)
        | (refine store_arr N 29 zero5 rN7 5 rfl 29 (by kernel_rfl) cs h5 h1 _ _ rfl rfl rfl rfl ?_))
      refine ret_val N 29 cs (rN7.row _) h5 _ rfl rfl rfl rfl ?_
      rw [HR (), HN ()]
      have k8 : Asd (· = N) W7 (W7.setRow N cs.toArray) := (Asd.refl (· = N) W7).setRow (g := N) (.inl rfl) _
      exact ⟨cs, rfl, (hJ7.keep k8 (fun i hi _ e => by have hi : w5.heap.size ≤ i := hi; omega)).mono (fun i hi _ => by have hi : w5.heap.size ≤ i := hi; exact (show N ≤ i by omega)), below_setRow hB7 (Nat.le_refl _) _⟩
    | cons c r6 =>
      have HR : Unit → readN l = (.zero, 2) := fun _ => by rw [Hrd (), hv]; rfl
      have he := full_text c r6
      clear Hrd hv
      generalize (⟨(c :: r6).toArray⟩ : ByteArray) = X at *
      go_wp2_with (refine store_arr N 29 zero5 rN7 5 rfl 29 (by kernel_rfl) zero5 rfl (one5 _ _ _ rfl rfl) _ _ rfl rfl rfl rfl ?_)
      refine ret_val N 29 zero5 (rN7.row _) rfl _ rfl rfl rfl rfl ?_
      rw [HR (), HN ()]
      exact ⟨zero5, rfl, JAt.leaf _ _ _ _ _ _, below_setRow hB7 (Nat.le_refl _) _⟩
end Go.Proofs.YtbkkcojfgdjbhaaDoor
