/- The reader: a class, behind its [. -/
import Derived.Test.YteooofakpkbgoaaDoorPB
import Derived.Laws.Tables
import Derived.Maps.RangeWalk
namespace Go.Proofs.YteooofakpkbgoaaDoor
open Go.ChangeShapes Go.WideShapes Go.RowKit

theorem Rw.setRow {w : World} {g : Nat} {t : TypeId} {cs ds : List Value} (h : Rw w g t cs) : Rw (w.setRow g ds.toArray) g t ds := by
  unfold Rw at *
  rw [setRow_heap w g _ _ t _ h]
theorem Rw.setRow_ne {w : World} {g k : Nat} {t : TypeId} {cs : List Value} {ds : Array Value} (h : Rw w g t cs) (hk : g ≠ k) : Rw (w.setRow k ds) g t cs := by
  unfold Rw at *
  rw [setRow_other w k g _ hk]; exact h
theorem Asd.setRow {S : Nat → Prop} {a w : World} {g : Nat} {ds : Array Value} (h : Asd S a w) (hg : S g ∨ a.heap.size ≤ g) : Asd S a (w.setRow g ds) :=
  ⟨h.os, h.tape, h.output, by rw [setRow_size]; exact h.size, fun k hk hn => by
    rw [setRow_other w g k _ (fun e => by subst e; rcases hg with q | q; exact hn q; omega)]; exact h.block k hk hn⟩
section
variable {P : Program} {ops : Array Oper} {rest : List Oper} {o : Oper} {a : Act} {w : World} {Q : Exit → Act → World → Prop}
/-- A whole array is written. -/
theorem store_arr (g : Nat) (t : TypeId) (old : List Value) (hr : Rw w g t old) (n : Nat) (ho' : old.length = n) (ty : TypeId) (hi : (P.info? ty).map (·.size) = some n) (cs : List Value) (hn : cs.length = n) (h1 : ∀ v ∈ cs, v.oneCell' = true) (x y : Operand) (hgd : o.guard = none) (ho : o.op = .store ty x y)
    (hx : a.eval x = .pointer (some ⟨g, 0, none⟩)) (hy : a.eval y = .agg cs.toArray)
    (h : wpList P ops Q rest (a.put o.dst undef) (w.setRow g cs.toArray)) : wpList P ops Q (o :: rest) a w :=
  wpList_store_row hgd ty x y ho g cs.toArray hx hy t old.toArray hr (by rw [hi]; simp [hn]) (by simp [hn, ho']) (by rw [Array.all_eq_true_iff_forall_mem]; intro v hv; exact h1 v (by simpa using hv)) h
theorem store_arrH {K : Act → World → Prop} (g : Nat) (t : TypeId) (old : List Value) (hr : Rw w g t old) (n : Nat) (ho' : old.length = n) (ty : TypeId) (hi : (P.info? ty).map (·.size) = some n) (cs : List Value) (hn : cs.length = n) (h1 : ∀ v ∈ cs, v.oneCell' = true) (x y : Operand) (ho : o.op = .store ty x y)
    (hx : a.eval x = .pointer (some ⟨g, 0, none⟩)) (hy : a.eval y = .agg cs.toArray)
    (h : K (a.put o.dst undef) (w.setRow g cs.toArray)) : o.wp P a w K Q :=
  wp_store_row ty x y ho g cs.toArray hx hy t old.toArray hr (by rw [hi]; simp [hn]) (by simp [hn, ho']) (by rw [Array.all_eq_true_iff_forall_mem]; intro v hv; exact h1 v (by simpa using hv)) h
end
/-- What class hands back. -/
def ClassP (R : Nat) (V : Value) (o : Option ((UInt8 → Bool) × Bx)) (e : Ending) (w' : World) : Prop :=
  match o with
  | some (p, r) => e = .returned (.tuple #[.agg (setRow p).toArray, .bool true]) ∧ Rq w' R r V
  | none => (∃ q, e = .returned (.tuple #[.agg (setRow q).toArray, .bool false])) ∧ ∃ l', Rq w' R l' V
theorem build_class (Z : List Value) (hz : ∀ w, (zeroValue 122).run Tryd.prog w = .ok (.agg Z.toArray) w) (w : World) : (Instr.build 122 #[]).run Tryd.prog w = .ok (.agg Z.toArray) w := by
  unfold Instr.build
  simp only [Sem.run_bind, hz, Result.andThen_ok, run_underlying Tryd.underlying122]
  generalize hm : Sem.run Tryd.prog (sizeOf 4) w = m
  obtain rfl : m = .ok 1 w := by rw [← hm]; kernel_rfl
  clear hm
  rfl
theorem exec_empty {o : Oper} {a : Act} (Z : List Value) (hz : ∀ w, (zeroValue 122).run Tryd.prog w = .ok (.agg Z.toArray) w) (ho : o.op = .build 122 #[]) (w : World) : (execOp a.eval o).run Tryd.prog w = .ok (.value (.agg Z.toArray)) w := by
  unfold execOp
  simp only [ho, List.map_toArray, List.map_nil, Sem.run_bind, build_class Z hz, Result.andThen_ok, Sem.run_pure]
theorem drop_no {c : UInt8} {l : Bs} (h : l.head? ≠ some c) : dropIf c l = l := by
  cases l with
  | nil => rfl
  | cons d l => simp [dropIf]; intro e; exact absurd (by rw [e]; rfl) h
theorem Asd.any' {R G : Nat} {w w' : World} (h : Asd (fun k => k = R ∨ k = G) w w') (hG : w.heap.size ≤ G) : Asd (· = R) w w' :=
  ⟨h.os, h.tape, h.output, h.size, fun k hk hn => h.block k hk (fun e => e.elim hn (fun e => by omega))⟩
section
variable {P : Program} {ops : Array Oper} {rest : List Oper} {o : Oper} {a : Act} {w : World} {Q : Exit → Act → World → Prop}
theorem wpList_exec {v : Value} (h : (execOp a.eval o).run P w = .ok (.value v) w) (hg : o.guard = none) (hK : wpList P ops Q rest (a.put o.dst v) w) : wpList P ops Q (o :: rest) a w :=
  wpList_plain hg fun K' hK' => by
    unfold Oper.wp
    rw [h]
    exact hK' _ _ hK
end
section
variable {P : Program} {ops : Array Oper} {o : Oper} {a : Act} {w : World} {K : Act → World → Prop} {Q : Exit → Act → World → Prop} {E : Prop}
theorem step_wp (hg : o.guard = none) (h : Oper.wp P o a w K Q) : if Region.wanted o (yielded ops a.tmps) = true then Oper.wp P o a w K Q else E := by
  rw [if_pos (by simp [Region.wanted, hg])]
  exact h
theorem step_exec {v : Value} (h : (execOp a.eval o).run P w = .ok (.value v) w) (hg : o.guard = none) (hK : K (a.put o.dst v) w) : if Region.wanted o (yielded ops a.tmps) = true then Oper.wp P o a w K Q else E :=
  step_wp hg (by unfold Oper.wp; rw [h]; exact hK)
theorem step_calls {f : FuncId} {args : Array Value} (h : (execOp a.eval o).run P w = .ok (.enter f args) w) (hg : o.guard = none) (hK : Calls P f args w fun e w' => ∃ v, e = .returned v ∧ K (a.put o.dst v) w') : if Region.wanted o (yielded ops a.tmps) = true then Oper.wp P o a w K Q else E :=
  step_wp hg (by
    unfold Oper.wp
    rw [h]
    refine Calls.mono hK fun e w' hh => ?_
    obtain ⟨v, rfl, hk⟩ := hh
    exact hk)
end
theorem cls_none {m : Nat} {q : UInt8 → Bool} {c : UInt8} {s : Bx} (hc : ¬ c = 93) (he : elemN (c :: s) = none) : clsN (m + 1) q (c :: s) = none := by rw [clsN, if_neg hc, he]
theorem cls_some {m : Nat} {q : UInt8 → Bool} {c f b : UInt8} {s r2 : Bx} (hc : ¬ c = 93) (he : elemN (c :: s) = some ((f, b), r2)) : clsN (m + 1) q (c :: s) = clsN m (fun x => q x || (decide (f ≤ x) && decide (x ≤ b))) r2 := by rw [clsN, if_neg hc, he]
theorem set_at {w : World} {G : Nat} {t : TypeId} {q : UInt8 → Bool} (h : Rw w G t (setRow q)) : SetAt w G 0 q := fun i hi => by
  rw [Nat.zero_add, h.cell]; exact setRow_get q hi
set_option maxHeartbeats 6400000 in
set_option maxRecDepth 20000 in
theorem class_plain (R : Nat) (l : Bs) (V : Value) (w : World) (h : Rq w R l V) (h94 : l.head? ≠ some 94) :
    Calls Tryd.prog 101 #[.pointer (some ⟨R, 0, none⟩)] w fun e w' => ClassP R V (cls1 l) e w' ∧ Asd (· = R) w w' := by
  obtain ⟨O, hO⟩ : ∃ O, clsN l.length noSet l = O := ⟨_, rfl⟩
  rw [cls1_eq, hO]
  have hmf : ∀ (fn : Fn) (first cap : Array Value) (w : World), (Instr.makeFunc fn first cap).run Tryd.prog w = .ok (.func fn first cap) w := fun _ _ _ _ => rfl
  have hzc := zero_class
  have hlZ := setRow_len noSet
  have hoZ := setRow_cell noSet
  obtain ⟨Z, eZ⟩ : ∃ Z, setRow noSet = Z := ⟨_, rfl⟩
  rw [eZ] at hzc hlZ hoZ
  have EZ : Unit → setRow noSet = Z := fun _ => eZ
  clear eZ
  have hR0 := Rw.lt h
  have hal := (Below.refl w.heap.size w).alloc (Nat.le_refl _) (.cells Z.toArray 122)
  have h1 := h.stay hal
  have g1 : Rw (w.alloc (.cells Z.toArray 122)) w.heap.size 122 (setRow noSet) := by rw [EZ ()]; exact Rw.new w _ Z
  have K1 := Lib.hid fun w' hq => take_any R 94 l V w' hq 94 rfl
  have HO : Unit → clsN l.length noSet l = O := fun _ => hO
  clear hO
  go_enter_defers Tryd.func101, Tryd.ntmps101
  go_wp2_with fail
  refine (K1.out _ h1).mono ?_
  rintro e w1 ⟨rfl, h2, hA⟩
  clear K1
  rw [show dropIf 94 l = l from drop_no h94] at h2
  rw [show nextIs 94 l = false by simp [nextIs, h94]]
  have g2 := g1.keep hA (fun e : w.heap.size = R => by omega)
  have hA2 : Asd (fun k => k = R ∨ k = w.heap.size) w w1 := ((Asd.of_below hal).trans (hA.any (S' := fun k => k = R ∨ k = w.heap.size) (fun _ e => .inl e)) (fun _ e _ => e))
  clear hA h1 h g1 hal
  obtain ⟨G, hG⟩ : ∃ G, w.heap.size = G := ⟨_, rfl⟩
  rw [hG] at g2 hA2 hR0
  simp only [hG]
  have hGw : w.heap.size ≤ G := by omega
  have hRG : R ≠ G := by omega
  go_wp2_with fail
  go_loopw [] (fun wr => ∃ n q s, clsN n q s = O ∧ s.length ≤ n ∧ Rq wr R s V ∧ Rw wr G 122 (setRow q) ∧ Asd (fun k => k = R ∨ k = G) w wr) (fun wr => restLen wr R)
  case atStart => exact ⟨_, _, _, HO (), Nat.le_refl _, h2, g2, hA2⟩
  case round =>
    obtain ⟨n, q, s, hO, hn, q3, g3, a3⟩ := hrel
    have HQ : Unit → clsN n q s = O := fun _ => hO
    clear hO HO h2 g2 hA2
    have hlen := q3.len
    cases s with
    | nil =>
      have hON : O = none := by rw [← HQ ()]; cases n <;> rfl
      have K3 := Lib.hid (take_any R 93 [] V wr q3 93 rfl)
      have K4 := element_any R [] V
      rw [show elemN [] = none from rfl] at K4
      replace K4 := Lib.hid K4
      clear HQ
      go_wp2_with fail
      refine K3.out.mono ?_
      rintro e w3 ⟨rfl, q5, hA3⟩
      clear K3
      have g5 := g3.keep hA3 (fun e : G = R => by omega)
      have a5 := a3.trans (hA3.any (S' := fun k => k = R ∨ k = G) (fun _ e => .inl e)) (fun _ e _ => e)
      clear g3 a3
      have g3 := g5
      have a3 := a5
      clear g5 a5
      go_wp2_with fail
      refine (K4.out _ q5).mono ?_
      rintro e w4 ⟨⟨⟨ex, ey, rfl⟩, l4, q4⟩, hA4⟩
      clear K4
      have g4 := g3.keep hA4 (fun e : G = R => by omega)
      have a4 := a3.trans (hA4.any (S' := fun k => k = R ∨ k = G) (fun _ e => .inl e)) (fun _ e _ => e)
      go_wp2_with (first | refine wpList_exec (exec_empty Z hzc rfl _) rfl ?_ | refine store_arr G 122 _ g4 256 (setRow_len _) 122 (by kernel_rfl) Z hlZ hoZ _ _ rfl rfl rfl rfl ?_)
      have gE : Rw (w4.setRow G Z.toArray) G 122 (setRow noSet) := by rw [EZ ()]; exact g4.setRow
      have qE : Rq (w4.setRow G Z.toArray) R l4 V := q4.setRow_ne hRG
      have aE : Asd (fun k => k = R ∨ k = G) w (w4.setRow G Z.toArray) := a4.setRow (.inl (.inr rfl))
      clear g4 q4 a4
      generalize w4.setRow G Z.toArray = wE at *
      refine fin_plain gE (setRow_len _) rfl rfl rfl ?_
      exact ⟨show ClassP R V (clsO O) _ _ from by rw [hON]; exact ⟨⟨_, rfl⟩, _, qE⟩, aE.any' hGw⟩
    | cons c s =>
      obtain ⟨m, rfl⟩ : ∃ m, n = m + 1 := ⟨n - 1, by rw [List.length_cons] at hn; omega⟩
      have K3 := take_any R 93 (c :: s) V wr q3 93 rfl
      by_cases hc : c = 93
      · subst hc
        have hON : O = some (q, s) := by rw [← HQ ()]; simp [clsN]
        rw [show nextIs 93 (93 :: s) = true by simp [nextIs], show dropIf 93 (93 :: s) = s by simp [dropIf]] at K3
        replace K3 := Lib.hid K3
        clear HQ hn
        go_wp2_with fail
        refine K3.out.mono ?_
        rintro e w3 ⟨rfl, q5, hA3⟩
        clear K3
        have g5 := g3.keep hA3 (fun e : G = R => by omega)
        have a5 := a3.trans (hA3.any (S' := fun k => k = R ∨ k = G) (fun _ e => .inl e)) (fun _ e _ => e)
        clear g3 a3 q3 hA3
        go_upto_region 8 with fail
        refine wp_region_any (by kernel_rfl) ?_
        have hw5 : Below w3.heap.size w3 { w3 with drawn := w3.drawn + 1 } := (Below.refl _ _).drew
        have g6 := g5.stay hw5
        have q6 := Rq.stay q5 hw5
        have a6 := a5.trans (Asd.of_below (S := fun k => k = R ∨ k = G) hw5) (fun _ e _ => e)
        clear g5 q5 a5 hw5
        generalize { w3 with drawn := w3.drawn + 1 } = w5 at *
        have KE := empty_any G 0 q w5 (set_at g6)
        have gE : Rw (w5.setRow G (setRow q).toArray) G 122 (setRow q) := g6.setRow
        have qE : Rq (w5.setRow G (setRow q).toArray) R s V := Rw.setRow_ne q6 hRG
        have aE : Asd (fun k => k = R ∨ k = G) w (w5.setRow G (setRow q).toArray) := a6.setRow (.inl (.inr rfl))
        refine wpAny_ready (rs := [0, 1]) (by kernel_rfl) (by simp) ?_
        refine AllReady.cons rfl (fun K hK => ?_) (AllReady.cons rfl (fun K hK => ?_) (AllReady.nil))
        · refine step_exec (exec_set G 122 (setRow q) (setRow_len q) _ rfl rfl w5 g6) rfl (hK _ _ ?_)
          clear hK K
          go_frame
          refine wpAny_ready (rs := [1]) (by kernel_rfl) (by simp) ?_
          refine AllReady.cons rfl (fun K hK => ?_) (AllReady.nil)
          · refine step_calls (f := 106) (args := #[.pointer (some ⟨G, 0, none⟩)]) (by go_simp) rfl (KE.mono ?_)
            rintro e w' ⟨rfl, hw'⟩
            obtain rfl : w5 = w' := hw'.symm
            refine ⟨_, rfl, hK _ _ ?_⟩
            clear hK K
            go_frame
            refine wpAny_ready (rs := [2, 3]) (by kernel_rfl) (by simp) ?_
            refine AllReady.cons rfl (fun K hK => ?_) (AllReady.cons rfl (fun K hK => ?_) (AllReady.nil))
            · refine step_exec (v := .bool (!isNo q)) (by go_simp) rfl (hK _ _ ?_)
              clear hK K
              go_frame
              refine wpAny_ready (rs := [3]) (by kernel_rfl) (by simp) ?_
              refine AllReady.cons rfl (fun K hK => ?_) (AllReady.nil)
              · refine step_wp rfl (store_arrH G 122 _ g6 256 (setRow_len _) 122 (by kernel_rfl) (setRow q) (setRow_len _) (setRow_cell q) _ _ rfl rfl rfl (hK _ _ ?_))
                clear hK K
                refine wpAny_ready (rs := [4]) (by kernel_rfl) (by simp) ?_
                refine AllReady.cons rfl (fun K hK => ?_) (AllReady.nil)
                · refine step_exec (v := .bool (!isNo q)) (by go_simp) rfl (hK _ _ ?_)
                  clear hK K
                  go_frame
                  refine wpAny_done (by kernel_rfl) ?_ _
                  clear KE
                  generalize w5.setRow G (setRow q).toArray = wE at *
                  go_wp2_with fail
                  refine fin_plain gE (setRow_len _) rfl rfl rfl ?_
                  refine ⟨?_, aE.any' hGw⟩
                  try rw [hON]
                  cases hi : isNo q with
                  | true => rw [show clsO (some (q, s)) = none by simp [clsO, hi]]; exact ⟨⟨_, rfl⟩, _, qE⟩
                  | false => rw [show clsO (some (q, s)) = some (q, s) by simp [clsO, hi]]; exact ⟨rfl, qE⟩
            · refine step_wp rfl (store_arrH G 122 _ g6 256 (setRow_len _) 122 (by kernel_rfl) (setRow q) (setRow_len _) (setRow_cell q) _ _ rfl rfl rfl (hK _ _ ?_))
              clear hK K
              refine wpAny_ready (rs := [2]) (by kernel_rfl) (by simp) ?_
              refine AllReady.cons rfl (fun K hK => ?_) (AllReady.nil)
              · refine step_exec (v := .bool (!isNo q)) (by go_simp) rfl (hK _ _ ?_)
                clear hK K
                go_frame
                refine wpAny_ready (rs := [4]) (by kernel_rfl) (by simp) ?_
                refine AllReady.cons rfl (fun K hK => ?_) (AllReady.nil)
                · refine step_exec (v := .bool (!isNo q)) (by go_simp) rfl (hK _ _ ?_)
                  clear hK K
                  go_frame
                  refine wpAny_done (by kernel_rfl) ?_ _
                  clear KE
                  generalize w5.setRow G (setRow q).toArray = wE at *
                  go_wp2_with fail
                  refine fin_plain gE (setRow_len _) rfl rfl rfl ?_
                  refine ⟨?_, aE.any' hGw⟩
                  try rw [hON]
                  cases hi : isNo q with
                  | true => rw [show clsO (some (q, s)) = none by simp [clsO, hi]]; exact ⟨⟨_, rfl⟩, _, qE⟩
                  | false => rw [show clsO (some (q, s)) = some (q, s) by simp [clsO, hi]]; exact ⟨rfl, qE⟩
        · refine step_calls (f := 106) (args := #[.pointer (some ⟨G, 0, none⟩)]) (by go_simp) rfl (KE.mono ?_)
          rintro e w' ⟨rfl, hw'⟩
          obtain rfl : w5 = w' := hw'.symm
          refine ⟨_, rfl, hK _ _ ?_⟩
          clear hK K
          go_frame
          refine wpAny_ready (rs := [0, 2]) (by kernel_rfl) (by simp) ?_
          refine AllReady.cons rfl (fun K hK => ?_) (AllReady.cons rfl (fun K hK => ?_) (AllReady.nil))
          · refine step_exec (exec_set G 122 (setRow q) (setRow_len q) _ rfl rfl w5 g6) rfl (hK _ _ ?_)
            clear hK K
            go_frame
            refine wpAny_ready (rs := [2, 3]) (by kernel_rfl) (by simp) ?_
            refine AllReady.cons rfl (fun K hK => ?_) (AllReady.cons rfl (fun K hK => ?_) (AllReady.nil))
            · refine step_exec (v := .bool (!isNo q)) (by go_simp) rfl (hK _ _ ?_)
              clear hK K
              go_frame
              refine wpAny_ready (rs := [3]) (by kernel_rfl) (by simp) ?_
              refine AllReady.cons rfl (fun K hK => ?_) (AllReady.nil)
              · refine step_wp rfl (store_arrH G 122 _ g6 256 (setRow_len _) 122 (by kernel_rfl) (setRow q) (setRow_len _) (setRow_cell q) _ _ rfl rfl rfl (hK _ _ ?_))
                clear hK K
                refine wpAny_ready (rs := [4]) (by kernel_rfl) (by simp) ?_
                refine AllReady.cons rfl (fun K hK => ?_) (AllReady.nil)
                · refine step_exec (v := .bool (!isNo q)) (by go_simp) rfl (hK _ _ ?_)
                  clear hK K
                  go_frame
                  refine wpAny_done (by kernel_rfl) ?_ _
                  clear KE
                  generalize w5.setRow G (setRow q).toArray = wE at *
                  go_wp2_with fail
                  refine fin_plain gE (setRow_len _) rfl rfl rfl ?_
                  refine ⟨?_, aE.any' hGw⟩
                  try rw [hON]
                  cases hi : isNo q with
                  | true => rw [show clsO (some (q, s)) = none by simp [clsO, hi]]; exact ⟨⟨_, rfl⟩, _, qE⟩
                  | false => rw [show clsO (some (q, s)) = some (q, s) by simp [clsO, hi]]; exact ⟨rfl, qE⟩
            · refine step_wp rfl (store_arrH G 122 _ g6 256 (setRow_len _) 122 (by kernel_rfl) (setRow q) (setRow_len _) (setRow_cell q) _ _ rfl rfl rfl (hK _ _ ?_))
              clear hK K
              refine wpAny_ready (rs := [2]) (by kernel_rfl) (by simp) ?_
              refine AllReady.cons rfl (fun K hK => ?_) (AllReady.nil)
              · refine step_exec (v := .bool (!isNo q)) (by go_simp) rfl (hK _ _ ?_)
                clear hK K
                go_frame
                refine wpAny_ready (rs := [4]) (by kernel_rfl) (by simp) ?_
                refine AllReady.cons rfl (fun K hK => ?_) (AllReady.nil)
                · refine step_exec (v := .bool (!isNo q)) (by go_simp) rfl (hK _ _ ?_)
                  clear hK K
                  go_frame
                  refine wpAny_done (by kernel_rfl) ?_ _
                  clear KE
                  generalize w5.setRow G (setRow q).toArray = wE at *
                  go_wp2_with fail
                  refine fin_plain gE (setRow_len _) rfl rfl rfl ?_
                  refine ⟨?_, aE.any' hGw⟩
                  try rw [hON]
                  cases hi : isNo q with
                  | true => rw [show clsO (some (q, s)) = none by simp [clsO, hi]]; exact ⟨⟨_, rfl⟩, _, qE⟩
                  | false => rw [show clsO (some (q, s)) = some (q, s) by simp [clsO, hi]]; exact ⟨rfl, qE⟩
          · refine step_exec (v := .bool (!isNo q)) (by go_simp) rfl (hK _ _ ?_)
            clear hK K
            go_frame
            refine wpAny_ready (rs := [0]) (by kernel_rfl) (by simp) ?_
            refine AllReady.cons rfl (fun K hK => ?_) (AllReady.nil)
            · refine step_exec (exec_set G 122 (setRow q) (setRow_len q) _ rfl rfl w5 g6) rfl (hK _ _ ?_)
              clear hK K
              go_frame
              refine wpAny_ready (rs := [3]) (by kernel_rfl) (by simp) ?_
              refine AllReady.cons rfl (fun K hK => ?_) (AllReady.nil)
              · refine step_wp rfl (store_arrH G 122 _ g6 256 (setRow_len _) 122 (by kernel_rfl) (setRow q) (setRow_len _) (setRow_cell q) _ _ rfl rfl rfl (hK _ _ ?_))
                clear hK K
                refine wpAny_ready (rs := [4]) (by kernel_rfl) (by simp) ?_
                refine AllReady.cons rfl (fun K hK => ?_) (AllReady.nil)
                · refine step_exec (v := .bool (!isNo q)) (by go_simp) rfl (hK _ _ ?_)
                  clear hK K
                  go_frame
                  refine wpAny_done (by kernel_rfl) ?_ _
                  clear KE
                  generalize w5.setRow G (setRow q).toArray = wE at *
                  go_wp2_with fail
                  refine fin_plain gE (setRow_len _) rfl rfl rfl ?_
                  refine ⟨?_, aE.any' hGw⟩
                  try rw [hON]
                  cases hi : isNo q with
                  | true => rw [show clsO (some (q, s)) = none by simp [clsO, hi]]; exact ⟨⟨_, rfl⟩, _, qE⟩
                  | false => rw [show clsO (some (q, s)) = some (q, s) by simp [clsO, hi]]; exact ⟨rfl, qE⟩
      · have hne : ¬ (List.head? (c :: s)) = some 93 := by simpa using hc
        rw [show nextIs 93 (c :: s) = false by simp [nextIs, hc], drop_no hne] at K3
        replace K3 := Lib.hid K3
        have K4 := element_any R (c :: s) V
        have hlt : ∀ f b r2, elemN (c :: s) = some ((f, b), r2) → r2.length < (c :: s).length := fun f b r2 h => elemN_len h
        cases he : elemN (c :: s) with
        | none =>
          have hON : O = none := by rw [← HQ ()]; exact cls_none hc he
          rw [he] at K4
          replace K4 := Lib.hid K4
          clear HQ he hlt hn
          go_wp2_with fail
          refine K3.out.mono ?_
          rintro e w3 ⟨rfl, q5, hA3⟩
          clear K3
          have g5 := g3.keep hA3 (fun e : G = R => by omega)
          have a5 := a3.trans (hA3.any (S' := fun k => k = R ∨ k = G) (fun _ e => .inl e)) (fun _ e _ => e)
          clear g3 a3
          have g3 := g5
          have a3 := a5
          clear g5 a5
          go_wp2_with fail
          refine (K4.out _ q5).mono ?_
          rintro e w4 ⟨⟨⟨ex, ey, rfl⟩, l4, q4⟩, hA4⟩
          clear K4
          have g4 := g3.keep hA4 (fun e : G = R => by omega)
          have a4 := a3.trans (hA4.any (S' := fun k => k = R ∨ k = G) (fun _ e => .inl e)) (fun _ e _ => e)
          go_wp2_with (first | refine wpList_exec (exec_empty Z hzc rfl _) rfl ?_ | refine store_arr G 122 _ g4 256 (setRow_len _) 122 (by kernel_rfl) Z hlZ hoZ _ _ rfl rfl rfl rfl ?_)
          have gE : Rw (w4.setRow G Z.toArray) G 122 (setRow noSet) := by rw [EZ ()]; exact g4.setRow
          have qE : Rq (w4.setRow G Z.toArray) R l4 V := q4.setRow_ne hRG
          have aE : Asd (fun k => k = R ∨ k = G) w (w4.setRow G Z.toArray) := a4.setRow (.inl (.inr rfl))
          clear g4 q4 a4
          generalize w4.setRow G Z.toArray = wE at *
          refine fin_plain gE (setRow_len _) rfl rfl rfl ?_
          exact ⟨show ClassP R V (clsO O) _ _ from by rw [hON]; exact ⟨⟨_, rfl⟩, _, qE⟩, aE.any' hGw⟩
        | some x =>
          obtain ⟨⟨f, b⟩, r2⟩ := x
          have hlt2 := hlt _ _ _ he
          have HQ3 : Unit → clsN m (fun x => q x || (decide (f ≤ x) && decide (x ≤ b))) r2 = O := fun _ => by rw [← HQ ()]; exact (cls_some hc he).symm
          rw [he] at K4
          replace K4 := Lib.hid K4
          clear HQ he hlt
          go_wp2_with fail
          refine K3.out.mono ?_
          rintro e w3 ⟨rfl, q5, hA3⟩
          clear K3
          have g5 := g3.keep hA3 (fun e : G = R => by omega)
          have a5 := a3.trans (hA3.any (S' := fun k => k = R ∨ k = G) (fun _ e => .inl e)) (fun _ e _ => e)
          clear g3 a3 hA3 q3
          go_wp2_with fail
          refine (K4.out _ q5).mono ?_
          rintro e w4 ⟨⟨rfl, q6⟩, hA4⟩
          clear K4
          have g6 := g5.keep hA4 (fun e : G = R => by omega)
          have a6 := a5.trans (hA4.any (S' := fun k => k = R ∨ k = G) (fun _ e => .inl e)) (fun _ e _ => e)
          clear g5 a5 hA4 q5
          have K5 := Lib.hid (plus_any G 122 q f b w4 g6)
          go_wp2_with fail
          refine K5.out.mono ?_
          rintro e w6 ⟨rfl, g7, hA5⟩
          clear K5
          have q7 := Rw.keep q6 hA5 (fun e : R = G => by omega)
          have a7 := a6.trans (hA5.any (S' := fun k => k = R ∨ k = G) (fun _ e => .inr e)) (fun _ e _ => e)
          have hl7 := Rq.len q7
          clear g6 a6 hA5 q6
          go_wp2_with fail
          go_roundw
          case rel => exact ⟨m, _, r2, HQ3 (), by rw [List.length_cons] at hn hlt2; omega, q7, g7, a7⟩
          case measure => rw [hl7, hlen]; exact hlt2
set_option maxHeartbeats 6400000 in
set_option maxRecDepth 20000 in
theorem class_turn (R : Nat) (l : Bs) (V : Value) (w : World) (h : Rq w R (94 :: l) V) :
    Calls Tryd.prog 101 #[.pointer (some ⟨R, 0, none⟩)] w fun e w' => ClassP R V ((cls1 l).map (fun x => (fun b => !x.1 b, x.2))) e w' ∧ Asd (· = R) w w' := by
  obtain ⟨O, hO⟩ : ∃ O, clsN l.length noSet l = O := ⟨_, rfl⟩
  rw [cls1_eq, hO]
  have hmf : ∀ (fn : Fn) (first cap : Array Value) (w : World), (Instr.makeFunc fn first cap).run Tryd.prog w = .ok (.func fn first cap) w := fun _ _ _ _ => rfl
  have hzc := zero_class
  have hlZ := setRow_len noSet
  have hoZ := setRow_cell noSet
  obtain ⟨Z, eZ⟩ : ∃ Z, setRow noSet = Z := ⟨_, rfl⟩
  rw [eZ] at hzc hlZ hoZ
  have EZ : Unit → setRow noSet = Z := fun _ => eZ
  clear eZ
  have hR0 := Rw.lt h
  have hal := (Below.refl w.heap.size w).alloc (Nat.le_refl _) (.cells Z.toArray 122)
  have h1 := h.stay hal
  have g1 : Rw (w.alloc (.cells Z.toArray 122)) w.heap.size 122 (setRow noSet) := by rw [EZ ()]; exact Rw.new w _ Z
  have K1 := Lib.hid fun w' hq => take_any R 94 (94 :: l) V w' hq 94 rfl
  have HO : Unit → clsN l.length noSet l = O := fun _ => hO
  clear hO
  go_enter_defers Tryd.func101, Tryd.ntmps101
  go_wp2_with fail
  refine (K1.out _ h1).mono ?_
  rintro e w1 ⟨rfl, h2, hA⟩
  clear K1
  rw [show dropIf 94 (94 :: l) = l by simp [dropIf]] at h2
  rw [show nextIs 94 (94 :: l) = true by simp [nextIs]]
  have g2 := g1.keep hA (fun e : w.heap.size = R => by omega)
  have hA2 : Asd (fun k => k = R ∨ k = w.heap.size) w w1 := ((Asd.of_below hal).trans (hA.any (S' := fun k => k = R ∨ k = w.heap.size) (fun _ e => .inl e)) (fun _ e _ => e))
  clear hA h1 h g1 hal
  obtain ⟨G, hG⟩ : ∃ G, w.heap.size = G := ⟨_, rfl⟩
  rw [hG] at g2 hA2 hR0
  simp only [hG]
  have hGw : w.heap.size ≤ G := by omega
  have hRG : R ≠ G := by omega
  go_wp2_with fail
  go_loopw [] (fun wr => ∃ n q s, clsN n q s = O ∧ s.length ≤ n ∧ Rq wr R s V ∧ Rw wr G 122 (setRow q) ∧ Asd (fun k => k = R ∨ k = G) w wr) (fun wr => restLen wr R)
  case atStart => exact ⟨_, _, _, HO (), Nat.le_refl _, h2, g2, hA2⟩
  case round =>
    obtain ⟨n, q, s, hO, hn, q3, g3, a3⟩ := hrel
    have HQ : Unit → clsN n q s = O := fun _ => hO
    clear hO HO h2 g2 hA2
    have hlen := q3.len
    cases s with
    | nil =>
      have hON : O = none := by rw [← HQ ()]; cases n <;> rfl
      have K3 := Lib.hid (take_any R 93 [] V wr q3 93 rfl)
      have K4 := element_any R [] V
      rw [show elemN [] = none from rfl] at K4
      replace K4 := Lib.hid K4
      clear HQ
      go_wp2_with fail
      refine K3.out.mono ?_
      rintro e w3 ⟨rfl, q5, hA3⟩
      clear K3
      have g5 := g3.keep hA3 (fun e : G = R => by omega)
      have a5 := a3.trans (hA3.any (S' := fun k => k = R ∨ k = G) (fun _ e => .inl e)) (fun _ e _ => e)
      clear g3 a3
      have g3 := g5
      have a3 := a5
      clear g5 a5
      go_wp2_with fail
      refine (K4.out _ q5).mono ?_
      rintro e w4 ⟨⟨⟨ex, ey, rfl⟩, l4, q4⟩, hA4⟩
      clear K4
      have g4 := g3.keep hA4 (fun e : G = R => by omega)
      have a4 := a3.trans (hA4.any (S' := fun k => k = R ∨ k = G) (fun _ e => .inl e)) (fun _ e _ => e)
      go_wp2_with (first | refine wpList_exec (exec_empty Z hzc rfl _) rfl ?_ | refine store_arr G 122 _ g4 256 (setRow_len _) 122 (by kernel_rfl) Z hlZ hoZ _ _ rfl rfl rfl rfl ?_)
      have gE : Rw (w4.setRow G Z.toArray) G 122 (setRow noSet) := by rw [EZ ()]; exact g4.setRow
      have qE : Rq (w4.setRow G Z.toArray) R l4 V := q4.setRow_ne hRG
      have aE : Asd (fun k => k = R ∨ k = G) w (w4.setRow G Z.toArray) := a4.setRow (.inl (.inr rfl))
      clear g4 q4 a4
      generalize w4.setRow G Z.toArray = wE at *
      refine fin_turn gE rfl rfl rfl (by simp [go_sem]) ?_
      intro w9 hA9
      have q9 := qE.keep hA9 (fun e : R = G => by omega)
      exact ⟨show ClassP R V (Option.map _ (clsO O)) _ _ from by rw [hON]; exact ⟨⟨_, rfl⟩, _, q9⟩, (aE.trans (hA9.any (S' := fun k => k = R ∨ k = G) (fun _ e => .inr e)) (fun _ e _ => e)).any' hGw⟩
    | cons c s =>
      obtain ⟨m, rfl⟩ : ∃ m, n = m + 1 := ⟨n - 1, by rw [List.length_cons] at hn; omega⟩
      have K3 := take_any R 93 (c :: s) V wr q3 93 rfl
      by_cases hc : c = 93
      · subst hc
        have hON : O = some (q, s) := by rw [← HQ ()]; simp [clsN]
        rw [show nextIs 93 (93 :: s) = true by simp [nextIs], show dropIf 93 (93 :: s) = s by simp [dropIf]] at K3
        replace K3 := Lib.hid K3
        clear HQ hn
        go_wp2_with fail
        refine K3.out.mono ?_
        rintro e w3 ⟨rfl, q5, hA3⟩
        clear K3
        have g5 := g3.keep hA3 (fun e : G = R => by omega)
        have a5 := a3.trans (hA3.any (S' := fun k => k = R ∨ k = G) (fun _ e => .inl e)) (fun _ e _ => e)
        clear g3 a3 q3 hA3
        go_upto_region 8 with fail
        refine wp_region_any (by kernel_rfl) ?_
        have hw5 : Below w3.heap.size w3 { w3 with drawn := w3.drawn + 1 } := (Below.refl _ _).drew
        have g6 := g5.stay hw5
        have q6 := Rq.stay q5 hw5
        have a6 := a5.trans (Asd.of_below (S := fun k => k = R ∨ k = G) hw5) (fun _ e _ => e)
        clear g5 q5 a5 hw5
        generalize { w3 with drawn := w3.drawn + 1 } = w5 at *
        have KE := empty_any G 0 q w5 (set_at g6)
        have gE : Rw (w5.setRow G (setRow q).toArray) G 122 (setRow q) := g6.setRow
        have qE : Rq (w5.setRow G (setRow q).toArray) R s V := Rw.setRow_ne q6 hRG
        have aE : Asd (fun k => k = R ∨ k = G) w (w5.setRow G (setRow q).toArray) := a6.setRow (.inl (.inr rfl))
        refine wpAny_ready (rs := [0, 1]) (by kernel_rfl) (by simp) ?_
        refine AllReady.cons rfl (fun K hK => ?_) (AllReady.cons rfl (fun K hK => ?_) (AllReady.nil))
        · refine step_exec (exec_set G 122 (setRow q) (setRow_len q) _ rfl rfl w5 g6) rfl (hK _ _ ?_)
          clear hK K
          go_frame
          refine wpAny_ready (rs := [1]) (by kernel_rfl) (by simp) ?_
          refine AllReady.cons rfl (fun K hK => ?_) (AllReady.nil)
          · refine step_calls (f := 106) (args := #[.pointer (some ⟨G, 0, none⟩)]) (by go_simp) rfl (KE.mono ?_)
            rintro e w' ⟨rfl, hw'⟩
            obtain rfl : w5 = w' := hw'.symm
            refine ⟨_, rfl, hK _ _ ?_⟩
            clear hK K
            go_frame
            refine wpAny_ready (rs := [2, 3]) (by kernel_rfl) (by simp) ?_
            refine AllReady.cons rfl (fun K hK => ?_) (AllReady.cons rfl (fun K hK => ?_) (AllReady.nil))
            · refine step_exec (v := .bool (!isNo q)) (by go_simp) rfl (hK _ _ ?_)
              clear hK K
              go_frame
              refine wpAny_ready (rs := [3]) (by kernel_rfl) (by simp) ?_
              refine AllReady.cons rfl (fun K hK => ?_) (AllReady.nil)
              · refine step_wp rfl (store_arrH G 122 _ g6 256 (setRow_len _) 122 (by kernel_rfl) (setRow q) (setRow_len _) (setRow_cell q) _ _ rfl rfl rfl (hK _ _ ?_))
                clear hK K
                refine wpAny_ready (rs := [4]) (by kernel_rfl) (by simp) ?_
                refine AllReady.cons rfl (fun K hK => ?_) (AllReady.nil)
                · refine step_exec (v := .bool (!isNo q)) (by go_simp) rfl (hK _ _ ?_)
                  clear hK K
                  go_frame
                  refine wpAny_done (by kernel_rfl) ?_ _
                  clear KE
                  generalize w5.setRow G (setRow q).toArray = wE at *
                  go_wp2_with fail
                  refine fin_turn gE rfl rfl rfl (by simp [go_sem]) ?_
                  intro w9 hA9
                  have q9 := qE.keep hA9 (fun e : R = G => by omega)
                  refine ⟨?_, (aE.trans (hA9.any (S' := fun k => k = R ∨ k = G) (fun _ e => .inr e)) (fun _ e _ => e)).any' hGw⟩
                  try rw [hON]
                  cases hi : isNo q with
                  | true => rw [show clsO (some (q, s)) = none by simp [clsO, hi]]; exact ⟨⟨_, rfl⟩, _, q9⟩
                  | false => rw [show clsO (some (q, s)) = some (q, s) by simp [clsO, hi]]; exact ⟨rfl, q9⟩
            · refine step_wp rfl (store_arrH G 122 _ g6 256 (setRow_len _) 122 (by kernel_rfl) (setRow q) (setRow_len _) (setRow_cell q) _ _ rfl rfl rfl (hK _ _ ?_))
              clear hK K
              refine wpAny_ready (rs := [2]) (by kernel_rfl) (by simp) ?_
              refine AllReady.cons rfl (fun K hK => ?_) (AllReady.nil)
              · refine step_exec (v := .bool (!isNo q)) (by go_simp) rfl (hK _ _ ?_)
                clear hK K
                go_frame
                refine wpAny_ready (rs := [4]) (by kernel_rfl) (by simp) ?_
                refine AllReady.cons rfl (fun K hK => ?_) (AllReady.nil)
                · refine step_exec (v := .bool (!isNo q)) (by go_simp) rfl (hK _ _ ?_)
                  clear hK K
                  go_frame
                  refine wpAny_done (by kernel_rfl) ?_ _
                  clear KE
                  generalize w5.setRow G (setRow q).toArray = wE at *
                  go_wp2_with fail
                  refine fin_turn gE rfl rfl rfl (by simp [go_sem]) ?_
                  intro w9 hA9
                  have q9 := qE.keep hA9 (fun e : R = G => by omega)
                  refine ⟨?_, (aE.trans (hA9.any (S' := fun k => k = R ∨ k = G) (fun _ e => .inr e)) (fun _ e _ => e)).any' hGw⟩
                  try rw [hON]
                  cases hi : isNo q with
                  | true => rw [show clsO (some (q, s)) = none by simp [clsO, hi]]; exact ⟨⟨_, rfl⟩, _, q9⟩
                  | false => rw [show clsO (some (q, s)) = some (q, s) by simp [clsO, hi]]; exact ⟨rfl, q9⟩
        · refine step_calls (f := 106) (args := #[.pointer (some ⟨G, 0, none⟩)]) (by go_simp) rfl (KE.mono ?_)
          rintro e w' ⟨rfl, hw'⟩
          obtain rfl : w5 = w' := hw'.symm
          refine ⟨_, rfl, hK _ _ ?_⟩
          clear hK K
          go_frame
          refine wpAny_ready (rs := [0, 2]) (by kernel_rfl) (by simp) ?_
          refine AllReady.cons rfl (fun K hK => ?_) (AllReady.cons rfl (fun K hK => ?_) (AllReady.nil))
          · refine step_exec (exec_set G 122 (setRow q) (setRow_len q) _ rfl rfl w5 g6) rfl (hK _ _ ?_)
            clear hK K
            go_frame
            refine wpAny_ready (rs := [2, 3]) (by kernel_rfl) (by simp) ?_
            refine AllReady.cons rfl (fun K hK => ?_) (AllReady.cons rfl (fun K hK => ?_) (AllReady.nil))
            · refine step_exec (v := .bool (!isNo q)) (by go_simp) rfl (hK _ _ ?_)
              clear hK K
              go_frame
              refine wpAny_ready (rs := [3]) (by kernel_rfl) (by simp) ?_
              refine AllReady.cons rfl (fun K hK => ?_) (AllReady.nil)
              · refine step_wp rfl (store_arrH G 122 _ g6 256 (setRow_len _) 122 (by kernel_rfl) (setRow q) (setRow_len _) (setRow_cell q) _ _ rfl rfl rfl (hK _ _ ?_))
                clear hK K
                refine wpAny_ready (rs := [4]) (by kernel_rfl) (by simp) ?_
                refine AllReady.cons rfl (fun K hK => ?_) (AllReady.nil)
                · refine step_exec (v := .bool (!isNo q)) (by go_simp) rfl (hK _ _ ?_)
                  clear hK K
                  go_frame
                  refine wpAny_done (by kernel_rfl) ?_ _
                  clear KE
                  generalize w5.setRow G (setRow q).toArray = wE at *
                  go_wp2_with fail
                  refine fin_turn gE rfl rfl rfl (by simp [go_sem]) ?_
                  intro w9 hA9
                  have q9 := qE.keep hA9 (fun e : R = G => by omega)
                  refine ⟨?_, (aE.trans (hA9.any (S' := fun k => k = R ∨ k = G) (fun _ e => .inr e)) (fun _ e _ => e)).any' hGw⟩
                  try rw [hON]
                  cases hi : isNo q with
                  | true => rw [show clsO (some (q, s)) = none by simp [clsO, hi]]; exact ⟨⟨_, rfl⟩, _, q9⟩
                  | false => rw [show clsO (some (q, s)) = some (q, s) by simp [clsO, hi]]; exact ⟨rfl, q9⟩
            · refine step_wp rfl (store_arrH G 122 _ g6 256 (setRow_len _) 122 (by kernel_rfl) (setRow q) (setRow_len _) (setRow_cell q) _ _ rfl rfl rfl (hK _ _ ?_))
              clear hK K
              refine wpAny_ready (rs := [2]) (by kernel_rfl) (by simp) ?_
              refine AllReady.cons rfl (fun K hK => ?_) (AllReady.nil)
              · refine step_exec (v := .bool (!isNo q)) (by go_simp) rfl (hK _ _ ?_)
                clear hK K
                go_frame
                refine wpAny_ready (rs := [4]) (by kernel_rfl) (by simp) ?_
                refine AllReady.cons rfl (fun K hK => ?_) (AllReady.nil)
                · refine step_exec (v := .bool (!isNo q)) (by go_simp) rfl (hK _ _ ?_)
                  clear hK K
                  go_frame
                  refine wpAny_done (by kernel_rfl) ?_ _
                  clear KE
                  generalize w5.setRow G (setRow q).toArray = wE at *
                  go_wp2_with fail
                  refine fin_turn gE rfl rfl rfl (by simp [go_sem]) ?_
                  intro w9 hA9
                  have q9 := qE.keep hA9 (fun e : R = G => by omega)
                  refine ⟨?_, (aE.trans (hA9.any (S' := fun k => k = R ∨ k = G) (fun _ e => .inr e)) (fun _ e _ => e)).any' hGw⟩
                  try rw [hON]
                  cases hi : isNo q with
                  | true => rw [show clsO (some (q, s)) = none by simp [clsO, hi]]; exact ⟨⟨_, rfl⟩, _, q9⟩
                  | false => rw [show clsO (some (q, s)) = some (q, s) by simp [clsO, hi]]; exact ⟨rfl, q9⟩
          · refine step_exec (v := .bool (!isNo q)) (by go_simp) rfl (hK _ _ ?_)
            clear hK K
            go_frame
            refine wpAny_ready (rs := [0]) (by kernel_rfl) (by simp) ?_
            refine AllReady.cons rfl (fun K hK => ?_) (AllReady.nil)
            · refine step_exec (exec_set G 122 (setRow q) (setRow_len q) _ rfl rfl w5 g6) rfl (hK _ _ ?_)
              clear hK K
              go_frame
              refine wpAny_ready (rs := [3]) (by kernel_rfl) (by simp) ?_
              refine AllReady.cons rfl (fun K hK => ?_) (AllReady.nil)
              · refine step_wp rfl (store_arrH G 122 _ g6 256 (setRow_len _) 122 (by kernel_rfl) (setRow q) (setRow_len _) (setRow_cell q) _ _ rfl rfl rfl (hK _ _ ?_))
                clear hK K
                refine wpAny_ready (rs := [4]) (by kernel_rfl) (by simp) ?_
                refine AllReady.cons rfl (fun K hK => ?_) (AllReady.nil)
                · refine step_exec (v := .bool (!isNo q)) (by go_simp) rfl (hK _ _ ?_)
                  clear hK K
                  go_frame
                  refine wpAny_done (by kernel_rfl) ?_ _
                  clear KE
                  generalize w5.setRow G (setRow q).toArray = wE at *
                  go_wp2_with fail
                  refine fin_turn gE rfl rfl rfl (by simp [go_sem]) ?_
                  intro w9 hA9
                  have q9 := qE.keep hA9 (fun e : R = G => by omega)
                  refine ⟨?_, (aE.trans (hA9.any (S' := fun k => k = R ∨ k = G) (fun _ e => .inr e)) (fun _ e _ => e)).any' hGw⟩
                  try rw [hON]
                  cases hi : isNo q with
                  | true => rw [show clsO (some (q, s)) = none by simp [clsO, hi]]; exact ⟨⟨_, rfl⟩, _, q9⟩
                  | false => rw [show clsO (some (q, s)) = some (q, s) by simp [clsO, hi]]; exact ⟨rfl, q9⟩
      · have hne : ¬ (List.head? (c :: s)) = some 93 := by simpa using hc
        rw [show nextIs 93 (c :: s) = false by simp [nextIs, hc], drop_no hne] at K3
        replace K3 := Lib.hid K3
        have K4 := element_any R (c :: s) V
        have hlt : ∀ f b r2, elemN (c :: s) = some ((f, b), r2) → r2.length < (c :: s).length := fun f b r2 h => elemN_len h
        cases he : elemN (c :: s) with
        | none =>
          have hON : O = none := by rw [← HQ ()]; exact cls_none hc he
          rw [he] at K4
          replace K4 := Lib.hid K4
          clear HQ he hlt hn
          go_wp2_with fail
          refine K3.out.mono ?_
          rintro e w3 ⟨rfl, q5, hA3⟩
          clear K3
          have g5 := g3.keep hA3 (fun e : G = R => by omega)
          have a5 := a3.trans (hA3.any (S' := fun k => k = R ∨ k = G) (fun _ e => .inl e)) (fun _ e _ => e)
          clear g3 a3
          have g3 := g5
          have a3 := a5
          clear g5 a5
          go_wp2_with fail
          refine (K4.out _ q5).mono ?_
          rintro e w4 ⟨⟨⟨ex, ey, rfl⟩, l4, q4⟩, hA4⟩
          clear K4
          have g4 := g3.keep hA4 (fun e : G = R => by omega)
          have a4 := a3.trans (hA4.any (S' := fun k => k = R ∨ k = G) (fun _ e => .inl e)) (fun _ e _ => e)
          go_wp2_with (first | refine wpList_exec (exec_empty Z hzc rfl _) rfl ?_ | refine store_arr G 122 _ g4 256 (setRow_len _) 122 (by kernel_rfl) Z hlZ hoZ _ _ rfl rfl rfl rfl ?_)
          have gE : Rw (w4.setRow G Z.toArray) G 122 (setRow noSet) := by rw [EZ ()]; exact g4.setRow
          have qE : Rq (w4.setRow G Z.toArray) R l4 V := q4.setRow_ne hRG
          have aE : Asd (fun k => k = R ∨ k = G) w (w4.setRow G Z.toArray) := a4.setRow (.inl (.inr rfl))
          clear g4 q4 a4
          generalize w4.setRow G Z.toArray = wE at *
          refine fin_turn gE rfl rfl rfl (by simp [go_sem]) ?_
          intro w9 hA9
          have q9 := qE.keep hA9 (fun e : R = G => by omega)
          exact ⟨show ClassP R V (Option.map _ (clsO O)) _ _ from by rw [hON]; exact ⟨⟨_, rfl⟩, _, q9⟩, (aE.trans (hA9.any (S' := fun k => k = R ∨ k = G) (fun _ e => .inr e)) (fun _ e _ => e)).any' hGw⟩
        | some x =>
          obtain ⟨⟨f, b⟩, r2⟩ := x
          have hlt2 := hlt _ _ _ he
          have HQ3 : Unit → clsN m (fun x => q x || (decide (f ≤ x) && decide (x ≤ b))) r2 = O := fun _ => by rw [← HQ ()]; exact (cls_some hc he).symm
          rw [he] at K4
          replace K4 := Lib.hid K4
          clear HQ he hlt
          go_wp2_with fail
          refine K3.out.mono ?_
          rintro e w3 ⟨rfl, q5, hA3⟩
          clear K3
          have g5 := g3.keep hA3 (fun e : G = R => by omega)
          have a5 := a3.trans (hA3.any (S' := fun k => k = R ∨ k = G) (fun _ e => .inl e)) (fun _ e _ => e)
          clear g3 a3 hA3 q3
          go_wp2_with fail
          refine (K4.out _ q5).mono ?_
          rintro e w4 ⟨⟨rfl, q6⟩, hA4⟩
          clear K4
          have g6 := g5.keep hA4 (fun e : G = R => by omega)
          have a6 := a5.trans (hA4.any (S' := fun k => k = R ∨ k = G) (fun _ e => .inl e)) (fun _ e _ => e)
          clear g5 a5 hA4 q5
          have K5 := Lib.hid (plus_any G 122 q f b w4 g6)
          go_wp2_with fail
          refine K5.out.mono ?_
          rintro e w6 ⟨rfl, g7, hA5⟩
          clear K5
          have q7 := Rw.keep q6 hA5 (fun e : R = G => by omega)
          have a7 := a6.trans (hA5.any (S' := fun k => k = R ∨ k = G) (fun _ e => .inr e)) (fun _ e _ => e)
          have hl7 := Rq.len q7
          clear g6 a6 hA5 q6
          go_wp2_with fail
          go_roundw
          case rel => exact ⟨m, _, r2, HQ3 (), by rw [List.length_cons] at hn hlt2; omega, q7, g7, a7⟩
          case measure => rw [hl7, hlen]; exact hlt2
/-- What follows a [ is read as a class. -/
theorem class_any (R : Nat) (l : Bs) (V : Value) (w : World) (h : Rq w R l V) :
    Calls Tryd.prog 101 #[.pointer (some ⟨R, 0, none⟩)] w fun e w' => ClassP R V (classN l) e w' ∧ Asd (· = R) w w' := by
  cases l with
  | nil => exact class_plain R [] V w h (by simp)
  | cons c l =>
    by_cases hc : c = 94
    · subst hc
      exact class_turn R l V w h
    · have e : classN (c :: l) = cls1 (c :: l) := by unfold classN; simp only [if_neg hc]
      rw [e]
      exact class_plain R (c :: l) V w h (by simpa using hc)
end Go.Proofs.YteooofakpkbgoaaDoor
