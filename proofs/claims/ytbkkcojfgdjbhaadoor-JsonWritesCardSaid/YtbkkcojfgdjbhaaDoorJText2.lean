/- A text is written. -/
import Derived.Test.YtbkkcojfgdjbhaaDoorJWr
import Derived.Test.YtbkkcojfgdjbhaaDoorLoose
import Derived.Deep.Cut
import Derived.Deep.CutRange
namespace Go.Proofs.YtbkkcojfgdjbhaaDoor
open Go.ChangeShapes Go.WideShapes Go.RowKit

theorem flat_snoc (s : Bs) (k : Nat) (c : UInt8) (h : s[k]? = some c) : (s.take (k + 1)).flatMap escW = (s.take k).flatMap escW ++ escW c := by
  rw [List.take_add_one, h, List.flatMap_append]; simp
theorem hexD_run (n : Nat) (h : n < 16) (i : Int) (hi : i = (n : Int)) (w : World) : (Instr.index 9 (.string { data := #[48, 49, 50, 51, 52, 53, 54, 55, 56, 57, 97, 98, 99, 100, 101, 102] }) (.int .u8 i)).run Tryd.prog w = .ok (.int .u8 ((hexD n).toNat : Int)) w := by
  subst hi
  rw [run_index_string w 9 _ .u8 _ (by kernel_rfl), dif_pos ⟨by omega, by show (n : Int) < 16; omega⟩]
  congr 3
  have h16 : n = 0 ∨ n = 1 ∨ n = 2 ∨ n = 3 ∨ n = 4 ∨ n = 5 ∨ n = 6 ∨ n = 7 ∨ n = 8 ∨ n = 9 ∨ n = 10 ∨ n = 11 ∨ n = 12 ∨ n = 13 ∨ n = 14 ∨ n = 15 := by omega
  rcases h16 with rfl | rfl | rfl | rfl | rfl | rfl | rfl | rfl | rfl | rfl | rfl | rfl | rfl | rfl | rfl | rfl <;> rfl
theorem own_stay {w w' : World} {base : Nat} {e : TypeId} {s n : Nat} {v : Value} {xs : List Value} (h : w.ownsRow base e s v n xs) (k : Below w.heap.size w w') : w'.ownsRow base e s v n xs := by
  rcases h with ⟨h1, h2⟩
  refine ⟨h1, ?_⟩
  rcases h2 with h2 | ⟨g, cap, cur, rfl, hb, hg, hr⟩
  · exact .inl h2
  · exact .inr ⟨g, cap, cur, rfl, hb, by rw [k.block g (Array.getElem?_eq_some_iff.1 hg).1]; exact hg, hr⟩
theorem bits15 (n : Nat) (h : n < 32) : bits .and .u8 (n : Int) 15 = ((n % 16 : Nat) : Int) := by
  have : ∀ m : Fin 32, bits .and .u8 (m.val : Int) 15 = ((m.val % 16 : Nat) : Int) := by decide
  exact this ⟨n, h⟩
/-- The worlds of an append's first steps: op i lays bytes. -/
def CB (W : World) (i : Nat) (new : Bs) (L : Marks) (w : World) : Prop := Below W.heap.size W w ∧ ∀ v, L i = some v → ∃ g, W.heap.size ≤ g ∧ v = .slice (some ⟨g, 0, none⟩) new.length new.length ∧ ∀ (j : Nat) u, (Lib.byteCells new)[j]? = some u → w.cell? ⟨g, j, none⟩ = some u
theorem CB.new {W w : World} {i : Nat} {new : Bs} {L : Marks} (h : CB W i new L w) : CB W i new (upd L i (.slice (some ⟨w.heap.size, 0, none⟩) new.length new.length)) (w.alloc (.cells (Lib.byteCells new).toArray 5)) := by
  refine ⟨h.1.alloc h.1.size _, fun v hv => ?_⟩
  simp [upd] at hv
  subst hv
  exact ⟨_, h.1.size, rfl, fun j u hu => by rw [Rw.cell (Rw.new w 5 (Lib.byteCells new))]; exact hu⟩
theorem step_app {ops : Array Oper} {o : Oper} {a : Act} {w : World} {K : Act → World → Prop} {Q : Exit → Act → World → Prop} {E : Prop} (hgd : o.guard = none) (base g : Nat) (bv : Value) (bs new : Bs) (hown : w.ownsRow base 5 1 bv bs.length (Lib.byteCells bs)) (hb : base ≤ w.heap.size) (hl : bs.length + new.length ≤ 100000000) (hc : ∀ j u, (Lib.byteCells new)[j]? = some u → w.cell? ⟨g, j, none⟩ = some u)
    (s x : Operand) (ho : o.op = .call { callee := .builtin .append, args := #[s, x], argTypes := #[53, 53] }) (hs : a.eval s = bv) (c : Nat) (hx : a.eval x = .slice (some ⟨g, 0, none⟩) new.length c)
    (h : ∀ v' w', w'.ownsRow base 5 1 v' (bs ++ new).length (Lib.byteCells (bs ++ new)) → Fr base w w' → K (a.put o.dst v') w') : if Region.wanted o (yielded ops a.tmps) = true then Oper.wp Tryd.prog o a w K Q else E := by
  have hw : Region.wanted o (yielded ops a.tmps) = true := by simp [Region.wanted, hgd]
  rw [if_pos hw]
  exact wp_app base g bv bs new hown hb hl hc s x ho hs c hx h
set_option maxHeartbeats 1600000 in
set_option maxRecDepth 100000 in
theorem addText_any (base : Nat) (bv : Value) (bs s : Bs) (w : World) (hown : w.ownsRow base 5 1 bv bs.length (Lib.byteCells bs)) (hb : base ≤ w.heap.size) (hl : bs.length ≤ 50000000) (hs : s.length ≤ 1000000) :
    Calls Tryd.prog 37 #[bv, .string ⟨s.toArray⟩] w (AddP base w (bs ++ quoteN s)) := by
  have hsz : (⟨s.toArray⟩ : ByteArray).size = s.length := by simp [ByteArray.size]
  have HT : Unit → ∀ (k : Nat) (c : UInt8), s[k]? = some c → ∀ w', (Instr.index 9 (.string ⟨s.toArray⟩) (.int .i64 (k : Int))).run Tryd.prog w' = .ok (.int .u8 (c.toNat : Int)) w' := fun _ k c h w' => at_text s k c h _ rfl w'
  have Hq : Unit → bs ++ quoteN s = (bs ++ [34]) ++ s.flatMap escW ++ [34] := fun _ => by simp [quoteN]
  generalize (⟨s.toArray⟩ : ByteArray) = X at *
  go_enter Tryd.func37, Tryd.ntmps37
  go_upto_region 2 with (at_builtin; refine list_new base _ bs [34] _ rfl hown hb (by simp; omega) _ _ rfl rfl rfl 1 rfl ?_; intro v1 w1 hown1 hb1)
  clear hown
  have hsz2 : (X.size : Int) = (s.length : Int) := by omega
  go_upto_region 3 with fail
  go_loopw [0, 12] (fun v i wr => ∃ k : Nat, k ≤ s.length ∧ i = .int .i64 (k : Int) ∧ wr.ownsRow base 5 1 v ((bs ++ [34]) ++ (s.take k).flatMap escW).length (Lib.byteCells ((bs ++ [34]) ++ (s.take k).flatMap escW)) ∧ Fr base w wr) (fun _ i _ => s.length - (intOf i).toNat)
  case atStart => exact ⟨0, by omega, rfl, by simpa using hown1, hb1⟩
  case round =>
    obtain ⟨k, hk, rfl, hownk, hbk⟩ := hrel
    clear hown1 hb1
    have hfl := flat_len (s.take k)
    have htl : (s.take k).length ≤ s.length := by rw [List.length_take]; omega
    have hAl : ((bs ++ [34]) ++ (s.take k).flatMap escW).length ≤ 60000000 := by
      rw [List.length_append, List.length_append]
      simp only [List.length_cons, List.length_nil]
      omega
    have hbw : base ≤ wr.heap.size := Nat.le_trans hb hbk.low.size
    by_cases hlt : k < s.length
    · obtain ⟨c, hc⟩ : ∃ c, s[k]? = some c := ⟨_, List.getElem?_eq_getElem hlt⟩
      have ht := HT () k c hc
      have Hn : Unit → (bs ++ [34]) ++ (s.take (k + 1)).flatMap escW = ((bs ++ [34]) ++ (s.take k).flatMap escW) ++ escW c := fun _ => by rw [flat_snoc s k c hc]; simp only [List.append_assoc]
      have hki : (k : Int) < (s.length : Int) := by omega
      have hc8 := c.toNat_lt
      clear HT hc hfl
      generalize (bs ++ [34]) ++ (s.take k).flatMap escW = A at *
      by_cases h1 : c.toNat = 34 ∨ c.toNat = 92
      · have He : Unit → escW c = [92, c] := fun _ => by unfold escW; rw [if_pos h1]
        have hd : ((c.toNat : Int) == 34) = true ∨ (((c.toNat : Int) == 34) = false ∧ ((c.toNat : Int) == 92) = true) := by
          rcases h1 with h | h
          · left; rw [h]; rfl
          · right; rw [h]; exact ⟨rfl, rfl⟩
        clear h1
        rcases hd with hd | ⟨hd, hd2⟩
        all_goals
          go_upto_region 11 with (at_builtin; refine list_new base _ A [92, c] _ rfl hownk hbw (by simp; omega) _ _ rfl rfl rfl 2 rfl ?_; intro v2 w2 hown2 hb2)
          rw [← He (), ← Hn ()] at hown2
          replace hbk := hbk.trans hb2
          clear hownk hb2 ht
          go_wp2_with fail
          go_roundw
          case rel => exact ⟨k + 1, by omega, by go_num, hown2, hbk⟩
          case measure => simp [intOf]; omega
      · have hd : ((c.toNat : Int) == 34) = false := by rw [beq_eq_false_iff_ne]; omega
        have hd2 : ((c.toNat : Int) == 92) = false := by rw [beq_eq_false_iff_ne]; omega
        by_cases h2 : c.toNat < 32
        · have He : Unit → escW c = [92, 117, 48, 48, hexD (c.toNat / 16), hexD (c.toNat % 16)] := fun _ => by unfold escW; rw [if_neg h1, if_pos h2]
          have hx1 := hexD_run (c.toNat / 16) (by omega)
          have hx2 := hexD_run (c.toNat % 16) (by omega)
          have h2i : (c.toNat : Int) < 32 := by omega
          clear h1
          go_upto_region 10 with fail
          have e2 := bits15 c.toNat h2
          obtain ⟨y, hy⟩ : ∃ y, y = c.toNat % 16 := ⟨_, rfl⟩
          rw [← hy] at e2 hx2 He
          have d1 := hx1 ((c.toNat : Int) / 16) (by omega)
          have d2 := hx2 (y : Int) rfl
          obtain ⟨z, hz⟩ : ∃ z, z = hexD (c.toNat / 16) := ⟨_, rfl⟩
          obtain ⟨z2, hz2⟩ : ∃ z, z = hexD y := ⟨_, rfl⟩
          rw [← hz] at d1 He
          rw [← hz2] at d2 He
          clear hx1 hx2 hy hz hz2
          refine region_loose (fun L w' => CB wr 7 [92, 117, 48, 48, z, z2] L w') 7 8 2 #[true, true, true, true, true, true, true, true, false, false] rfl (by kernel_rfl) (by kernel_rfl) (by kernel_rfl) (⟨(Below.refl _ _).drew, fun _ h => by cases h⟩) ?_
          simp only [List.take_succ_cons, List.take_zero]
          repeat
            first
            | (refine loose_val (by decide) rfl ?_
               apply Exists.intro
               refine ⟨fun L' w' hw' => ?_, ?_⟩
               · obtain hhh := hw'
                 go_simp
                 first | done | rfl | exact ⟨rfl, rfl⟩
               simp only [Act.put, List.setIfInBounds_toArray, List.set_cons_zero, List.set_cons_succ])
            | (refine loose_call (by decide) rfl ?_
               apply Exists.intro
               apply Exists.intro
               refine ⟨fun w' => ?_, ?_⟩
               · go_simp
                 first | done | rfl | exact ⟨rfl, rfl⟩
               apply Exists.intro
               refine ⟨fun L' w' hw' => ?_, ?_⟩
               · first
                 | fail
               simp only [Act.put, List.setIfInBounds_toArray, List.set_cons_zero, List.set_cons_succ])
            | (refine loose_new (by decide) rfl (fun L' w' hw' => ?_) (fun v => ?_)
               · exact ⟨.slice (some ⟨w'.heap.size, 0, none⟩) 6 6, w'.alloc (.cells (Lib.byteCells [92, 117, 48, 48, z, z2]).toArray 5), by go_simp; rfl, CB.new hw'⟩
               simp only [Act.put, List.setIfInBounds_toArray, List.set_cons_zero, List.set_cons_succ])
          intro w5 hw5
          obtain ⟨hb5, hv⟩ := hw5
          obtain ⟨g2, hg2, rfl, hc2⟩ := hv v (by simp [upd])
          have hown5 := own_stay hownk hb5
          replace hbk := hbk.trans (Fr.of_below hb5 hbw)
          have hbw5 : base ≤ w5.heap.size := Nat.le_trans hbw hb5.size
          clear hv hb5 d1 d2 e2 hownk ht
          refine wpAny_ready (rs := [8]) (by kernel_rfl) (by simp) ?_
          refine AllReady.cons rfl (fun K hK => ?_) AllReady.nil
          refine step_app rfl base g2 _ A [92, 117, 48, 48, z, z2] hown5 hbw5 (by simp; omega) hc2 (.tmp 36) (.tmp 43) rfl rfl 6 rfl ?_
          intro v2 w2 hown2 hb2
          refine hK _ _ ?_
          clear hK K
          rw [← He (), ← Hn ()] at hown2
          replace hbk := hbk.trans hb2
          clear hown5 hb2 hc2
          refine wpAny_ready (rs := [9]) (by kernel_rfl) (by simp) ?_
          refine AllReady.cons rfl (fun K hK => ?_) AllReady.nil
          go_simp
          refine hK _ _ ?_
          clear hK K
          refine wpAny_done (by kernel_rfl) ?_ _
          go_wp2_with fail
          go_roundw
          case rel => exact ⟨k + 1, by omega, by go_num, hown2, hbk⟩
          case measure => simp [intOf]; omega
        · have He : Unit → escW c = [c] := fun _ => by unfold escW; rw [if_neg h1, if_neg h2]
          have h2i : ¬ (c.toNat : Int) < 32 := by omega
          clear h1
          go_upto_region 11 with (at_builtin; refine list_new base _ A [c] _ rfl hownk hbw (by simp; omega) _ _ rfl rfl rfl 1 rfl ?_; intro v2 w2 hown2 hb2)
          rw [← He (), ← Hn ()] at hown2
          replace hbk := hbk.trans hb2
          clear hownk hb2 ht
          go_wp2_with fail
          go_roundw
          case rel => exact ⟨k + 1, by omega, by go_num, hown2, hbk⟩
          case measure => simp [intOf]; omega
    · obtain rfl : k = s.length := by omega
      rw [List.take_length] at hownk hAl
      clear hfl HT
      generalize hA : (bs ++ [34]) ++ s.flatMap escW = A at *
      go_wp2_with (at_builtin; refine list_new base _ A [34] _ rfl hownk hbw (by simp; omega) _ _ rfl rfl rfl 1 rfl ?_; intro v2 w2 hown2 hb2)
      go_ret
      exact ⟨_, rfl, by rw [Hq ()]; exact hown2, hbk.trans hb2⟩
end Go.Proofs.YtbkkcojfgdjbhaaDoor
