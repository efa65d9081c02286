/- A text is quoted. -/
import Derived.Test.YtakkcofmbafneaaPTop
namespace Go.Proofs.Ytakkcofmbafneaa
open Go.ChangeShapes Go.WideShapes Go.RowKit

theorem info_byte : (Try.prog.info? 5).map (fun i => (i.zero, i.size, i.bytes)) = some (some (.int .u8 0), 1, 1) := by kernel_rfl
theorem run_row_byte (v : Value) (h1 : v.cells = #[v]) (w : World) : (Instr.buildSlice 46 1 #[(0, v)]).run Try.prog w = .ok (.slice (some ⟨w.heap.size, 0, none⟩) 1 1) (w.alloc (.cells [v].toArray 5)) := by
  obtain ⟨i0, hi, hz0, hz1, _⟩ := info_parts0 info_byte
  refine run_buildSlice (P := Try.prog) w 46 5 1 _ [v].toArray i0 _ Try.underlying46 hi hz0 (by rw [hz1]; decide) (by rw [hz1]; decide) ?_
  rw [hz1]
  have := Great.fill_whole (s := 1) (by decide) [v] ((Array.range (1 * 1)).map ((Value.int .u8 0).cells[· % (Value.int .u8 0).cells.size]!)) (fun u hu => by rw [List.mem_singleton.1 hu, h1]; rfl) (by simp)
  refine Eq.trans this ?_
  simp [h1]
section
variable {ops : Array Oper} {rest : List Oper} {o : Oper} {a : Act} {w : World} {Q : Exit → Act → World → Prop}
theorem wpList_row_byte (v : Value) (h1 : v.cells = #[v]) (x : Operand) (hg : o.guard = none) (ho : o.op = .buildSlice 46 1 #[(0, x)]) (hx : a.eval x = v)
    (h : ∀ Y w', Rw w' Y 5 [v] → Below w.heap.size w w' → wpList Try.prog ops Q rest (a.put o.dst (.slice (some ⟨Y, 0, none⟩) 1 1)) w') : wpList Try.prog ops Q (o :: rest) a w :=
  wpList_plain hg fun K hK => by
    unfold Oper.wp execOp
    simp only [ho, List.map_toArray, List.map_cons, List.map_nil, hx, Sem.run_bind, run_row_byte v h1, Result.andThen_ok, Sem.run_pure]
    exact hK _ _ (h _ _ (Rw.new w 5 [v]) ((Below.refl _ _).alloc (Nat.le_refl _) _))
theorem wpList_own_byte (s x : Operand) (hg : o.guard = none) (ho : o.op = .call { callee := .builtin .append, args := #[s, x], argTypes := #[46, 46] })
    (base : Nat) (v : Value) (l l' : Bs) (c : UInt8) (hl' : l' = l ++ [c]) (hs : a.eval s = v) (hown : w.ownsRow base 5 1 v l.length (Lib.byteCells l)) (Y : Nat) (hx : a.eval x = .slice (some ⟨Y, 0, none⟩) 1 1) (hr : Rw w Y 5 [.int .u8 (c.toNat : Int)]) (hn : l.length ≤ 100000) (hbase : base ≤ w.heap.size)
    (h : ∀ v' w', w'.ownsRow base 5 1 v' l'.length (Lib.byteCells l') → w.grownBy w' v.ownBlock → wpList Try.prog ops Q rest (a.put o.dst v') w') : wpList Try.prog ops Q (o :: rest) a w := by
  subst hl'
  obtain ⟨i0, hi, hz0, hz1, hz2⟩ := info_parts0 info_byte
  refine wpList_plain hg fun _ hK => wp_own_at s x 46 ho base 5 i0 (.int .u8 0) 1 1 Try.underlying46 hi hz0 hz1 hz2 rfl (by decide) v l.length _ hs hown Y [.int .u8 (c.toNat : Int)] hx rfl hr (fun t ht => by rw [List.mem_singleton.1 ht]; rfl) (by unfold maxLen; omega) (by omega) hbase (fun v' w' a b _ => hK _ _ (h v' w' ?_ b))
  rw [List.length_append, show Lib.byteCells (l ++ [c]) = Lib.byteCells l ++ [.int .u8 (c.toNat : Int)] by simp [Lib.byteCells]]
  exact a
end
theorem quoteN_snoc (s : Bx) (c : UInt8) : quoteN (s ++ [c]) = quoteN s ++ (if spcB c then [92, c] else [c]) := by simp [quoteN]
theorem quoteN_len (s : Bx) : (quoteN s).length ≤ 2 * s.length := by
  induction s with
  | nil => simp [quoteN]
  | cons c s ih =>
    have : quoteN (c :: s) = (if spcB c then [92, c] else [c]) ++ quoteN s := by simp [quoteN]
    rw [this, List.length_append, List.length_cons]
    split <;> simp <;> omega
set_option maxHeartbeats 3200000 in
theorem quote_any (s : Bs) (w : World) (hs : s.length ≤ 10000) : Calls Try.prog 19 #[.string ⟨s.toArray⟩] w fun e w' => e = .returned (.string ⟨(quoteN s).toArray⟩) ∧ Below w.heap.size w w' := by
  have hsz : ((⟨s.toArray⟩ : ByteArray).size : Int) = (s.length : Int) := by simp [ByteArray.size]
  have hidx := fun k c (h : s[k]? = some c) w => at_text s k c h (k : Int) rfl w
  obtain ⟨O, hO⟩ : ∃ O, (⟨(quoteN s).toArray⟩ : ByteArray) = O := ⟨_, rfl⟩
  have HOO : Unit → (⟨(quoteN s).toArray⟩ : ByteArray) = O := fun _ => hO
  rw [hO]
  clear hO
  obtain ⟨T, hTe⟩ : ∃ T, (⟨s.toArray⟩ : ByteArray) = T := ⟨_, rfl⟩
  rw [hTe] at hsz hidx ⊢
  clear hTe
  have HS : Unit → (T.size : Int) = (s.length : Int) := fun _ => hsz
  have HI : Unit → ∀ (k : Nat) c, s[k]? = some c → ∀ w, (Instr.index 9 (.string T) (.int .i64 (k : Int))).run Try.prog w = .ok (.int .u8 (c.toNat : Int)) w := fun _ k c h w => hidx k c h w
  clear hidx
  go_enter Try.func19, Try.ntmps19
  go_upto_region 3 with fail
  go_loopw [3, 7] (fun bv iv wr => ∃ k : Nat, k ≤ s.length ∧ iv = .int .i64 (k : Int) ∧ wr.ownsRow w.heap.size 5 1 bv (quoteN (s.take k)).length (Lib.byteCells (quoteN (s.take k))) ∧ Below w.heap.size w wr) (fun _ iv _ => s.length - (intOf iv).toNat)
  case atStart => exact ⟨0, Nat.zero_le _, rfl, World.ownsRow_nil _ _ _ _, Below.refl _ _⟩
  case round =>
    obtain ⟨k, hk, rfl, hO, hB⟩ := hrel
    by_cases hlt : k < s.length
    · obtain ⟨c, hc⟩ : ∃ c, s[k]? = some c := ⟨_, List.getElem?_eq_getElem hlt⟩
      have hi := HI () k c hc
      have hki : (k : Int) < (T.size : Int) := by rw [HS ()]; omega
      have hki' : (k : Int) < (s.length : Int) := by omega
      have hql : (quoteN (s.take k)).length ≤ 20000 := by have := quoteN_len (s.take k); rw [List.length_take] at this; omega
      have hsn : quoteN (s.take (k + 1)) = quoteN (s.take k) ++ (if spcB c then [92, c] else [c]) := by rw [take_byte hc, quoteN_snoc]
      have HSN : Unit → _ := fun _ => hsn
      have KI := Lib.hid fun w => spc_any c w
      obtain ⟨l, hl⟩ : ∃ l, quoteN (s.take k) = l := ⟨_, rfl⟩
      rw [hl] at hO hql
      have HL : Unit → quoteN (s.take k) = l := fun _ => hl
      obtain ⟨aO, cO, eO, _⟩ := own_slice hO
      subst eO
      clear hsn hl
      cases hsp : spcB c with
      | true =>
        have hz : 0 ≤ spcI c := of_decide_eq_true ((spc_of c).trans hsp)
        generalize spcI c = z at *
        go_wp2_with fail
        refine (KI.out _).mono ?_
        rintro e w1 ⟨rfl, hw1⟩
        obtain rfl : wr = w1 := hw1.symm
        clear KI
        go_wp2_with (refine wpList_row_byte (.int .u8 ((92 : UInt8).toNat : Int)) rfl _ rfl rfl rfl ?_)
        intro Y w2 rY hb2
        have hO2 := own_asdS (S := fun _ => False) hO (Asd.of_below hb2) (fun _ _ e => e)
        have hB2 := hB.trans (hb2.mono hB.size)
        have hs2 := hB2.size
        clear hO hB hb2
        obtain ⟨l3, hl3e⟩ : ∃ l3, l ++ [92] = l3 := ⟨_, rfl⟩
        go_wp2_with (refine wpList_own_byte _ _ rfl rfl w.heap.size _ l l3 92 hl3e.symm rfl hO2 Y rfl rY (by omega) hs2 ?_)
        intro v3 w3 hO3 hg3
        have hB3 := hB2.grown hg3 hs2 (fun j e => (hO2.lt j e).1)
        have hl3 : l3.length ≤ 20001 := by rw [← hl3e, List.length_append]; simp only [List.length_singleton]; omega
        obtain ⟨a3, c3, e3, _⟩ := own_slice hO3
        subst e3
        clear hO2 hg3 hB2 rY
        have hfinal : quoteN (s.take (k + 1)) = l3 ++ [c] := by rw [HSN (), hsp, if_pos rfl, HL (), ← hl3e]; simp
        have HFI : Unit → _ := fun _ => hfinal
        clear hfinal hl3e
        go_wp2_with (refine wpList_row_byte (.int .u8 (c.toNat : Int)) rfl _ rfl rfl rfl ?_)
        intro Y w5 rY hb5
        have hO5 := own_asdS (S := fun _ => False) hO3 (Asd.of_below hb5) (fun _ _ e => e)
        have hB5 := hB3.trans (hb5.mono hB3.size)
        have hs5 := hB5.size
        clear hO3 hB3 hb5
        go_wp2_with (refine wpList_own_byte _ _ rfl rfl w.heap.size _ l3 (quoteN (s.take (k + 1))) c (HFI ()) rfl hO5 Y rfl rY (by omega) hs5 ?_)
        intro v6 w6 hO6 hg6
        have hB6 := hB5.grown hg6 hs5 (fun j e => (hO5.lt j e).1)
        clear hO5 hg6 hB5 rY
        go_wp2_with fail
        go_roundw
        case rel => exact ⟨k + 1, by omega, by go_num, hO6, hB6⟩
        case measure => simp [intOf]; omega
      | false =>
        have hz : ¬ 0 ≤ spcI c := of_decide_eq_false ((spc_of c).trans hsp)
        generalize spcI c = z at *
        go_wp2_with fail
        refine (KI.out _).mono ?_
        rintro e w1 ⟨rfl, hw1⟩
        obtain rfl : wr = w1 := hw1.symm
        clear KI
        have hfinal : quoteN (s.take (k + 1)) = l ++ [c] := by rw [HSN (), hsp, HL ()]; rfl
        have HFI : Unit → _ := fun _ => hfinal
        clear hfinal
        go_wp2_with (refine wpList_row_byte (.int .u8 (c.toNat : Int)) rfl _ rfl rfl rfl ?_)
        intro Y w5 rY hb5
        have hO5 := own_asdS (S := fun _ => False) hO (Asd.of_below hb5) (fun _ _ e => e)
        have hB5 := hB.trans (hb5.mono hB.size)
        have hs5 := hB5.size
        clear hO hB hb5
        go_wp2_with (refine wpList_own_byte _ _ rfl rfl w.heap.size _ l (quoteN (s.take (k + 1))) c (HFI ()) rfl hO5 Y rfl rY (by omega) hs5 ?_)
        intro v6 w6 hO6 hg6
        have hB6 := hB5.grown hg6 hs5 (fun j e => (hO5.lt j e).1)
        clear hO5 hg6 hB5 rY
        go_wp2_with fail
        go_roundw
        case rel => exact ⟨k + 1, by omega, by go_num, hO6, hB6⟩
        case measure => simp [intOf]; omega
    · have hke : k = s.length := by omega
      have hki : ¬ ((k : Int) < (T.size : Int)) := by rw [HS ()]; omega
      have hki' : ¬ ((k : Int) < (s.length : Int)) := by omega
      rw [hke, List.take_length] at hO
      have hst := own_string hO
      rw [HOO ()] at hst
      obtain ⟨aO, cO, eO, _⟩ := own_slice hO
      subst eO
      clear hO hke
      go_wp2_with fail
      go_ret
      exact ⟨rfl, hB⟩
end Go.Proofs.Ytakkcofmbafneaa
