/- The document's own quoting. -/
import Derived.Test.YtakkcofmbafneaaPQuote
namespace Go.Proofs.Ytakkcofmbafneaa
open Go.ChangeShapes Go.WideShapes Go.RowKit

def oddL : Bs := [42, 43, 63, 124, 40, 41, 91, 93, 92, 46]
def slashN (j : Nat) (c : UInt8) : Bs := if (oddL.take j).contains c then [92] else []
theorem slash_all : ∀ n : Fin 256, ∀ j : Fin 10, (slashN (j.val + 1) (UInt8.ofNat n.val) == slashN j.val (UInt8.ofNat n.val) ++ (if oddL[j.val]? = some (UInt8.ofNat n.val) then [92] else [])) = true := by decide +kernel
theorem slash_step (c : UInt8) {j : Nat} (hj : j < 10) : slashN (j + 1) c = slashN j c ++ (if oddL[j]? = some c then [92] else []) := by
  have h := slash_all ⟨c.toNat, c.toNat_lt⟩ ⟨j, hj⟩
  simp only [UInt8.ofNat_toNat] at h
  exact eq_of_beq h
theorem slash_end_all : ∀ n : Fin 256, (slashN 10 (UInt8.ofNat n.val) ++ [UInt8.ofNat n.val] == (if spcB (UInt8.ofNat n.val) then [92, UInt8.ofNat n.val] else [UInt8.ofNat n.val])) = true := by decide +kernel
theorem slash_end (c : UInt8) : slashN 10 c ++ [c] = if spcB c then [92, c] else [c] := by
  have h := slash_end_all ⟨c.toNat, c.toNat_lt⟩
  simp only [UInt8.ofNat_toNat] at h
  exact eq_of_beq h
theorem cat_any (a b : Bs) (h : a.length + b.length ≤ 1000000) (w : World) : (binOp .add 9 (.string ⟨a.toArray⟩) (.string ⟨b.toArray⟩)).run Try.prog w = .ok (.string ⟨(a ++ b).toArray⟩) w := by
  have hcat : (⟨a.toArray⟩ : ByteArray) ++ ⟨b.toArray⟩ = ⟨(a ++ b).toArray⟩ := by apply ByteArray.ext; apply Array.ext'; simp
  have h1 : (⟨a.toArray⟩ : ByteArray).size = a.length := by simp [ByteArray.size]
  have h2 : (⟨b.toArray⟩ : ByteArray).size = b.length := by simp [ByteArray.size]
  have hm : ¬ (((a.length + b.length : Nat) : Int) > IntKind.i64.max) := by rw [show IntKind.i64.max = 9223372036854775807 by decide]; omega
  unfold binOp
  simp only [Op.stringOp, h1, h2, if_neg hm, hcat]
  rfl
theorem exec_catg {o : Oper} {a : Act} (x y : Operand) (l m n : Bs) (hn : n = l ++ m) (ho : o.op = .binOp .add 9 x y 9) (hx : a.eval x = .string ⟨l.toArray⟩) (hy : a.eval y = .string ⟨m.toArray⟩) (h : l.length + m.length ≤ 1000000) (w : World) : (execOp a.eval o).run Try.prog w = .ok (.value (.string ⟨n.toArray⟩)) w := by
  subst hn
  unfold execOp
  simp only [ho, hx, hy, Sem.run_bind, cat_any l m h, Sem.run_pure]
  rfl
theorem cut_one (l : Bs) (k : Nat) (c : UInt8) (hk : l[k]? = some c) (w : World) : (Instr.slice 9 (.string ⟨l.toArray⟩) (some (.int .i64 (k : Int))) (some (.int .i64 ((k : Int) + 1))) none).run Try.prog w = .ok (.string ⟨[c].toArray⟩) w := by
  have hlt : k < l.length := (List.getElem?_eq_some_iff.1 hk).1
  have hs : (⟨l.toArray⟩ : ByteArray).size = l.length := by simp [ByteArray.size]
  simp [Instr.slice, run_underlying Try.underlying9, Instr.sliceBounds, run_sliceBound, hs, show (k : Int) + 1 ≤ (l.length : Int) by omega, show (k : Int) ≤ (k : Int) + 1 by omega, show (0 : Int) ≤ (k : Int) + 1 by omega]
  rw [extract_text, take_byte hk, List.drop_append, List.length_take, show min k l.length = k by omega, Nat.sub_self, List.drop_zero, List.drop_eq_nil_of_le (by rw [List.length_take]; omega)]
  rfl
set_option maxHeartbeats 3200000 in
theorem rquote_any (s : Bs) (w : World) (hs : s.length ≤ 10000) : Calls Try.prog 20 #[.string ⟨s.toArray⟩] w fun e w' => e = .returned (.string ⟨(quoteN s).toArray⟩) ∧ Below w.heap.size w w' := by
  have hsz : ((⟨s.toArray⟩ : ByteArray).size : Int) = (s.length : Int) := by simp [ByteArray.size]
  have hidx := fun k c (h : s[k]? = some c) w => at_text s k c h (k : Int) rfl w
  have hcut := fun k c (h : s[k]? = some c) w => cut_one s k c h w
  obtain ⟨T, hTe⟩ : ∃ T, (⟨s.toArray⟩ : ByteArray) = T := ⟨_, rfl⟩
  rw [hTe] at hsz hidx hcut ⊢
  clear hTe
  have HS : Unit → (T.size : Int) = (s.length : Int) := fun _ => hsz
  have HI : Unit → ∀ (k : Nat) c, s[k]? = some c → ∀ w, (Instr.index 9 (.string T) (.int .i64 (k : Int))).run Try.prog w = .ok (.int .u8 (c.toNat : Int)) w := fun _ k c h w => hidx k c h w
  have HC : Unit → ∀ (k : Nat) c, s[k]? = some c → ∀ w, (Instr.slice 9 (.string T) (some (.int .i64 (k : Int))) (some (.int .i64 ((k : Int) + 1))) none).run Try.prog w = .ok (.string ⟨[c].toArray⟩) w := fun _ k c h w => hcut k c h w
  clear hidx hcut
  go_enter Try.func20, Try.ntmps20
  go_upto_region 3 with fail
  go_loopw [3, 4] (fun ov iv wr => ∃ k : Nat, k ≤ s.length ∧ iv = .int .i64 (k : Int) ∧ ov = .string ⟨(quoteN (s.take k)).toArray⟩ ∧ Below w.heap.size w wr) (fun _ iv _ => s.length - (intOf iv).toNat)
  case atStart => exact ⟨0, Nat.zero_le _, rfl, rfl, Below.refl _ _⟩
  case round =>
    obtain ⟨k, hk, rfl, rfl, hB⟩ := hrel
    by_cases hlt : k < s.length
    · obtain ⟨c, hc⟩ : ∃ c, s[k]? = some c := ⟨_, List.getElem?_eq_getElem hlt⟩
      have hi := HI () k c hc
      have hcu := HC () k c hc
      have hki : (k : Int) < (T.size : Int) := by rw [HS ()]; omega
      have hki' : (k : Int) < (s.length : Int) := by omega
      have hql : (quoteN (s.take k)).length ≤ 20000 := by have := quoteN_len (s.take k); rw [List.length_take] at this; omega
      obtain ⟨l, hl⟩ : ∃ l, quoteN (s.take k) = l := ⟨_, rfl⟩
      have hsn : quoteN (s.take (k + 1)) = (l ++ slashN 10 c) ++ [c] := by rw [take_byte hc, quoteN_snoc, List.append_assoc, slash_end, hl]
      have HSN : Unit → _ := fun _ => hsn
      rw [hl] at hql ⊢
      clear hsn hl
      go_upto_region 7 with fail
      go_loopw [3, 6] (fun ov jv wz => ∃ (j : Nat) (m : Bs), j ≤ 10 ∧ jv = .int .i64 (j : Int) ∧ m = l ++ slashN j c ∧ ov = .string ⟨m.toArray⟩ ∧ Below w.heap.size w wz) (fun _ jv _ => 10 - (intOf jv).toNat)
      case atStart => exact ⟨0, l, by omega, rfl, by simp [slashN], rfl, hB⟩
      case round =>
        obtain ⟨j, m, hj, rfl, hm, rfl, hBz⟩ := hrel
        have hml : m.length ≤ 20001 := by
          rw [hm, List.length_append]
          have : (slashN j c).length ≤ 1 := by unfold slashN; split <;> simp
          omega
        have HM : Unit → m = l ++ slashN j c := fun _ => hm
        clear hm hB
        by_cases hjl : j < 10
        · have hji : (j : Int) < 10 := by omega
          obtain ⟨d, hd⟩ : ∃ d, oddL[j]? = some d := ⟨_, List.getElem?_eq_getElem (by simpa [oddL] using hjl)⟩
          have hid := at_text oddL j d hd (j : Int) rfl
          have hst := slash_step c hjl
          have HST : Unit → _ := fun _ => hst
          have heq : ((d.toNat : Int) == (c.toNat : Int)) = (d == c) := u8_eq d c
          clear hst
          unfold oddL at hid
          cases hdc : d == c with
          | true =>
            rw [hdc] at heq
            have hm2 : l ++ slashN (j + 1) c = m ++ [92] := by rw [HM (), HST (), hd, if_pos (by rw [eq_of_beq hdc]), List.append_assoc]
            have HM2 : Unit → _ := fun _ => hm2
            clear hm2
            go_upto_region 9 with fail
            try simp only [List.append_eq, List.cons_append, List.nil_append]
            refine region_class (fun w' => w' = wr.drew) (by kernel_rfl) (by kernel_rfl) (rfl) ?_
            repeat
              first
              | go_big_quiet_skip
              | (go_big_quiet_want
                 refine quiet_val ?_
                 apply Exists.intro
                 refine ⟨fun w' hw' => ?_, ?_⟩
                 · obtain _ := hw'
                   go_simp
                   first | done | rfl | exact ⟨rfl, rfl⟩
                 simp only [Act.put, List.setIfInBounds_toArray, List.set_cons_zero, List.set_cons_succ]
                 go_big_quiet_on)
              | (go_big_quiet_want
                 refine quiet_call ?_
                 apply Exists.intro
                 apply Exists.intro
                 refine ⟨fun w' => ?_, ?_⟩
                 · go_simp
                   first | done | rfl | exact ⟨rfl, rfl⟩
                 apply Exists.intro
                 refine ⟨fun w' hw' => ?_, ?_⟩
                 · first
                   | fail
                 simp only [Act.put, List.setIfInBounds_toArray, List.set_cons_zero, List.set_cons_succ]
                 go_big_quiet_on)
            refine wpQuiet_nil ?_
            intro w5 hw5
            have hB5 : Below w.heap.size w w5 := by rw [hw5]; exact hBz.trans ((Below.refl _ _).drew)
            clear hw5 hBz
            go_wp2_with (refine wpList_exec (exec_catg _ _ m [92] (l ++ slashN (j + 1) c) (HM2 ()) rfl rfl rfl (by simp only [List.length_singleton]; omega) _) rfl ?_)
            go_roundw
            case rel => exact ⟨j + 1, _, by omega, by go_num, rfl, rfl, hB5⟩
            case measure => simp [intOf]; omega
          | false =>
            rw [hdc] at heq
            have hm2 : m = l ++ slashN (j + 1) c := by rw [HM (), HST (), hd, if_neg (fun e => by injection e with e; rw [e] at hdc; simp at hdc), List.append_nil]
            have HM2 : Unit → _ := fun _ => hm2
            clear hm2
            go_upto_region 9 with fail
            try simp only [List.append_eq, List.cons_append, List.nil_append]
            refine region_class (fun w' => w' = wr.drew) (by kernel_rfl) (by kernel_rfl) (rfl) ?_
            repeat
              first
              | go_big_quiet_skip
              | (go_big_quiet_want
                 refine quiet_val ?_
                 apply Exists.intro
                 refine ⟨fun w' hw' => ?_, ?_⟩
                 · obtain _ := hw'
                   go_simp
                   first | done | rfl | exact ⟨rfl, rfl⟩
                 simp only [Act.put, List.setIfInBounds_toArray, List.set_cons_zero, List.set_cons_succ]
                 go_big_quiet_on)
              | (go_big_quiet_want
                 refine quiet_call ?_
                 apply Exists.intro
                 apply Exists.intro
                 refine ⟨fun w' => ?_, ?_⟩
                 · go_simp
                   first | done | rfl | exact ⟨rfl, rfl⟩
                 apply Exists.intro
                 refine ⟨fun w' hw' => ?_, ?_⟩
                 · first
                   | fail
                 simp only [Act.put, List.setIfInBounds_toArray, List.set_cons_zero, List.set_cons_succ]
                 go_big_quiet_on)
            refine wpQuiet_nil ?_
            intro w5 hw5
            have hB5 : Below w.heap.size w w5 := by rw [hw5]; exact hBz.trans ((Below.refl _ _).drew)
            clear hw5 hBz
            go_wp2_with fail
            go_roundw
            case rel => exact ⟨j + 1, m, by omega, by go_num, HM2 (), rfl, hB5⟩
            case measure => simp [intOf]; omega
        · have hje : j = 10 := by omega
          subst hje
          have hfin : quoteN (s.take (k + 1)) = m ++ [c] := by rw [HSN (), HM ()]
          have HFI : Unit → _ := fun _ => hfin
          clear hfin
          go_wp2_with (refine wpList_exec (exec_catg _ _ m [c] (quoteN (s.take (k + 1))) (HFI ()) rfl rfl rfl (by simp only [List.length_singleton]; omega) _) rfl ?_)
          go_roundw
          case rel => exact ⟨k + 1, by omega, by go_num, rfl, hBz⟩
          case measure => simp [intOf]; omega
    · have hke : k = s.length := by omega
      have hki : ¬ ((k : Int) < (T.size : Int)) := by rw [HS ()]; omega
      have hki' : ¬ ((k : Int) < (s.length : Int)) := by omega
      have hq : quoteN (s.take k) = quoteN s := by rw [hke, List.take_length]
      rw [hq]
      clear hke hq
      go_wp2_with fail
      go_ret
      exact ⟨rfl, hB⟩
end Go.Proofs.Ytakkcofmbafneaa
