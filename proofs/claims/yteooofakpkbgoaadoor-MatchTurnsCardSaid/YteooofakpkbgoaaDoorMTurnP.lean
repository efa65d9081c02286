/- A matcher with the operator beside it; a value quoted by the document. -/
import Derived.Test.YteooofakpkbgoaaDoorMGoods
namespace Go.Proofs.YteooofakpkbgoaaDoor
open Go.ChangeShapes Go.WideShapes Go.RowKit

/-- The operator beside. -/
def xop (op : Int) : Int := bits .xor .i64 op 1
theorem xop_0 : xop 0 = 1 := by decide +kernel
theorem xop_1 : xop 1 = 0 := by decide +kernel
theorem xop_2 : xop 2 = 3 := by decide +kernel
theorem xop_3 : xop 3 = 2 := by decide +kernel
theorem wrap_nat (r : BitVec 64) : IntKind.i64.wrap (r.toNat : Int) = r.toInt := by
  have h := r.isLt
  unfold IntKind.wrap
  rw [BitVec.toInt_eq_toNat_cond]
  show (let m := (r.toNat : Int) % (2 ^ 64 : Int); if true && m ≥ (2 ^ 63 : Int) then m - (2 ^ 64 : Int) else m) = _
  simp only [Bool.true_and]
  have e : (r.toNat : Int) % (2 ^ 64 : Int) = (r.toNat : Int) := Int.emod_eq_of_lt (by omega) (by omega)
  rw [e]
  split <;> rename_i h1 <;> split <;> rename_i h2 <;> simp at * <;> omega
theorem xop_int (op : Int) : xop op = (BitVec.ofInt 64 op ^^^ 1#64).toInt := by
  show IntKind.i64.wrap ((BitVec.ofInt 64 op ^^^ 1#64).toNat : Int) = _
  exact wrap_nat _
theorem xop_back {op : Int} (h1 : -9223372036854775808 ≤ op) (h2 : op ≤ 9223372036854775807) : xop (xop op) = op := by
  rw [xop_int, xop_int, BitVec.ofInt_toInt, BitVec.xor_assoc, BitVec.xor_self, BitVec.xor_zero, BitVec.toInt_ofInt]
  exact Int.bmod_eq_of_le (by simp; omega) (by simp; omega)
theorem xop_cases {op : Int} (h1 : -9223372036854775808 ≤ op) (h2 : op ≤ 9223372036854775807) : (op = 0 ∧ xop op = 1) ∨ (op = 1 ∧ xop op = 0) ∨ (op = 2 ∧ xop op = 3) ∨ (op = 3 ∧ xop op = 2) ∨ ((op ≠ 0 ∧ op ≠ 1 ∧ op ≠ 2 ∧ op ≠ 3) ∧ xop op ≠ 0 ∧ xop op ≠ 1 ∧ xop op ≠ 2 ∧ xop op ≠ 3) := by
  have hb := xop_back h1 h2
  by_cases e0 : op = 0
  · subst e0; exact .inl ⟨rfl, xop_0⟩
  by_cases e1 : op = 1
  · subst e1; exact .inr (.inl ⟨rfl, xop_1⟩)
  by_cases e2 : op = 2
  · subst e2; exact .inr (.inr (.inl ⟨rfl, xop_2⟩))
  by_cases e3 : op = 3
  · subst e3; exact .inr (.inr (.inr (.inl ⟨rfl, xop_3⟩)))
  refine .inr (.inr (.inr (.inr ⟨⟨e0, e1, e2, e3⟩, fun h => ?_, fun h => ?_, fun h => ?_, fun h => ?_⟩)))
  · rw [h, xop_0] at hb; exact e1 hb.symm
  · rw [h, xop_1] at hb; exact e0 hb.symm
  · rw [h, xop_2] at hb; exact e3 hb.symm
  · rw [h, xop_3] at hb; exact e2 hb.symm
theorem turn_fine {m : Mt} (h1 : -9223372036854775808 ≤ m.op) (h2 : m.op ≤ 9223372036854775807) : fineB ⟨m.n, xop m.op, m.v⟩ = fineB m := by
  unfold fineB
  rcases xop_cases h1 h2 with ⟨a, b⟩ | ⟨a, b⟩ | ⟨a, b⟩ | ⟨a, b⟩ | ⟨⟨a0, a1, a2, a3⟩, b0, b1, b2, b3⟩
  · rw [a] at b; simp [a, b]
  · rw [a] at b; simp [a, b]
  · rw [a] at b; simp [a, b]
  · rw [a] at b; simp [a, b]
  · simp [a0, a1, a2, a3, b0, b1, b2, b3]
theorem turn_cmp {op : Int} (h : 0 ≤ op ∧ op ≤ 3) (v x : Bs) : cmpB (xop op) v x = !cmpB op v x := by
  have hc : op = 0 ∨ op = 1 ∨ op = 2 ∨ op = 3 := by omega
  unfold cmpB
  rcases hc with rfl | rfl | rfl | rfl
  · rw [xop_0]; simp
  · rw [xop_1]; simp
  · rw [xop_2]; simp
  · rw [xop_3]; simp
/-- One of the two fits, if the matcher may be; else none. -/
theorem turn_fits {fs : List (Bs × Bs)} {m : Mt} (h1 : -9223372036854775808 ≤ m.op) (h2 : m.op ≤ 9223372036854775807) : fitsB fs ⟨m.n, xop m.op, m.v⟩ = (fineB m && !fitsB fs m) := by
  unfold fitsB
  rw [turn_fine h1 h2]
  cases hf : fineB m with
  | false => rfl
  | true =>
    rw [Bool.true_and, Bool.true_and, Bool.true_and, turn_cmp (fine_op hf)]
theorem quoteN_snoc (s : Bx) (c : UInt8) : quoteN (s ++ [c]) = quoteN s ++ (if spcB c then [92, c] else [c]) := by simp [quoteN]
theorem quoteN_len (s : Bx) : (quoteN s).length ≤ 2 * s.length := by
  induction s with
  | nil => simp [quoteN]
  | cons c s ih =>
    have : quoteN (c :: s) = (if spcB c then [92, c] else [c]) ++ quoteN s := by simp [quoteN]
    rw [this, List.length_append, List.length_cons]
    split <;> simp <;> omega
def oddL : Bs := [42, 43, 63, 124, 40, 41, 91, 93, 92, 46]
def slashN (j : Nat) (c : UInt8) : Bs := if (oddL.take j).contains c then [92] else []
theorem slash_all : ∀ n : Fin 256, ∀ j : Fin 10, (slashN (j.val + 1) (UInt8.ofNat n.val) == slashN j.val (UInt8.ofNat n.val) ++ (if oddL[j.val]? = some (UInt8.ofNat n.val) then [92] else [])) = true := by decide +kernel
theorem slash_step (c : UInt8) {j : Nat} (hj : j < 10) : slashN (j + 1) c = slashN j c ++ (if oddL[j]? = some c then [92] else []) := by
  have h := slash_all ⟨c.toNat, c.toNat_lt⟩ ⟨j, hj⟩
  simp only [UInt8.ofNat_toNat] at h
  exact eq_of_beq h
theorem slash_end_all : ∀ n : Fin 256, (slashN 10 (UInt8.ofNat n.val) ++ [UInt8.ofNat n.val] == (if spcB (UInt8.ofNat n.val) then [92, UInt8.ofNat n.val] else [UInt8.ofNat n.val])) = true := by decide +kernel
theorem slash_end (c : UInt8) : slashN 10 c ++ [c] = if spcB c then [92, c] else [c] := by
  have h := slash_end_all ⟨c.toNat, c.toNat_lt⟩
  simp only [UInt8.ofNat_toNat] at h
  exact eq_of_beq h
set_option maxHeartbeats 3200000 in
set_option maxRecDepth 100000 in
theorem rquote_any (s : Bs) (w : World) (hs : s.length ≤ 10000) : Calls Tryd.prog 37 #[.string ⟨s.toArray⟩] w fun e w' => e = .returned (.string ⟨(quoteN s).toArray⟩) ∧ Below w.heap.size w w' := by
  have hsz : ((⟨s.toArray⟩ : ByteArray).size : Int) = (s.length : Int) := by simp [ByteArray.size]
  have hidx := fun k c (h : s[k]? = some c) w => at_text s k c h (k : Int) rfl w
  have hcut := fun k c (h : s[k]? = some c) w => cut_one s k c h w
  obtain ⟨T, hTe⟩ : ∃ T, (⟨s.toArray⟩ : ByteArray) = T := ⟨_, rfl⟩
  rw [hTe] at hsz hidx hcut ⊢
  clear hTe
  have HS : Unit → (T.size : Int) = (s.length : Int) := fun _ => hsz
  have HI : Unit → ∀ (k : Nat) c, s[k]? = some c → ∀ w, (Instr.index 9 (.string T) (.int .i64 (k : Int))).run Tryd.prog w = .ok (.int .u8 (c.toNat : Int)) w := fun _ k c h w => hidx k c h w
  have HC : Unit → ∀ (k : Nat) c, s[k]? = some c → ∀ w, (Instr.slice 9 (.string T) (some (.int .i64 (k : Int))) (some (.int .i64 ((k : Int) + 1))) none).run Tryd.prog w = .ok (.string ⟨[c].toArray⟩) w := fun _ k c h w => hcut k c h w
  clear hidx hcut
  go_enter Tryd.func37, Tryd.ntmps37
  go_upto_region 3 with fail
  go_loopw [3, 4] (fun ov iv wr => ∃ k : Nat, k ≤ s.length ∧ iv = .int .i64 (k : Int) ∧ ov = .string ⟨(quoteN (s.take k)).toArray⟩ ∧ Below w.heap.size w wr) (fun _ iv _ => s.length - (intOf iv).toNat)
  case atStart => exact ⟨0, Nat.zero_le _, rfl, rfl, Below.refl _ _⟩
  case round =>
    obtain ⟨k, hk, rfl, rfl, hB⟩ := hrel
    by_cases hlt : k < s.length
    · obtain ⟨c, hc⟩ : ∃ c, s[k]? = some c := ⟨_, List.getElem?_eq_getElem hlt⟩
      have hi := HI () k c hc
      have hcu := HC () k c hc
      have hki : (k : Int) < (T.size : Int) := by rw [HS ()]; omega
      have hki' : (k : Int) < (s.length : Int) := by omega
      have hql : (quoteN (s.take k)).length ≤ 20000 := by have := quoteN_len (s.take k); rw [List.length_take] at this; omega
      obtain ⟨l, hl⟩ : ∃ l, quoteN (s.take k) = l := ⟨_, rfl⟩
      have hsn : quoteN (s.take (k + 1)) = (l ++ slashN 10 c) ++ [c] := by rw [take_byte hc, quoteN_snoc, List.append_assoc, slash_end, hl]
      have HSN : Unit → _ := fun _ => hsn
      rw [hl] at hql ⊢
      clear hsn hl
      go_upto_region 7 with fail
      go_loopw [3, 6] (fun ov jv wz => ∃ (j : Nat) (m : Bs), j ≤ 10 ∧ jv = .int .i64 (j : Int) ∧ m = l ++ slashN j c ∧ ov = .string ⟨m.toArray⟩ ∧ Below w.heap.size w wz) (fun _ jv _ => 10 - (intOf jv).toNat)
      case atStart => exact ⟨0, l, by omega, rfl, by simp [slashN], rfl, hB⟩
      case round =>
        obtain ⟨j, m, hj, rfl, hm, rfl, hBz⟩ := hrel
        have hml : m.length ≤ 20001 := by
          rw [hm, List.length_append]
          have : (slashN j c).length ≤ 1 := by unfold slashN; split <;> simp
          omega
        have HM : Unit → m = l ++ slashN j c := fun _ => hm
        clear hm hB
        by_cases hjl : j < 10
        · have hji : (j : Int) < 10 := by omega
          obtain ⟨d, hd⟩ : ∃ d, oddL[j]? = some d := ⟨_, List.getElem?_eq_getElem (by simpa [oddL] using hjl)⟩
          have hid := at_text oddL j d hd (j : Int) rfl
          have hst := slash_step c hjl
          have HST : Unit → _ := fun _ => hst
          have heq : ((d.toNat : Int) == (c.toNat : Int)) = (d == c) := u8_eq d c
          clear hst
          unfold oddL at hid
          cases hdc : d == c with
          | true =>
            rw [hdc] at heq
            have hm2 : l ++ slashN (j + 1) c = m ++ [92] := by rw [HM (), HST (), hd, if_pos (by rw [eq_of_beq hdc]), List.append_assoc]
            have HM2 : Unit → _ := fun _ => hm2
            clear hm2
            go_upto_region 9 with fail
            try simp only [List.append_eq, List.cons_append, List.nil_append]
            refine region_class (fun w' => w' = wr.drew) (by kernel_rfl) (by kernel_rfl) (rfl) ?_
            repeat
              first
              | go_big_quiet_skip
              | (go_big_quiet_want
                 refine quiet_val ?_
                 apply Exists.intro
                 refine ⟨fun w' hw' => ?_, ?_⟩
                 · obtain _ := hw'
                   go_simp
                   first | done | rfl | exact ⟨rfl, rfl⟩
                 simp only [Act.put, List.setIfInBounds_toArray, List.set_cons_zero, List.set_cons_succ]
                 go_big_quiet_on)
              | (go_big_quiet_want
                 refine quiet_call ?_
                 apply Exists.intro
                 apply Exists.intro
                 refine ⟨fun w' => ?_, ?_⟩
                 · go_simp
                   first | done | rfl | exact ⟨rfl, rfl⟩
                 apply Exists.intro
                 refine ⟨fun w' hw' => ?_, ?_⟩
                 · first
                   | fail
                 simp only [Act.put, List.setIfInBounds_toArray, List.set_cons_zero, List.set_cons_succ]
                 go_big_quiet_on)
            refine wpQuiet_nil ?_
            intro w5 hw5
            have hB5 : Below w.heap.size w w5 := by rw [hw5]; exact hBz.trans ((Below.refl _ _).drew)
            clear hw5 hBz
            go_wp2_with (refine wpList_exec (exec_catg _ _ m [92] (l ++ slashN (j + 1) c) (HM2 ()) rfl rfl rfl (by simp only [List.length_singleton]; omega) _) rfl ?_)
            go_roundw
            case rel => exact ⟨j + 1, _, by omega, by go_num, rfl, rfl, hB5⟩
            case measure => simp [intOf]; omega
          | false =>
            rw [hdc] at heq
            have hm2 : m = l ++ slashN (j + 1) c := by rw [HM (), HST (), hd, if_neg (fun e => by injection e with e; rw [e] at hdc; simp at hdc), List.append_nil]
            have HM2 : Unit → _ := fun _ => hm2
            clear hm2
            go_upto_region 9 with fail
            try simp only [List.append_eq, List.cons_append, List.nil_append]
            refine region_class (fun w' => w' = wr.drew) (by kernel_rfl) (by kernel_rfl) (rfl) ?_
            repeat
              first
              | go_big_quiet_skip
              | (go_big_quiet_want
                 refine quiet_val ?_
                 apply Exists.intro
                 refine ⟨fun w' hw' => ?_, ?_⟩
                 · obtain _ := hw'
                   go_simp
                   first | done | rfl | exact ⟨rfl, rfl⟩
                 simp only [Act.put, List.setIfInBounds_toArray, List.set_cons_zero, List.set_cons_succ]
                 go_big_quiet_on)
              | (go_big_quiet_want
                 refine quiet_call ?_
                 apply Exists.intro
                 apply Exists.intro
                 refine ⟨fun w' => ?_, ?_⟩
                 · go_simp
                   first | done | rfl | exact ⟨rfl, rfl⟩
                 apply Exists.intro
                 refine ⟨fun w' hw' => ?_, ?_⟩
                 · first
                   | fail
                 simp only [Act.put, List.setIfInBounds_toArray, List.set_cons_zero, List.set_cons_succ]
                 go_big_quiet_on)
            refine wpQuiet_nil ?_
            intro w5 hw5
            have hB5 : Below w.heap.size w w5 := by rw [hw5]; exact hBz.trans ((Below.refl _ _).drew)
            clear hw5 hBz
            go_wp2_with fail
            go_roundw
            case rel => exact ⟨j + 1, m, by omega, by go_num, HM2 (), rfl, hB5⟩
            case measure => simp [intOf]; omega
        · have hje : j = 10 := by omega
          subst hje
          have hfin : quoteN (s.take (k + 1)) = m ++ [c] := by rw [HSN (), HM ()]
          have HFI : Unit → _ := fun _ => hfin
          clear hfin
          go_wp2_with (refine wpList_exec (exec_catg _ _ m [c] (quoteN (s.take (k + 1))) (HFI ()) rfl rfl rfl (by simp only [List.length_singleton]; omega) _) rfl ?_)
          go_roundw
          case rel => exact ⟨k + 1, by omega, by go_num, rfl, hBz⟩
          case measure => simp [intOf]; omega
    · have hke : k = s.length := by omega
      have hki : ¬ ((k : Int) < (T.size : Int)) := by rw [HS ()]; omega
      have hki' : ¬ ((k : Int) < (s.length : Int)) := by omega
      have hq : quoteN (s.take k) = quoteN s := by rw [hke, List.take_length]
      rw [hq]
      clear hke hq
      go_wp2_with fail
      go_ret
      exact ⟨rfl, hB⟩
theorem errM_quote {s : Bs} (h : ¬ 100 < (quoteN s).length) : errM (quoteN s) = 0 := by
  unfold errM
  rw [if_neg h, quote_read]
  rfl
theorem fit_quote {s : Bs} (h : ¬ 100 < (quoteN s).length) (t : Bs) : FitP (quoteN s) t ↔ t = s := by
  have hp : patM (quoteN s) = some (.one (chrs s)) := by unfold patM; rw [if_neg h, quote_read]; rfl
  constructor
  · rintro ⟨a, h1, h2⟩
    rw [hp] at h1
    injection h1 with h1
    subst h1
    rw [langA] at h2
    exact (chrs_lang s t).1 h2
  · rintro rfl
    exact ⟨_, hp, by rw [langA]; exact (chrs_lang _ _).2 rfl⟩
theorem fine_quote {n v : Bs} (h : fineB ⟨n, 2, quoteN v⟩ = true) : ¬ 100 < (quoteN v).length := by
  intro hl
  unfold fineB at h
  have e : errM (quoteN v) = 4 := by unfold errM; rw [if_pos hl]
  rw [e] at h
  simp at h
theorem fb_quote {v : Bs} (h : ¬ 100 < (quoteN v).length) (V : Bs) : fb (quoteN v) V = (V == v) := by
  refine fb_eq ?_
  rw [fit_quote h]
  simp
/-- Equal to a value, and like it when quoted: the same, if both may be. -/
theorem turn_like {fs : List (Bs × Bs)} {n v : Bs} (h0 : fineB ⟨n, 0, v⟩ = true) (h2 : fineB ⟨n, 2, quoteN v⟩ = true) : fitsB fs ⟨n, 2, quoteN v⟩ = fitsB fs ⟨n, 0, v⟩ := by
  unfold fitsB
  rw [h0, h2]
  unfold cmpB
  simp only [Bool.true_and]
  rw [if_neg (by decide), if_neg (by decide), if_pos trivial, if_pos trivial, fb_quote (fine_quote h2)]
end Go.Proofs.YteooofakpkbgoaaDoor
