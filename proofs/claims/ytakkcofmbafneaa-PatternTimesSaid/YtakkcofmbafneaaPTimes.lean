/- PatternTimes returns true, whatever the byte, the number and the text. -/
import Derived.Test.YtakkcofmbafneaaPRefQ
namespace Go.Proofs.Ytakkcofmbafneaa
open Go.ChangeShapes Go.WideShapes Go.RowKit

theorem at_forty (a : Int) : ∃ q : Nat, q ≤ 39 ∧ wrap64 ((IntKind.u64.wrap a).tmod 40) = (q : Int) := by
  have h0 : 0 ≤ IntKind.u64.wrap a := by simp only [IntKind.wrap, IntKind.signed, IntKind.bits]; simp; omega
  rw [Int.tmod_eq_emod_of_nonneg h0]
  refine ⟨(IntKind.u64.wrap a % 40).toNat, by omega, ?_⟩
  simp only [wrap64]
  omega
theorem byte_len (c : UInt8) : (quoteN [c]).length ≤ 2 := quoteN_len [c]
theorem byte_pat (c : UInt8) {t : Bx} {x : Re} (h : often (byteR c) t = (x, [])) (ht : t.length ≤ 1) (s : Bx) : FitP (quoteN [c] ++ t) s ↔ langA (.one (.cons x .nil)) s := by
  have hl := byte_len c
  have hp : patM (quoteN [c] ++ t) = some (.one (.cons x .nil)) := by unfold patM; rw [if_neg (by rw [List.length_append]; omega), byte_read c h]; rfl
  exact ⟨fun ⟨a, h1, h2⟩ => by rw [hp] at h1; injection h1 with h1; rw [h1]; exact h2, fun h => ⟨_, hp, h⟩⟩
theorem times_star (c : UInt8) (s : Bx) : FitP (quoteN [c] ++ [42]) s ↔ ∀ d ∈ s, d = c := (byte_pat c (by simp [often]) (by simp) s).trans (byte_star c s)
theorem times_plus (c : UInt8) (s : Bx) : FitP (quoteN [c] ++ [43]) s ↔ s ≠ [] ∧ ∀ d ∈ s, d = c := (byte_pat c (by simp [often]) (by simp) s).trans (byte_plus c s)
theorem times_opt (c : UInt8) (s : Bx) : FitP (quoteN [c] ++ [63]) s ↔ s = [] ∨ s = [c] := (byte_pat c (by simp [often]) (by simp) s).trans (byte_opt c s)
/-- Is every byte c? -/
def likeB (c : UInt8) (s : Bx) : Bool := s.all fun d => d == c
theorem likeB_iff (c : UInt8) (s : Bx) : likeB c s = true ↔ ∀ d ∈ s, d = c := by
  unfold likeB
  rw [List.all_eq_true]
  exact ⟨fun h d hd => eq_of_beq (h d hd), fun h d hd => by rw [h d hd]; simp⟩
theorem likeB_snoc (c d : UInt8) (s : Bx) : likeB c (s ++ [d]) = (likeB c s && (d == c)) := by simp [likeB]
theorem bool_t {b : Bool} {P : Prop} (h : b = true ↔ P) (hp : P) : b = true := h.2 hp
theorem bool_f {b : Bool} {P : Prop} (h : b = true ↔ P) (hp : ¬ P) : b = false := by
  cases b with
  | false => rfl
  | true => exact absurd (h.1 rfl) hp
theorem bool_of {b c : Bool} (h : b = true ↔ c = true) : b = c := by cases b <;> cases c <;> simp_all
set_option maxHeartbeats 6400000 in
theorem times_any (c : UInt8) (n : Int) (s : Bs) (w : World) (hs : s.length ≤ 9223372036854775807) :
    Calls Try.prog 7 #[.int .u8 (c.toNat : Int), .int .i64 n, .string ⟨s.toArray⟩] w fun e w' => e = .returned (.bool true) ∧ Below w.heap.size w w' := by
  obtain ⟨m, hm, hme⟩ := at_forty n
  have KE := Lib.hid fun w => early_any s w hs
  have KL := Lib.hid fun w => lives_any w
  have hSl : (s.take 60).length ≤ 60 := by rw [List.length_take]; omega
  obtain ⟨S, hS⟩ : ∃ S, s.take 60 = S := ⟨_, rfl⟩
  simp only [hS] at KE hSl
  have KQ := Lib.hid fun w => quote_any [c] w (by simp)
  have hcl := byte_len c
  have hfs := fun t => times_star c t
  have hfp := fun t => times_plus c t
  have hfo := fun t => times_opt c t
  obtain ⟨K, hK⟩ : ∃ K, quoteN [c] = K := ⟨_, rfl⟩
  rw [hK] at KQ hcl hfs hfp hfo
  have hTl : (List.replicate m c).length = m := List.length_replicate
  have KF := Lib.hid fun (p t : Bs) (hp : p.length ≤ 3) (ht : t.length ≤ 60) w => fits_any p t w (by omega) (by omega)
  have hidx := fun k d (h : S[k]? = some d) w => at_text S k d h (k : Int) rfl w
  have hz : ((⟨S.toArray⟩ : ByteArray).size : Int) = (S.length : Int) := by simp [ByteArray.size]
  have hnil : (⟨S.toArray⟩ : ByteArray).toList.isEmpty = S.isEmpty := by rw [text_list]
  obtain ⟨TS, hTS⟩ : ∃ TS, (⟨S.toArray⟩ : ByteArray) = TS := ⟨_, rfl⟩
  have HTS : Unit → (⟨S.toArray⟩ : ByteArray) = TS := fun _ => hTS
  rw [hTS] at KE hidx hz hnil
  have HI : Unit → ∀ (k : Nat) d, S[k]? = some d → ∀ w, (Instr.index 9 (.string TS) (.int .i64 (k : Int))).run Try.prog w = .ok (.int .u8 (d.toNat : Int)) w := fun _ k d h w => hidx k d h w
  have HFS : Unit → ∀ t, FitP (K ++ [42]) t ↔ ∀ d ∈ t, d = c := fun _ => hfs
  have HFP : Unit → ∀ t, FitP (K ++ [43]) t ↔ t ≠ [] ∧ ∀ d ∈ t, d = c := fun _ => hfp
  have HFO : Unit → ∀ t, FitP (K ++ [63]) t ↔ t = [] ∨ t = [c] := fun _ => hfo
  generalize (⟨s.toArray⟩ : ByteArray) = T0 at *
  clear hidx hTS hS hs hK hfs hfp hfo hTl
  go_enter Try.func7, Try.ntmps7
  go_wp2_with fail
  refine (KL.out _).mono ?_
  rintro e w1 ⟨rfl, hB1⟩
  clear KL
  have hbs := byte_string w1 c
  have hb2 := (Below.refl w1.heap.size w1).alloc (Nat.le_refl _) (.cells #[.int .u8 (c.toNat : Int)] 5)
  go_wp2_with fail
  simp only [hme]
  clear hme
  refine (KQ.out _).mono ?_
  rintro e w2 ⟨rfl, hbq⟩
  have hB2 : Below w.heap.size w w2 := (hB1.trans (hb2.mono hB1.size)).trans (hbq.mono (hB1.trans (hb2.mono hB1.size)).size)
  clear KQ hB1 hb2 hbs hbq
  go_upto_region 7 with fail
  go_loopw [8, 9] (fun tv iv wr => ∃ j : Nat, j ≤ m ∧ iv = .int .i64 (j : Int) ∧ tv = .string ⟨(List.replicate j c).toArray⟩ ∧ Below w.heap.size w wr) (fun _ iv _ => m - (intOf iv).toNat)
  case atStart => exact ⟨0, Nat.zero_le _, rfl, rfl, hB2⟩
  case round =>
    obtain ⟨j, hj, rfl, rfl, hBr⟩ := hrel
    clear hB2
    by_cases hjl : j < m
    · have hji : (j : Int) < (m : Int) := by omega
      have hbs := byte_string wr c
      have hb2 := (Below.refl wr.heap.size wr).alloc (Nat.le_refl _) (.cells #[.int .u8 (c.toNat : Int)] 5)
      have hB3 := hBr.trans (hb2.mono hBr.size)
      have hrl : (List.replicate j c).length + [c].length ≤ 1000000 := by rw [List.length_replicate]; simp only [List.length_singleton]; omega
      clear hBr hb2
      go_wp2_with (refine wpList_exec (exec_catg _ _ (List.replicate j c) [c] (List.replicate (j + 1) c) List.replicate_succ' rfl rfl rfl hrl _) rfl ?_)
      go_roundw
      case rel => exact ⟨j + 1, by omega, by go_num, rfl, hB3⟩
      case measure => simp [intOf]; omega
    · have hje : j = m := by omega
      have hji : ¬ ((j : Int) < (m : Int)) := by omega
      have hRl : (List.replicate j c).length ≤ 60 := by rw [List.length_replicate]; omega
      have HR : Unit → ∀ d ∈ List.replicate j c, d = c := fun _ d hd => List.eq_of_mem_replicate hd
      have HR0 : Unit → (List.replicate j c ≠ [] ↔ 0 < m) := fun _ => by rw [hje]; cases m <;> simp
      have HR1 : Unit → ((List.replicate j c = [] ∨ List.replicate j c = [c]) ↔ m < 2) := fun _ => by
        rw [hje]
        match m with
        | 0 => simp
        | 1 => simp
        | m + 2 =>
          constructor
          · rintro (h | h)
            · have := congrArg List.length h; simp at this
            · have := congrArg List.length h; simp at this
          · intro h; omega
      obtain ⟨R, hR⟩ : ∃ R, List.replicate j c = R := ⟨_, rfl⟩
      rw [hR] at hRl HR HR0 HR1 ⊢
      clear hR hje
      go_wp2_with fail
      refine (KE.out _).mono ?_
      rintro e w4 ⟨rfl, hw4⟩
      obtain rfl : wr = w4 := hw4.symm
      clear KE
      go_upto_region 13 with fail
      go_loopw [10, 11] (fun lv iv wz => ∃ (i : Nat) (lk : Bool), i ≤ S.length ∧ iv = .int .i64 (i : Int) ∧ lk = likeB c (S.take i) ∧ lv = .bool lk ∧ Below w.heap.size w wz) (fun _ iv _ => S.length - (intOf iv).toNat)
      case atStart => exact ⟨0, true, Nat.zero_le _, rfl, rfl, rfl, hBr⟩
      case round =>
        obtain ⟨i, lk, hi, rfl, hlk, rfl, hBz⟩ := hrel
        have HLk : Unit → lk = likeB c (S.take i) := fun _ => hlk
        clear hlk hBr
        by_cases hil : i < S.length
        · have hii : (i : Int) < (S.length : Int) := by omega
          have hii' : (i : Int) < (TS.size : Int) := by rw [hz]; omega
          obtain ⟨d, hd⟩ : ∃ d, S[i]? = some d := ⟨_, List.getElem?_eq_getElem hil⟩
          have hid := HI () i d hd
          have heq : ((d.toNat : Int) == (c.toNat : Int)) = (d == c) := u8_eq d c
          have hst : likeB c (S.take (i + 1)) = (lk && (d == c)) := by rw [take_byte hd, likeB_snoc, HLk ()]
          have HST : Unit → _ := fun _ => hst
          clear hst
          generalize (d == c) = dc at *
          cases lk with
          | false =>
            go_wp2_with fail
            go_roundw
            case rel => exact ⟨i + 1, _, by omega, by go_num, by rw [HST ()]; rfl, rfl, hBz⟩
            case measure => simp [intOf]; omega
          | true =>
            go_wp2_with fail
            go_roundw
            case rel => exact ⟨i + 1, dc, by omega, by go_num, by rw [HST ()]; rfl, rfl, hBz⟩
            case measure => simp [intOf]; omega
        · have hie : i = S.length := by omega
          have hii : ¬ ((i : Int) < (S.length : Int)) := by omega
          have hii' : ¬ ((i : Int) < (TS.size : Int)) := by rw [hz]; omega
          have HLK : Unit → ((∀ d ∈ S, d = c) ↔ lk = true) := fun _ => by rw [HLk (), hie, List.take_length, likeB_iff]
          have HLP : Unit → ((S ≠ [] ∧ ∀ d ∈ S, d = c) ↔ (lk && !S.isEmpty) = true) := fun _ => by
            rw [HLK ()]
            cases lk <;> cases S <;> simp
          clear HLk hie
          have hBr := hBz
          clear hBz
          by_cases hp : 0 < m
          · have hpi : (0 : Int) < (m : Int) := by omega
            have HP0 : Unit → (R ≠ [] ∧ ∀ d ∈ R, d = c) := fun _ => ⟨(HR0 ()).2 hp, HR ()⟩
            by_cases hq : m < 2
            · have hqi : (m : Int) < 2 := by omega
              have HP1 : Unit → (R = [] ∨ R = [c]) := fun _ => (HR1 ()).2 hq
              clear HR0 HR1
              have hB := hBr
              have hc42 : (K ++ [42]).length ≤ 3 := by rw [List.length_append]; simp only [List.length_singleton]; omega
              have hc43 : (K ++ [43]).length ≤ 3 := by rw [List.length_append]; simp only [List.length_singleton]; omega
              have hc63 : (K ++ [63]).length ≤ 3 := by rw [List.length_append]; simp only [List.length_singleton]; omega
              have hcc : K.length + 1 ≤ 1000000 := by omega
              go_wp2_with (first | refine wpList_exec (exec_catg _ _ K [42] (K ++ [42]) rfl rfl rfl rfl hcc _) rfl ?_ | refine wpList_exec (exec_catg _ _ K [43] (K ++ [43]) rfl rfl rfl rfl hcc _) rfl ?_ | refine wpList_exec (exec_catg _ _ K [63] (K ++ [63]) rfl rfl rfl rfl hcc _) rfl ?_)
              refine (KF.out (K ++ [42]) R hc42 hRl _).mono ?_
              rintro e w5 ⟨⟨b, rfl, hb⟩, hbb⟩
              replace hB := hB.trans (hbb.mono hB.size)
              obtain rfl : b = true := hb.2 ((HFS () R).2 (HR ()))
              clear hb hbb
              go_wp2_with (first | refine wpList_exec (exec_catg _ _ K [42] (K ++ [42]) rfl rfl rfl rfl hcc _) rfl ?_ | refine wpList_exec (exec_catg _ _ K [43] (K ++ [43]) rfl rfl rfl rfl hcc _) rfl ?_ | refine wpList_exec (exec_catg _ _ K [63] (K ++ [63]) rfl rfl rfl rfl hcc _) rfl ?_)
              refine (KF.out (K ++ [43]) R hc43 hRl _).mono ?_
              rintro e w6 ⟨⟨b, rfl, hb⟩, hbb⟩
              replace hB := hB.trans (hbb.mono hB.size)
              obtain rfl : b = true := bool_t (hb.trans (HFP () R)) (HP0 ())
              clear hb hbb
              go_wp2_with (first | refine wpList_exec (exec_catg _ _ K [42] (K ++ [42]) rfl rfl rfl rfl hcc _) rfl ?_ | refine wpList_exec (exec_catg _ _ K [43] (K ++ [43]) rfl rfl rfl rfl hcc _) rfl ?_ | refine wpList_exec (exec_catg _ _ K [63] (K ++ [63]) rfl rfl rfl rfl hcc _) rfl ?_)
              refine (KF.out (K ++ [63]) R hc63 hRl _).mono ?_
              rintro e w7 ⟨⟨b, rfl, hb⟩, hbb⟩
              replace hB := hB.trans (hbb.mono hB.size)
              obtain rfl : b = true := bool_t (hb.trans (HFO () R)) (HP1 ())
              clear hb hbb
              go_wp2_with (first | refine wpList_exec (exec_catg _ _ K [42] (K ++ [42]) rfl rfl rfl rfl hcc _) rfl ?_ | refine wpList_exec (exec_catg _ _ K [43] (K ++ [43]) rfl rfl rfl rfl hcc _) rfl ?_ | refine wpList_exec (exec_catg _ _ K [63] (K ++ [63]) rfl rfl rfl rfl hcc _) rfl ?_)
              rw [← HTS ()]
              refine (KF.out (K ++ [42]) S hc42 hSl _).mono ?_
              rintro e w8 ⟨⟨b, rfl, hb⟩, hbb⟩
              replace hB := hB.trans (hbb.mono hB.size)
              obtain rfl : lk = b := (bool_of (hb.trans ((HFS () S).trans (HLK ())))).symm
              clear hb hbb
              rw [HTS ()]
              go_wp2_with (first | refine wpList_exec (exec_catg _ _ K [42] (K ++ [42]) rfl rfl rfl rfl hcc _) rfl ?_ | refine wpList_exec (exec_catg _ _ K [43] (K ++ [43]) rfl rfl rfl rfl hcc _) rfl ?_ | refine wpList_exec (exec_catg _ _ K [63] (K ++ [63]) rfl rfl rfl rfl hcc _) rfl ?_)
              rw [← HTS ()]
              refine (KF.out (K ++ [43]) S hc43 hSl _).mono ?_
              rintro e w9 ⟨⟨b, rfl, hb⟩, hbb⟩
              replace hB := hB.trans (hbb.mono hB.size)
              obtain rfl : b = (lk && !S.isEmpty) := bool_of (hb.trans ((HFP () S).trans (HLP ())))
              clear hb hbb
              rw [HTS ()]
              clear KF HFS HFP HFO HP0 HP1 HLK HLP HTS HI
              cases lk <;> cases hSe : S.isEmpty <;> rw [hSe] at hnil <;> (go_wp2_with fail; go_ret; first | exact ⟨rfl, hB⟩ | exact ⟨by (simp; omega), hB⟩)
            · have hqi : ¬ ((m : Int) < 2) := by omega
              have HP1 : Unit → ¬ (R = [] ∨ R = [c]) := fun _ h => absurd ((HR1 ()).1 h) hq
              clear HR0 HR1
              have hB := hBr
              have hc42 : (K ++ [42]).length ≤ 3 := by rw [List.length_append]; simp only [List.length_singleton]; omega
              have hc43 : (K ++ [43]).length ≤ 3 := by rw [List.length_append]; simp only [List.length_singleton]; omega
              have hc63 : (K ++ [63]).length ≤ 3 := by rw [List.length_append]; simp only [List.length_singleton]; omega
              have hcc : K.length + 1 ≤ 1000000 := by omega
              go_wp2_with (first | refine wpList_exec (exec_catg _ _ K [42] (K ++ [42]) rfl rfl rfl rfl hcc _) rfl ?_ | refine wpList_exec (exec_catg _ _ K [43] (K ++ [43]) rfl rfl rfl rfl hcc _) rfl ?_ | refine wpList_exec (exec_catg _ _ K [63] (K ++ [63]) rfl rfl rfl rfl hcc _) rfl ?_)
              refine (KF.out (K ++ [42]) R hc42 hRl _).mono ?_
              rintro e w5 ⟨⟨b, rfl, hb⟩, hbb⟩
              replace hB := hB.trans (hbb.mono hB.size)
              obtain rfl : b = true := hb.2 ((HFS () R).2 (HR ()))
              clear hb hbb
              go_wp2_with (first | refine wpList_exec (exec_catg _ _ K [42] (K ++ [42]) rfl rfl rfl rfl hcc _) rfl ?_ | refine wpList_exec (exec_catg _ _ K [43] (K ++ [43]) rfl rfl rfl rfl hcc _) rfl ?_ | refine wpList_exec (exec_catg _ _ K [63] (K ++ [63]) rfl rfl rfl rfl hcc _) rfl ?_)
              refine (KF.out (K ++ [43]) R hc43 hRl _).mono ?_
              rintro e w6 ⟨⟨b, rfl, hb⟩, hbb⟩
              replace hB := hB.trans (hbb.mono hB.size)
              obtain rfl : b = true := bool_t (hb.trans (HFP () R)) (HP0 ())
              clear hb hbb
              go_wp2_with (first | refine wpList_exec (exec_catg _ _ K [42] (K ++ [42]) rfl rfl rfl rfl hcc _) rfl ?_ | refine wpList_exec (exec_catg _ _ K [43] (K ++ [43]) rfl rfl rfl rfl hcc _) rfl ?_ | refine wpList_exec (exec_catg _ _ K [63] (K ++ [63]) rfl rfl rfl rfl hcc _) rfl ?_)
              refine (KF.out (K ++ [63]) R hc63 hRl _).mono ?_
              rintro e w7 ⟨⟨b, rfl, hb⟩, hbb⟩
              replace hB := hB.trans (hbb.mono hB.size)
              obtain rfl : b = false := bool_f (hb.trans (HFO () R)) (HP1 ())
              clear hb hbb
              go_wp2_with (first | refine wpList_exec (exec_catg _ _ K [42] (K ++ [42]) rfl rfl rfl rfl hcc _) rfl ?_ | refine wpList_exec (exec_catg _ _ K [43] (K ++ [43]) rfl rfl rfl rfl hcc _) rfl ?_ | refine wpList_exec (exec_catg _ _ K [63] (K ++ [63]) rfl rfl rfl rfl hcc _) rfl ?_)
              rw [← HTS ()]
              refine (KF.out (K ++ [42]) S hc42 hSl _).mono ?_
              rintro e w8 ⟨⟨b, rfl, hb⟩, hbb⟩
              replace hB := hB.trans (hbb.mono hB.size)
              obtain rfl : lk = b := (bool_of (hb.trans ((HFS () S).trans (HLK ())))).symm
              clear hb hbb
              rw [HTS ()]
              go_wp2_with (first | refine wpList_exec (exec_catg _ _ K [42] (K ++ [42]) rfl rfl rfl rfl hcc _) rfl ?_ | refine wpList_exec (exec_catg _ _ K [43] (K ++ [43]) rfl rfl rfl rfl hcc _) rfl ?_ | refine wpList_exec (exec_catg _ _ K [63] (K ++ [63]) rfl rfl rfl rfl hcc _) rfl ?_)
              rw [← HTS ()]
              refine (KF.out (K ++ [43]) S hc43 hSl _).mono ?_
              rintro e w9 ⟨⟨b, rfl, hb⟩, hbb⟩
              replace hB := hB.trans (hbb.mono hB.size)
              obtain rfl : b = (lk && !S.isEmpty) := bool_of (hb.trans ((HFP () S).trans (HLP ())))
              clear hb hbb
              rw [HTS ()]
              clear KF HFS HFP HFO HP0 HP1 HLK HLP HTS HI
              cases lk <;> cases hSe : S.isEmpty <;> rw [hSe] at hnil <;> (go_wp2_with fail; go_ret; first | exact ⟨rfl, hB⟩ | exact ⟨by (simp; omega), hB⟩)
          · have hpi : ¬ ((0 : Int) < (m : Int)) := by omega
            have HP0 : Unit → ¬ (R ≠ [] ∧ ∀ d ∈ R, d = c) := fun _ h => absurd ((HR0 ()).1 h.1) hp
            have hqi : (m : Int) < 2 := by omega
            have HP1 : Unit → (R = [] ∨ R = [c]) := fun _ => (HR1 ()).2 (by omega)
            clear HR0 HR1
            have hB := hBr
            have hc42 : (K ++ [42]).length ≤ 3 := by rw [List.length_append]; simp only [List.length_singleton]; omega
            have hc43 : (K ++ [43]).length ≤ 3 := by rw [List.length_append]; simp only [List.length_singleton]; omega
            have hc63 : (K ++ [63]).length ≤ 3 := by rw [List.length_append]; simp only [List.length_singleton]; omega
            have hcc : K.length + 1 ≤ 1000000 := by omega
            go_wp2_with (first | refine wpList_exec (exec_catg _ _ K [42] (K ++ [42]) rfl rfl rfl rfl hcc _) rfl ?_ | refine wpList_exec (exec_catg _ _ K [43] (K ++ [43]) rfl rfl rfl rfl hcc _) rfl ?_ | refine wpList_exec (exec_catg _ _ K [63] (K ++ [63]) rfl rfl rfl rfl hcc _) rfl ?_)
            refine (KF.out (K ++ [42]) R hc42 hRl _).mono ?_
            rintro e w5 ⟨⟨b, rfl, hb⟩, hbb⟩
            replace hB := hB.trans (hbb.mono hB.size)
            obtain rfl : b = true := hb.2 ((HFS () R).2 (HR ()))
            clear hb hbb
            go_wp2_with (first | refine wpList_exec (exec_catg _ _ K [42] (K ++ [42]) rfl rfl rfl rfl hcc _) rfl ?_ | refine wpList_exec (exec_catg _ _ K [43] (K ++ [43]) rfl rfl rfl rfl hcc _) rfl ?_ | refine wpList_exec (exec_catg _ _ K [63] (K ++ [63]) rfl rfl rfl rfl hcc _) rfl ?_)
            refine (KF.out (K ++ [43]) R hc43 hRl _).mono ?_
            rintro e w6 ⟨⟨b, rfl, hb⟩, hbb⟩
            replace hB := hB.trans (hbb.mono hB.size)
            obtain rfl : b = false := bool_f (hb.trans (HFP () R)) (HP0 ())
            clear hb hbb
            go_wp2_with (first | refine wpList_exec (exec_catg _ _ K [42] (K ++ [42]) rfl rfl rfl rfl hcc _) rfl ?_ | refine wpList_exec (exec_catg _ _ K [43] (K ++ [43]) rfl rfl rfl rfl hcc _) rfl ?_ | refine wpList_exec (exec_catg _ _ K [63] (K ++ [63]) rfl rfl rfl rfl hcc _) rfl ?_)
            refine (KF.out (K ++ [63]) R hc63 hRl _).mono ?_
            rintro e w7 ⟨⟨b, rfl, hb⟩, hbb⟩
            replace hB := hB.trans (hbb.mono hB.size)
            obtain rfl : b = true := bool_t (hb.trans (HFO () R)) (HP1 ())
            clear hb hbb
            go_wp2_with (first | refine wpList_exec (exec_catg _ _ K [42] (K ++ [42]) rfl rfl rfl rfl hcc _) rfl ?_ | refine wpList_exec (exec_catg _ _ K [43] (K ++ [43]) rfl rfl rfl rfl hcc _) rfl ?_ | refine wpList_exec (exec_catg _ _ K [63] (K ++ [63]) rfl rfl rfl rfl hcc _) rfl ?_)
            rw [← HTS ()]
            refine (KF.out (K ++ [42]) S hc42 hSl _).mono ?_
            rintro e w8 ⟨⟨b, rfl, hb⟩, hbb⟩
            replace hB := hB.trans (hbb.mono hB.size)
            obtain rfl : lk = b := (bool_of (hb.trans ((HFS () S).trans (HLK ())))).symm
            clear hb hbb
            rw [HTS ()]
            go_wp2_with (first | refine wpList_exec (exec_catg _ _ K [42] (K ++ [42]) rfl rfl rfl rfl hcc _) rfl ?_ | refine wpList_exec (exec_catg _ _ K [43] (K ++ [43]) rfl rfl rfl rfl hcc _) rfl ?_ | refine wpList_exec (exec_catg _ _ K [63] (K ++ [63]) rfl rfl rfl rfl hcc _) rfl ?_)
            rw [← HTS ()]
            refine (KF.out (K ++ [43]) S hc43 hSl _).mono ?_
            rintro e w9 ⟨⟨b, rfl, hb⟩, hbb⟩
            replace hB := hB.trans (hbb.mono hB.size)
            obtain rfl : b = (lk && !S.isEmpty) := bool_of (hb.trans ((HFP () S).trans (HLP ())))
            clear hb hbb
            rw [HTS ()]
            clear KF HFS HFP HFO HP0 HP1 HLK HLP HTS HI
            cases lk <;> cases hSe : S.isEmpty <;> rw [hSe] at hnil <;> (go_wp2_with fail; go_ret; first | exact ⟨rfl, hB⟩ | exact ⟨by (simp; omega), hB⟩)
theorem bounds_u8 {n : Int} (h : (Lit.int .u8 n).wf = true) : 0 ≤ n ∧ n ≤ 255 := by
  simp only [Lit.wf, Bool.and_eq_true, decide_eq_true_eq] at h
  have h1 : IntKind.u8.min = 0 := by decide
  have h2 : IntKind.u8.max = 255 := by decide
  omega
theorem times_at (n0 n : Int) (h : 0 ≤ n0 ∧ n0 ≤ 255) (s : Bs) (w : World) (hs : s.length ≤ 9223372036854775807) :
    Calls Try.prog 7 #[.int .u8 n0, .int .i64 n, .string ⟨s.toArray⟩] w fun e w' => e = .returned (.bool true) ∧ Below w.heap.size w w' := by
  have k := times_any (UInt8.ofNat n0.toNat) n s w hs
  have e : ((UInt8.ofNat n0.toNat).toNat : Int) = n0 := by simp; omega
  rw [e] at k
  exact k
end Go.Proofs.Ytakkcofmbafneaa
