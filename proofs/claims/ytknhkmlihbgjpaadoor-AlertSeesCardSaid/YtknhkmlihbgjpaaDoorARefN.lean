/- The document's names, and which text is ahead: the walks. -/
import Derived.Test.YtknhkmlihbgjpaaDoorAOwn
import Derived.Test.YtknhkmlihbgjpaaDoorMName
import Derived.Test.YtknhkmlihbgjpaaDoorClass
namespace Go.Proofs.YtknhkmlihbgjpaaDoor
open Go.ChangeShapes Go.WideShapes Go.RowKit

theorem drop_at {s : Bs} {k : Nat} {c : UInt8} (h : s[k]? = some c) : s.drop k = c :: s.drop (k + 1) := by
  obtain ⟨h1, h2⟩ := List.getElem?_eq_some_iff.1 h
  rw [← h2]
  exact List.drop_eq_getElem_cons h1
theorem wrap_next (k : Nat) (h : k ≤ 1000000) : IntKind.i64.wrap ((k : Int) + 1) = ((k + 1 : Nat) : Int) := by
  simp only [IntKind.wrap, IntKind.signed, IntKind.bits]; simp; omega
/-- What the document asks of a byte of a name. -/
def oky (k n : Nat) : Bool := letN n || decide (n = 95) || (digN n && decide (0 < k))
theorem oky_eq (k n : Nat) (h : 0 < k ∨ digN n = false) : oky k n = okN n := by
  unfold oky okN
  rcases h with h | h
  · rw [decide_eq_true h]; cases letN n <;> cases digN n <;> cases decide (n = 95) <;> rfl
  · rw [h]; cases letN n <;> cases decide (n = 95) <;> rfl
theorem oky_no {l : Bs} {k : Nat} {c : UInt8} (hk : l[k]? = some c) (h : oky k c.toNat = false) : nameB l = false := by
  by_cases hd : 0 < k ∨ digN c.toNat = false
  · exact name_none hk (by rw [← oky_eq k _ hd]; exact h)
  · have e : k = 0 := by omega
    subst e
    refine name_digit hk ?_
    cases hq : digN c.toNat with
    | true => rfl
    | false => exact absurd (.inr hq) hd
theorem oky_yes {l : Bs} (h : ∀ k c, l[k]? = some c → oky k c.toNat = true) : nameB l = decide (1 ≤ l.length ∧ l.length ≤ 12) := by
  have ha : l.all (fun c => okN c.toNat) = true := by
    rw [List.all_eq_true]
    intro c hc
    obtain ⟨k, hk, rfl⟩ := List.mem_iff_getElem.1 hc
    have h1 := h k _ (List.getElem?_eq_getElem hk)
    unfold oky at h1
    unfold okN
    revert h1
    cases letN (l[k]).toNat <;> cases digN (l[k]).toNat <;> cases decide ((l[k]).toNat = 95) <;> simp
  have h0 : l ≠ [] → digN (l.headD 0).toNat = false := fun hne => by
    cases l with
    | nil => exact absurd rfl hne
    | cons c l =>
      have h1 := h 0 c rfl
      unfold oky at h1
      simp only [Nat.lt_irrefl, decide_false, Bool.and_false, Bool.or_false] at h1
      show digN c.toNat = false
      unfold letN at h1
      unfold digN
      simp at h1 ⊢
      omega
  unfold nameB
  rw [ha, Bool.and_true]
  by_cases hne : l = []
  · subst hne; rfl
  · rw [h0 hne]; simp
set_option maxHeartbeats 6400000 in
set_option maxRecDepth 100000 in
theorem rname_any (l : Bs) (w : World) (hl : l.length ≤ 9223372036854775807) : Calls Tryd.prog 45 #[.string ⟨l.toArray⟩] w fun e w' => e = .returned (.bool (nameB l)) ∧ w' = w := by
  have hsz : (⟨l.toArray⟩ : ByteArray).size = l.length := by simp [ByteArray.size]
  obtain ⟨n, hn⟩ : ∃ n, l.length = n := ⟨_, rfl⟩
  rw [hn] at hl hsz
  obtain ⟨t, ht⟩ : ∃ t : ByteArray, t = ⟨l.toArray⟩ := ⟨_, rfl⟩
  have hix : Unit → ∀ (k : Nat) (c : UInt8), l[k]? = some c → ∀ w, (Instr.index 9 (.string t) (.int .i64 (k : Int))).run Tryd.prog w = .ok (.int .u8 (c.toNat : Int)) w := fun _ k c hc w => by rw [ht]; exact at_text l k c hc _ rfl w
  rw [← ht] at hsz ⊢
  clear ht
  have HN : Unit → l.length = n := fun _ => hn
  clear hn
  have hni : (n : Int) ≤ 9223372036854775807 := by omega
  obtain ⟨o, ho⟩ : ∃ o, nameB l = o := ⟨_, rfl⟩
  rw [ho]
  have HO : Unit → nameB l = o := fun _ => ho
  clear ho
  go_enter Tryd.func45, Tryd.ntmps45
  go_upto_region 2 with fail
  go_loopw [3] (fun u wr => ∃ k : Nat, k ≤ n ∧ u = .int .i64 (k : Int) ∧ w = wr ∧ ∀ j c, j < k → l[j]? = some c → oky j c.toNat = true) (fun u _ => n - (intOf u).toNat)
  case atStart => exact ⟨0, by omega, rfl, rfl, fun j c hj => by omega⟩
  case round =>
    obtain ⟨k, hk, rfl, rfl, hall⟩ := hrel
    have HA : Unit → ∀ j c, j < k → l[j]? = some c → oky j c.toNat = true := fun _ => hall
    clear hall
    by_cases hlt : k < n
    · have hki : (k : Int) < (n : Int) := by omega
      obtain ⟨c, hc⟩ : ∃ c, l[k]? = some c := ⟨_, List.getElem?_eq_getElem (by have := HN (); omega)⟩
      have hx := hix () k c hc
      have HB : Unit → oky k c.toNat = true → ∀ j d, j < k + 1 → l[j]? = some d → oky j d.toNat = true := fun _ h j d hj hd => by
        by_cases e : j = k
        · subst e; rw [hc] at hd; injection hd with hd; subst hd; exact h
        · exact HA () j d (by omega) hd
      have HF : Unit → oky k c.toNat = false → o = false := fun _ h => (HO ()).symm.trans (oky_no hc h)
      obtain ⟨b, hb⟩ : ∃ b : Int, (c.toNat : Int) = b := ⟨_, rfl⟩
      rw [hb] at hx
      have HC : Unit → (c.toNat : Int) = b := fun _ => hb
      clear hb
      by_cases c1 : 97 ≤ b
      · by_cases c2 : b ≤ 122
        · have hok : oky k c.toNat = true := by have := HC (); unfold oky letN; rw [decide_eq_true (by omega)]; rfl
          clear HF HC
          go_wp2_with fail
          go_roundw
          case rel => exact ⟨k + 1, by omega, by simp, trivial, HB () hok⟩
          case measure => simp [intOf]; omega
        · have hok : oky k c.toNat = false := by have := HC (); unfold oky letN digN; rw [decide_eq_false (by omega), decide_eq_false (by omega), decide_eq_false (by omega)]; rfl
          obtain rfl := HF () hok
          have e95 : (b != 95) = true := by rw [bne_iff_ne]; omega
          have c48 : 48 ≤ b := by omega
          have c57 : ¬ b ≤ 57 := by omega
          clear HB HC HF
          go_wp2_with fail
          go_ret
          exact ⟨rfl, rfl⟩
      · by_cases c3 : b = 95
        · subst c3
          have hok : oky k c.toNat = true := by have h := HC (); unfold oky; rw [decide_eq_true (p := c.toNat = 95) (by omega)]; cases letN c.toNat <;> rfl
          clear HF HC
          go_wp2_with fail
          go_roundw
          case rel => exact ⟨k + 1, by omega, by simp, trivial, HB () hok⟩
          case measure => simp [intOf]; omega
        · have e95 : (b != 95) = true := by rw [bne_iff_ne]; exact c3
          by_cases c4 : 48 ≤ b
          · by_cases c5 : b ≤ 57
            · by_cases c6 : 0 < k
              · have hok : oky k c.toNat = true := by have := HC (); unfold oky digN; rw [decide_eq_true (p := 48 ≤ c.toNat ∧ c.toNat ≤ 57) (by omega), decide_eq_true (p := 0 < k) c6]; simp
                have c6i : 0 < (k : Int) := by omega
                clear HF HC
                go_wp2_with fail
                go_roundw
                case rel => exact ⟨k + 1, by omega, by simp, trivial, HB () hok⟩
                case measure => simp [intOf]; omega
              · have hok : oky k c.toNat = false := by have := HC (); unfold oky letN; rw [decide_eq_false (by omega), decide_eq_false (by omega), decide_eq_false (p := 0 < k) c6]; simp
                obtain rfl := HF () hok
                have c6i : ¬ 0 < (k : Int) := by omega
                clear HB HC HF
                go_wp2_with fail
                go_ret
                exact ⟨rfl, rfl⟩
            · have hok : oky k c.toNat = false := by have := HC (); unfold oky letN digN; rw [decide_eq_false (by omega), decide_eq_false (by omega), decide_eq_false (by omega)]; rfl
              obtain rfl := HF () hok
              clear HB HC HF
              go_wp2_with fail
              go_ret
              exact ⟨rfl, rfl⟩
          · have hok : oky k c.toNat = false := by have := HC (); unfold oky letN digN; rw [decide_eq_false (by omega), decide_eq_false (by omega), decide_eq_false (by omega)]; rfl
            obtain rfl := HF () hok
            clear HB HC HF
            go_wp2_with fail
            go_ret
            exact ⟨rfl, rfl⟩
    · obtain rfl : n = k := by omega
      have hd := oky_yes (l := l) (fun j c hc => HA () j c (by have := HN (); have := (List.getElem?_eq_some_iff.1 hc).1; omega) hc)
      rw [HN ()] at hd
      have hd2 := (HO ()).symm.trans hd
      clear hd HO HA
      by_cases d1 : 1 ≤ n
      · have d1i : 1 ≤ (n : Int) := by omega
        by_cases d2 : n ≤ 12
        · have d2i : (n : Int) ≤ 12 := by omega
          rw [decide_eq_true ⟨d1, d2⟩] at hd2
          subst hd2
          go_wp2_with fail
          go_ret
          exact ⟨rfl, rfl⟩
        · have d2i : ¬ (n : Int) ≤ 12 := by omega
          rw [decide_eq_false (by omega)] at hd2
          subst hd2
          go_wp2_with fail
          go_ret
          exact ⟨rfl, rfl⟩
      · have d1i : ¬ 1 ≤ (n : Int) := by omega
        rw [decide_eq_false (by omega)] at hd2
        subst hd2
        go_wp2_with fail
        go_ret
        exact ⟨rfl, rfl⟩
/-- Is a text ahead of another one? -/
def aheadB : Bs → Bs → Bool
  | [], [] => false
  | [], _ :: _ => true
  | _ :: _, [] => false
  | c :: a, d :: b => if c = d then aheadB a b else decide (c.toNat < d.toNat)
theorem ahead_at {a b : Bs} {k : Nat} {c d : UInt8} (hc : a[k]? = some c) (hd : b[k]? = some d) : aheadB (a.drop k) (b.drop k) = if c = d then aheadB (a.drop (k + 1)) (b.drop (k + 1)) else decide (c.toNat < d.toNat) := by
  rw [drop_at hc, drop_at hd, aheadB]
theorem ahead_end {a b : Bs} {k : Nat} (h : ¬ (k < a.length ∧ k < b.length)) (hk : k ≤ a.length) (hk2 : k ≤ b.length) : aheadB (a.drop k) (b.drop k) = decide (a.length < b.length) := by
  by_cases h1 : k < a.length
  · have h2 : b.length = k := by omega
    rw [(List.drop_eq_nil_of_le (by omega) : b.drop k = []), List.drop_eq_getElem_cons h1, aheadB, decide_eq_false (by omega)]
  · rw [(List.drop_eq_nil_of_le (by omega) : a.drop k = [])]
    by_cases h2 : k < b.length
    · rw [List.drop_eq_getElem_cons h2, aheadB, decide_eq_true (by omega)]
    · rw [(List.drop_eq_nil_of_le (by omega) : b.drop k = []), aheadB, decide_eq_false (by omega)]
set_option maxHeartbeats 6400000 in
set_option maxRecDepth 100000 in
theorem ahead_any (a b : Bs) (w : World) (ha : a.length ≤ 9223372036854775807) (hb : b.length ≤ 9223372036854775807) : Calls Tryd.prog 69 #[.string ⟨a.toArray⟩, .string ⟨b.toArray⟩] w fun e w' => e = .returned (.bool (aheadB a b)) ∧ Below w.heap.size w w' := by
  have hsa : ((⟨a.toArray⟩ : ByteArray).size : Int) = (a.length : Int) := by simp [ByteArray.size]
  have hsb : ((⟨b.toArray⟩ : ByteArray).size : Int) = (b.length : Int) := by simp [ByteArray.size]
  have hia := fun (k : Nat) c (h : a[k]? = some c) w => at_text a k c h (k : Int) rfl w
  have hib := fun (k : Nat) c (h : b[k]? = some c) w => at_text b k c h (k : Int) rfl w
  obtain ⟨O, hO⟩ : ∃ O, aheadB a b = O := ⟨_, rfl⟩
  have HO : Unit → aheadB a b = O := fun _ => hO
  rw [hO]
  clear hO
  obtain ⟨TA, hTA⟩ : ∃ T, (⟨a.toArray⟩ : ByteArray) = T := ⟨_, rfl⟩
  obtain ⟨TB, hTB⟩ : ∃ T, (⟨b.toArray⟩ : ByteArray) = T := ⟨_, rfl⟩
  rw [hTA] at hsa hia ⊢
  rw [hTB] at hsb hib ⊢
  clear hTA hTB
  have HIA : Unit → ∀ (k : Nat) c, a[k]? = some c → ∀ w, (Instr.index 9 (.string TA) (.int .i64 (k : Int))).run Tryd.prog w = .ok (.int .u8 (c.toNat : Int)) w := fun _ k c h w => hia k c h w
  have HIB : Unit → ∀ (k : Nat) c, b[k]? = some c → ∀ w, (Instr.index 9 (.string TB) (.int .i64 (k : Int))).run Tryd.prog w = .ok (.int .u8 (c.toNat : Int)) w := fun _ k c h w => hib k c h w
  clear hia hib
  obtain ⟨n, hn⟩ : ∃ n, a.length = n := ⟨_, rfl⟩
  obtain ⟨m, hm⟩ : ∃ m, b.length = m := ⟨_, rfl⟩
  rw [hn] at hsa ha
  rw [hm] at hsb hb
  have HN : Unit → a.length = n := fun _ => hn
  have HM : Unit → b.length = m := fun _ => hm
  clear hn hm
  have hai : (n : Int) ≤ 9223372036854775807 := by omega
  have hbi : (m : Int) ≤ 9223372036854775807 := by omega
  go_enter Tryd.func69, Tryd.ntmps69
  go_upto_region 2 with fail
  go_loopw [5] (fun iv wr => ∃ k : Nat, k ≤ n ∧ k ≤ m ∧ iv = .int .i64 (k : Int) ∧ aheadB a b = aheadB (a.drop k) (b.drop k) ∧ Below w.heap.size w wr) (fun iv _ => n - (intOf iv).toNat)
  case atStart => exact ⟨0, Nat.zero_le _, Nat.zero_le _, rfl, by rw [List.drop_zero, List.drop_zero], Below.refl _ _⟩
  case round =>
    obtain ⟨k, hk, hk2, rfl, hV, hB⟩ := hrel
    have HV : Unit → aheadB a b = aheadB (a.drop k) (b.drop k) := fun _ => hV
    clear hV
    by_cases hgo : k < n ∧ k < m
    · obtain ⟨h1, h2⟩ := hgo
      have h1i : (k : Int) < (n : Int) := by omega
      have h2i : (k : Int) < (m : Int) := by omega
      obtain ⟨c, hc⟩ : ∃ c, a[k]? = some c := ⟨_, List.getElem?_eq_getElem (by have := HN (); omega)⟩
      obtain ⟨d, hd⟩ : ∃ d, b[k]? = some d := ⟨_, List.getElem?_eq_getElem (by have := HM (); omega)⟩
      have i1 := HIA () k c hc
      have i2 := HIB () k d hd
      have hat := ahead_at hc hd
      by_cases hcd : c = d
      · rw [if_pos hcd] at hat
        have HV2 : Unit → aheadB a b = aheadB (a.drop (k + 1)) (b.drop (k + 1)) := fun _ => (HV ()).trans hat
        subst hcd
        have hnn : ((c.toNat : Int) != (c.toNat : Int)) = false := by simp
        clear hat
        go_upto_region 4 with fail
        try simp only [List.append_eq, List.cons_append, List.nil_append]
        refine region_class (fun w' => Below wr.heap.size wr w') (by kernel_rfl) (by kernel_rfl) ((Below.refl _ _).drew) ?_
        repeat
          first
          | go_big_quiet_skip
          | (go_big_quiet_want
             refine quiet_val ?_
             apply Exists.intro
             refine ⟨fun w' hw' => ?_, ?_⟩
             · obtain _ := hw'
               go_simp
               first | done | rfl | exact ⟨rfl, rfl⟩
             simp only [Act.put, List.setIfInBounds_toArray, List.set_cons_zero, List.set_cons_succ]
             go_big_quiet_on)
          | (go_big_quiet_want
             refine quiet_call ?_
             apply Exists.intro
             apply Exists.intro
             refine ⟨fun w' => ?_, ?_⟩
             · go_simp
               first | done | rfl | exact ⟨rfl, rfl⟩
             apply Exists.intro
             refine ⟨fun w' hw' => ?_, ?_⟩
             · first
               | fail
             simp only [Act.put, List.setIfInBounds_toArray, List.set_cons_zero, List.set_cons_succ]
             go_big_quiet_on)
        refine wpQuiet_nil ?_
        intro w5 hw5
        replace hB := hB.trans (hw5.mono hB.size)
        clear hw5
        go_wp2_with fail
        go_roundw
        case rel => exact ⟨k + 1, by omega, by omega, by go_num, HV2 (), hB⟩
        case measure => simp [intOf]; omega
      · rw [if_neg hcd] at hat
        have e : O = decide (c.toNat < d.toNat) := by rw [← HO (), HV (), hat]
        have hnn : ((c.toNat : Int) != (d.toNat : Int)) = true := by
          rw [bne_iff_ne]
          exact fun h => hcd (UInt8.toNat_inj.1 (by omega))
        subst e
        clear hat hcd
        go_upto_region 4 with fail
        try simp only [List.append_eq, List.cons_append, List.nil_append]
        refine region_class (fun w' => Below wr.heap.size wr w') (by kernel_rfl) (by kernel_rfl) ((Below.refl _ _).drew) ?_
        repeat
          first
          | go_big_quiet_skip
          | (go_big_quiet_want
             refine quiet_val ?_
             apply Exists.intro
             refine ⟨fun w' hw' => ?_, ?_⟩
             · obtain _ := hw'
               go_simp
               first | done | rfl | exact ⟨rfl, rfl⟩
             simp only [Act.put, List.setIfInBounds_toArray, List.set_cons_zero, List.set_cons_succ]
             go_big_quiet_on)
          | (go_big_quiet_want
             refine quiet_call ?_
             apply Exists.intro
             apply Exists.intro
             refine ⟨fun w' => ?_, ?_⟩
             · go_simp
               first | done | rfl | exact ⟨rfl, rfl⟩
             apply Exists.intro
             refine ⟨fun w' hw' => ?_, ?_⟩
             · first
               | fail
             simp only [Act.put, List.setIfInBounds_toArray, List.set_cons_zero, List.set_cons_succ]
             go_big_quiet_on)
        refine wpQuiet_nil ?_
        intro w5 hw5
        go_upto_region 5 with fail
        try simp only [List.append_eq, List.cons_append, List.nil_append]
        refine region_class (fun w' => Below wr.heap.size wr w') (by kernel_rfl) (by kernel_rfl) (Below.drew hw5) ?_
        repeat
          first
          | go_big_quiet_skip
          | (go_big_quiet_want
             refine quiet_val ?_
             apply Exists.intro
             refine ⟨fun w' hw' => ?_, ?_⟩
             · obtain _ := hw'
               go_simp
               first | done | rfl | exact ⟨rfl, rfl⟩
             simp only [Act.put, List.setIfInBounds_toArray, List.set_cons_zero, List.set_cons_succ]
             go_big_quiet_on)
          | (go_big_quiet_want
             refine quiet_call ?_
             apply Exists.intro
             apply Exists.intro
             refine ⟨fun w' => ?_, ?_⟩
             · go_simp
               first | done | rfl | exact ⟨rfl, rfl⟩
             apply Exists.intro
             refine ⟨fun w' hw' => ?_, ?_⟩
             · first
               | fail
             simp only [Act.put, List.setIfInBounds_toArray, List.set_cons_zero, List.set_cons_succ]
             go_big_quiet_on)
        refine wpQuiet_nil ?_
        intro w5 hw5
        go_wp2_with fail
        go_ret
        exact ⟨rfl, hB.trans (Below.mono ‹_› hB.size)⟩
    · have e : O = decide (n < m) := by
        rw [← HO (), HV (), ahead_end (a := a) (b := b) (k := k) (by have := HN (); have := HM (); omega) (by have := HN (); omega) (by have := HM (); omega), HN (), HM ()]
      subst e
      by_cases h1 : k < n
      · have h1i : (k : Int) < (n : Int) := by omega
        have h2i : ¬ (k : Int) < (m : Int) := by omega
        clear hgo
        go_wp2_with fail
        go_ret
        exact ⟨rfl, hB⟩
      · have h1i : ¬ (k : Int) < (n : Int) := by omega
        clear hgo
        go_wp2_with fail
        go_ret
        exact ⟨rfl, hB⟩
end Go.Proofs.YtknhkmlihbgjpaaDoor
