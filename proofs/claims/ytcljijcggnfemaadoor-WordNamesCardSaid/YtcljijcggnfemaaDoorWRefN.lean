/- The document's names: the walks of its Name and its Names. -/
import Derived.Test.YtcljijcggnfemaaDoorWListsP
import Derived.Test.YtcljijcggnfemaaDoorWRefW
namespace Go.Proofs.YtcljijcggnfemaaDoor
open Go.ChangeShapes Go.WideShapes Go.RowKit

/-- What the document asks of a byte of a name. -/
def okA (k n : Nat) : Bool := letN n || decide (n = 95) || (digN n && decide (0 < k))
theorem okA_eq (k n : Nat) (h : 0 < k ∨ digN n = false) : okA k n = okN n := by
  unfold okA okN
  rcases h with h | h
  · rw [decide_eq_true h]; cases letN n <;> cases digN n <;> cases decide (n = 95) <;> rfl
  · rw [h]; cases letN n <;> cases decide (n = 95) <;> rfl
theorem okA_no {l : Bs} {k : Nat} {c : UInt8} (hk : l[k]? = some c) (h : okA k c.toNat = false) : nameB l = false := by
  by_cases hd : 0 < k ∨ digN c.toNat = false
  · exact name_none hk (by rw [← okA_eq k _ hd]; exact h)
  · have e : k = 0 := by omega
    subst e
    refine name_digit hk ?_
    cases hq : digN c.toNat with
    | true => rfl
    | false => exact absurd (.inr hq) hd
theorem okA_yes {l : Bs} (h : ∀ k c, l[k]? = some c → okA k c.toNat = true) : nameB l = decide (1 ≤ l.length ∧ l.length ≤ 12) := by
  have ha : l.all (fun c => okN c.toNat) = true := by
    rw [List.all_eq_true]
    intro c hc
    obtain ⟨k, hk, rfl⟩ := List.mem_iff_getElem.1 hc
    have h1 := h k _ (List.getElem?_eq_getElem hk)
    unfold okA at h1
    unfold okN
    revert h1
    cases letN (l[k]).toNat <;> cases digN (l[k]).toNat <;> cases decide ((l[k]).toNat = 95) <;> simp
  have h0 : l ≠ [] → digN (l.headD 0).toNat = false := fun hne => by
    cases l with
    | nil => exact absurd rfl hne
    | cons c l =>
      have h1 := h 0 c rfl
      unfold okA at h1
      simp only [Nat.lt_irrefl, decide_false, Bool.and_false, Bool.or_false] at h1
      show digN c.toNat = false
      unfold letN at h1
      unfold digN
      simp at h1 ⊢
      omega
  unfold nameB
  rw [ha, Bool.and_true]
  by_cases hne : l = []
  · subst hne; rfl
  · rw [h0 hne]; simp
set_option maxHeartbeats 6400000 in
set_option maxRecDepth 100000 in
theorem rname_any (l : Bs) (w : World) (hl : l.length ≤ 1000000) : Calls Tryd.prog 21 #[.string ⟨l.toArray⟩] w fun e w' => e = .returned (.bool (nameB l)) ∧ w' = w := by
  have hsz : (⟨l.toArray⟩ : ByteArray).size = l.length := by simp [ByteArray.size]
  obtain ⟨n, hn⟩ : ∃ n, l.length = n := ⟨_, rfl⟩
  rw [hn] at hl hsz
  obtain ⟨t, ht⟩ : ∃ t : ByteArray, t = ⟨l.toArray⟩ := ⟨_, rfl⟩
  have hix : Unit → ∀ (k : Nat) (c : UInt8), l[k]? = some c → ∀ w, (Instr.index 9 (.string t) (.int .i64 (k : Int))).run Tryd.prog w = .ok (.int .u8 (c.toNat : Int)) w := fun _ k c hc w => by rw [ht]; exact at_text l k c hc _ rfl w
  rw [← ht] at hsz ⊢
  clear ht
  have HN : Unit → l.length = n := fun _ => hn
  clear hn
  have hni : (n : Int) ≤ 1000000 := by omega
  obtain ⟨o, ho⟩ : ∃ o, nameB l = o := ⟨_, rfl⟩
  rw [ho]
  have HO : Unit → nameB l = o := fun _ => ho
  clear ho
  go_enter Tryd.func21, Tryd.ntmps21
  go_upto_region 2 with fail
  go_loopw [3] (fun u wr => ∃ k : Nat, k ≤ n ∧ u = .int .i64 (k : Int) ∧ w = wr ∧ ∀ j c, j < k → l[j]? = some c → okA j c.toNat = true) (fun u _ => n - (intOf u).toNat)
  case atStart => exact ⟨0, by omega, rfl, rfl, fun j c hj => by omega⟩
  case round =>
    obtain ⟨k, hk, rfl, rfl, hall⟩ := hrel
    have HA : Unit → ∀ j c, j < k → l[j]? = some c → okA j c.toNat = true := fun _ => hall
    clear hall
    by_cases hlt : k < n
    · have hki : (k : Int) < (n : Int) := by omega
      obtain ⟨c, hc⟩ : ∃ c, l[k]? = some c := ⟨_, List.getElem?_eq_getElem (by have := HN (); omega)⟩
      have hx := hix () k c hc
      have HB : Unit → okA k c.toNat = true → ∀ j d, j < k + 1 → l[j]? = some d → okA j d.toNat = true := fun _ h j d hj hd => by
        by_cases e : j = k
        · subst e; rw [hc] at hd; injection hd with hd; subst hd; exact h
        · exact HA () j d (by omega) hd
      have HF : Unit → okA k c.toNat = false → o = false := fun _ h => (HO ()).symm.trans (okA_no hc h)
      obtain ⟨b, hb⟩ : ∃ b : Int, (c.toNat : Int) = b := ⟨_, rfl⟩
      rw [hb] at hx
      have HC : Unit → (c.toNat : Int) = b := fun _ => hb
      clear hb
      by_cases c1 : 97 ≤ b
      · by_cases c2 : b ≤ 122
        · have hok : okA k c.toNat = true := by have := HC (); unfold okA letN; rw [decide_eq_true (by omega)]; rfl
          clear HF HC
          go_wp2_with fail
          go_roundw
          case rel => exact ⟨k + 1, by omega, by simp, trivial, HB () hok⟩
          case measure => simp [intOf]; omega
        · have hok : okA k c.toNat = false := by have := HC (); unfold okA letN digN; rw [decide_eq_false (by omega), decide_eq_false (by omega), decide_eq_false (by omega)]; rfl
          obtain rfl := HF () hok
          have e95 : (b != 95) = true := by rw [bne_iff_ne]; omega
          have c48 : 48 ≤ b := by omega
          have c57 : ¬ b ≤ 57 := by omega
          clear HB HC HF
          go_wp2_with fail
          go_ret
          exact ⟨rfl, rfl⟩
      · by_cases c3 : b = 95
        · subst c3
          have hok : okA k c.toNat = true := by have h := HC (); unfold okA; rw [decide_eq_true (p := c.toNat = 95) (by omega)]; cases letN c.toNat <;> rfl
          clear HF HC
          go_wp2_with fail
          go_roundw
          case rel => exact ⟨k + 1, by omega, by simp, trivial, HB () hok⟩
          case measure => simp [intOf]; omega
        · have e95 : (b != 95) = true := by rw [bne_iff_ne]; exact c3
          by_cases c4 : 48 ≤ b
          · by_cases c5 : b ≤ 57
            · by_cases c6 : 0 < k
              · have hok : okA k c.toNat = true := by have := HC (); unfold okA digN; rw [decide_eq_true (p := 48 ≤ c.toNat ∧ c.toNat ≤ 57) (by omega), decide_eq_true (p := 0 < k) c6]; simp
                have c6i : 0 < (k : Int) := by omega
                clear HF HC
                go_wp2_with fail
                go_roundw
                case rel => exact ⟨k + 1, by omega, by simp, trivial, HB () hok⟩
                case measure => simp [intOf]; omega
              · have hok : okA k c.toNat = false := by have := HC (); unfold okA letN; rw [decide_eq_false (by omega), decide_eq_false (by omega), decide_eq_false (p := 0 < k) c6]; simp
                obtain rfl := HF () hok
                have c6i : ¬ 0 < (k : Int) := by omega
                clear HB HC HF
                go_wp2_with fail
                go_ret
                exact ⟨rfl, rfl⟩
            · have hok : okA k c.toNat = false := by have := HC (); unfold okA letN digN; rw [decide_eq_false (by omega), decide_eq_false (by omega), decide_eq_false (by omega)]; rfl
              obtain rfl := HF () hok
              clear HB HC HF
              go_wp2_with fail
              go_ret
              exact ⟨rfl, rfl⟩
          · have hok : okA k c.toNat = false := by have := HC (); unfold okA letN digN; rw [decide_eq_false (by omega), decide_eq_false (by omega), decide_eq_false (by omega)]; rfl
            obtain rfl := HF () hok
            clear HB HC HF
            go_wp2_with fail
            go_ret
            exact ⟨rfl, rfl⟩
    · obtain rfl : n = k := by omega
      have hd := okA_yes (l := l) (fun j c hc => HA () j c (by have := HN (); have := (List.getElem?_eq_some_iff.1 hc).1; omega) hc)
      rw [HN ()] at hd
      have hd2 := (HO ()).symm.trans hd
      clear hd HO HA
      by_cases d1 : 1 ≤ n
      · have d1i : 1 ≤ (n : Int) := by omega
        by_cases d2 : n ≤ 12
        · have d2i : (n : Int) ≤ 12 := by omega
          rw [decide_eq_true ⟨d1, d2⟩] at hd2
          subst hd2
          go_wp2_with fail
          go_ret
          exact ⟨rfl, rfl⟩
        · have d2i : ¬ (n : Int) ≤ 12 := by omega
          rw [decide_eq_false (by omega)] at hd2
          subst hd2
          go_wp2_with fail
          go_ret
          exact ⟨rfl, rfl⟩
      · have d1i : ¬ 1 ≤ (n : Int) := by omega
        rw [decide_eq_false (by omega)] at hd2
        subst hd2
        go_wp2_with fail
        go_ret
        exact ⟨rfl, rfl⟩
theorem contains_snoc2 (l : List Bs) (x y : Bs) : (l ++ [y]).contains x = (l.contains x || (y == x)) := by
  by_cases e : y = x
  · subst e; simp
  · have e1 : (y == x) = false := by rw [beq_eq_false_iff_ne]; exact e
    rw [e1]
    simp [Ne.symm e]
/-- How far the names are read: at byte i, the name under way from byte f. -/
def NR (l : Bs) (f i : Nat) (ns : List Bs) : Prop := (i ≤ l.length ∧ f ≤ i ∧ sepL 44 l = ns ++ sepL 44 (l.drop f) ∧ (∀ j, f ≤ j → j < i → l[j]? ≠ some 44)) ∨ (i = l.length + 1 ∧ sepL 44 l = ns)
theorem NR.start (l : Bs) : NR l 0 0 [] := .inl ⟨Nat.zero_le _, Nat.le_refl _, rfl, fun j h1 h2 => by omega⟩
theorem NR.on {l : Bs} {f i : Nat} {ns : List Bs} {c : UInt8} (h : NR l f i ns) (hk : l[i]? = some c) (hc : c ≠ 44) : NR l f (i + 1) ns := by
  have hlt := (List.getElem?_eq_some_iff.1 hk).1
  rcases h with ⟨h1, h2, h3, h4⟩ | ⟨h1, _⟩
  · refine .inl ⟨by omega, by omega, h3, fun j hj1 hj2 => ?_⟩
    by_cases e : j = i
    · subst e; rw [hk]; intro e; injection e with e; exact hc e
    · exact h4 j hj1 (by omega)
  · omega
theorem no44 {l : Bs} {f i : Nat} (h : ∀ j, f ≤ j → j < i → l[j]? ≠ some 44) (hi : i ≤ l.length) : ∀ c ∈ (l.take i).drop f, c ≠ 44 := by
  intro c hc e
  subst e
  obtain ⟨j, hj, he⟩ := List.mem_iff_getElem.1 hc
  rw [List.length_drop, List.length_take] at hj
  refine h (f + j) (by omega) (by omega) ?_
  rw [List.getElem_drop, List.getElem_take] at he
  rw [← he]
  exact List.getElem?_eq_getElem (by omega)
theorem NR.name {l : Bs} {f i : Nat} {ns : List Bs} (h : NR l f i ns) (hi : i ≤ l.length) (hk : i = l.length ∨ l[i]? = some 44) : f ≤ i ∧ NR l (i + 1) (i + 1) (ns ++ [(l.take i).drop f]) ∧ (sepL 44 l)[ns.length]? = some ((l.take i).drop f) ∧ (sepL 44 l).take ns.length = ns := by
  rcases h with ⟨h1, h2, h3, h4⟩ | ⟨h1, _⟩
  · have hseg : l.drop f = (l.take i).drop f ++ l.drop i := by
      have h : l.drop f = (l.take i ++ l.drop i).drop f := by rw [List.take_append_drop]
      rw [h, List.drop_append_of_le_length (by rw [List.length_take]; omega)]
    have hp := sep_plain _ (no44 h4 hi)
    rcases hk with rfl | hk
    · rw [List.drop_length, List.append_nil] at hseg
      rw [hseg, hp] at h3
      exact ⟨h2, .inr ⟨rfl, h3⟩, by rw [h3]; simp, by rw [h3, List.take_left]⟩
    · have hlt := (List.getElem?_eq_some_iff.1 hk).1
      have e : l.drop i = 44 :: l.drop (i + 1) := by
        rw [List.drop_eq_getElem_cons hlt]
        congr 1
        exact (List.getElem?_eq_some_iff.1 hk).2
      rw [hseg, e, sep_append, hp] at h3
      refine ⟨h2, .inl ⟨by omega, Nat.le_refl _, ?_, fun j a b => by omega⟩, by rw [h3]; simp, by rw [h3, List.take_left]⟩
      rw [h3]; simp
  · omega
theorem NR.all {l : Bs} {f : Nat} {ns : List Bs} (h : NR l f (l.length + 1) ns) : sepL 44 l = ns := by
  rcases h with ⟨h1, _⟩ | ⟨_, h2⟩
  · omega
  · exact h2
set_option maxHeartbeats 6400000 in
set_option maxRecDepth 100000 in
theorem rnames_any (l : Bs) (w : World) (hl : l.length ≤ 100000) : Calls Tryd.prog 10 #[.string ⟨l.toArray⟩] w (NamesP w (namesN l)) := by
  have hsz : (⟨l.toArray⟩ : ByteArray).size = l.length := by simp [ByteArray.size]
  have hsame : ((⟨l.toArray⟩ : ByteArray).toList == (⟨#[45]⟩ : ByteArray).toList) = (l == [45]) := same_text l [45]
  obtain ⟨o, ho⟩ : ∃ o, namesN l = o := ⟨_, rfl⟩
  rw [ho]
  have HO : Unit → namesN l = o := fun _ => ho
  clear ho
  by_cases h45 : l = [45]
  · subst h45
    obtain rfl := (HO ()).symm.trans rfl
    clear hsame
    go_enter Tryd.func10, Tryd.ntmps10
    go_wp2_with fail
    go_ret2
    exact ⟨⟨_, rfl, .inl ⟨rfl, none, 0, rfl⟩⟩, Below.refl _ _⟩
  · have e45 : (l == [45]) = false := by rw [beq_eq_false_iff_ne]; exact h45
    rw [e45, show (⟨#[45]⟩ : ByteArray).toList = [45] from text_list [45]] at hsame
    obtain ⟨n, hn⟩ : ∃ n, l.length = n := ⟨_, rfl⟩
    rw [hn] at hl hsz
    obtain ⟨t, ht⟩ : ∃ t : ByteArray, t = ⟨l.toArray⟩ := ⟨_, rfl⟩
    have hix : Unit → ∀ (k : Nat) (c : UInt8), l[k]? = some c → ∀ w, (Instr.index 9 (.string t) (.int .i64 (k : Int))).run Tryd.prog w = .ok (.int .u8 (c.toNat : Int)) w := fun _ k c hc w => by rw [ht]; exact at_text l k c hc _ rfl w
    have hct : Unit → ∀ (a b : Nat), b ≤ n → a ≤ b → ∀ w, (Instr.slice 9 (.string t) (some (.int .i64 (a : Int))) (some (.int .i64 (b : Int))) none).run Tryd.prog w = .ok (.string ⟨((l.take b).drop a).toArray⟩) w := fun _ a b h1 h2 w => by rw [ht]; exact cut_part l a b (by omega) h2 w
    rw [← ht] at hsz hsame ⊢
    clear ht
    obtain ⟨i0, hi, hz0, hz1, hz2⟩ := info_parts0 info_str
    have HN : Unit → l.length = n := fun _ => hn
    clear hn
    have hni : (n : Int) ≤ 100000 := by omega
    go_enter Tryd.func10, Tryd.ntmps10
    go_upto_region 6 with fail
    go_loopw [4, 5, 6] (fun u4 u5 u6 wr => ∃ (f i : Nat) (ns : List Bs) (v : Value), i ≤ n + 1 ∧ u4 = v ∧ u5 = .int .i64 (f : Int) ∧ u6 = .int .i64 (i : Int) ∧ NR l f i ns ∧ ns.length ≤ i ∧ (∀ k x, ns[k]? = some x → (ns.take k).contains x = false ∧ nameB x = true) ∧ wr.ownsRow w.heap.size 9 1 v ns.length (ns.map sv) ∧ Below w.heap.size w wr) (fun _ _ u6 _ => n + 1 - (intOf u6).toNat)
    case atStart => exact ⟨0, 0, [], _, by omega, rfl, rfl, rfl, NR.start l, Nat.le_refl _, GoodO.nil, World.ownsRow_nil _ _ _ _, Below.refl _ _⟩
    case round =>
      obtain ⟨f, i, ns, v, hin, rfl, rfl, rfl, hR, hnl, hgo, hown, hB⟩ := hrel
      obtain ⟨av, cv, rfl, _⟩ := own_slice hown
      have HG : Unit → GoodO ns := fun _ => hgo
      clear hgo
      by_cases hlt : i < n
      · have hki : (i : Int) < (n : Int) := by omega
        have hki2 : (i : Int) ≤ (n : Int) := by omega
        obtain ⟨c, hc⟩ : ∃ c, l[i]? = some c := ⟨_, List.getElem?_eq_getElem (by have := HN (); omega)⟩
        have hx := hix () i c hc
        obtain ⟨b, hb⟩ : ∃ b : Int, (c.toNat : Int) = b := ⟨_, rfl⟩
        rw [hb] at hx
        have HC : Unit → (c.toNat : Int) = b := fun _ => hb
        clear hb
        by_cases b44 : b = 44
        · subst b44
          have hc44 : c = 44 := by
            have h1 := HC ()
            have h2 : c.toNat = 44 := by omega
            exact UInt8.toNat_inj.1 (by rw [h2]; rfl)
          subst hc44
          obtain ⟨hfi, hR', hat, htk⟩ := hR.name (by have := HN (); omega) (.inr hc)
          clear HC hR
          have hcf := hct () f i (by omega) hfi
          have hXl : ((l.take i).drop f).length ≤ 100000 := by rw [List.length_drop, List.length_take]; omega
          have HBad : Unit → ns.contains ((l.take i).drop f) = true ∨ nameB ((l.take i).drop f) = false → o = none := fun _ h => (HO ()).symm.trans (names_bad h45 hat (by rw [htk]; exact h))
          clear hat htk
          generalize (l.take i).drop f = X at *
          have KN := Lib.hid (fun w => rname_any X w (by omega))
          obtain ⟨p, hp⟩ : ∃ p, ns.length = p := ⟨_, rfl⟩
          rw [hp] at hown hnl
          rw [hp]
          have HP : Unit → ns.length = p := fun _ => hp
          clear hp
          have hpi : (p : Int) ≤ 100001 := by omega
          have hsO := own_strs (w := wr) (ss := ns) (by rw [HP ()]; exact hown)
          obtain ⟨w1, rfl⟩ : ∃ w1, w1 = wr := ⟨_, rfl⟩
          go_upto_region 11 with fail
          go_loopw [8] (fun u8 w2 => ∃ j : Nat, j ≤ p ∧ u8 = .int .i64 (j : Int) ∧ w1 = w2 ∧ (ns.take j).contains X = false) (fun u8 _ => p - (intOf u8).toNat)
          case atStart => exact ⟨0, Nat.zero_le _, rfl, rfl, rfl⟩
          case round =>
            obtain ⟨j, hjp, rfl, rfl, hnot⟩ := hrel
            have HX : Unit → (ns.take j).contains X = false := fun _ => hnot
            clear hnot
            by_cases hlj : j < p
            · have hji : (j : Int) < (p : Int) := by omega
              obtain ⟨y, hy⟩ : ∃ y, ns[j]? = some y := ⟨_, List.getElem?_eq_getElem (by have := HP (); omega)⟩
              obtain ⟨gO, oO, rfl, hgO, hcO⟩ := hsO.text hy
              have hsame2 := same_text y X
              by_cases hyx : y = X
              · subst hyx
                have hm := List.mem_of_getElem? hy
                obtain rfl := HBad () (.inl (by simpa using hm))
                have e1 : (y == y) = true := by simp
                rw [e1] at hsame2
                go_wp2_with fail
                go_ret2
                exact ⟨rfl, hB⟩
              · have e1 : (y == X) = false := by rw [beq_eq_false_iff_ne]; exact hyx
                rw [e1] at hsame2
                have hnx : (ns.take (j + 1)).contains X = false := by
                  rw [List.take_add_one, hy]
                  show (ns.take j ++ [y]).contains X = false
                  rw [contains_snoc2, HX (), e1]; rfl
                go_wp2_with fail
                go_roundw
                case rel => exact ⟨j + 1, by omega, by simp, trivial, hnx⟩
                case measure => simp [intOf]; omega
            · obtain rfl : p = j := by omega
              have hnx : ns.contains X = false := by have := HX (); rwa [← HP (), List.take_length] at this
              have HX2 : Unit → ns.contains X = false := fun _ => hnx
              clear hnx HX hsO
              cases hnb : nameB X with
              | false =>
                obtain rfl := HBad () (.inr hnb)
                rw [hnb] at KN
                go_wp2_with fail
                refine (KN.out _).mono ?_
                rintro e w2 ⟨rfl, rfl⟩
                go_wp2_with fail
                go_ret2
                exact ⟨rfl, hB⟩
              | true =>
                rw [hnb] at KN
                clear HBad
                go_wp2_with fail
                refine (KN.out _).mono ?_
                rintro e w2 ⟨rfl, rfl⟩
                clear KN
                have hszB := hB.size
                generalize hXX : (⟨X.toArray⟩ : ByteArray) = TX at *
                have HXX : Unit → (⟨X.toArray⟩ : ByteArray) = TX := fun _ => hXX
                clear hXX
                go_upto_region 17 with fail
                go_wp2_with (at_builtin; refine wpList_append_own_at _ rfl _ _ 22 rfl w.heap.size 9 i0 (.string ⟨#[]⟩) 1 16 Tryd.underlying22 hi hz0 hz1 hz2 rfl (by decide) _ p _ rfl (World.ownsRow.alloc hown _) ⟨w2.heap.size, 0, none⟩ 1 1 [.string TX] rfl rfl (cell_one_new _ _ _) (fun u hu => by simp at hu; subst hu; rfl) (by unfold maxLen; omega) (by omega) (by simp; omega) ?_)
                intro v' w4 hO' hg4 _ _
                have hB4 : Below w.heap.size w w4 := (hB.alloc hszB _).grown hg4 (by simp; omega) (fun k e => (hown.lt k e).1)
                clear hown hg4 hB
                obtain ⟨g5, cap5, rfl⟩ := own_succ hO'
                go_wp2_with fail
                go_roundw
                case rel => exact ⟨i + 1, i + 1, ns ++ [X], _, by omega, rfl, by simp, by simp, hR', by rw [List.length_append]; simp; have := HP (); omega, (HG ()).snoc (HX2 ()) hnb, by rw [List.length_append, List.map_append, HP ()]; rw [← HXX ()] at hO'; exact hO', hB4⟩
                case measure => simp [intOf]; omega
        · have e44 : (b != 44) = true := by rw [bne_iff_ne]; exact b44
          have hR' := hR.on hc (fun e => by subst e; have := HC (); simp at this; omega)
          clear HC
          go_wp2_with fail
          go_roundw
          case rel => exact ⟨f, i + 1, ns, _, by omega, rfl, rfl, by simp, hR', by omega, HG (), hown, hB⟩
          case measure => simp [intOf]; omega
      · by_cases hin' : i = n
        · obtain rfl : n = i := by omega
          obtain ⟨hfi, hR', hat, htk⟩ := hR.name (by have := HN (); omega) (.inl (HN ()).symm)
          clear hR
          have hcf := hct () f n (by omega) hfi
          have hXl : ((l.take n).drop f).length ≤ 100000 := by rw [List.length_drop, List.length_take]; omega
          have HBad : Unit → ns.contains ((l.take n).drop f) = true ∨ nameB ((l.take n).drop f) = false → o = none := fun _ h => (HO ()).symm.trans (names_bad h45 hat (by rw [htk]; exact h))
          clear hat htk
          generalize (l.take n).drop f = X at *
          have KN := Lib.hid (fun w => rname_any X w (by omega))
          obtain ⟨p, hp⟩ : ∃ p, ns.length = p := ⟨_, rfl⟩
          rw [hp] at hown hnl
          rw [hp]
          have HP : Unit → ns.length = p := fun _ => hp
          clear hp
          have hpi : (p : Int) ≤ 100001 := by omega
          have hsO := own_strs (w := wr) (ss := ns) (by rw [HP ()]; exact hown)
          obtain ⟨w1, rfl⟩ : ∃ w1, w1 = wr := ⟨_, rfl⟩
          go_upto_region 11 with fail
          go_loopw [8] (fun u8 w2 => ∃ j : Nat, j ≤ p ∧ u8 = .int .i64 (j : Int) ∧ w1 = w2 ∧ (ns.take j).contains X = false) (fun u8 _ => p - (intOf u8).toNat)
          case atStart => exact ⟨0, Nat.zero_le _, rfl, rfl, rfl⟩
          case round =>
            obtain ⟨j, hjp, rfl, rfl, hnot⟩ := hrel
            have HX : Unit → (ns.take j).contains X = false := fun _ => hnot
            clear hnot
            by_cases hlj : j < p
            · have hji : (j : Int) < (p : Int) := by omega
              obtain ⟨y, hy⟩ : ∃ y, ns[j]? = some y := ⟨_, List.getElem?_eq_getElem (by have := HP (); omega)⟩
              obtain ⟨gO, oO, rfl, hgO, hcO⟩ := hsO.text hy
              have hsame2 := same_text y X
              by_cases hyx : y = X
              · subst hyx
                have hm := List.mem_of_getElem? hy
                obtain rfl := HBad () (.inl (by simpa using hm))
                have e1 : (y == y) = true := by simp
                rw [e1] at hsame2
                go_wp2_with fail
                go_ret2
                exact ⟨rfl, hB⟩
              · have e1 : (y == X) = false := by rw [beq_eq_false_iff_ne]; exact hyx
                rw [e1] at hsame2
                have hnx : (ns.take (j + 1)).contains X = false := by
                  rw [List.take_add_one, hy]
                  show (ns.take j ++ [y]).contains X = false
                  rw [contains_snoc2, HX (), e1]; rfl
                go_wp2_with fail
                go_roundw
                case rel => exact ⟨j + 1, by omega, by simp, trivial, hnx⟩
                case measure => simp [intOf]; omega
            · obtain rfl : p = j := by omega
              have hnx : ns.contains X = false := by have := HX (); rwa [← HP (), List.take_length] at this
              have HX2 : Unit → ns.contains X = false := fun _ => hnx
              clear hnx HX hsO
              cases hnb : nameB X with
              | false =>
                obtain rfl := HBad () (.inr hnb)
                rw [hnb] at KN
                go_wp2_with fail
                refine (KN.out _).mono ?_
                rintro e w2 ⟨rfl, rfl⟩
                go_wp2_with fail
                go_ret2
                exact ⟨rfl, hB⟩
              | true =>
                rw [hnb] at KN
                clear HBad
                go_wp2_with fail
                refine (KN.out _).mono ?_
                rintro e w2 ⟨rfl, rfl⟩
                clear KN
                have hszB := hB.size
                generalize hXX : (⟨X.toArray⟩ : ByteArray) = TX at *
                have HXX : Unit → (⟨X.toArray⟩ : ByteArray) = TX := fun _ => hXX
                clear hXX
                go_upto_region 17 with fail
                go_wp2_with (at_builtin; refine wpList_append_own_at _ rfl _ _ 22 rfl w.heap.size 9 i0 (.string ⟨#[]⟩) 1 16 Tryd.underlying22 hi hz0 hz1 hz2 rfl (by decide) _ p _ rfl (World.ownsRow.alloc hown _) ⟨w2.heap.size, 0, none⟩ 1 1 [.string TX] rfl rfl (cell_one_new _ _ _) (fun u hu => by simp at hu; subst hu; rfl) (by unfold maxLen; omega) (by omega) (by simp; omega) ?_)
                intro v' w4 hO' hg4 _ _
                have hB4 : Below w.heap.size w w4 := (hB.alloc hszB _).grown hg4 (by simp; omega) (fun k e => (hown.lt k e).1)
                clear hown hg4 hB
                obtain ⟨g5, cap5, rfl⟩ := own_succ hO'
                go_wp2_with fail
                go_roundw
                case rel => exact ⟨n + 1, n + 1, ns ++ [X], _, by omega, rfl, by simp, by simp, hR', by rw [List.length_append]; simp; have := HP (); omega, (HG ()).snoc (HX2 ()) hnb, by rw [List.length_append, List.map_append, HP ()]; rw [← HXX ()] at hO'; exact hO', hB4⟩
                case measure => simp [intOf]
        · obtain rfl : i = n + 1 := by omega
          have hls : sepL 44 l = ns := by
            have := HN ()
            rw [← this] at hR
            exact hR.all
          have hd : namesN l = some ns := by rw [← hls]; exact names_all h45 (by rw [hls]; exact HG ())
          obtain rfl := (HO ()).symm.trans hd
          have hki : ¬ ((n + 1 : Nat) : Int) ≤ (n : Int) := by omega
          go_wp2_with fail
          go_ret2
          exact ⟨⟨_, rfl, (own_strs hown).mono (fun b hb _ => (hown.lt b hb).1)⟩, hB⟩
end Go.Proofs.YtcljijcggnfemaaDoor
