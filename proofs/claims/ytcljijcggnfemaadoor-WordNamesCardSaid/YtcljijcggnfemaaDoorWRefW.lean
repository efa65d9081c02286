/- The document's way to split a line: the walk. -/
import Derived.Test.YtcljijcggnfemaaDoorWRefP
namespace Go.Proofs.YtcljijcggnfemaaDoor
open Go.ChangeShapes Go.WideShapes Go.RowKit

/-- A part of a text. -/
theorem cut_part (l : Bs) (a b : Nat) (hb : b ≤ l.length) (hab : a ≤ b) (w : World) : (Instr.slice 9 (.string ⟨l.toArray⟩) (some (.int .i64 (a : Int))) (some (.int .i64 (b : Int))) none).run Tryd.prog w = .ok (.string ⟨((l.take b).drop a).toArray⟩) w := by
  have hs : (⟨l.toArray⟩ : ByteArray).size = l.length := by simp [ByteArray.size]
  simp [Instr.slice, run_underlying Tryd.underlying9, Instr.sliceBounds, run_sliceBound, hs, show (b : Int) ≤ (l.length : Int) by omega, show (a : Int) ≤ (b : Int) by omega]
  rw [extract_text]
theorem own_below {w w' : World} {base : Nat} {e : TypeId} {s n : Nat} {v : Value} {xs : List Value} (h : w.ownsRow base e s v n xs) (k : Below w.heap.size w w') : w'.ownsRow base e s v n xs := own_asdS h (Asd.of_below k (S := fun _ => False)) (fun _ _ e => e)
set_option maxHeartbeats 6400000 in
set_option maxRecDepth 100000 in
theorem rsplit_any (l : Bs) (w : World) (hl : l.length ≤ 400000) : Calls Tryd.prog 25 #[.string ⟨l.toArray⟩] w (SplitP w (splitN l)) := by
  have hsz : (⟨l.toArray⟩ : ByteArray).size = l.length := by simp [ByteArray.size]
  obtain ⟨n, hn⟩ : ∃ n, l.length = n := ⟨_, rfl⟩
  rw [hn] at hl hsz
  obtain ⟨t, ht⟩ : ∃ t : ByteArray, t = ⟨l.toArray⟩ := ⟨_, rfl⟩
  have hix : Unit → ∀ (k : Nat) (c : UInt8), l[k]? = some c → ∀ w, (Instr.index 9 (.string t) (.int .i64 (k : Int))).run Tryd.prog w = .ok (.int .u8 (c.toNat : Int)) w := fun _ k c hc w => by rw [ht]; exact at_text l k c hc _ rfl w
  have hct : Unit → ∀ (a b : Nat), b ≤ n → a ≤ b → ∀ w, (Instr.slice 9 (.string t) (some (.int .i64 (a : Int))) (some (.int .i64 (b : Int))) none).run Tryd.prog w = .ok (.string ⟨((l.take b).drop a).toArray⟩) w := fun _ a b h1 h2 w => by rw [ht]; exact cut_part l a b (by omega) h2 w
  rw [← ht] at hsz ⊢
  clear ht
  obtain ⟨i0, hi, hz0, hz1, hz2⟩ := info_parts0 info_str
  have HO : Unit → splitN l = splitN l := fun _ => rfl
  generalize hoo : splitN l = o at HO ⊢
  replace HO : Unit → splitN l = o := fun _ => hoo
  clear hoo
  have HN : Unit → l.length = n := fun _ => hn
  clear hn
  have hni : (n : Int) ≤ 400000 := by omega
  go_enter Tryd.func25, Tryd.ntmps25
  go_upto_region 3 with fail
  go_loopw [5] (fun u wr => ∃ k : Nat, k ≤ n ∧ u = .int .i64 (k : Int) ∧ w = wr ∧ ∀ j c, j < k → l[j]? = some c → gd c) (fun u _ => n - (intOf u).toNat)
  case atStart => exact ⟨0, by omega, rfl, rfl, fun j c hj => by omega⟩
  case round =>
    obtain ⟨k, hk, rfl, rfl, hall⟩ := hrel
    have HA : Unit → ∀ j c, j < k → l[j]? = some c → gd c := fun _ => hall
    clear hall
    by_cases hlt : k < n
    · have hki : (k : Int) < (n : Int) := by omega
      obtain ⟨c, hc⟩ : ∃ c, l[k]? = some c := ⟨_, List.getElem?_eq_getElem (by have := HN (); omega)⟩
      have hx := hix () k c hc
      obtain ⟨b, hb⟩ : ∃ b : Int, (c.toNat : Int) = b := ⟨_, rfl⟩
      rw [hb] at hx
      have HG : Unit → (gd c ↔ ¬ (b < 32 ∧ b ≠ 9)) := fun _ => by unfold gd; omega
      clear hb
      by_cases hg : b < 32 ∧ b ≠ 9
      · have hnone : splitN l = none := bad_none hc (fun h => (HG ()).1 h hg)
        obtain rfl := (HO ()).symm.trans hnone
        obtain ⟨g1, g2⟩ := hg
        go_wp2_with fail
        go_ret2
        exact ⟨rfl, Below.refl _ _⟩
      · have hgd := (HG ()).2 hg
        clear HG
        by_cases h9 : b = 9
        · subst h9
          go_wp2_with fail
          go_roundw
          case rel => exact ⟨k + 1, by omega, by simp, trivial, fun j d hj hd => by
            by_cases e : j = k
            · subst e; rw [hc] at hd; injection hd with hd; subst hd; exact hgd
            · exact HA () j d (by omega) hd⟩
          case measure => simp [intOf]; omega
        · have h32 : 32 ≤ b := by omega
          clear hg
          go_wp2_with fail
          go_roundw
          case rel => exact ⟨k + 1, by omega, by simp, trivial, fun j d hj hd => by
            by_cases e : j = k
            · subst e; rw [hc] at hd; injection hd with hd; subst hd; exact hgd
            · exact HA () j d (by omega) hd⟩
          case measure => simp [intOf]; omega
    · obtain rfl : n = k := by omega
      have HG : Unit → ∀ c ∈ l, gd c := fun _ c hc => by
        obtain ⟨j, hj, rfl⟩ := List.mem_iff_getElem.1 hc
        exact HA () j _ (by have := HN (); omega) (List.getElem?_eq_getElem hj)
      clear HA hlt
      clear hk
      go_upto_region 8 with fail
      go_loopw [4, 6] (fun u4 u6 w1 => ∃ (k : Nat) (v : Value) (W : List Bs), u6 = .int .i64 (k : Int) ∧ u4 = v ∧ ROut l k W ∧ W.length ≤ k ∧ w1.ownsRow w.heap.size 9 1 v W.length (W.map sv) ∧ Below w.heap.size w w1) (fun _ u6 _ => n - (intOf u6).toNat)
      case atStart => exact ⟨0, _, [], rfl, rfl, ROut.start l, Nat.le_refl _, World.ownsRow_nil _ _ _ _, Below.refl _ _⟩
      case round =>
        obtain ⟨k0, v, W, rfl, rfl, hR, hWl, hO, hB⟩ := hrel
        obtain ⟨w1, rfl⟩ : ∃ w1, w1 = wr := ⟨_, rfl⟩
        have hk0 := hR.le
        rw [HN ()] at hk0
        obtain ⟨av, cv, rfl, _⟩ := own_slice hO
        go_upto_region 8 with fail
        go_loopw [6] (fun u6 w2 => ∃ k : Nat, k0 ≤ k ∧ k ≤ n ∧ u6 = .int .i64 (k : Int) ∧ w1 = w2 ∧ ROut l k W) (fun u6 _ => n - (intOf u6).toNat)
        case atStart => exact ⟨k0, Nat.le_refl _, hk0, rfl, rfl, hR⟩
        case round =>
          clear hR
          obtain ⟨f, hge, hf, rfl, rfl, hR⟩ := hrel
          by_cases hlt : f < n
          · have hki : (f : Int) < (n : Int) := by omega
            have hfe : ((f : Int) == (n : Int)) = false := by rw [beq_eq_false_iff_ne]; omega
            obtain ⟨c, hc⟩ : ∃ c, l[f]? = some c := ⟨_, List.getElem?_eq_getElem (by have := HN (); omega)⟩
            have hx := hix () f c hc
            obtain ⟨b, hb⟩ : ∃ b : Int, (c.toNat : Int) = b := ⟨_, rfl⟩
            rw [hb] at hx
            have HC : Unit → (c.toNat : Int) = b := fun _ => hb
            clear hb
            by_cases b32 : b = 32
            · subst b32
              have hR' := hR.blank hc (.inl (by have := HC (); omega))
              go_wp2_with fail
              go_roundw
              case rel => exact ⟨f + 1, by omega, by omega, by simp, trivial, hR'⟩
              case measure => simp [intOf]; omega
            · have e32 : (b == 32) = false := by rw [beq_eq_false_iff_ne]; exact b32
              by_cases b9 : b = 9
              · subst b9
                have hR' := hR.blank hc (.inr (by have := HC (); omega))
                go_wp2_with fail
                go_roundw
                case rel => exact ⟨f + 1, by omega, by omega, by simp, trivial, hR'⟩
                case measure => simp [intOf]; omega
              · have e9 : (b == 9) = false := by rw [beq_eq_false_iff_ne]; exact b9
                by_cases b35 : b = 35
                · subst b35
                  have hd := hR.rem hc (by have := HC (); omega) (HG ())
                  obtain rfl := (HO ()).symm.trans hd
                  go_wp2_with fail
                  go_ret2
                  exact ⟨⟨_, rfl, hO⟩, hB⟩
                · have e35 : (b == 35) = false := by rw [beq_eq_false_iff_ne]; exact b35
                  have hnb : ¬ bl c := by have := HC (); unfold bl; omega
                  have hn35 : c.toNat ≠ 35 := by have := HC (); omega
                  have hI := RIn.start hR hc hnb
                  clear hR
                  go_upto_region 13 with fail
                  clear hx HC b32 b9 b35 e32 e9 e35 hki hfe
                  go_upto_region 14 with fail
                  go_loopw [6, 8] (fun u6 u8 w2 => ∃ (k : Nat) (q : Bool), f ≤ k ∧ k ≤ n + 1 ∧ u6 = .int .i64 (k : Int) ∧ u8 = .bool q ∧ w1 = w2 ∧ RIn l f k q W) (fun u6 _ _ => n + 1 - (intOf u6).toNat)
                  case atStart => exact ⟨f, false, Nat.le_refl _, by omega, rfl, rfl, rfl, hI⟩
                  case round =>
                    clear hI
                    obtain ⟨k, q, hfk, hk, rfl, rfl, rfl, hI⟩ := hrel
                    by_cases hkn : k < n
                    · have hki : (k : Int) < (n : Int) := by omega
                      have hki2 : (k : Int) ≤ (n : Int) := by omega
                      obtain ⟨d, hd⟩ : ∃ d, l[k]? = some d := ⟨_, List.getElem?_eq_getElem (by have := HN (); omega)⟩
                      have hx := hix () k d hd
                      obtain ⟨b, hb⟩ : ∃ b : Int, (d.toNat : Int) = b := ⟨_, rfl⟩
                      rw [hb] at hx
                      have HC : Unit → (d.toNat : Int) = b := fun _ => hb
                      have hgd := HG () d (List.mem_of_getElem? hd)
                      clear hb
                      have hf35 : k = f → d.toNat ≠ 35 := fun e => by subst e; rw [hc] at hd; injection hd with hd; subst hd; exact hn35
                      have hfb : bl d → f < k := fun hb => by
                        by_cases e : k = f
                        · subst e; rw [hc] at hd; injection hd with hd; subst hd; exact absurd hb hnb
                        · omega
                      cases q with
                      | true =>
                        by_cases b92 : b = 92
                        · subst b92
                          have hI' := hI.esc hd (by have := HC (); omega) (HG ())
                          clear HC
                          go_wp2_with fail
                          go_roundw
                          case rel => exact ⟨k + 2, true, by omega, by omega, by simp; omega, rfl, trivial, hI'⟩
                          case measure => simp [intOf]; omega
                        · have e92 : (b == 92) = false := by rw [beq_eq_false_iff_ne]; exact b92
                          by_cases b34 : b = 34
                          · subst b34
                            have hI' := hI.quote hd (by have := HC (); omega)
                            clear HC
                            go_wp2_with fail
                            go_roundw
                            case rel => exact ⟨k + 1, false, by omega, by omega, by simp, rfl, trivial, hI'⟩
                            case measure => simp [intOf]; omega
                          · have e34 : (b == 34) = false := by rw [beq_eq_false_iff_ne]; exact b34
                            have hI' := hI.plain hd hgd (by have := HC (); omega) (fun _ => by have := HC (); omega) (fun e => by cases e) hf35
                            clear HC
                            go_wp2_with fail
                            go_roundw
                            case rel => exact ⟨k + 1, true, by omega, by omega, by simp, rfl, trivial, hI'⟩
                            case measure => simp [intOf]; omega
                      | false =>
                        by_cases b32 : b = 32
                        · subst b32
                          have hbl : bl d := .inl (by have := HC (); omega)
                          have hlf := hfb hbl
                          have HE : k = l.length ∨ ∃ c, l[k]? = some c ∧ bl c := .inr ⟨d, hd, hbl⟩
                          clear HC
                          go_upto_region 20 with fail
                          go_upto_region 22 with fail
                          have hcf := hct () f k (by omega) (by omega)
                          have hWd := hI.word (by have := HN (); omega) (by omega) HE
                          have hlw : ((l.take k).drop f).length ≤ 400000 := by rw [List.length_drop, List.length_take]; have := HN (); omega
                          generalize hX : (l.take k).drop f = X at *
                          go_wp2_with (at_builtin; refine wpList_append_own_at _ rfl _ _ 22 rfl w.heap.size 9 i0 (.string ⟨#[]⟩) 1 16 Tryd.underlying22 hi hz0 hz1 hz2 rfl (by decide) _ W.length _ rfl (World.ownsRow.alloc hO _) ⟨w1.heap.size, 0, none⟩ 1 1 [.string ⟨X.toArray⟩] rfl rfl (cell_one_new _ _ _) (fun u hu => by simp at hu; subst hu; rfl) (by unfold maxLen; omega) (by omega) (by have := hB.size; simp; omega) ?_)
                          intro v' w4 hO' hg4 _ _
                          have hB4 : Below w.heap.size w w4 := (hB.alloc hB.size _).grown hg4 (by have := hB.size; simp; omega) (fun k e => (hO.lt k e).1)
                          clear hO hg4 hB hI hcf
                          obtain ⟨g5, cap5, rfl⟩ := own_succ hO'
                          go_wp2_with fail
                          go_roundw
                          case rel => exact ⟨k, _, W ++ [X], rfl, rfl, hWd, by rw [List.length_append]; simp; omega, by rw [List.length_append, List.map_append]; exact hO', hB4⟩
                          case measure => simp [intOf]; omega
                        · have e32 : (b != 32) = true := by rw [bne_iff_ne]; exact b32
                          by_cases b9 : b = 9
                          · subst b9
                            have hbl : bl d := .inr (by have := HC (); omega)
                            have hlf := hfb hbl
                            have HE : k = l.length ∨ ∃ c, l[k]? = some c ∧ bl c := .inr ⟨d, hd, hbl⟩
                            clear HC
                            go_upto_region 20 with fail
                            go_upto_region 22 with fail
                            have hcf := hct () f k (by omega) (by omega)
                            have hWd := hI.word (by have := HN (); omega) (by omega) HE
                            have hlw : ((l.take k).drop f).length ≤ 400000 := by rw [List.length_drop, List.length_take]; have := HN (); omega
                            generalize hX : (l.take k).drop f = X at *
                            go_wp2_with (at_builtin; refine wpList_append_own_at _ rfl _ _ 22 rfl w.heap.size 9 i0 (.string ⟨#[]⟩) 1 16 Tryd.underlying22 hi hz0 hz1 hz2 rfl (by decide) _ W.length _ rfl (World.ownsRow.alloc hO _) ⟨w1.heap.size, 0, none⟩ 1 1 [.string ⟨X.toArray⟩] rfl rfl (cell_one_new _ _ _) (fun u hu => by simp at hu; subst hu; rfl) (by unfold maxLen; omega) (by omega) (by have := hB.size; simp; omega) ?_)
                            intro v' w4 hO' hg4 _ _
                            have hB4 : Below w.heap.size w w4 := (hB.alloc hB.size _).grown hg4 (by have := hB.size; simp; omega) (fun k e => (hO.lt k e).1)
                            clear hO hg4 hB hI hcf
                            obtain ⟨g5, cap5, rfl⟩ := own_succ hO'
                            go_wp2_with fail
                            go_roundw
                            case rel => exact ⟨k, _, W ++ [X], rfl, rfl, hWd, by rw [List.length_append]; simp; omega, by rw [List.length_append, List.map_append]; exact hO', hB4⟩
                            case measure => simp [intOf]; omega
                          · have e9 : (b != 9) = true := by rw [bne_iff_ne]; exact b9
                            by_cases b34 : b = 34
                            · subst b34
                              have hI' := hI.quote hd (by have := HC (); omega)
                              clear HC
                              go_wp2_with fail
                              go_roundw
                              case rel => exact ⟨k + 1, true, by omega, by omega, by simp, rfl, trivial, hI'⟩
                              case measure => simp [intOf]; omega
                            · have e34 : (b == 34) = false := by rw [beq_eq_false_iff_ne]; exact b34
                              have hI' := hI.plain hd hgd (by have := HC (); omega) (fun e => by cases e) (fun _ => by have := HC (); unfold bl; omega) hf35
                              clear HC
                              go_wp2_with fail
                              go_roundw
                              case rel => exact ⟨k + 1, false, by omega, by omega, by simp, rfl, trivial, hI'⟩
                              case measure => simp [intOf]; omega
                    · cases q with
                      | true =>
                        have hki : ¬ (k : Int) < (n : Int) := by omega
                        have hnone := hI.fail (by have := HN (); omega) (.inl rfl)
                        obtain rfl := (HO ()).symm.trans hnone
                        go_wp2_with fail
                        go_ret2
                        exact ⟨rfl, hB⟩
                      | false =>
                        have hkl : k ≤ n := by
                          rcases hI.2 with h | h
                          · have := HN (); omega
                          · cases h.2.1
                        obtain rfl : n = k := by omega
                        have hlf : f < n := hlt
                        have HE : n = l.length ∨ ∃ c, l[n]? = some c ∧ bl c := .inl (HN ()).symm
                        go_upto_region 20 with fail
                        go_upto_region 22 with fail
                        have hcf := hct () f n (by omega) (by omega)
                        have hWd := hI.word (by have := HN (); omega) (by omega) HE
                        have hlw : ((l.take n).drop f).length ≤ 400000 := by rw [List.length_drop, List.length_take]; have := HN (); omega
                        generalize hX : (l.take n).drop f = X at *
                        go_wp2_with (at_builtin; refine wpList_append_own_at _ rfl _ _ 22 rfl w.heap.size 9 i0 (.string ⟨#[]⟩) 1 16 Tryd.underlying22 hi hz0 hz1 hz2 rfl (by decide) _ W.length _ rfl (World.ownsRow.alloc hO _) ⟨w1.heap.size, 0, none⟩ 1 1 [.string ⟨X.toArray⟩] rfl rfl (cell_one_new _ _ _) (fun u hu => by simp at hu; subst hu; rfl) (by unfold maxLen; omega) (by omega) (by have := hB.size; simp; omega) ?_)
                        intro v' w4 hO' hg4 _ _
                        have hB4 : Below w.heap.size w w4 := (hB.alloc hB.size _).grown hg4 (by have := hB.size; simp; omega) (fun k e => (hO.lt k e).1)
                        clear hO hg4 hB hI hcf
                        obtain ⟨g5, cap5, rfl⟩ := own_succ hO'
                        go_wp2_with fail
                        go_roundw
                        case rel => exact ⟨n, _, W ++ [X], rfl, rfl, hWd, by rw [List.length_append]; simp; omega, by rw [List.length_append, List.map_append]; exact hO', hB4⟩
                        case measure => simp [intOf]; omega
          · obtain rfl : n = f := by omega
            have hd : splitN l = some W := ROut.done (by rw [HN ()]; exact hR)
            obtain rfl := (HO ()).symm.trans hd
            go_wp2_with fail
            go_ret2
            exact ⟨⟨_, rfl, hO⟩, hB⟩
end Go.Proofs.YtcljijcggnfemaaDoor
