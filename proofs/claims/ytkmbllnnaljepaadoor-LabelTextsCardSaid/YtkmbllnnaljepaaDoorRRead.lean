/- The document's own Read: what each call returns, of whatever text. -/
import Derived.Test.YtkmbllnnaljepaaDoorScan
import Derived.Test.YtkmbllnnaljepaaDoorRText
namespace Go.Proofs.YtkmbllnnaljepaaDoor
open Go.ChangeShapes Go.WideShapes Go.RowKit

set_option maxHeartbeats 400000 in
theorem rread_nil (w : World) :
    Calls Tryd.prog 26 #[.string ⟨#[]⟩] w fun e w' => e = .returned (labRet none) ∧ Below w.heap.size w w' := by
  go_enter Tryd.func26, Tryd.ntmps26
  go_wp2
  exact bodyPost_ret (v := labRet none) (by simp [results, Tryd.results26, go_sem, labRet]) rfl ⟨rfl, (Below.refl _ _).alloc (Nat.le_refl _) _⟩
set_option maxHeartbeats 400000 in
theorem rread_far (s : ByteArray) (b : UInt8) (r : List UInt8) (hl : s.data.toList = b :: r) (hb : b.toNat < 48 ∨ 55 < b.toNat) (w : World) :
    Calls Tryd.prog 26 #[.string s] w fun e w' => e = .returned (labRet none) ∧ Below w.heap.size w w' := by
  have hp : 0 < s.size := by rw [← ByteArray.size_data, ← Array.length_toList, hl]; simp
  have hem : s.toList.isEmpty = false := by rw [ba_toList, hl]; rfl
  have h1 : ∀ h, s[0]'h = b := by
    intro h
    have : s.data.toList[0]'(by rw [hl]; simp) = b := by simp [hl]
    exact this
  clear hl
  rcases hb with hb | hb
  all_goals
    go_enter Tryd.func26, Tryd.ntmps26
    go_wp2
    exact bodyPost_ret (v := labRet none) (by simp [results, Tryd.results26, go_sem, labRet]) rfl ⟨rfl, (Below.refl _ _).alloc (Nat.le_refl _) _⟩

theorem rdRef_none {b : UInt8} {r : List UInt8} (h : scan r (-1) [] = none) : rdRef (b :: r) = none := by simp only [rdRef, h]; split <;> rfl
theorem rr_round {ys : List Nat} {m N : Nat} {w w2 w1 : World} {v v' : Value} {x : Obj} (hu : LabU w2 N 0 0) (hB : Below N w w2)
    (hown : w2.ownsRow (N + 1) 3 1 v ys.length (ys.map intV))
    (hown' : w1.ownsRow (N + 1) 3 1 v' (ys.length + 1) (ys.map intV ++ [.int .i64 m])) (hgrow : (w2.alloc x).grownBy w1 v.ownBlock) :
    w1.ownsRow (N + 1) 3 1 v' (ys ++ [m]).length ((ys ++ [m]).map intV) ∧ LabU w1 N 0 0 ∧ Below N w w1 := by
  have hlt := hown.lt
  have hs := hgrow.size
  simp at hs
  have hsz : N < w2.heap.size := World.block_lt_of_cell? _ _ hu.1
  have hne : (some N) ≠ v.ownBlock := fun e => by have := (hlt N e.symm).1; omega
  obtain ⟨u0, u1, f0, f1⟩ := hu.later x
  refine ⟨by simpa [intV] using hown', ⟨?_, ?_, ?_, ?_⟩, ?_⟩
  · exact hgrow.cell u0 hne
  · exact hgrow.cell u1 hne
  · exact (World.frozen?_of_block (w := w2.alloc x) (hgrow.block _ (by simp; omega) hne)).trans f0
  · exact (World.frozen?_of_block (w := w2.alloc x) (hgrow.block _ (by simp; omega) hne)).trans f1
  · exact (hB.alloc (by omega) x).grown hgrow (by simp; omega) (fun j e => by have := (hlt j e).1; omega)

set_option maxHeartbeats 1000000 in
set_option maxRecDepth 100000 in
theorem rread_near (s : ByteArray) (b : UInt8) (r : List UInt8) (hl : s.data.toList = b :: r) (hb : 48 ≤ b.toNat ∧ b.toNat ≤ 55) (hs : s.size ≤ 1000000) (w : World) :
    Calls Tryd.prog 26 #[.string s] w fun e w' => e = .returned (labRet (rdRef (b :: r))) ∧ Below w.heap.size w w' := by
  have hsz : s.size = r.length + 1 := by rw [← ByteArray.size_data, ← Array.length_toList, hl]; rfl
  have hp : 0 < s.size := by omega
  have hem : s.toList.isEmpty = false := by rw [ba_toList, hl]; rfl
  have h1 : ∀ h, s[0]'h = b := by
    intro h
    have : s.data.toList[0]'(by rw [hl]; simp) = b := by simp [hl]
    exact this
  have Hl := Lib.hid hl
  have Hsz := Lib.hid hsz
  clear hl hsz
  obtain ⟨hb0, hb1⟩ := hb
  obtain ⟨i0, hi, hz0, hz1, hz2⟩ := info_parts info3
  have hu := LabU.one w 0 0
  obtain ⟨R, hR⟩ : ∃ R, scan r (-1) [] = R := ⟨_, rfl⟩
  have HR := Lib.hid hR
  clear hR
  have hlo : decide ((b.toNat : Int) < 48) = false := by simp; omega
  have hhi : decide (55 < (b.toNat : Int)) = false := by simp; omega
  go_enter Tryd.func26, Tryd.ntmps26
  go_wp2
  go_loopw [4, 5, 6] (fun v nv iv wr => ∃ (i : Nat) (n : Int) (ys : List Nat), iv = .int .i64 i ∧ nv = .int .i64 n ∧ RrMid R r i n ys ∧
      wr.ownsRow (w.heap.size + 1) 3 1 v ys.length (ys.map intV) ∧ LabU wr w.heap.size 0 0 ∧ Below w.heap.size w wr)
    (fun _ _ iv _ => r.length + 2 - (intOf iv).toNat)
  case atStart => exact ⟨1, -1, [], rfl, rfl, ⟨by omega, by omega, by omega, by omega, .nil, (by simp), fun _ => HR.out.symm, fun h => by omega⟩, World.ownsRow_nil _ _ _ _, hu, (Below.refl _ _).alloc (Nat.le_refl _) _⟩
  case round =>
    clear hu
    obtain ⟨i, n, ys, rfl, rfl, hM, hown, hu, hB⟩ := hrel
    have hlo1 := hM.lo
    have HM := Lib.hid hM
    by_cases hlt : i ≤ r.length + 1
    · by_cases hlt2 : i < r.length + 1
      · obtain ⟨c, hc⟩ : ∃ c, r[i - 1]? = some c := ⟨_, List.getElem?_eq_getElem (by omega)⟩
        have hsi : ∀ h, s[i]'h = c := by
          intro h
          have h2 : s.data.toList[i]? = some c := by rw [Hl.out, show i = (i - 1) + 1 by omega, List.getElem?_cons_succ]; exact hc
          obtain ⟨h3, h4⟩ := List.getElem?_eq_some_iff.1 h2
          exact h4
        have hsz := Hsz.out
        have Hc := Lib.hid hc
        have b1 : (i : Int) < s.size := by omega
        have b2 : (i : Int) ≤ s.size := by omega
        clear hc hM hem h1 hlo hhi
        by_cases hd : digB c = true
        · have Hd := Lib.hid hd
          unfold digB at hd
          simp at hd
          obtain ⟨d0, d1⟩ := hd
          obtain ⟨q, hq⟩ : ∃ q, max n 0 = q := ⟨_, rfl⟩
          have hq2 : 0 ≤ q ∧ q ≤ 31 := by have := HM.out.nhi; omega
          have Hq := Lib.hid hq
          have e1 : wrap64 (10 * q) = 10 * q := IntWalk.wrap64_in _ (by omega)
          have e2 : wrap64 (10 * q + ((c.toNat : Int) - 48)) = 10 * q + ((c.toNat : Int) - 48) := IntWalk.wrap64_in _ (by omega)
          by_cases hn : 31 < 10 * q + ((c.toNat : Int) - 48)
          · have HR2 := Lib.hid (HM.out.over Hc.out Hd.out (by rw [Hq.out]; exact hn))
            obtain ⟨v0, v1, _, _⟩ := hu.put 0 0
            have HV := Lib.hid (And.intro v0 v1)
            obtain ⟨u0, u1, f0, f1⟩ := hu
            clear v0 v1
            go_wp2
            obtain ⟨v0, v1⟩ := HV.out
            exact bodyPost_ret (v := labRet none) (by simp [results, Tryd.results26, go_sem, labRet, v0, v1]) rfl ⟨by rw [rdRef_none (HR.out.trans HR2.out)], (hB.setCell (p := ⟨w.heap.size, 0, none⟩) (by simp) _).setCell (p := ⟨w.heap.size, 1, none⟩) (by simp) _⟩
          · have HN := Lib.hid (HM.out.digit Hc.out Hd.out (by rw [Hq.out]; omega))
            rw [Hq.out] at HN
            go_wp2
            go_roundw
            case rel => exact ⟨i + 1, _, ys, by go_num, rfl, HN.out, hown, hu, hB⟩
            case measure => simp [intOf]; omega
        -- the stops
        · have Hst := Lib.hid (show Stops r i from .inr ⟨c, Hc.out, by simpa using hd⟩)
          have hd2 : c.toNat < 48 ∨ 57 < c.toNat := by
            unfold digB at hd
            simp at hd
            omega
          clear hd
          rcases hd2 with d0 | d0
          · by_cases hn0 : n < 0
            · have HN := Lib.hid (HM.out.stop Hst.out (scan_end_out hn0))
              go_wp2
              go_roundw
              case rel => exact ⟨i + 1, -1, ys, by go_num, rfl, HN.out, hown, hu, hB⟩
              case measure => simp [intOf]; omega
            · obtain ⟨m, rfl⟩ := Int.eq_ofNat_of_zero_le (show 0 ≤ n by omega)
              have hm31 : m ≤ 31 := by have := HM.out.nhi; omega
              have hyl := (catsOf_bits 32 ys HM.out.uniq HM.out.low).2
              have hI := IntsAt.of_own hown
              have hwz : w.heap.size < wr.heap.size := World.block_lt_of_cell? _ _ hu.1
              clear hn0
              by_cases hmem : m ∈ ys
              · have HR2 := Lib.hid (HM.out.none Hst.out (scan_end_old hmem))
                have Hm := Lib.hid ((has_mem m ys).trans (decide_eq_true hmem))
                clear hmem
                go_wp2_with fail
                refine (rhas_any _ ys m (by omega) _ hI).mono ?_
                rintro e w4 ⟨rfl, rfl⟩
                rw [Hm.out]
                obtain ⟨v0, v1, _, _⟩ := hu.put 0 0
                have HV := Lib.hid (And.intro v0 v1)
                obtain ⟨u0, u1, f0, f1⟩ := hu
                clear v0 v1 hI
                go_wp2
                obtain ⟨v0, v1⟩ := HV.out
                exact bodyPost_ret (v := labRet none) (by simp [results, Tryd.results26, go_sem, labRet, v0, v1]) rfl ⟨by rw [rdRef_none (HR.out.trans HR2.out)], (hB.setCell (p := ⟨w.heap.size, 0, none⟩) (by simp) _).setCell (p := ⟨w.heap.size, 1, none⟩) (by simp) _⟩
              · have HN := Lib.hid (HM.out.stop Hst.out (scan_end_new hmem))
                have Hm := Lib.hid ((has_mem m ys).trans (decide_eq_false hmem))
                clear hmem
                go_wp2_with fail
                refine (rhas_any _ ys m (by omega) _ hI).mono ?_
                rintro e w4 ⟨rfl, rfl⟩
                rw [Hm.out]
                clear hI
                go_wp2_with (at_builtin; refine wpList_append_lies _ rfl _ _ 30 rfl (w.heap.size + 1) 3 i0 (.int .i64 0) 1 8 Tryd.underlying30 hi hz0 hz1 hz2 rfl (by decide) _ _ _ rfl (World.ownsRow.alloc (w := wr) hown _) ⟨wr.heap.size, 0, none⟩ 1 1 [.int .i64 m] rfl rfl ?c1 ?c2 (by omega) ?c3 ?c4 ?c5 (wr.heap.size + 1) (by simp) ?_)
                case c1 =>
                  intro j u hj
                  match j, hj with
                  | 0, hj => simp at hj; subst hj; exact (World.cell?_alloc_at (w := wr) _ _ _ _ rfl).trans rfl
                case c2 => intro u hu; simp at hu; subst hu; rfl
                case c3 => unfold maxLen; omega
                case c4 => omega
                case c5 => simp; omega
                intro g cap w9 hown' hgrow hat hlt'
                have Q := rr_round hu hB hown hown' hgrow
                clear hown' hgrow hown hu hB hat hlt'
                go_wp2
                go_roundw
                case rel => exact ⟨i + 1, -1, ys ++ [m], by go_num, rfl, HN.out, Q.1, Q.2.1, Q.2.2⟩
                case measure => simp [intOf]; omega
          · by_cases hn0 : n < 0
            · have HN := Lib.hid (HM.out.stop Hst.out (scan_end_out hn0))
              go_wp2
              go_roundw
              case rel => exact ⟨i + 1, -1, ys, by go_num, rfl, HN.out, hown, hu, hB⟩
              case measure => simp [intOf]; omega
            · obtain ⟨m, rfl⟩ := Int.eq_ofNat_of_zero_le (show 0 ≤ n by omega)
              have hm31 : m ≤ 31 := by have := HM.out.nhi; omega
              have hyl := (catsOf_bits 32 ys HM.out.uniq HM.out.low).2
              have hI := IntsAt.of_own hown
              have hwz : w.heap.size < wr.heap.size := World.block_lt_of_cell? _ _ hu.1
              clear hn0
              by_cases hmem : m ∈ ys
              · have HR2 := Lib.hid (HM.out.none Hst.out (scan_end_old hmem))
                have Hm := Lib.hid ((has_mem m ys).trans (decide_eq_true hmem))
                clear hmem
                go_wp2_with fail
                refine (rhas_any _ ys m (by omega) _ hI).mono ?_
                rintro e w4 ⟨rfl, rfl⟩
                rw [Hm.out]
                obtain ⟨v0, v1, _, _⟩ := hu.put 0 0
                have HV := Lib.hid (And.intro v0 v1)
                obtain ⟨u0, u1, f0, f1⟩ := hu
                clear v0 v1 hI
                go_wp2
                obtain ⟨v0, v1⟩ := HV.out
                exact bodyPost_ret (v := labRet none) (by simp [results, Tryd.results26, go_sem, labRet, v0, v1]) rfl ⟨by rw [rdRef_none (HR.out.trans HR2.out)], (hB.setCell (p := ⟨w.heap.size, 0, none⟩) (by simp) _).setCell (p := ⟨w.heap.size, 1, none⟩) (by simp) _⟩
              · have HN := Lib.hid (HM.out.stop Hst.out (scan_end_new hmem))
                have Hm := Lib.hid ((has_mem m ys).trans (decide_eq_false hmem))
                clear hmem
                go_wp2_with fail
                refine (rhas_any _ ys m (by omega) _ hI).mono ?_
                rintro e w4 ⟨rfl, rfl⟩
                rw [Hm.out]
                clear hI
                go_wp2_with (at_builtin; refine wpList_append_lies _ rfl _ _ 30 rfl (w.heap.size + 1) 3 i0 (.int .i64 0) 1 8 Tryd.underlying30 hi hz0 hz1 hz2 rfl (by decide) _ _ _ rfl (World.ownsRow.alloc (w := wr) hown _) ⟨wr.heap.size, 0, none⟩ 1 1 [.int .i64 m] rfl rfl ?c1 ?c2 (by omega) ?c3 ?c4 ?c5 (wr.heap.size + 1) (by simp) ?_)
                case c1 =>
                  intro j u hj
                  match j, hj with
                  | 0, hj => simp at hj; subst hj; exact (World.cell?_alloc_at (w := wr) _ _ _ _ rfl).trans rfl
                case c2 => intro u hu; simp at hu; subst hu; rfl
                case c3 => unfold maxLen; omega
                case c4 => omega
                case c5 => simp; omega
                intro g cap w9 hown' hgrow hat hlt'
                have Q := rr_round hu hB hown hown' hgrow
                clear hown' hgrow hown hu hB hat hlt'
                go_wp2
                go_roundw
                case rel => exact ⟨i + 1, -1, ys ++ [m], by go_num, rfl, HN.out, Q.1, Q.2.1, Q.2.2⟩
                case measure => simp [intOf]; omega
      · have Hst := Lib.hid (show Stops r i from .inl (by omega))
        have hsz := Hsz.out
        clear hM hem h1 hlo hhi
        by_cases hn0 : n < 0
        · have HN := Lib.hid (HM.out.stop Hst.out (scan_end_out hn0))
          go_wp2
          go_roundw
          case rel => exact ⟨i + 1, -1, ys, by go_num, rfl, HN.out, hown, hu, hB⟩
          case measure => simp [intOf]; omega
        · obtain ⟨m, rfl⟩ := Int.eq_ofNat_of_zero_le (show 0 ≤ n by omega)
          have hm31 : m ≤ 31 := by have := HM.out.nhi; omega
          have hyl := (catsOf_bits 32 ys HM.out.uniq HM.out.low).2
          have hI := IntsAt.of_own hown
          have hwz : w.heap.size < wr.heap.size := World.block_lt_of_cell? _ _ hu.1
          clear hn0
          by_cases hmem : m ∈ ys
          · have HR2 := Lib.hid (HM.out.none Hst.out (scan_end_old hmem))
            have Hm := Lib.hid ((has_mem m ys).trans (decide_eq_true hmem))
            clear hmem
            go_wp2_with fail
            refine (rhas_any _ ys m (by omega) _ hI).mono ?_
            rintro e w4 ⟨rfl, rfl⟩
            rw [Hm.out]
            obtain ⟨v0, v1, _, _⟩ := hu.put 0 0
            have HV := Lib.hid (And.intro v0 v1)
            obtain ⟨u0, u1, f0, f1⟩ := hu
            clear v0 v1 hI
            go_wp2
            obtain ⟨v0, v1⟩ := HV.out
            exact bodyPost_ret (v := labRet none) (by simp [results, Tryd.results26, go_sem, labRet, v0, v1]) rfl ⟨by rw [rdRef_none (HR.out.trans HR2.out)], (hB.setCell (p := ⟨w.heap.size, 0, none⟩) (by simp) _).setCell (p := ⟨w.heap.size, 1, none⟩) (by simp) _⟩
          · have HN := Lib.hid (HM.out.stop Hst.out (scan_end_new hmem))
            have Hm := Lib.hid ((has_mem m ys).trans (decide_eq_false hmem))
            clear hmem
            go_wp2_with fail
            refine (rhas_any _ ys m (by omega) _ hI).mono ?_
            rintro e w4 ⟨rfl, rfl⟩
            rw [Hm.out]
            clear hI
            go_wp2_with (at_builtin; refine wpList_append_lies _ rfl _ _ 30 rfl (w.heap.size + 1) 3 i0 (.int .i64 0) 1 8 Tryd.underlying30 hi hz0 hz1 hz2 rfl (by decide) _ _ _ rfl (World.ownsRow.alloc (w := wr) hown _) ⟨wr.heap.size, 0, none⟩ 1 1 [.int .i64 m] rfl rfl ?c1 ?c2 (by omega) ?c3 ?c4 ?c5 (wr.heap.size + 1) (by simp) ?_)
            case c1 =>
              intro j u hj
              match j, hj with
              | 0, hj => simp at hj; subst hj; exact (World.cell?_alloc_at (w := wr) _ _ _ _ rfl).trans rfl
            case c2 => intro u hu; simp at hu; subst hu; rfl
            case c3 => unfold maxLen; omega
            case c4 => omega
            case c5 => simp; omega
            intro g cap w9 hown' hgrow hat hlt'
            have Q := rr_round hu hB hown hown' hgrow
            clear hown' hgrow hown hu hB hat hlt'
            go_wp2
            go_roundw
            case rel => exact ⟨i + 1, -1, ys ++ [m], by go_num, rfl, HN.out, Q.1, Q.2.1, Q.2.2⟩
            case measure => simp [intOf]; omega
    · obtain ⟨rfl, hRs⟩ := hM.past (by have := hM.hi; omega)
      have HRs := Lib.hid hRs
      have hsz := Hsz.out
      obtain ⟨hcat, hyl⟩ := catsOf_bits 32 ys hM.uniq hM.low
      have Hcat := Lib.hid hcat
      have Hlow := Lib.hid hM.low
      clear hRs hM hcat
      obtain ⟨lv, hlv⟩ : ∃ lv : Int, (b.toNat : Int) - 48 = lv := ⟨_, rfl⟩
      have Hlv := Lib.hid hlv
      have hrl : rB lv = true := rB_true.2 (by omega)
      obtain ⟨T, hT⟩ : ∃ T : ByteArray, (⟨(txtL lv.toNat (tms ((catsOf ys : Nat) : Int) 32)).toArray⟩ : ByteArray) = T := ⟨_, rfl⟩
      have Htx := Lib.hid (hT ▸ rtext_right lv ((catsOf ys : Nat) : Int) hrl (Int.natCast_nonneg _) (by have := Hcat.out; omega))
      obtain ⟨ct, hct⟩ : ∃ ct : Int, ((catsOf ys : Nat) : Int) = ct := ⟨_, rfl⟩
      have Hof := Lib.hid (hct ▸ of_any lv u4 ys Hlow.out Hcat.out hyl wr (IntsAt.of_own hown))
      rw [hct] at Htx
      have HT := Lib.hid (show rdRef (b :: r) = if T.toList = s.toList then some (lv.toNat, ct.toNat) else none by
        rw [← hT, ba_toList, ba_toList, Hl.out, ← hct, ← hlv]
        simp only [rdRef, HR.out, HRs.out]
        rw [if_pos ⟨hb0, hb1⟩]
        have : ((b.toNat : Int) - 48).toNat = b.toNat - 48 := by omega
        rw [this, Int.toNat_natCast])
      have hct2 : 0 ≤ ct := by rw [← hct]; exact Int.natCast_nonneg _
      have hlv2 : 0 ≤ lv := (rB_true.1 hrl).1
      clear hct hT Hlow HM hown
      go_wp2_with fail
      refine Hof.out.mono ?_
      rintro e w2 ⟨rfl, hb⟩
      replace hu := hu.keep hb
      replace hB := hB.trans (hb.mono hB.size)
      clear hb Hof
      go_wp2_with fail
      refine (Htx.out _).mono ?_
      rintro e w3 ⟨rfl, hb⟩
      obtain ⟨a0, a1⟩ := (LabAt.one w2 lv ct).keep hb
      replace hu := (hu.later (.cells #[.int .i64 lv, .int .u32 ct] 24)).keep hb
      replace hB := (hB.alloc hB.size (.cells #[.int .i64 lv, .int .u32 ct] 24)).trans (hb.mono (by have := hB.size; simp; omega))
      clear hb Htx
      have HB := Lib.hid hB
      clear hB
      by_cases ht : T.toList = s.toList
      · rw [if_pos ht] at HT
        have hbt : (T.toList == s.toList) = true := beq_iff_eq.2 ht
        clear ht
        obtain ⟨v0, v1, _, _⟩ := hu.put lv ct
        have HV := Lib.hid (And.intro v0 v1)
        obtain ⟨u0, u1, f0, f1⟩ := hu
        clear v0 v1
        go_wp2
        obtain ⟨v0, v1⟩ := HV.out
        exact bodyPost_ret (v := labRet (some (lv.toNat, ct.toNat))) (by simp [results, Tryd.results26, go_sem, labRet, v0, v1]; omega) rfl ⟨by rw [HT.out], (HB.out.setCell (p := ⟨w.heap.size, 0, none⟩) (by simp) _).setCell (p := ⟨w.heap.size, 1, none⟩) (by simp) _⟩
      · rw [if_neg ht] at HT
        have hbt : (T.toList == s.toList) = false := beq_eq_false_iff_ne.2 ht
        clear ht
        obtain ⟨v0, v1, _, _⟩ := hu.put 0 0
        have HV := Lib.hid (And.intro v0 v1)
        obtain ⟨u0, u1, f0, f1⟩ := hu
        clear v0 v1
        go_wp2
        obtain ⟨v0, v1⟩ := HV.out
        exact bodyPost_ret (v := labRet none) (by simp [results, Tryd.results26, go_sem, labRet, v0, v1]) rfl ⟨by rw [HT.out], (HB.out.setCell (p := ⟨w.heap.size, 0, none⟩) (by simp) _).setCell (p := ⟨w.heap.size, 1, none⟩) (by simp) _⟩

/-- What the document's own Read answers, of whatever text: just what label.Read does. -/
theorem rread_any (s : ByteArray) (hs : s.size ≤ 1000000) (w : World) :
    Calls Tryd.prog 26 #[.string s] w fun e w' => e = .returned (labRet (rdAll s.data.toList)) ∧ Below w.heap.size w w' := by
  rw [← rdRef_all]
  cases hl : s.data.toList with
  | nil =>
    obtain rfl : s = ⟨#[]⟩ := by apply ByteArray.ext; apply Array.ext'; exact hl
    exact rread_nil w
  | cons b r =>
    by_cases hb : 48 ≤ b.toNat ∧ b.toNat ≤ 55
    · exact rread_near s b r hl hb hs w
    · have : rdRef (b :: r) = none := by simp only [rdRef]; exact if_neg hb
      rw [this]
      exact rread_far s b r hl (by omega) w
end Go.Proofs.YtkmbllnnaljepaaDoor
