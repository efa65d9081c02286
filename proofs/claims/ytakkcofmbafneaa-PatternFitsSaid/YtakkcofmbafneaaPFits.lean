/- Whether a text fits: the walk. -/
import Derived.Test.YtakkcofmbafneaaPFitsP
namespace Go.Proofs.Ytakkcofmbafneaa
open Go.ChangeShapes Go.WideShapes Go.RowKit Go.Maps

theorem below_asd {w w1 w2 : World} {B : Nat} {T : Nat → Prop} (h : Below B w w1) (k : Asd T w1 w2) (hB : B ≤ w1.heap.size) (hT : ∀ i, T i → B ≤ i) : Below B w w2 := h.trans (k.toBelow hB hT)
theorem grown_below {w w' : World} (h : Below w.heap.size w w') : w.grownBy w' none := ⟨h.os, h.tape, h.output, h.size, fun k hk _ => h.block k hk⟩
theorem take_byte {l : Bx} {k : Nat} {e : UInt8} (h : l[k]? = some e) : l.take (k + 1) = l.take k ++ [e] := by rw [List.take_add_one, h]; rfl
/-- What Fits hands back. -/
def FitsQ (S : List Stp) (s : Bs) (w : World) (e : Ending) (w' : World) : Prop := (∃ b, e = .returned (.bool b) ∧ (b = true ↔ At S s S.length)) ∧ Below w.heap.size w w'
theorem take_cons_drop {s : Bx} {k : Nat} {c : UInt8} (h : s[k]? = some c) : s.take k ++ c :: s.drop (k + 1) = s := by
  obtain ⟨hlt, rfl⟩ := List.getElem?_eq_some_iff.1 h
  rw [List.getElem_cons_drop, List.take_append_drop]
set_option maxHeartbeats 12800000 in
set_option maxRecDepth 100000 in
theorem fitsm_any (G base : Nat) (t : Bs) (S : List Stp) (V : Value) (F : List Value) (hT : Tame S) (s : Bs) (w : World) (hP : PatAt w G base t S V F) (hsl : s.length ≤ 100000) :
    Calls Try.prog 16 #[.pointer (some ⟨G, 0, none⟩), .string ⟨s.toArray⟩] w (FitsQ S s w) := by
  have hmm := @run_makeMap Try.prog
  have HT : Unit → Tame S := fun _ => hT
  have hN := hT.len
  clear hT
  have hG := Rw.lt hP.row
  have hFt : ∀ k, Foot V F k → k < w.heap.size := fun k hk => (hP.st.lt hk).2
  have HR := fun mb (hm : w.heap.size ≤ mb) => reach_any G base t S V F mb (HT ()) (by omega) (fun e => by have := hFt mb e; omega) (S.length + 2)
  obtain ⟨aV, cV, eV, _⟩ := own_slice hP.st.row
  subst eV
  have hsz : ((⟨s.toArray⟩ : ByteArray).size : Int) = (s.length : Int) := by simp [ByteArray.size]
  have hidx := fun k c (h : s[k]? = some c) w => at_text s k c h (k : Int) rfl w
  obtain ⟨T, hTe⟩ : ∃ T, (⟨s.toArray⟩ : ByteArray) = T := ⟨_, rfl⟩
  rw [hTe] at hsz hidx ⊢
  clear hTe
  have HS : Unit → (T.size : Int) = (s.length : Int) := fun _ => hsz
  have HI : Unit → ∀ (k : Nat) c, s[k]? = some c → ∀ w, (Instr.index 9 (.string T) (.int .i64 (k : Int))).run Try.prog w = .ok (.int .u8 (c.toNat : Int)) w := fun _ k c h w => hidx k c h w
  clear hidx
  go_enter Try.func16, Try.ntmps16
  go_upto_region 4 with fail
  have hM := World.ownsMap_made (H := Unit) w Try.prog 3 unitElem
  have hB1 := (Below.refl w.heap.size w).alloc (Nat.le_refl _) (.map #[] 0)
  have hP1 := hP.stay hB1
  have hmb1 : w.heap.size < (w.alloc (.map #[] 0)).heap.size := by simp
  generalize w.alloc (.map #[] 0) = w1 at *
  obtain ⟨mb, hmb⟩ : ∃ mb, w.heap.size = mb := ⟨_, rfl⟩
  have hmw : w.heap.size ≤ mb := by omega
  rw [hmb] at hM hmb1
  simp only [hmb]
  have HR' : Unit → ReachC G base t S (.slice aV S.length cV) F mb (S.length + 2) := fun _ => HR mb hmw
  have hM1 := map_nil (N := S.length) hM rfl
  have K := Lib.hid (HR' () 0 _ w1 hP1 hM1 (Nat.zero_le _) (by have := lack_le (.map []) S.length; omega))
  clear HR hM hmm
  go_wp2_with fail
  refine K.out.mono ?_
  rintro e w2 ⟨rfl, ⟨D2, hM2, hr2, _⟩, hA2⟩
  have hD2 : ∀ j, InM D2 j ↔ At S [] j := fun j => by
    rw [(hr2.all (shut_nil S)).2 j]
    exact ⟨fun e => e.elim (fun h => absurd h (nil_not j)) id, .inr⟩
  have hB2 := below_asd hB1 hA2 (by omega) (fun i (hi : i = mb) => by omega)
  have hsz2 := hA2.size
  clear K hr2 hM1 hA2 hP1
  go_upto_region 7 with fail
  go_loopw [6, 21] (fun av i wr => ∃ (k : Nat) (D : DataW Unit) (n : Nat) (xs : List Value), k ≤ s.length ∧ i = .int .i64 (k : Int) ∧ MapAt wr mb S.length D ∧ (∀ j, InM D j ↔ At S (s.take k) j) ∧ wr.ownsRow (mb + 1) 3 1 av n xs ∧ Below w.heap.size w wr ∧ mb < wr.heap.size) (fun _ i _ => s.length - (intOf i).toNat)
  case atStart => exact ⟨0, D2, 0, [], Nat.zero_le _, rfl, hM2, hD2, World.ownsRow_nil _ _ _ _, hB2, by omega⟩
  case round =>
    obtain ⟨k, D, n0, xs0, hk, rfl, hM3, hD3, ho3, hB3, hmb3⟩ := hrel
    have HD3 : Unit → ∀ j, InM D j ↔ At S (s.take k) j := fun _ => hD3
    clear hD3 hM2 hD2 hB2 hsz2 hB1
    have hP3 := hP.stay hB3
    by_cases hlt : k < s.length
    · obtain ⟨c, hc⟩ : ∃ c, s[k]? = some c := ⟨_, List.getElem?_eq_getElem hlt⟩
      have hi := HI () k c hc
      have hki : (k : Int) < (T.size : Int) := by rw [HS ()]; omega
      obtain ⟨v0, hcut, ho4, hv0⟩ := own_cut0 ho3
      obtain ⟨⟨nm, hown, hnm⟩, hup⟩ := hM3
      have hsD := size_le hown
      clear hsz ho3 hv0
      go_upto_region 10 with fail
      clear hcut
      go_wp2_with (at_range; refine wpList_range_own _ rfl _ 61 rfl 3 67 law_int Try.underlying61 (unitElem (H := Unit)) mb nm D rfl hown ?_; intro w4 hrg4 hg4 hs4)
      obtain ⟨r, hr⟩ : ∃ r, wr.heap.size = r := ⟨_, rfl⟩
      rw [hr] at hrg4 hs4
      have hrw : w.heap.size ≤ r := by have := hB3.size; omega
      have hB4 : Below w.heap.size w w4 := hB3.grown hg4 hB3.size (fun k e => by cases e)
      have ho4' : w4.ownsRow (mb + 1) 3 1 v0 0 [] := ho4.kept hg4 (by cases v0.ownBlock <;> simp)
      have hav0 : v0.ownBlock ≠ some r := fun e => by have := (ho4.lt r e).2; omega
      simp only [hr]
      go_frame
      clear ho4 hg4 hown hP3 hB3
      go_loopw [6] (fun av wq => ∃ (left : Lit → Bool) (cnt : Nat) (xs : List Nat), wq.ranges Try.prog 3 unitElem mb r nm D left cnt ∧ Ah S D c left xs ∧ wq.ownsRow (mb + 1) 3 1 av xs.length (xs.map intV) ∧ av.ownBlock ≠ some r ∧ xs.length + cnt ≤ Maps.size D ∧ Below w.heap.size w wq ∧ r < wq.heap.size) (fun _ wq => wq.rangeLeft mb r)
      case atStart => exact ⟨_, _, [], hrg4, Ah.start S D c, ho4', hav0, by simp, hB4, by omega⟩
      case round =>
        obtain ⟨left, cnt, xs, hrq, hAh, hoq, hav, hcn, hBq, hrlt⟩ := hrel
        clear hrg4 ho4' hav0 hB4 hs4
        have hrne := hrq.ne
        go_wp2_with (at_next; refine wpList_next_ranges _ rfl _ rfl 3 law_int unitElem (Value.int .i64) (fun (_ : Unit) => Value.agg #[]) (fun key kl hkey => by obtain ⟨x, rfl, _⟩ := Maps.keyOf_int_inv Try.underlying3 hkey; exact ⟨x, rfl⟩) (fun v y hv => by obtain ⟨rfl, _⟩ := unitElem_inv hv; exact ⟨(), rfl⟩) mb r nm D left cnt rfl hrq ?_ ?_)
        · intro hc0 hl0
          have hl1 : ∀ l, left l = false := hl0
          have hmq := hrq.owns
          have hPq := hP.stay hBq
          have hmlt := hmq.lt
          cases xs with
          | nil =>
            obtain ⟨aA, cA, eA, _⟩ := own_slice hoq
            subst eA
            clear hrq hoq hav hmq
            go_wp2_with fail
            go_ret
            refine ⟨⟨false, rfl, ?_⟩, hBq⟩
            refine ⟨fun e => (by cases e), fun ha => ?_⟩
            refine absurd ?_ (hAh.none (v := s.drop (k + 1)) hl1 (HD3 ()) S.length)
            rw [take_cons_drop hc]
            exact ha
          | cons x0 xs0 =>
            have hxn : 0 < (x0 :: xs0).length := by simp
            have hAs := fun y => hAh.step hl1 (HD3 ()) y
            have hxN : ∀ x ∈ (x0 :: xs0), x ≤ S.length := fun x hx => by
              obtain ⟨k', st, rfl, _, h2, _⟩ := hAh.from_ x hx
              have := (List.getElem?_eq_some_iff.1 h2).1
              omega
            have HAs : Unit → ∀ y, (∃ x ∈ (x0 :: xs0), Eps S x y) ↔ At S (s.take (k + 1)) y := fun _ y => by rw [take_byte hc]; exact hAs y
            have HXN : Unit → ∀ x ∈ (x0 :: xs0), x ≤ S.length := fun _ => hxN
            have hxl : (x0 :: xs0).length ≤ 100000 := by omega
            clear hAs hxN hAh HD3 hrq hl0 hl1
            obtain ⟨ys, hys⟩ : ∃ ys, x0 :: xs0 = ys := ⟨_, rfl⟩
            rw [hys] at hoq HAs HXN hxn hxl
            obtain ⟨ga, ca, eA⟩ := own_pos hoq hxn
            subst eA
            have hlen0 : (x0 :: xs0).length = ys.length := by rw [hys]
            have hne0 : ((ys.length : Int) == 0) = false := by rw [beq_eq_false_iff_ne]; omega
            clear hys hcn hlen0
            go_wp2_with (refine wpList_clear_own _ rfl _ 61 rfl 3 67 Try.underlying61 unitElem mb nm D rfl hmq ?_)
            intro w6 hM6 hg6
            have hM7 := map_nil (N := S.length) hM6 rfl
            have ho7 := hoq.kept hg6 (.inr (fun e => by have := (hoq.lt _ e).1; omega))
            have hB7 := hBq.grown hg6 hBq.size (fun j e => by injection e with e; omega)
            have hlt7 := hM7.lt
            clear hM6 hg6 hmq hoq hBq hav hPq
            go_upto_region 19 with fail
            go_loopw [64] (fun jv wz => ∃ (j : Nat) (D2 : DataW Unit), j ≤ ys.length ∧ jv = .int .i64 (j : Int) ∧ MapAt wz mb S.length D2 ∧ Shut S (InM D2) ∧ (∀ y, InM D2 y ↔ ∃ z ∈ ys.take j, Eps S z y) ∧ wz.ownsRow (mb + 1) 3 1 (.slice (some ⟨ga, 0, none⟩) ys.length ca) ys.length (ys.map intV) ∧ Below w.heap.size w wz) (fun jv _ => ys.length - (intOf jv).toNat)
            case atStart => exact ⟨0, .map [], Nat.zero_le _, rfl, hM7, shut_nil S, fun y => ⟨fun h => absurd h (nil_not y), fun ⟨z, hz, _⟩ => by simp at hz⟩, ho7, hB7⟩
            case round =>
              obtain ⟨j, D2, hj, rfl, hMz, hSz, hDz, hoz, hBz⟩ := hrel
              clear hM7 ho7 hB7
              have HSz : Unit → Shut S (InM D2) := fun _ => hSz
              have HDz : Unit → ∀ y, InM D2 y ↔ ∃ z ∈ ys.take j, Eps S z y := fun _ => hDz
              clear hSz hDz
              by_cases hjl : j < ys.length
              · have hji : (j : Int) < (ys.length : Int) := by omega
                obtain ⟨x, hx⟩ : ∃ x, ys[j]? = some x := ⟨_, List.getElem?_eq_getElem hjl⟩
                have hcx := hoz.cellAt j (by omega)
                rw [List.getElem?_map, hx] at hcx
                change _ = some (Value.int .i64 (x : Int)) at hcx
                have K := Lib.hid (HR' () x D2 _ (hP.stay hBz) hMz (HXN () x (List.mem_of_getElem? hx)) (by have := lack_le D2 S.length; omega))
                have hmz := hMz.lt
                go_wp2_with fail
                refine K.out.mono ?_
                rintro e' wy ⟨rfl, ⟨D3, hM3', hr3, _⟩, hA3⟩
                obtain ⟨hS3, hD3'⟩ := reach_more (HSz ()) (HDz ()) hx hr3
                have ho3' := own_asdS hoz hA3 (fun i e (e2 : i = mb) => by have := (hoz.lt i e).1; omega)
                have hB3' := below_asd hBz hA3 hBz.size (fun i (hi : i = mb) => by omega)
                clear K hcx hoz hBz hMz hr3 hA3
                go_wp2_with fail
                go_roundw
                case rel => exact ⟨j + 1, D3, by omega, by go_num, hM3', hS3, hD3', ho3', hB3'⟩
                case measure => simp [intOf]; omega
              · have hje : j = ys.length := by omega
                have hnot : ¬ ((j : Int) < (ys.length : Int)) := by omega
                have hDe : ∀ y, InM D2 y ↔ At S (s.take (k + 1)) y := fun y => by
                  rw [HDz () y, hje, List.take_length]
                  exact HAs () y
                have hmz := hMz.lt
                clear hje HDz HSz HAs HXN
                go_wp2_with fail
                go_roundw
                case rel => exact ⟨k + 1, D2, ys.length, ys.map intV, by omega, by go_num, hMz, hDe, hoz, hBz, hmz⟩
                case measure => simp [intOf]; omega
        · intro x u kl y wn cnt5 hkey hlk hR hat hrg5 hlt5 hg5 hs5 hen
          obtain ⟨x', ex, rfl, _⟩ := Maps.keyOf_int_inv Try.underlying3 hkey
          injection ex with _ ex
          subst ex
          have hhas := has_true_of_atKey hat
          obtain ⟨kx, rfl, hkx⟩ := hup x hhas
          have hBq5 := hBq.grown hg5 hBq.size (fun j e => by injection e with e; omega)
          have hoq5 := hoq.kept hg5 (.inr hav)
          have hP5 := hP.stay hBq5
          have c5 : wn.cell? ⟨G, 1, none⟩ = some (.slice aV S.length cV) := Rw.cell hP5.row 1
          clear hR hat hlk hkey hg5 hBq hoq
          by_cases hkN : kx < S.length
          · have hkNi : (kx : Int) < (S.length : Int) := by omega
            obtain ⟨st, hst⟩ : ∃ st, S[kx]? = some st := ⟨_, List.getElem?_eq_getElem hkN⟩
            obtain ⟨f, hf⟩ : ∃ f, F[kx]? = some f := ⟨_, List.getElem?_eq_getElem (by rw [hP5.st.len]; exact hkN)⟩
            obtain ⟨Gs, cap, eV⟩ := own_pos hP5.st.row (by omega)
            injection eV with e1 _ e3
            subst e1 e3
            have hc6 : wn.cell? ⟨Gs, kx * 257 + c.toNat, none⟩ = some (.bool (st.set c)) := by
              have hcl := c.toNat_lt
              rw [hP5.st.row.cellAt _ (by omega), stepsC_get hst hf (by omega), stepC_set _ _ hcl, UInt8.ofNat_toNat]
            have hci : (c.toNat : Int) < 256 := by have := c.toNat_lt; omega
            clear hP5 hf hkx
            cases hsc : st.set c with
            | false =>
              rw [hsc] at hc6
              have HMISS : ∀ st', S[kx]? = some st' → st'.set c = false := fun st' h' => by rw [hst] at h'; injection h' with h'; rw [← h']; exact hsc
              go_upto_region 13 with fail
              try simp only [List.append_eq, List.cons_append, List.nil_append]
              refine region_class (fun w' => w' = wn.drew ∧ w'.cell? ⟨G, 1, none⟩ = some (.slice (some ⟨Gs, 0, none⟩) S.length cV) ∧ w'.cell? ⟨Gs, kx * 257 + c.toNat, none⟩ = some (.bool false)) (by kernel_rfl) (by kernel_rfl) (⟨rfl, c5, hc6⟩) ?_
              repeat
                first
                | go_big_quiet_skip
                | (go_big_quiet_want
                   refine quiet_val ?_
                   apply Exists.intro
                   refine ⟨fun w' hw' => ?_, ?_⟩
                   · obtain ⟨_, e0, e1⟩ := hw'
                     go_simp
                     first | done | rfl | exact ⟨rfl, rfl⟩
                   simp only [Act.put, List.setIfInBounds_toArray, List.set_cons_zero, List.set_cons_succ]
                   go_big_quiet_on)
                | (go_big_quiet_want
                   refine quiet_call ?_
                   apply Exists.intro
                   apply Exists.intro
                   refine ⟨fun w' => ?_, ?_⟩
                   · go_simp
                     first | done | rfl | exact ⟨rfl, rfl⟩
                   apply Exists.intro
                   refine ⟨fun w' hw' => ?_, ?_⟩
                   · first
                     | fail
                   simp only [Act.put, List.setIfInBounds_toArray, List.set_cons_zero, List.set_cons_succ]
                   go_big_quiet_on)
              refine wpQuiet_nil ?_
              intro w5 hw5
              have hw6 := hw5.1
              have hb6 : Below wn.heap.size wn w5 := by rw [hw6]; exact (Below.refl _ _).drew
              have hrg6 := hrg5.kept (grown_below hb6) (by simp) (by simp)
              have hBq6 := hBq5.trans (hb6.mono hBq5.size)
              have hoq6 := own_asdS (S := fun _ => False) hoq5 (Asd.of_below hb6) (fun _ _ e => e)
              have hr6 : r < w5.heap.size := by have := hb6.size; omega
              clear hb6 hoq5 hBq5 c5
              clear hw5 hw6 hc6
              go_wp2_with fail
              go_roundw
              case rel => exact ⟨_, cnt5, xs, hrg6, hAh.miss HMISS, hoq6, hav, by omega, hBq6, hr6⟩
              case measure => rw [hrq.left_eq, hrg6.left_eq]; exact hlt5
            | true =>
              rw [hsc] at hc6
              go_upto_region 13 with fail
              try simp only [List.append_eq, List.cons_append, List.nil_append]
              refine region_class (fun w' => w' = wn.drew ∧ w'.cell? ⟨G, 1, none⟩ = some (.slice (some ⟨Gs, 0, none⟩) S.length cV) ∧ w'.cell? ⟨Gs, kx * 257 + c.toNat, none⟩ = some (.bool true)) (by kernel_rfl) (by kernel_rfl) (⟨rfl, c5, hc6⟩) ?_
              repeat
                first
                | go_big_quiet_skip
                | (go_big_quiet_want
                   refine quiet_val ?_
                   apply Exists.intro
                   refine ⟨fun w' hw' => ?_, ?_⟩
                   · obtain ⟨_, e0, e1⟩ := hw'
                     go_simp
                     first | done | rfl | exact ⟨rfl, rfl⟩
                   simp only [Act.put, List.setIfInBounds_toArray, List.set_cons_zero, List.set_cons_succ]
                   go_big_quiet_on)
                | (go_big_quiet_want
                   refine quiet_call ?_
                   apply Exists.intro
                   apply Exists.intro
                   refine ⟨fun w' => ?_, ?_⟩
                   · go_simp
                     first | done | rfl | exact ⟨rfl, rfl⟩
                   apply Exists.intro
                   refine ⟨fun w' hw' => ?_, ?_⟩
                   · first
                     | fail
                   simp only [Act.put, List.setIfInBounds_toArray, List.set_cons_zero, List.set_cons_succ]
                   go_big_quiet_on)
              refine wpQuiet_nil ?_
              intro w5 hw5
              have hw6 := hw5.1
              have hb6 : Below wn.heap.size wn w5 := by rw [hw6]; exact (Below.refl _ _).drew
              have hrg6 := hrg5.kept (grown_below hb6) (by simp) (by simp)
              have hBq6 := hBq5.trans (hb6.mono hBq5.size)
              have hoq6 := own_asdS (S := fun _ => False) hoq5 (Asd.of_below hb6) (fun _ _ e => e)
              have hr6 : r < w5.heap.size := by have := hb6.size; omega
              clear hb6 hoq5 hBq5 c5
              clear hw5 hw6 hc6
              obtain ⟨aA, cA, eA, _⟩ := own_slice hoq6
              subst eA
              go_wp2_with (refine wpList_row_int (.int .i64 ((kx : Int) + 1)) rfl _ rfl rfl rfl ?_)
              intro Y w7 rY hb7
              have hoq7 := own_asdS (S := fun _ => False) hoq6 (Asd.of_below hb7) (fun _ _ e => e)
              have hrg7 := hrg6.kept (grown_below hb7) (by simp) (by simp)
              have hBq7 := hBq6.trans (hb7.mono hBq6.size)
              have hr7 : r < w7.heap.size := by have := hb7.size; omega
              have hm7 := hBq7.size
              clear hoq6 hrg6 hBq6 hr6 hb7
              go_wp2_with (refine wpList_own_int (.tmp 53) (.tmp 56) rfl rfl (mb + 1) _ _ _ rfl hoq7 Y (.int .i64 ((kx : Int) + 1)) rfl rY rfl (by omega) (by omega) ?_)
              intro v8 w8 hO8 hg8 hl8
              have hrg8 := hrg7.kept hg8 (fun e => by have := (hoq7.lt _ e.symm).1; omega) (fun e => hav e.symm)
              have hBq8 := hBq7.grown hg8 hm7 (fun j e => by have := (hoq7.lt j e).1; omega)
              have hs8 := hg8.size
              have hav8 : v8.ownBlock ≠ some r := by
                rcases hl8 with e | e
                · rw [e]; exact hav
                · rw [e]; intro e2; injection e2 with e2; omega
              have hO9 : w8.ownsRow (mb + 1) 3 1 v8 (xs ++ [kx + 1]).length ((xs ++ [kx + 1]).map intV) := by
                rw [List.length_append, List.map_append]
                exact hO8
              clear hO8 hg8 hl8 hoq7 hrg7 hBq7 rY
              go_wp2_with fail
              go_roundw
              case rel => exact ⟨_, cnt5, xs ++ [kx + 1], hrg8, hAh.hit hhas hst hsc, hO9, hav8, by rw [List.length_append]; simp only [List.length_singleton]; omega, hBq8, by omega⟩
              case measure => rw [hrq.left_eq, hrg8.left_eq]; exact hlt5
          · have hkNi : ¬ ((kx : Int) < (S.length : Int)) := by omega
            have HMISS : ∀ st', S[kx]? = some st' → st'.set c = false := fun st' h' => by have := (List.getElem?_eq_some_iff.1 h').1; omega
            go_upto_region 13 with fail
            try simp only [List.append_eq, List.cons_append, List.nil_append]
            refine region_class (fun w' => w' = wn.drew ∧ w'.cell? ⟨G, 1, none⟩ = some (.slice aV S.length cV)) (by kernel_rfl) (by kernel_rfl) (⟨rfl, c5⟩) ?_
            repeat
              first
              | go_big_quiet_skip
              | (go_big_quiet_want
                 refine quiet_val ?_
                 apply Exists.intro
                 refine ⟨fun w' hw' => ?_, ?_⟩
                 · obtain ⟨_, e0⟩ := hw'
                   go_simp
                   first | done | rfl | exact ⟨rfl, rfl⟩
                 simp only [Act.put, List.setIfInBounds_toArray, List.set_cons_zero, List.set_cons_succ]
                 go_big_quiet_on)
              | (go_big_quiet_want
                 refine quiet_call ?_
                 apply Exists.intro
                 apply Exists.intro
                 refine ⟨fun w' => ?_, ?_⟩
                 · go_simp
                   first | done | rfl | exact ⟨rfl, rfl⟩
                 apply Exists.intro
                 refine ⟨fun w' hw' => ?_, ?_⟩
                 · first
                   | fail
                 simp only [Act.put, List.setIfInBounds_toArray, List.set_cons_zero, List.set_cons_succ]
                 go_big_quiet_on)
            refine wpQuiet_nil ?_
            intro w5 hw5
            have hw6 := hw5.1
            have hb6 : Below wn.heap.size wn w5 := by rw [hw6]; exact (Below.refl _ _).drew
            have hrg6 := hrg5.kept (grown_below hb6) (by simp) (by simp)
            have hBq6 := hBq5.trans (hb6.mono hBq5.size)
            have hoq6 := own_asdS (S := fun _ => False) hoq5 (Asd.of_below hb6) (fun _ _ e => e)
            have hr6 : r < w5.heap.size := by have := hb6.size; omega
            clear hb6 hoq5 hBq5 c5
            clear hw5 hw6
            go_wp2_with fail
            go_roundw
            case rel => exact ⟨_, cnt5, xs, hrg6, hAh.miss HMISS, hoq6, hav, by omega, hBq6, hr6⟩
            case measure => rw [hrq.left_eq, hrg6.left_eq]; exact hlt5
    · have hke : k = s.length := by omega
      have hki : ¬ ((k : Int) < (T.size : Int)) := by rw [HS ()]; omega
      have hAll : ∀ j, InM D j ↔ At S s j := fun j => by rw [HD3 (), hke, List.take_length]
      have HAll : Unit → ∀ j, InM D j ↔ At S s j := fun _ => hAll
      obtain ⟨⟨nm, hown, hnm⟩, hup⟩ := hM3
      have hkey := key_int (x := (S.length : Int)) (by omega) (by omega)
      have c3 : wr.cell? ⟨G, 1, none⟩ = some (.slice aV S.length cV) := Rw.cell hP3.row 1
      have hki' : ¬ ((k : Int) < (s.length : Int)) := by omega
      clear hAll hke HD3 HR' HI ho3 hP3 hup
      go_wp2_with (at_lookup; refine wpList_lookup_own_unit _ rfl _ _ 61 rfl 3 67 law_int Try.underlying61 (zero_unit _) mb nm D rfl hown _ _ rfl hkey ?_)
      go_ret
      exact ⟨⟨_, rfl, HAll () S.length⟩, hB3.alloc hB3.size _⟩
end Go.Proofs.Ytakkcofmbafneaa
