/- The document's own Join: what each call returns. -/
import Derived.Test.YtknhkmlihbgjpaaDoorLbFlows
namespace Go.Proofs.YtknhkmlihbgjpaaDoor.Lb
open Go.ChangeShapes Go.WideShapes Go.RowKit

theorem cell_set_far {w : World} {a b : Addr} {v : Value} (h : a.block ≠ b.block) : (w.setCell a v).cell? b = w.cell? b := World.cell?_of_block (Below.heap_setCell w a v b.block (Ne.symm h))
theorem own_keep {w w' : World} {B e size n : Nat} {v : Value} {xs : List Value} (h : w.ownsRow B e size v n xs) (hb : Below w.heap.size w w') : w'.ownsRow B e size v n xs := by
  refine ⟨h.1, ?_⟩
  rcases h.2 with hn | ⟨g, cap, cur, rfl, hg, hgg, rest⟩
  · exact .inl hn
  · exact .inr ⟨g, cap, cur, rfl, hg, by rw [hb.block g (Array.getElem?_eq_some_iff.1 hgg).1]; exact hgg, rest⟩

theorem or_range (c d : Int) (hc : c < 4294967296) (hd : d < 4294967296) : 0 ≤ ((c.toNat ||| d.toNat : Nat) : Int) ∧ ((c.toNat ||| d.toNat : Nat) : Int) < 4294967296 := by
  have := Nat.or_lt_two_pow (n := 32) (x := c.toNat) (y := d.toNat) (by omega) (by omega)
  omega
theorem _root_.Go.Proofs.YtknhkmlihbgjpaaDoor.LabU.put {w : World} {g : Nat} {l c : Int} (h : LabU w g l c) (m d : Int) : LabU ((w.setCell ⟨g, 0, none⟩ (.int .i64 m)).setCell ⟨g, 1, none⟩ (.int .u32 d)) g m d := by
  obtain ⟨h0, h1, h2, h3⟩ := h
  refine ⟨?_, ?_, ?_, ?_⟩
  · rw [World.cell?_setCell_other _ _ _ _ (by simp)]; exact World.cell?_setCell_same' _ _ _ (by rw [h0]; rfl)
  · exact World.cell?_setCell_same' _ _ _ (by rw [World.cell?_setCell_other _ _ _ _ (by simp), h1]; rfl)
  · rw [World.frozen?_setCell, World.frozen?_setCell]; exact h2
  · rw [World.frozen?_setCell, World.frozen?_setCell]; exact h3
/-- The number whose bits are xs. -/
def catsOf (xs : List Nat) : Nat := (xs.map (2 ^ ·)).sum
theorem catsOf_snoc (xs : List Nat) (x : Nat) : catsOf (xs ++ [x]) = catsOf xs + 2 ^ x := by simp [catsOf, List.sum_append]
theorem catsOf_take_le (xs : List Nat) (k : Nat) : catsOf (xs.take k) ≤ catsOf xs := by
  have h : catsOf xs = catsOf (xs.take k) + catsOf (xs.drop k) := by
    unfold catsOf
    rw [← List.sum_append, ← List.map_append, List.take_append_drop]
  omega
theorem catsOf_tms (c : Int) (k : Nat) : catsOf (tms c k) = c.toNat % 2 ^ k := by
  induction k with
  | zero => simp [catsOf, tms, Nat.mod_one]
  | succ k ih =>
    rw [Nat.pow_succ, Nat.mod_mul]
    cases h : c.toNat.testBit k
    · rw [tms_miss c k h, ih]
      rw [Nat.testBit_eq_decide_div_mod_eq, decide_eq_false_iff_not] at h
      have : c.toNat / 2 ^ k % 2 = 0 := by omega
      rw [this]; simp
    · rw [tms_hit c k h, catsOf_snoc, ih]
      rw [Nat.testBit_eq_decide_div_mod_eq, decide_eq_true_iff] at h
      rw [h]; simp
theorem catsOf_all (c : Int) (h0 : 0 ≤ c) (h1 : c < 4294967296) : ((catsOf (tms c 32) : Nat) : Int) = c := by
  rw [catsOf_tms, Nat.mod_eq_of_lt (by omega)]
  omega

theorem _root_.Go.Proofs.YtknhkmlihbgjpaaDoor.LabU.cat {w : World} {g : Nat} {l c : Int} (h : LabU w g l c) (d : Int) : LabU (w.setCell ⟨g, 1, none⟩ (.int .u32 d)) g l d := by
  obtain ⟨h0, h1, h2, h3⟩ := h
  refine ⟨?_, ?_, ?_, ?_⟩
  · rw [World.cell?_setCell_other _ _ _ _ (by simp)]; exact h0
  · exact World.cell?_setCell_same' _ _ _ (by rw [h1]; rfl)
  · rw [World.frozen?_setCell]; exact h2
  · rw [World.frozen?_setCell]; exact h3
theorem _root_.Go.Proofs.YtknhkmlihbgjpaaDoor.LabU.far1 {w : World} {g x : Nat} {l c : Int} (h : LabU w x l c) (hgx : g ≠ x) (o : Nat) (v : Value) : LabU (w.setCell ⟨g, o, none⟩ v) x l c := by
  obtain ⟨h0, h1, h2, h3⟩ := h
  refine ⟨?_, ?_, ?_, ?_⟩
  · rw [cell_set_far (by simpa using hgx)]; exact h0
  · rw [cell_set_far (by simpa using hgx)]; exact h1
  · rw [World.frozen?_setCell]; exact h2
  · rw [World.frozen?_setCell]; exact h3
theorem pow_step {k : Nat} (hk : k + 1 < 32) : ((2 ^ k : Nat) : Int) * 2 % 4294967296 = ((2 ^ (k + 1) : Nat) : Int) := by
  have h := two_pow_lt hk
  rw [Nat.pow_succ] at h ⊢
  generalize (2 : Nat) ^ k = m at *
  omega

set_option maxHeartbeats 800000 in
set_option maxRecDepth 100000 in
theorem of_some (l : Int) (g cap : Nat) (xs : List Nat) (hx : ∀ x ∈ xs, x < 32) (hs : catsOf xs < 4294967296) (hn : xs.length ≤ 32) (w : World) (hc : ∀ (j x : Nat), xs[j]? = some x → w.cell? ⟨g, j, none⟩ = some (.int .i64 (x : Int))) :
    Calls Tryd.prog 65 #[.int .i64 l, .slice (some ⟨g, 0, none⟩) xs.length cap] w fun e w' => e = .returned (.agg #[.int .i64 l, .int .u32 ((catsOf xs : Nat) : Int)]) ∧ Below w.heap.size w w' := by
  have Hc := Lib.hid hc
  have Hx := Lib.hid hx
  have Hs := Lib.hid hs
  clear hc hx hs
  have hu := (LabU.one w 0 0).later (.cells #[.int .i64 l, .int .u32 0] 25)
  have ha := LabU.one (w.alloc (.cells #[.int .i64 0, .int .u32 0] 25)) l 0
  simp only [World.size_alloc] at ha
  have hB := ((Below.refl w.heap.size w).alloc (Nat.le_refl _) (.cells #[.int .i64 0, .int .u32 0] 25)).alloc (by simp) (.cells #[.int .i64 l, .int .u32 0] 25)
  go_enter Tryd.func65, Tryd.ntmps65
  go_wp2
  go_loopw [6] (fun i wr => ∃ n s : Nat, n ≤ xs.length ∧ i = .int .i64 n ∧ Hid (s = catsOf (xs.take n)) ∧ LabU wr (w.heap.size + 1) l (s : Int) ∧ LabU wr w.heap.size 0 0 ∧ Below w.heap.size w wr) (fun i _ => xs.length - (intOf i).toNat)
  case atStart => exact ⟨0, 0, Nat.zero_le _, rfl, rfl, ha, hu, hB⟩
  case round =>
    clear hu ha hB
    obtain ⟨n, s, hle, rfl, hs, ha, hu, hB⟩ := hrel
    by_cases hlt : n < xs.length
    · obtain ⟨x, hx⟩ : ∃ x, xs[n]? = some x := ⟨_, List.getElem?_eq_getElem hlt⟩
      have c0 := Below.keeps hB (Hc.out n x hx)
      have hx32 := Hx.out x (List.mem_of_getElem? hx)
      have Hn := Lib.hid (show catsOf (xs.take (n + 1)) = s + 2 ^ x by rw [List.take_add_one, hx, hs.out]; exact catsOf_snoc _ _)
      have Hb := Lib.hid (show s + 2 ^ x < 4294967296 by have h1 := catsOf_take_le xs (n + 1); rw [Hn.out] at h1; have := Hs.out; omega)
      have Ha := Lib.hid ha
      have Hu := Lib.hid hu
      clear hx ha hu
      go_wp2
      go_loop [7, 8] (fun b i => ∃ k : Nat, k ≤ x ∧ i = .int .i64 k ∧ b = .int .u32 ((2 ^ k : Nat) : Int)) (fun _ i => x - (intOf i).toNat)
      case atStart => exact ⟨0, Nat.zero_le _, rfl, rfl⟩
      case round =>
        obtain ⟨k, hk, rfl, rfl⟩ := hrel
        by_cases hkx : k < x
        · have hp := pow_step (k := k) (by omega)
          go_wp2
          go_round
          case rel => exact ⟨k + 1, hkx, by go_num, by rw [← hp]; simp⟩
          case measure => simp [intOf]; omega
        · obtain rfl : k = x := by omega
          obtain ⟨a0, a1, a2, a3⟩ := Ha.out
          go_wp2
          have hv : ((s : Int) + 2 ^ k) % 4294967296 = ((s + 2 ^ k : Nat) : Int) := by
            have h1 := Hb.out
            have h2 : ((2 : Int) ^ k) = ((2 ^ k : Nat) : Int) := by simp
            rw [h2]
            generalize (2 : Nat) ^ k = m at *
            omega
          rw [hv]
          exact ⟨⟨n + 1, s + 2 ^ k, hlt, by go_num, Hn.out.symm, Ha.out.cat _, Hu.out.far1 (by omega) _ _, hB.setCell (p := ⟨w.heap.size + 1, 1, none⟩) (by simp) _⟩, by simp [intOf]; omega⟩
    · obtain rfl : n = xs.length := by omega
      have Hs1 := Lib.hid (show s = catsOf xs by rw [hs.out, List.take_length])
      have hlt3 : w.heap.size < wr.heap.size := World.block_lt_of_cell? _ _ hu.1
      have hU3 := hu.put l (s : Int)
      obtain ⟨j0, j1, j2, j3⟩ := ha
      obtain ⟨u0, u1, u2, u3⟩ := hu
      go_wp2
      obtain ⟨v0, v1, _, _⟩ := hU3
      exact bodyPost_ret (v := .agg #[.int .i64 l, .int .u32 (s : Int)]) (by simp [results, Tryd.results65, go_sem, v0, v1]) rfl ⟨by rw [Hs1.out], (hB.setCell (p := ⟨w.heap.size, 0, none⟩) (by simp) _).setCell (p := ⟨w.heap.size, 1, none⟩) (by simp) _⟩

set_option maxHeartbeats 800000 in
set_option maxRecDepth 100000 in
theorem of_nil (l : Int) (a : Option Addr) (cap : Nat) (w : World) :
    Calls Tryd.prog 65 #[.int .i64 l, .slice a 0 cap] w fun e w' => e = .returned (.agg #[.int .i64 l, .int .u32 0]) ∧ Below w.heap.size w w' := by
  have hu := (LabU.one w 0 0).later (.cells #[.int .i64 l, .int .u32 0] 25)
  have ha := LabU.one (w.alloc (.cells #[.int .i64 0, .int .u32 0] 25)) l 0
  simp only [World.size_alloc] at ha
  have hB := ((Below.refl w.heap.size w).alloc (Nat.le_refl _) (.cells #[.int .i64 0, .int .u32 0] 25)).alloc (by simp) (.cells #[.int .i64 l, .int .u32 0] 25)
  go_enter Tryd.func65, Tryd.ntmps65
  go_wp2
  go_loopw [6] (fun i wr => i = .int .i64 0 ∧ LabU wr (w.heap.size + 1) l 0 ∧ LabU wr w.heap.size 0 0 ∧ Below w.heap.size w wr) (fun _ _ => 0)
  case atStart => exact ⟨rfl, ha, hu, hB⟩
  case round =>
    clear hu ha hB
    obtain ⟨rfl, ha, hu, hB⟩ := hrel
    have hlt3 : w.heap.size < wr.heap.size := World.block_lt_of_cell? _ _ hu.1
    have hU3 := hu.put l 0
    obtain ⟨j0, j1, j2, j3⟩ := ha
    obtain ⟨u0, u1, u2, u3⟩ := hu
    go_wp2
    obtain ⟨v0, v1, _, _⟩ := hU3
    exact bodyPost_ret (v := .agg #[.int .i64 l, .int .u32 0]) (by simp [results, Tryd.results65, go_sem, v0, v1]) rfl ⟨rfl, (hB.setCell (p := ⟨w.heap.size, 0, none⟩) (by simp) _).setCell (p := ⟨w.heap.size, 1, none⟩) (by simp) _⟩
theorem of_any (l : Int) (v : Value) (xs : List Nat) (hx : ∀ x ∈ xs, x < 32) (hs : catsOf xs < 4294967296) (hn : xs.length ≤ 32) (w : World) (hI : IntsAt w v xs) :
    Calls Tryd.prog 65 #[.int .i64 l, v] w fun e w' => e = .returned (.agg #[.int .i64 l, .int .u32 ((catsOf xs : Nat) : Int)]) ∧ Below w.heap.size w w' := by
  by_cases h : xs = []
  · subst h
    obtain ⟨a, p, rfl⟩ := hI.nil
    exact of_nil l a p w
  · obtain ⟨g, p, rfl, hg⟩ := hI.block h
    exact of_some l g p xs hx hs hn w hg
/-- Two labels, and a third that is the result's own. -/
abbrev SJ (N : Nat) (w : World) (la ca lb cb : Int) (w' : World) : Prop :=
  S2 N w la ca lb cb w' ∧ w'.cell? ⟨N + 1 + 1, 0, none⟩ = some (.int .i64 0) ∧ w'.cell? ⟨N + 1 + 1, 1, none⟩ = some (.int .u32 0) ∧ w'.frozen? ⟨N + 1 + 1, 0, none⟩ = false ∧ w'.frozen? ⟨N + 1 + 1, 1, none⟩ = false
theorem SJ.keep {N : Nat} {w w1 w2 : World} {la ca lb cb : Int} (h : SJ N w la ca lb cb w1) (hb : Below w1.heap.size w1 w2) : SJ N w la ca lb cb w2 := ⟨h.1.keep hb, LabU.keep (w := w1) h.2 hb⟩
theorem SJ.start (w : World) (la ca lb cb : Int) : SJ w.heap.size w la ca lb cb (((w.alloc (.cells #[.int .i64 la, .int .u32 ca] 25)).alloc (.cells #[.int .i64 lb, .int .u32 cb] 25)).alloc (.cells #[.int .i64 0, .int .u32 0] 25)) := by
  have h1 := (S2.start w la ca lb cb).keep ((Below.refl _ _).alloc (Nat.le_refl _) (.cells #[.int .i64 0, .int .u32 0] 25))
  have h2 := LabU.one ((w.alloc (.cells #[.int .i64 la, .int .u32 ca] 25)).alloc (.cells #[.int .i64 lb, .int .u32 cb] 25)) 0 0
  simp only [World.size_alloc] at h2
  exact ⟨h1, h2⟩
theorem sj_round {ys : List Nat} {k N : Nat} {la ca lb cb : Int} {w w2 w1 : World} {v v' : Value} {x : Obj} (hS : SJ N w la ca lb cb w2)
    (hown : w2.ownsRow (N + 1 + 1 + 1) 3 1 v ys.length (ys.map intV))
    (hown' : w1.ownsRow (N + 1 + 1 + 1) 3 1 v' (ys.length + 1) (ys.map intV ++ [.int .i64 k])) (hgrow : (w2.alloc x).grownBy w1 v.ownBlock) :
    w1.ownsRow (N + 1 + 1 + 1) 3 1 v' (ys ++ [k]).length ((ys ++ [k]).map intV) ∧ SJ N w la ca lb cb w1 := by
  have hlt := hown.lt
  have hs := hgrow.size
  simp at hs
  have S := hS.keep ((Below.refl _ w2).alloc (Nat.le_refl _) x)
  have hne : ∀ B, B < N + 1 + 1 + 1 → (some B) ≠ v.ownBlock := fun B h e => by have := (hlt B e.symm).1; omega
  have hsz := hS.1.2.1
  have hsz2 : N + 1 + 1 < w2.heap.size := World.block_lt_of_cell? _ _ hS.2.1
  refine ⟨by simpa [intV] using hown', ⟨?_, by omega, ?_, ?_, ?_, ?_⟩, ?_, ?_, ?_, ?_⟩
  · exact S.1.1.grown hgrow (by simp; omega) (fun j e => by have := (hlt j e).1; omega)
  · exact hgrow.cell S.1.2.2.1 (hne N (by omega))
  · exact hgrow.cell S.1.2.2.2.1 (hne N (by omega))
  · exact hgrow.cell S.1.2.2.2.2.1 (hne (N + 1) (by omega))
  · exact hgrow.cell S.1.2.2.2.2.2 (hne (N + 1) (by omega))
  · exact hgrow.cell S.2.1 (hne (N + 1 + 1) (by omega))
  · exact hgrow.cell S.2.2.1 (hne (N + 1 + 1) (by omega))
  · exact (World.frozen?_of_block (w := w2.alloc x) (hgrow.block _ (by simp; omega) (hne (N + 1 + 1) (by omega)))).trans S.2.2.2.1
  · exact (World.frozen?_of_block (w := w2.alloc x) (hgrow.block _ (by simp; omega) (hne (N + 1 + 1) (by omega)))).trans S.2.2.2.2

set_option maxHeartbeats 1000000 in
set_option maxRecDepth 100000 in
theorem rjoin_yes (la ca lb cb : Int) (ha0 : 0 ≤ ca) (ha1 : ca < 4294967296) (hb0 : 0 ≤ cb) (hb1 : cb < 4294967296) (hra : rB la = true) (hrb : rB lb = true) (w : World) :
    Calls Tryd.prog 40 #[.agg #[.int .i64 la, .int .u32 ca], .agg #[.int .i64 lb, .int .u32 cb]] w fun e w' => e = .returned (.agg #[.int .i64 (max la lb), .int .u32 ((ca.toNat ||| cb.toNat : Nat) : Int)]) ∧ Below w.heap.size w w' := by
  obtain ⟨i0, hi, hz0, hz1, hz2⟩ := info_parts info3
  have hS := SJ.start w la ca lb cb
  go_enter Tryd.func40, Tryd.ntmps40
  go_wp2_with fail
  refine (rright_any _ _ _).mono ?_
  rintro e w1 ⟨rfl, hb⟩
  replace hS := hS.keep hb
  clear hb
  generalize hN : w.heap.size = N at *
  have HN := Lib.hid hN
  clear hN
  go_wp2_with (go_at_call 33; refine (rright_any _ _ _).mono ?_; rintro e w' ⟨rfl, hb⟩; replace hS := hS.keep hb; clear hb)
  go_loopw [5, 6] (fun v i wr => ∃ k : Nat, k ≤ 32 ∧ i = .int .i64 k ∧ wr.ownsRow (N + 1 + 1 + 1) 3 1 v (tms ((ca.toNat ||| cb.toNat : Nat) : Int) k).length ((tms ((ca.toNat ||| cb.toNat : Nat) : Int) k).map intV) ∧ SJ N w la ca lb cb wr)
    (fun _ i _ => 32 - (intOf i).toNat)
  case atStart => exact ⟨0, by omega, rfl, World.ownsRow_nil _ _ _ _, hS⟩
  case round =>
    clear hS
    obtain ⟨k, hk, rfl, hown, hS⟩ := hrel
    have hle := tms_le ((ca.toNat ||| cb.toNat : Nat) : Int) k
    by_cases hlt : k < 32
    · have hk32 : (k : Int) < 32 := by omega
      cases ta : ca.toNat.testBit k
      · cases tb : cb.toNat.testBit k
        · go_wp2_with fail
          refine (rteams_ints la ca ha0 ha1 _).mono ?_
          rintro e w6 ⟨va, rfl, hI, hb⟩
          replace hown := own_keep hown hb
          replace hS := hS.keep hb
          clear hb
          go_wp2_with fail
          refine (rhas_any va (tms ca 32) k (by have := tms_le ca 32; omega) _ hI).mono ?_
          rintro e w8 ⟨rfl, rfl⟩
          rw [has_bit _ _ hlt, ta]
          clear hI
          go_wp2_with fail
          refine (rteams_ints lb cb hb0 hb1 _).mono ?_
          rintro e w7 ⟨vb, rfl, hI, hb⟩
          replace hown := own_keep hown hb
          replace hS := hS.keep hb
          clear hb
          go_wp2_with fail
          refine (rhas_any vb (tms cb 32) k (by have := tms_le cb 32; omega) _ hI).mono ?_
          rintro e w8 ⟨rfl, rfl⟩
          rw [has_bit _ _ hlt, tb]
          clear hI
          have Hm := Lib.hid (tms_miss ((ca.toNat ||| cb.toNat : Nat) : Int) k (by rw [Int.toNat_natCast, Nat.testBit_or, ta, tb]; rfl))
          go_wp2
          go_roundw
          case rel => exact ⟨k + 1, hlt, by go_num, by rw [Hm.out]; exact hown, hS⟩
          case measure => simp [intOf]; omega
        · go_wp2_with fail
          refine (rteams_ints la ca ha0 ha1 _).mono ?_
          rintro e w6 ⟨va, rfl, hI, hb⟩
          replace hown := own_keep hown hb
          replace hS := hS.keep hb
          clear hb
          go_wp2_with fail
          refine (rhas_any va (tms ca 32) k (by have := tms_le ca 32; omega) _ hI).mono ?_
          rintro e w8 ⟨rfl, rfl⟩
          rw [has_bit _ _ hlt, ta]
          clear hI
          go_wp2_with fail
          refine (rteams_ints lb cb hb0 hb1 _).mono ?_
          rintro e w7 ⟨vb, rfl, hI, hb⟩
          replace hown := own_keep hown hb
          replace hS := hS.keep hb
          clear hb
          go_wp2_with fail
          refine (rhas_any vb (tms cb 32) k (by have := tms_le cb 32; omega) _ hI).mono ?_
          rintro e w8 ⟨rfl, rfl⟩
          rw [has_bit _ _ hlt, tb]
          clear hI
          have Hm := Lib.hid (tms_hit ((ca.toNat ||| cb.toNat : Nat) : Int) k (by rw [Int.toNat_natCast, Nat.testBit_or, ta, tb]; rfl))
          go_wp2_with (at_builtin; refine wpList_append_lies _ rfl _ _ 107 rfl (N + 1 + 1 + 1) 3 i0 (.int .i64 0) 1 8 Tryd.underlying107 hi hz0 hz1 hz2 rfl (by decide) _ _ _ rfl (World.ownsRow.alloc (w := w7) hown _) ⟨w7.heap.size, 0, none⟩ 1 1 [.int .i64 k] rfl rfl ?c1 ?c2 (by omega) ?c3 ?c4 ?c5 (w7.heap.size + 1) (by simp) ?_)
          case c1 =>
            intro j u hj
            match j, hj with
            | 0, hj => simp at hj; subst hj; exact (World.cell?_alloc_at (w := w7) _ _ _ _ rfl).trans rfl
          case c2 => intro u hu; simp at hu; subst hu; rfl
          case c3 => unfold maxLen; omega
          case c4 => omega
          case c5 => simp; omega
          intro g cap w9 hown' hgrow hat hlt'
          have R := sj_round hS hown hown' hgrow
          clear hown' hgrow hown hS hat hlt'
          go_wp2
          go_roundw
          case rel => exact ⟨k + 1, hlt, by go_num, by rw [Hm.out]; exact R.1, R.2⟩
          case measure => simp [intOf]; omega
      · go_wp2_with fail
        refine (rteams_ints la ca ha0 ha1 _).mono ?_
        rintro e w6 ⟨va, rfl, hI, hb⟩
        replace hown := own_keep hown hb
        replace hS := hS.keep hb
        clear hb
        go_wp2_with fail
        refine (rhas_any va (tms ca 32) k (by have := tms_le ca 32; omega) _ hI).mono ?_
        rintro e w8 ⟨rfl, rfl⟩
        rw [has_bit _ _ hlt, ta]
        clear hI
        have Hm := Lib.hid (tms_hit ((ca.toNat ||| cb.toNat : Nat) : Int) k (by rw [Int.toNat_natCast, Nat.testBit_or, ta]; simp))
        go_wp2_with (at_builtin; refine wpList_append_lies _ rfl _ _ 107 rfl (N + 1 + 1 + 1) 3 i0 (.int .i64 0) 1 8 Tryd.underlying107 hi hz0 hz1 hz2 rfl (by decide) _ _ _ rfl (World.ownsRow.alloc (w := w6) hown _) ⟨w6.heap.size, 0, none⟩ 1 1 [.int .i64 k] rfl rfl ?c1 ?c2 (by omega) ?c3 ?c4 ?c5 (w6.heap.size + 1) (by simp) ?_)
        case c1 =>
          intro j u hj
          match j, hj with
          | 0, hj => simp at hj; subst hj; exact (World.cell?_alloc_at (w := w6) _ _ _ _ rfl).trans rfl
        case c2 => intro u hu; simp at hu; subst hu; rfl
        case c3 => unfold maxLen; omega
        case c4 => omega
        case c5 => simp; omega
        intro g cap w9 hown' hgrow hat hlt'
        have R := sj_round hS hown hown' hgrow
        clear hown' hgrow hown hS hat hlt'
        go_wp2
        go_roundw
        case rel => exact ⟨k + 1, hlt, by go_num, by rw [Hm.out]; exact R.1, R.2⟩
        case measure => simp [intOf]; omega
    · obtain rfl : k = 32 := by omega
      have hI := IntsAt.of_own hown
      have hr := or_range ca cb ha1 hb1
      have hc := Lib.hid (catsOf_all ((ca.toNat ||| cb.toNat : Nat) : Int) hr.1 hr.2)
      have hcl : catsOf (tms ((ca.toNat ||| cb.toNat : Nat) : Int) 32) < 4294967296 := by have := hc.out; omega
      clear hown
      have hxx := fun x (hx : x ∈ tms ((ca.toNat ||| cb.toNat : Nat) : Int) 32) => ((tms_mem _ 32 x).1 hx).1
      generalize tms ((ca.toNat ||| cb.toNat : Nat) : Int) 32 = X at *
      go_wp2_with fail
      · have hmx : max la lb = lb := by omega
        refine (of_any lb _ X hxx hcl hle _ hI).mono ?_
        rintro e w9 ⟨rfl, hb⟩
        rw [hc.out]
        have hS2 := hS.keep hb
        clear hb hS hI hcl hr
        obtain ⟨⟨hB, hsz, _⟩, v0, v1, v2, v3⟩ := hS2
        have hP := LabU.put (⟨v0, v1, v2, v3⟩ : LabU w9 (N + 1 + 1) 0 0) lb ((ca.toNat ||| cb.toNat : Nat) : Int)
        go_wp2
        obtain ⟨p0, p1, _, _⟩ := hP
        exact bodyPost_ret (v := .agg #[.int .i64 lb, .int .u32 ((ca.toNat ||| cb.toNat : Nat) : Int)]) (by simp [results, Tryd.results40, go_sem, p0, p1]) rfl ⟨by rw [hmx], by rw [HN.out]; exact (hB.setCell (p := ⟨N + 1 + 1, 0, none⟩) (by simp; omega) _).setCell (p := ⟨N + 1 + 1, 1, none⟩) (by simp; omega) _⟩
      · have hmx : max la lb = la := by omega
        refine (of_any la _ X hxx hcl hle _ hI).mono ?_
        rintro e w9 ⟨rfl, hb⟩
        rw [hc.out]
        have hS2 := hS.keep hb
        clear hb hS hI hcl hr
        obtain ⟨⟨hB, hsz, _⟩, v0, v1, v2, v3⟩ := hS2
        have hP := LabU.put (⟨v0, v1, v2, v3⟩ : LabU w9 (N + 1 + 1) 0 0) la ((ca.toNat ||| cb.toNat : Nat) : Int)
        go_wp2
        obtain ⟨p0, p1, _, _⟩ := hP
        exact bodyPost_ret (v := .agg #[.int .i64 la, .int .u32 ((ca.toNat ||| cb.toNat : Nat) : Int)]) (by simp [results, Tryd.results40, go_sem, p0, p1]) rfl ⟨by rw [hmx], by rw [HN.out]; exact (hB.setCell (p := ⟨N + 1 + 1, 0, none⟩) (by simp; omega) _).setCell (p := ⟨N + 1 + 1, 1, none⟩) (by simp; omega) _⟩

set_option maxHeartbeats 1000000 in
set_option maxRecDepth 100000 in
theorem rjoin_no1 (la ca lb cb : Int) (hra : rB la = false) (w : World) :
    Calls Tryd.prog 40 #[.agg #[.int .i64 la, .int .u32 ca], .agg #[.int .i64 lb, .int .u32 cb]] w fun e w' => e = .returned (.agg #[.int .i64 7, .int .u32 4294967295]) ∧ Below w.heap.size w w' := by
  have hS := SJ.start w la ca lb cb
  go_enter Tryd.func40, Tryd.ntmps40
  go_wp2_with fail
  refine (rright_any _ _ _).mono ?_
  rintro e w1 ⟨rfl, hb⟩
  replace hS := hS.keep hb
  clear hb
  generalize hN : w.heap.size = N at *
  have HN := Lib.hid hN
  clear hN
  have hP := LabU.put (show LabU _ (N + 1 + 1) 0 0 from hS.2) 7 4294967295
  have hB := (hS.1.1.setCell (p := ⟨N + 1 + 1, 0, none⟩) (by simp; omega) (.int .i64 7)).setCell (p := ⟨N + 1 + 1, 1, none⟩) (by simp; omega) (.int .u32 4294967295)
  go_wp2
  obtain ⟨p0, p1, _, _⟩ := hP
  exact bodyPost_ret (v := .agg #[.int .i64 7, .int .u32 4294967295]) (by simp [results, Tryd.results40, go_sem, p0, p1]) rfl ⟨rfl, by rw [HN.out]; exact hB⟩

set_option maxHeartbeats 1000000 in
set_option maxRecDepth 100000 in
theorem rjoin_no2 (la ca lb cb : Int) (hra : rB la = true) (hrb : rB lb = false) (w : World) :
    Calls Tryd.prog 40 #[.agg #[.int .i64 la, .int .u32 ca], .agg #[.int .i64 lb, .int .u32 cb]] w fun e w' => e = .returned (.agg #[.int .i64 7, .int .u32 4294967295]) ∧ Below w.heap.size w w' := by
  have hS := SJ.start w la ca lb cb
  go_enter Tryd.func40, Tryd.ntmps40
  go_wp2_with fail
  refine (rright_any _ _ _).mono ?_
  rintro e w1 ⟨rfl, hb⟩
  replace hS := hS.keep hb
  clear hb
  generalize hN : w.heap.size = N at *
  have HN := Lib.hid hN
  clear hN
  go_wp2_with fail
  refine (rright_any _ _ _).mono ?_
  rintro e w2 ⟨rfl, hb⟩
  replace hS := hS.keep hb
  clear hb
  have hP := LabU.put (show LabU _ (N + 1 + 1) 0 0 from hS.2) 7 4294967295
  have hB := (hS.1.1.setCell (p := ⟨N + 1 + 1, 0, none⟩) (by simp; omega) (.int .i64 7)).setCell (p := ⟨N + 1 + 1, 1, none⟩) (by simp; omega) (.int .u32 4294967295)
  go_wp2
  obtain ⟨p0, p1, _, _⟩ := hP
  exact bodyPost_ret (v := .agg #[.int .i64 7, .int .u32 4294967295]) (by simp [results, Tryd.results40, go_sem, p0, p1]) rfl ⟨rfl, by rw [HN.out]; exact hB⟩

theorem rjoin_any (la ca lb cb : Int) (ha0 : 0 ≤ ca) (ha1 : ca < 4294967296) (hb0 : 0 ≤ cb) (hb1 : cb < 4294967296) (w : World) :
    Calls Tryd.prog 40 #[.agg #[.int .i64 la, .int .u32 ca], .agg #[.int .i64 lb, .int .u32 cb]] w fun e w' => e = .returned (.agg #[.int .i64 (jL la lb), .int .u32 (jC la ca lb cb)]) ∧ Below w.heap.size w w' := by
  cases hl : rB la
  · have h1 : jL la lb = 7 := by unfold jL; rw [hl]; rfl
    have h2 : jC la ca lb cb = 4294967295 := by unfold jC; rw [hl]; rfl
    rw [h1, h2]
    exact rjoin_no1 la ca lb cb hl w
  · cases hm : rB lb
    · have h1 : jL la lb = 7 := by unfold jL; rw [hl, hm]; rfl
      have h2 : jC la ca lb cb = 4294967295 := by unfold jC; rw [hl, hm]; rfl
      rw [h1, h2]
      exact rjoin_no2 la ca lb cb hl hm w
    · have h1 : jL la lb = max la lb := by unfold jL; rw [hl, hm]; rfl
      have h2 : jC la ca lb cb = ((ca.toNat ||| cb.toNat : Nat) : Int) := by unfold jC; rw [hl, hm]; rfl
      rw [h1, h2]
      exact rjoin_yes la ca lb cb ha0 ha1 hb0 hb1 hl hm w
end Go.Proofs.YtknhkmlihbgjpaaDoor.Lb
