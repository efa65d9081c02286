/- The document's own Chain: what it returns. -/
import Derived.Test.YtidiallphmocdaaDoorSOfLaw
namespace Go.Proofs.YtidiallphmocdaaDoor
open Go.ChangeShapes Go.WideShapes Go.RowKit

/-- A whole array is written, as a step. -/
theorem wp_store_row {P : Program} {o : Oper} {a : Act} {w : World} {K : Act → World → Prop} {Q : Exit → Act → World → Prop} (g : Nat) (t : TypeId) (cur : List Value) (hr : Rw w g t cur) (n : Nat) (hc : cur.length = n) (ty : TypeId) (hi : (P.info? ty).map (·.size) = some n) (cs : List Value) (hn : cs.length = n) (h1 : ∀ v ∈ cs, v.oneCell' = true) (x y : Operand) (ho : o.op = .store ty x y)
    (hx : a.eval x = .pointer (some ⟨g, 0, none⟩)) (hy : a.eval y = .agg cs.toArray) (h : K (a.put o.dst undef) (w.setRow g cs.toArray)) : o.wp P a w K Q := by
  unfold Oper.wp execOp
  simp only [ho, hx, hy, Instr.storeAt, Instr.sureAddr, Sem.run_bind, Sem.run_pure, Result.andThen_ok, run_store_at w g 0 t ty cur cs hr (by rw [hi, hn]) (by omega) h1]
  rw [splice_all _ _ (by omega)]
  exact h
set_option maxRecDepth 100000 in
set_option maxHeartbeats 1600000 in
theorem rchain_any (v l : Value) (k : List Nat) (ls : List (List Nat)) (w : World) (hv : BytesAt w v k) (uk : ∀ x ∈ k, U8 x) (hl : k.length ≤ 900) (hls : PartsAt w l ls) (ull : ∀ p ∈ ls, (∀ x ∈ p, U8 x) ∧ p.length ≤ 800) (hln : ls.length ≤ 1000000) :
    Calls Tryd.prog 37 #[v, l] w fun e w' => e = .returned (.agg ((chainN k ls).map v8).toArray) ∧ Below w.heap.size w w' := by
  obtain ⟨al, cl, hle, hkl⟩ := id hls
  subst hle
  have Hkl : Unit → ∀ j p, ls[j]? = some p → ∃ g o u, al = some ⟨g, o, none⟩ ∧ w.cell? ⟨g, o + j, none⟩ = some u ∧ BytesAt w u p := fun _ => hkl
  clear hkl hls
  go_enter Tryd.func37, Tryd.ntmps37
  go_upto_region 1 with fail
  have r0 := Rw.new w 25 ((zs 32).map v8)
  have hB := (Below.refl _ w).alloc (Nat.le_refl _) (.cells ((zs 32).map v8).toArray 25)
  change Code.wp _ _ _ _ (w.alloc (.cells ((zs 32).map v8).toArray 25))
  generalize w.alloc (.cells ((zs 32).map v8).toArray 25) = W at *
  generalize hZ : (zs 32).map v8 = Z at r0
  have HZ : Unit → Z.length = 32 := fun _ => by rw [← hZ]; rfl
  clear hZ
  have K1 := Lib.hid (rseal_any v (.slice none 0 0) k [] W (hv.keep hB) ⟨none, 0, rfl, Nat.le_refl _, fun h => absurd rfl h⟩ uk (fun x hx => absurd hx (by simp)) hl (by simp))
  have H0 : Unit → chainN k (ls.take 0) = sealN k [] := fun _ => by rw [List.take_zero, chainN_nil]
  have hCl0 := sealN_len k []
  generalize sealN k [] = C0 at *
  have hS : (C0.map v8).length = 32 := by rw [List.length_map, hCl0]
  have h1 := one8 C0
  go_wp2_with fail
  refine (K1.out).mono ?_
  rintro e w1 ⟨rfl, hb1⟩
  clear K1
  replace r0 := r0.keep hb1
  replace hB := hB.trans (hb1.mono hB.size)
  go_upto_region 2 with (refine store_arr w1.heap.size 25 ((zs 32).map v8) (Rw.new w1 25 ((zs 32).map v8)) 32 rfl 25 (by kernel_rfl) _ hS h1 _ _ rfl rfl rfl rfl ?_)
  rw [World.setRow_alloc_new]
  have r1 := Rw.new w1 25 (C0.map v8)
  have hND := r0.lt
  replace r0 := r0.past (.cells (C0.map v8).toArray 25)
  replace hB := hB.alloc hB.size (.cells (C0.map v8).toArray 25)
  generalize w1.alloc (.cells (C0.map v8).toArray 25) = W1 at *
  generalize w1.heap.size = D at *
  generalize (C0.map v8).toArray = CA
  clear hb1 hS h1
  go_upto_region 3 with fail
  go_loopw [6] (fun i wr => ∃ j : Nat, j ≤ ls.length ∧ i = .int .i64 (j : Int) ∧ Rw wr w.heap.size 25 Z ∧ Rw wr D 25 ((chainN k (ls.take j)).map v8) ∧ Below w.heap.size w wr) (fun i _ => ls.length - (intOf i).toNat)
  case atStart => exact ⟨0, by omega, rfl, r0, by rw [H0 ()]; exact r1, hB⟩
  case round =>
    clear r0 r1 hB H0
    obtain ⟨j, hj, rfl, r0, r1, hB⟩ := hrel
    by_cases hlt : j < ls.length
    · obtain ⟨p, hp⟩ : ∃ p, ls[j]? = some p := ⟨_, List.getElem?_eq_getElem hlt⟩
      obtain ⟨gp, op, up, rfl, hcp, hup⟩ := Hkl () j p hp
      obtain ⟨upp, lpp⟩ := ull p (List.mem_of_getElem? hp)
      have hlw := World.block_lt_of_cell? w _ hcp
      replace hup := hup.keep hB
      have hcS : ∀ w', Below w.heap.size w w' → w'.cell? ⟨gp, op + j, none⟩ = some up := fun w' h => by rw [h.cell hlw]; exact hcp
      have Hnx : Unit → chainN k (ls.take (j + 1)) = sealN k (chainN k (ls.take j) ++ p) := fun _ => by rw [take_snoc hp, chainN_snoc]
      have hCl := chainN_len k (ls.take j)
      have hCu := chainN_u k (ls.take j)
      generalize chainN k (ls.take j) = C at *
      have hji : (j : Int) < (ls.length : Int) := by omega
      have hca := cut_all (P := Tryd.prog) 25 5 32 D (by kernel_rfl) (by kernel_rfl)
      have hbyD := r1.bytes 32 (by omega)
      rw [hCl] at hbyD
      clear hp hcp
      go_upto_region 5 with fail
      refine wp_region_held (S := fun w' => Below w.heap.size w w') (by kernel_rfl) ?_
      have hT : Below wr.heap.size wr { wr with drawn := wr.drawn + 1 } := (Below.refl _ wr).drew
      generalize { wr with drawn := wr.drawn + 1 } = W8 at *
      have hS := hB.trans (hT.mono hB.size)
      refine held_val 0 rfl (by kernel_rfl) (by kernel_rfl) (by kernel_rfl) (fun _ _ _ _ h => h) (by rfl) hS ?_
      apply Exists.intro
      refine ⟨fun w' hw' => ?_, ?_⟩
      · skip
        go_simp
        first | done | rfl | exact ⟨rfl, rfl⟩
      simp only [Act.put, List.setIfInBounds_toArray, List.set_cons_zero, List.set_cons_succ]
      refine held_val 1 rfl (by kernel_rfl) (by kernel_rfl) (by kernel_rfl) (fun _ _ _ _ h => h) (by rfl) hS ?_
      apply Exists.intro
      refine ⟨fun w' hw' => ?_, ?_⟩
      · skip
        go_simp
        first | done | rfl | exact ⟨rfl, rfl⟩
      simp only [Act.put, List.setIfInBounds_toArray, List.set_cons_zero, List.set_cons_succ]
      refine held_val 3 rfl (by kernel_rfl) (by kernel_rfl) (by kernel_rfl) (fun _ _ _ _ h => h) (by rfl) hS ?_
      apply Exists.intro
      refine ⟨fun w' hw' => ?_, ?_⟩
      · skip
        go_simp
        first | done | rfl | exact ⟨rfl, rfl⟩
      simp only [Act.put, List.setIfInBounds_toArray, List.set_cons_zero, List.set_cons_succ]
      refine held_val 4 rfl (by kernel_rfl) (by kernel_rfl) (by kernel_rfl) (fun _ _ _ _ h => h) (by rfl) hS ?_
      apply Exists.intro
      refine ⟨fun w' hw' => ?_, ?_⟩
      · skip
        go_simp
        first | done | rfl | exact ⟨rfl, rfl⟩
      simp only [Act.put, List.setIfInBounds_toArray, List.set_cons_zero, List.set_cons_succ]
      refine held_val 5 rfl (by kernel_rfl) (by kernel_rfl) (by kernel_rfl) (fun _ _ _ _ h => h) (by rfl) hS ?_
      apply Exists.intro
      refine ⟨fun w' hw' => ?_, ?_⟩
      · skip
        go_simp
        first | done | rfl | exact ⟨rfl, rfl⟩
      simp only [Act.put, List.setIfInBounds_toArray, List.set_cons_zero, List.set_cons_succ]
      refine held_val 6 rfl (by kernel_rfl) (by kernel_rfl) (by kernel_rfl) (fun _ _ _ _ h => h) (by rfl) hS ?_
      apply Exists.intro
      refine ⟨fun w' hw' => ?_, ?_⟩
      · have e1 := hcS w' hw'
        go_simp
        first | done | rfl | exact ⟨rfl, rfl⟩
      simp only [Act.put, List.setIfInBounds_toArray, List.set_cons_zero, List.set_cons_succ]
      have hSz := hT.size
      refine held_one 2 (by kernel_rfl) rfl (by rfl) ?_
      refine wp_own_bytes W8.heap.size (.slice none 0 0) _ [] C (World.ownsRow_nil _ _ _ _) (hbyD.keep hT) (by rw [hCl]; simp) (Nat.le_refl _) _ _ rfl rfl rfl ?_
      intro v3 w9 h1 h2
      have hb9 := below_app (Below.refl W8.heap.size W8) (World.ownsRow_nil W8 W8.heap.size 5 1) (Nat.le_refl _) (Nat.le_refl _) h2
      have hT8 := hT
      replace hT := hT.trans (hb9.mono hSz)
      refine ⟨hB.trans (hT.mono hB.size), ?_⟩
      clear h2
      replace h1 : w9.ownsRow W8.heap.size 5 1 v3 C.length (C.map v8) := h1
      simp only [Act.put, List.setIfInBounds_toArray, List.set_cons_zero, List.set_cons_succ]
      refine held_one 7 (by kernel_rfl) rfl (by rfl) ?_
      refine wp_own_bytes W8.heap.size v3 _ C p h1 (hup.keep hT) (by omega) hb9.size _ _ rfl rfl rfl ?_
      intro v5 w10 h3 h4
      have hb10 := below_app hb9 h1 (Nat.le_refl _) hb9.size h4
      replace hT := hT8.trans (hb10.mono hSz)
      have hB10 := hB.trans (hT.mono hB.size)
      refine ⟨hB10, ?_⟩
      have hy5 := bytes_of_own h3
      clear h1 h3 h4 hT8
      simp only [Act.put, List.setIfInBounds_toArray, List.set_cons_zero, List.set_cons_succ]
      have hl5 : (C ++ p).length ≤ 900 := by rw [List.length_append, hCl]; omega
      have K1 := Lib.hid (rseal_any _ _ k (C ++ p) w10 (hv.keep hB10) hy5 uk (u8_app hCu upp) hl hl5)
      have hC32 : (C.map v8).length = 32 := by rw [List.length_map, hCl]
      have Hcs : Unit → (chainN k (ls.take (j + 1))).map v8 = (sealN k (C ++ p)).map v8 := fun _ => by rw [Hnx ()]
      have hN : ((sealN k (C ++ p)).map v8).length = 32 := by rw [List.length_map, sealN_len]
      have ho1 := one8 (sealN k (C ++ p))
      generalize (sealN k (C ++ p)).map v8 = cs at *
      clear hy5 hb9 hb10 hcS Hnx hl5 hB10 hS
      refine held_call 8 (by kernel_rfl) rfl (by rfl) ?_
      apply Exists.intro
      apply Exists.intro
      refine ⟨?_, ?_⟩
      · go_simp
        first | done | rfl | exact ⟨rfl, rfl⟩
      refine (K1.out).mono ?_
      rintro e w11 ⟨rfl, hb11⟩
      replace hT := hT.trans (hb11.mono hT.size)
      refine ⟨_, rfl, hB.trans (hT.mono hB.size), ?_⟩
      simp only [Act.put, List.setIfInBounds_toArray, List.set_cons_zero, List.set_cons_succ]
      replace r0 := r0.keep hT
      replace r1 := r1.keep hT
      replace hB := hB.trans (hT.mono hB.size)
      refine held_one 9 (by kernel_rfl) rfl (by rfl) ?_
      refine wp_store_row D 25 (C.map v8) r1 32 hC32 25 (by kernel_rfl) cs hN ho1 _ _ rfl rfl rfl ?_
      refine ⟨below_setRow hB (by omega) _, ?_⟩
      refine wpAnyH_done (by kernel_rfl) ?_ _
      clear K1 hT
      simp only [Act.put]
      replace r0 := r0.rowOther (k := D) (by omega) cs.toArray
      replace r1 := r1.row cs
      replace hB := below_setRow hB (g := D) (by omega) cs.toArray
      generalize w11.setRow D cs.toArray = w12 at *
      go_wp2_with fail
      go_roundw
      case rel => exact ⟨j + 1, by omega, by simp, r0, by rw [Hcs ()]; exact r1, hB⟩
      case measure => simp [intOf]; omega
    · obtain rfl : j = ls.length := by omega
      rw [List.take_length] at r1
      have hs : ((chainN k ls).map v8).length = 32 := by rw [List.length_map, chainN_len]
      have h1 := one8 (chainN k ls)
      have hzl := HZ ()
      generalize hcs : (chainN k ls).map v8 = cs at *
      have Hcs : Unit → (chainN k ls).map v8 = cs := fun _ => hcs
      clear hcs hj hlt
      go_wp2_with (first
        | (refine load_arr _ _ _ r1 32 hs 25 5 (by kernel_rfl) (by kernel_rfl) _ rfl rfl rfl ?_)
        | (refine store_arr _ _ _ r0 32 hzl 25 (by kernel_rfl) cs hs h1 _ _ rfl rfl rfl rfl ?_))
      refine ret_arr w.heap.size 25 cs (r0.row cs) 32 hs 5 (by kernel_rfl) (by kernel_rfl) (by rfl) rfl rfl ?_
      exact ⟨by rw [Hcs ()], below_setRow hB (Nat.le_refl _) _⟩
end Go.Proofs.YtidiallphmocdaaDoor
