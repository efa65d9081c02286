/- SealTwice: the statement's own function returns true, of whatever key and bytes. -/
import Derived.Test.YtidiallphmocdaaDoorSParts
namespace Go.Proofs.YtidiallphmocdaaDoor
open Go.ChangeShapes Go.WideShapes Go.RowKit

/-- A row of slices in a new block. -/
theorem parts_new (w w' : World) (vs : List Value) (ls : List (List Nat)) (t : TypeId) (hw : Below w.heap.size w (w.alloc (.cells vs.toArray t))) (h : ∀ (j : Nat) p, ls[j]? = some p → ∃ u, vs[j]? = some u ∧ BytesAt w u p) (he : w' = w.alloc (.cells vs.toArray t)) (cap : Nat) :
    PartsAt w' (.slice (some ⟨w.heap.size, 0, none⟩) ls.length cap) ls := by
  subst he
  refine ⟨_, cap, rfl, fun j p hp => ?_⟩
  obtain ⟨u, hu, hb⟩ := h j p hp
  refine ⟨w.heap.size, 0, u, rfl, ?_, hb.keep hw⟩
  rw [cell_of_row _ _ _ _ _ _ (heap_alloc_last w _), Nat.zero_add, List.getElem?_toArray]; exact hu
/-- A whole array is read, in a held region. -/
theorem held_load {P : Program} {md : Region.Mode} {l tl : List Oper} {Q : Exit → Act → World → Prop} {S : World → Prop} {fuel : Nat} {listed : Array Bool} {a : Act} {w : World} (i : Nat) {o : Oper} (hd : l.drop i = o :: tl) (hs : Region.noSelect l.toArray = true) (hf : Region.free md l.toArray listed i = true) (hr : (Region.ready md l.toArray listed).contains i = true)
    (hQ : ∀ c v a w, Q (.panic c) (a.put o.dst v) w → Q (.panic c) a w) (hw : Region.wanted o (yielded l.toArray a.tmps) = true) (hS : S w)
    (g k : Nat) (A : Array Value) (cs : List Value) (hA : cs.toArray = A) (n : Nat) (hn : cs.length = n) (ty e : TypeId) (hu : P.underlying ty = some (.array n e)) (hi : (P.info? ty).map (·.size) = some n) (hc : ∀ w', S w' → Cls w' g k cs) (x : Operand) (ho : o.op = .load ty x) (hx : a.eval x = .pointer (some ⟨g, k, none⟩))
    (h : wpAnyH P md l.toArray Q S fuel (listed.setIfInBounds i true) (a.put o.dst (.agg A)) w) : wpAnyH P md l.toArray Q S (fuel + 1) listed a w := by
  subst hA
  refine held_val i hd hs hf hr hQ hw hS ⟨_, fun w' hw' => ?_, h⟩
  unfold execOp
  simp only [ho, hx, Instr.loadAt, Instr.sureAddr, Sem.run_bind, Sem.run_pure, Result.andThen_ok, run_load_cells w' g k ty cs _ (hc w' hw') hu rfl (by rw [hi, hn])]
/-- The chain of one part, and of a part without bytes behind it. -/
theorem chain_one (k b : List Nat) : chainN k [b] = sealN k (sealN k [] ++ b) := by rw [show [b] = [] ++ [b] from rfl, chainN_snoc, chainN_nil]
theorem chain_two (k b : List Nat) : chainN k [b, []] = sealN k (chainN k [b]) := by rw [show [b, []] = [b] ++ [[]] from rfl, chainN_snoc, List.append_nil]

set_option maxRecDepth 100000 in
set_option maxHeartbeats 1600000 in
theorem twiceLaw_any (v u : Value) (k b : List Nat) (w : World) (ht : Tabs w) (hv : BytesAt w v k) (hu : BytesAt w u b) (uk : ∀ x ∈ k, U8 x) (ub : ∀ x ∈ b, U8 x) (hlk : k.length ≤ 9223372036854775807) (hlb : b.length ≤ 9223372036854775807) :
    Calls Tryd.prog 13 #[v, u] w fun e w' => e = .returned (.bool true) ∧ Below w.heap.size w w' := by
  go_enter Tryd.func13, Tryd.ntmps13
  go_wp2_with fail
  refine (slives_any _ ht).mono ?_
  rintro e w1 ⟨rfl, hB⟩
  go_wp2_with fail
  refine (searly_any _ k _ (hv.keep hB) hlk).mono ?_
  rintro e w2 ⟨⟨v1, rfl, hv1⟩, rfl⟩
  go_wp2_with fail
  refine (searly_any _ b _ (hu.keep hB) hlb).mono ?_
  rintro e w3 ⟨⟨u1, rfl, hu1⟩, rfl⟩
  have uk' := u8_take uk 200
  have ub' := u8_take ub 200
  have hl1 : (k.take 200).length ≤ 200 := by simp; omega
  have hl2 : (b.take 200).length ≤ 200 := by simp; omega
  generalize k.take 200 = c at *
  generalize b.take 200 = d at *
  clear hv hu uk ub hlk hlb
  obtain ⟨au, cu, hue, _, _⟩ := id hu1
  subst hue
  have hn0 : ∀ w', BytesAt w' (.slice none 0 0) [] := fun w' => ⟨none, 0, rfl, Nat.le_refl _, fun h => absurd rfl h⟩
  have un0 : ∀ x ∈ ([] : List Nat), U8 x := fun x hx => absurd hx (by simp)
  have K1 := Lib.hid (seal_any v1 (.slice none 0 0) c [] _ (ht.keep hB) hv1 (hn0 _) uk' un0 (by omega) (by simp))
  have H1 : Unit → chainN c [d] = sealN c (sealN c [] ++ d) := fun _ => chain_one c d
  have H2 : Unit → chainN c [d, []] = sealN c (chainN c [d]) := fun _ => chain_two c d
  have hSl := sealN_len c []
  have hSu := sealN_u c []
  generalize sealN c [] = S at *
  have hs : (S.map v8).length = 32 := by rw [List.length_map, hSl]
  have ho := one8 S
  go_wp2_with fail
  refine (K1.out).mono ?_
  rintro e w4 ⟨rfl, hb4⟩
  clear K1
  go_upto_region 5 with (refine store_arr w4.heap.size 25 ((zs 32).map v8) (Rw.new w4 25 ((zs 32).map v8)) 32 rfl 25 (by kernel_rfl) _ hs ho _ _ rfl rfl rfl rfl ?_)
  rw [World.setRow_alloc_new]
  have r0 := Rw.new w4 25 (S.map v8)
  replace hb4 := hb4.alloc hb4.size (.cells (S.map v8).toArray 25)
  replace hB := hB.trans (hb4.mono hB.size)
  replace hv1 := hv1.keep hb4
  replace hu1 := hu1.keep hb4
  generalize w4.alloc (.cells (S.map v8).toArray 25) = W at *
  generalize w4.heap.size = D0 at *
  generalize (S.map v8).toArray = SA
  clear hs ho hb4
  simp only [Act.put]
  have hp1 : ∀ w', BytesAt w' (.slice au d.length cu) d → PartsAt (w'.alloc (.cells #[.slice au d.length cu] 22)) (.slice (some ⟨w'.heap.size, 0, none⟩) 1 1) [d] := fun w' h => parts_new w' _ [.slice au d.length cu] [d] 22 ((Below.refl _ w').alloc (Nat.le_refl _) _) (fun j p hp => by
    rcases j with _ | j
    · simp at hp; subst hp; exact ⟨_, rfl, h⟩
    · simp at hp) rfl 1
  have hp2 : ∀ w', BytesAt w' (.slice au d.length cu) d → PartsAt (w'.alloc (.cells #[.slice au d.length cu, .slice none 0 0] 22)) (.slice (some ⟨w'.heap.size, 0, none⟩) 2 2) [d, []] := fun w' h => parts_new w' _ [.slice au d.length cu, .slice none 0 0] [d, []] 22 ((Below.refl _ w').alloc (Nat.le_refl _) _) (fun j p hp => by
    rcases j with _ | _ | j
    · simp at hp; subst hp; exact ⟨_, rfl, h⟩
    · simp at hp; subst hp; exact ⟨_, rfl, hn0 w'⟩
    · simp at hp) rfl 2
  have hB1 : Below W.heap.size W (W.alloc (.cells #[.slice au d.length cu] 22)) := (Below.refl _ W).alloc (Nat.le_refl _) _
  have hq1 := hp1 W hu1
  go_wp2_with fail
  replace hB := hB.trans (hB1.mono hB.size)
  replace hv1 := hv1.keep hB1
  replace hu1 := hu1.keep hB1
  replace r0 := r0.keep hB1
  generalize W.alloc (.cells #[.slice au d.length cu] 22) = W1 at *
  have ull1 : ∀ p ∈ [d], (∀ x ∈ p, U8 x) ∧ p.length ≤ 1000 := fun p hp => by rw [List.mem_singleton.1 hp]; exact ⟨ub', by omega⟩
  refine (chain_any _ _ c [d] W1 (ht.keep hB) hv1 uk' (by omega) hq1 ull1 (by simp)).mono ?_
  rintro e w5 ⟨rfl, hb5⟩
  clear hq1 hB1 ull1 hp1
  replace hB := hB.trans (hb5.mono hB.size)
  replace hv1 := hv1.keep hb5
  replace hu1 := hu1.keep hb5
  replace r0 := r0.keep hb5
  have hOl := chainN_len c [d]
  have hOu := chainN_u c [d]
  generalize chainN c [d] = O at *
  have hs : (O.map v8).length = 32 := by rw [List.length_map, hOl]
  have ho := one8 O
  clear hb5
  go_upto_region 6 with (refine store_arr w5.heap.size 25 ((zs 32).map v8) (Rw.new w5 25 ((zs 32).map v8)) 32 rfl 25 (by kernel_rfl) _ hs ho _ _ rfl rfl rfl rfl ?_)
  rw [World.setRow_alloc_new]
  have r1 := Rw.new w5 25 (O.map v8)
  have hb5 : Below w5.heap.size w5 (w5.alloc (.cells (O.map v8).toArray 25)) := (Below.refl _ w5).alloc (Nat.le_refl _) _
  replace hB := hB.trans (hb5.mono hB.size)
  replace hv1 := hv1.keep hb5
  replace hu1 := hu1.keep hb5
  replace r0 := r0.keep hb5
  generalize w5.alloc (.cells (O.map v8).toArray 25) = W5 at *
  generalize w5.heap.size = D1 at *
  generalize hOA : (O.map v8).toArray = OA
  have HOA : Unit → (O.map v8).toArray = OA := fun _ => hOA
  clear hs ho hb5 hOA
  simp only [Act.put]
  have hB1 : Below W5.heap.size W5 (W5.alloc (.cells #[.slice au d.length cu, .slice none 0 0] 22)) := (Below.refl _ W5).alloc (Nat.le_refl _) _
  have hq1 := hp2 W5 hu1
  go_wp2_with fail
  replace hB := hB.trans (hB1.mono hB.size)
  replace hv1 := hv1.keep hB1
  replace hu1 := hu1.keep hB1
  replace r0 := r0.keep hB1
  replace r1 := r1.keep hB1
  generalize W5.alloc (.cells #[.slice au d.length cu, .slice none 0 0] 22) = W6 at *
  have ull1 : ∀ p ∈ [d, []], (∀ x ∈ p, U8 x) ∧ p.length ≤ 1000 := fun p hp => by
    rcases List.mem_cons.1 hp with rfl | hp
    · exact ⟨ub', by omega⟩
    · rw [List.mem_singleton.1 hp]; exact ⟨un0, by simp⟩
  refine (chain_any _ _ c [d, []] W6 (ht.keep hB) hv1 uk' (by omega) hq1 ull1 (by simp)).mono ?_
  rintro e w7 ⟨rfl, hb7⟩
  clear hq1 hB1 ull1 hp2
  replace hB := hB.trans (hb7.mono hB.size)
  replace hv1 := hv1.keep hb7
  replace hu1 := hu1.keep hb7
  replace r0 := r0.keep hb7
  replace r1 := r1.keep hb7
  have hTl := chainN_len c [d, []]
  generalize chainN c [d, []] = T at *
  have hs : (T.map v8).length = 32 := by rw [List.length_map, hTl]
  have ho := one8 T
  clear hb7
  go_upto_region 7 with (refine store_arr w7.heap.size 25 ((zs 32).map v8) (Rw.new w7 25 ((zs 32).map v8)) 32 rfl 25 (by kernel_rfl) _ hs ho _ _ rfl rfl rfl rfl ?_)
  rw [World.setRow_alloc_new]
  have r2 := Rw.new w7 25 (T.map v8)
  have hb7 : Below w7.heap.size w7 (w7.alloc (.cells (T.map v8).toArray 25)) := (Below.refl _ w7).alloc (Nat.le_refl _) _
  replace hB := hB.trans (hb7.mono hB.size)
  replace hv1 := hv1.keep hb7
  replace hu1 := hu1.keep hb7
  replace r0 := r0.keep hb7
  replace r1 := r1.keep hb7
  generalize w7.alloc (.cells (T.map v8).toArray 25) = W7 at *
  generalize w7.heap.size = D2 at *
  generalize hTA : (T.map v8).toArray = TA
  have HTA : Unit → (T.map v8).toArray = TA := fun _ => hTA
  clear hs ho hb7 hTA
  simp only [Act.put]
  have htW := ht.keep hB
  have hca0 := cut_all (P := Tryd.prog) 25 5 32 D0 (by kernel_rfl) (by kernel_rfl)
  have hca1 := cut_all (P := Tryd.prog) 25 5 32 D1 (by kernel_rfl) (by kernel_rfl)
  have hby0 := r0.bytes 32 (by omega)
  have hby1 := r1.bytes 32 (by omega)
  rw [hSl] at hby0
  rw [hOl] at hby1
  have hc1 : Cls W7 D1 0 (O.map v8) := r1.cls 0 _ (fun j v hv => by rw [Nat.zero_add]; exact hv)
  have hc2 : Cls W7 D2 0 (T.map v8) := r2.cls 0 _ (fun j v hv => by rw [Nat.zero_add]; exact hv)
  have hs1 : ∀ w', Below W7.heap.size W7 w' → Cls w' D1 0 (O.map v8) := fun w' h => hc1.keep h
  have hs2 : ∀ w', Below W7.heap.size W7 w' → Cls w' D2 0 (T.map v8) := fun w' h => hc2.keep h
  have hO32 : (O.map v8).length = 32 := by rw [List.length_map, hOl]
  have hT32 : (T.map v8).length = 32 := by rw [List.length_map, hTl]
  have heq1 : ∀ w, (binOp .eql 25 (.agg OA) (.agg OA)).run Tryd.prog w = .ok (.bool true) w := fun w => by rw [← HOA ()]; exact (same_arr O hOl w).1
  have heq2 : ∀ w, (binOp .eql 25 (.agg TA) (.agg TA)).run Tryd.prog w = .ok (.bool true) w := fun w => by rw [← HTA ()]; exact (same_arr T hTl w).1
  clear hc1 hc2 r0 r1 r2
  refine wp_region_held (S := fun w' => Below W7.heap.size W7 w') (by kernel_rfl) ?_
  have hS : Below W7.heap.size W7 { W7 with drawn := W7.drawn + 1 } := (Below.refl _ W7).drew
  generalize { W7 with drawn := W7.drawn + 1 } = W8 at *
  refine held_load 0 rfl (by kernel_rfl) (by kernel_rfl) (by kernel_rfl) (fun _ _ _ _ h => h) (by rfl) hS D1 0 OA _ (HOA ()) 32 hO32 25 5 (by kernel_rfl) (by kernel_rfl) hs1 _ rfl rfl ?_
  simp only [Act.put, List.setIfInBounds_toArray, List.set_cons_zero, List.set_cons_succ]
  refine held_val 1 rfl (by kernel_rfl) (by kernel_rfl) (by kernel_rfl) (fun _ _ _ _ h => h) (by rfl) hS ?_
  apply Exists.intro
  refine ⟨fun w' hw' => ?_, ?_⟩
  · skip
    go_simp
    first | done | rfl | exact ⟨rfl, rfl⟩
  simp only [Act.put, List.setIfInBounds_toArray, List.set_cons_zero, List.set_cons_succ]
  refine held_val 2 rfl (by kernel_rfl) (by kernel_rfl) (by kernel_rfl) (fun _ _ _ _ h => h) (by rfl) hS ?_
  apply Exists.intro
  refine ⟨fun w' hw' => ?_, ?_⟩
  · skip
    go_simp
    first | done | rfl | exact ⟨rfl, rfl⟩
  simp only [Act.put, List.setIfInBounds_toArray, List.set_cons_zero, List.set_cons_succ]
  refine held_val 4 rfl (by kernel_rfl) (by kernel_rfl) (by kernel_rfl) (fun _ _ _ _ h => h) (by rfl) hS ?_
  apply Exists.intro
  refine ⟨fun w' hw' => ?_, ?_⟩
  · skip
    go_simp
    first | done | rfl | exact ⟨rfl, rfl⟩
  simp only [Act.put, List.setIfInBounds_toArray, List.set_cons_zero, List.set_cons_succ]
  have hSz := hS.size
  refine held_one 3 (by kernel_rfl) rfl (by rfl) ?_
  refine wp_own_bytes W8.heap.size (.slice none 0 0) _ [] S (World.ownsRow_nil _ _ _ _) (hby0.keep hS) (by rw [hSl]; simp) (Nat.le_refl _) _ _ rfl rfl rfl ?_
  intro v3 w9 h1 h2
  have hb9 := below_app (Below.refl W8.heap.size W8) (World.ownsRow_nil W8 W8.heap.size 5 1) (Nat.le_refl _) (Nat.le_refl _) h2
  have hS8 := hS
  replace hS := hS.trans (hb9.mono hSz)
  refine ⟨hS, ?_⟩
  clear h2
  replace h1 : w9.ownsRow W8.heap.size 5 1 v3 S.length (S.map v8) := h1
  simp only [Act.put, List.setIfInBounds_toArray, List.set_cons_zero, List.set_cons_succ]
  refine held_one 5 (by kernel_rfl) rfl (by rfl) ?_
  refine wp_own_bytes W8.heap.size v3 _ S d h1 (hu1.keep hS) (by omega) hb9.size _ _ rfl rfl rfl ?_
  intro v5 w10 h3 h4
  have hb10 := below_app hb9 h1 (Nat.le_refl _) hb9.size h4
  replace hS := hS8.trans (hb10.mono hSz)
  refine ⟨hS, ?_⟩
  have hy5 := bytes_of_own h3
  clear h1 h3 h4 hS8
  simp only [Act.put, List.setIfInBounds_toArray, List.set_cons_zero, List.set_cons_succ]
  have K1 := Lib.hid (seal_any _ _ c (S ++ d) w10 (htW.keep hS) (hv1.keep hS) hy5 uk' (u8_app hSu ub') (by omega) (by rw [List.length_append, hSl]; omega))
  rw [← H1 (), HOA ()] at K1
  have K2 := Lib.hid (fun w' (h : Below W7.heap.size W7 w') => seal_any _ _ c O w' (htW.keep h) (hv1.keep h) (hby1.keep h) uk' hOu (by omega) (by omega))
  rw [← H2 (), HTA ()] at K2
  clear hy5 hb9 hb10
  refine held_call 6 (by kernel_rfl) rfl (by rfl) ?_
  apply Exists.intro
  apply Exists.intro
  refine ⟨?_, ?_⟩
  · go_simp
    first | done | rfl | exact ⟨rfl, rfl⟩
  refine (K1.out).mono ?_
  rintro e w11 ⟨rfl, hb11⟩
  replace hS := hS.trans (hb11.mono hS.size)
  refine ⟨_, rfl, hS, ?_⟩
  simp only [Act.put, List.setIfInBounds_toArray, List.set_cons_zero, List.set_cons_succ]
  refine held_val 7 rfl (by kernel_rfl) (by kernel_rfl) (by kernel_rfl) (fun _ _ _ _ h => h) (by rfl) hS ?_
  apply Exists.intro
  refine ⟨fun w' hw' => ?_, ?_⟩
  · skip
    go_simp
    first | done | rfl | exact ⟨rfl, rfl⟩
  simp only [Act.put, List.setIfInBounds_toArray, List.set_cons_zero, List.set_cons_succ]
  refine held_val 8 rfl (by kernel_rfl) (by kernel_rfl) (by kernel_rfl) (fun _ _ _ _ h => h) (by rfl) hS ?_
  apply Exists.intro
  refine ⟨fun w' hw' => ?_, ?_⟩
  · skip
    go_simp
    first | done | rfl | exact ⟨rfl, rfl⟩
  simp only [Act.put, List.setIfInBounds_toArray, List.set_cons_zero, List.set_cons_succ]
  refine held_load 9 rfl (by kernel_rfl) (by kernel_rfl) (by kernel_rfl) (fun _ _ _ _ h => h) (by rfl) hS D2 0 TA _ (HTA ()) 32 hT32 25 5 (by kernel_rfl) (by kernel_rfl) hs2 _ rfl rfl ?_
  simp only [Act.put, List.setIfInBounds_toArray, List.set_cons_zero, List.set_cons_succ]
  refine held_val 10 rfl (by kernel_rfl) (by kernel_rfl) (by kernel_rfl) (fun _ _ _ _ h => h) (by rfl) hS ?_
  apply Exists.intro
  refine ⟨fun w' hw' => ?_, ?_⟩
  · skip
    go_simp
    first | done | rfl | exact ⟨rfl, rfl⟩
  simp only [Act.put, List.setIfInBounds_toArray, List.set_cons_zero, List.set_cons_succ]
  refine held_val 11 rfl (by kernel_rfl) (by kernel_rfl) (by kernel_rfl) (fun _ _ _ _ h => h) (by rfl) hS ?_
  apply Exists.intro
  refine ⟨fun w' hw' => ?_, ?_⟩
  · skip
    go_simp
    first | done | rfl | exact ⟨rfl, rfl⟩
  simp only [Act.put, List.setIfInBounds_toArray, List.set_cons_zero, List.set_cons_succ]
  refine held_call 12 (by kernel_rfl) rfl (by rfl) ?_
  apply Exists.intro
  apply Exists.intro
  refine ⟨?_, ?_⟩
  · go_simp
    first | done | rfl | exact ⟨rfl, rfl⟩
  refine (K2.out _ hS).mono ?_
  rintro e w12 ⟨rfl, hb12⟩
  replace hS := hS.trans (hb12.mono hS.size)
  refine ⟨_, rfl, hS, ?_⟩
  simp only [Act.put, List.setIfInBounds_toArray, List.set_cons_zero, List.set_cons_succ]
  refine held_val 13 rfl (by kernel_rfl) (by kernel_rfl) (by kernel_rfl) (fun _ _ _ _ h => h) (by rfl) hS ?_
  apply Exists.intro
  refine ⟨fun w' hw' => ?_, ?_⟩
  · skip
    go_simp
    first | done | rfl | exact ⟨rfl, rfl⟩
  simp only [Act.put, List.setIfInBounds_toArray, List.set_cons_zero, List.set_cons_succ]
  refine held_val 14 rfl (by kernel_rfl) (by kernel_rfl) (by kernel_rfl) (fun _ _ _ _ h => h) (by rfl) hS ?_
  apply Exists.intro
  refine ⟨fun w' hw' => ?_, ?_⟩
  · skip
    go_simp
    first | done | rfl | exact ⟨rfl, rfl⟩
  simp only [Act.put, List.setIfInBounds_toArray, List.set_cons_zero, List.set_cons_succ]
  refine held_val 15 rfl (by kernel_rfl) (by kernel_rfl) (by kernel_rfl) (fun _ _ _ _ h => h) (by rfl) hS ?_
  apply Exists.intro
  refine ⟨fun w' hw' => ?_, ?_⟩
  · skip
    go_simp
    first | done | rfl | exact ⟨rfl, rfl⟩
  simp only [Act.put, List.setIfInBounds_toArray, List.set_cons_zero, List.set_cons_succ]
  refine wpAnyH_done (by kernel_rfl) ?_ _
  replace hB := hB.trans (hS.mono hB.size)
  clear K1 K2 hS
  go_wp2_with fail
  go_ret
  exact ⟨rfl, hB⟩
end Go.Proofs.YtidiallphmocdaaDoor
