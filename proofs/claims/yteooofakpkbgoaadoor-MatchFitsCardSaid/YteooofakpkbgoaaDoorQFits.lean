/- The document's Fits; its reading and the program's are one. -/
import Derived.Test.YteooofakpkbgoaaDoorQEnds2
import Derived.Test.YteooofakpkbgoaaDoorQRead
import Derived.Test.YteooofakpkbgoaaDoorPC
namespace Go.Proofs.YteooofakpkbgoaaDoor.Dn
open Go.ChangeShapes Go.WideShapes Go.RowKit

theorem rows_len (a : Al) : (rowsA a).length ≤ lenA a ∧ ∀ q ∈ rowsA a, lenS q ≤ lenA a := by
  cases a with
  | one q =>
    rw [rowsA, lenA]
    exact ⟨by simp, fun x hx => by rw [List.mem_singleton.1 hx]; omega⟩
  | more q a =>
    have := rows_len a
    rw [rowsA, lenA]
    refine ⟨by rw [List.length_cons]; omega, fun x hx => ?_⟩
    rcases List.mem_cons.1 hx with rfl | hx
    · omega
    · have := this.2 x hx
      omega
theorem parts_len (q : Sq) : (partsS q).length ≤ lenS q ∧ ∀ r ∈ partsS q, lenR r ≤ lenS q := by
  cases q with
  | nil => rw [partsS, lenS]; exact ⟨Nat.le_refl _, fun r h => by cases h⟩
  | cons r q =>
    have := parts_len q
    have h0 := lenR_pos r
    rw [partsS, lenS]
    refine ⟨by rw [List.length_cons]; omega, fun x hx => ?_⟩
    rcases List.mem_cons.1 hx with rfl | hx
    · omega
    · have := this.2 x hx
      omega
theorem map_two {α β γ : Type} (l : List α) (f : α → β) (g : α → γ) {i : Nat} {t : β} {L : γ} (h1 : (l.map f)[i]? = some t) (h2 : (l.map g)[i]? = some L) : ∃ x ∈ l, t = f x ∧ L = g x := by
  rw [List.getElem?_map] at h1 h2
  cases hx : l[i]? with
  | none => rw [hx] at h1; cases h1
  | some x =>
    rw [hx] at h1 h2
    injection h1 with h1
    injection h2 with h2
    exact ⟨x, List.mem_of_getElem? hx, h1.symm, h2.symm⟩
/-- `ends` of any pattern says where its texts end. -/
theorem ends_all (d : Nat) : (∀ r, lenR r ≤ 1000 → EndsC d (treeR r) (langR r)) ∧ (∀ q, lenS q ≤ 1000 → EndsC d (treeS q) (langS q)) ∧ ∀ a, lenA a ≤ 1000 → EndsC d (treeA a) (langA a) := by
  induction d with
  | zero => exact ⟨fun r _ P w cs s v f _ ht => ht.elim, fun r _ P w cs s v f _ ht => ht.elim, fun r _ P w cs s v f _ ht => ht.elim⟩
  | succ d ih =>
    obtain ⟨iR, iS, iA⟩ := ih
    have hA : ∀ a, lenA a ≤ 1000 → EndsC (d + 1) (treeA a) (langA a) := fun a ha => by
      have hl := rows_len a
      rw [treeA, kids_rows]
      refine (ends_alts d _ ((rowsA a).map langS) (by simp) (by rw [List.length_map]; omega) (fun i t L h1 h2 => ?_)).iff (fun u => (lang_rows a u).symm)
      obtain ⟨q, hq, rfl, rfl⟩ := map_two _ _ _ h1 h2
      exact iS q (by have := hl.2 q hq; omega)
    refine ⟨fun r hr => ?_, fun q hq => ?_, hA⟩
    · cases r with
      | set p => rw [treeR]; exact (ends_bytes d p).iff (fun u => by rw [langR])
      | grp a =>
        rw [lenR] at hr
        rw [treeR]
        exact (hA a (by omega)).iff (fun u => by rw [langR])
      | star r => rw [lenR] at hr; rw [treeR]; exact (ends_star3 d _ _ (iR r (by omega))).iff (fun u => by rw [langR])
      | plus r => rw [lenR] at hr; rw [treeR]; exact (ends_plus d _ _ (iR r (by omega))).iff (fun u => by rw [langR])
      | opt r => rw [lenR] at hr; rw [treeR]; exact (ends_opt d _ _ (iR r (by omega))).iff (fun u => by rw [langR])
    · have hl := parts_len q
      rw [treeS, kids_parts]
      refine (ends_row d _ ((partsS q).map langR) (by simp) (by rw [List.length_map]; omega) (fun i t L h1 h2 => ?_)).iff (fun u => (lang_parts q u).symm)
      obtain ⟨r, hr, rfl, rfl⟩ := map_two _ _ _ h1 h2
      exact iR r (by have := hl.2 r hr; omega)
theorem err_one (e : Er) : errN e = erV e := by cases e <;> rfl
/-- The document's reading is the program's. -/
theorem read_one (p : Bs) : readR p = patM p ∧ readE p = errM p := by
  unfold readR patM readE errM
  by_cases h : 100 < p.length
  · simp [h]
  · rw [if_neg h, if_neg h, if_neg h, if_neg h, readN, altR]
    cases altN (4 * p.length + 4) 0 p with
    | er e => exact ⟨rfl, err_one e⟩
    | ok a r => cases r with
      | nil => exact ⟨rfl, rfl⟩
      | cons c r => exact ⟨rfl, rfl⟩
theorem pl_zero (n j : Nat) (h : 0 < n) : Pl n (fun i => if i = 0 then true else false) j ↔ j = 0 := by
  unfold Pl
  by_cases e : j = 0
  · subst e
    simp [h]
  · simp [e]
set_option maxHeartbeats 1600000 in
set_option maxRecDepth 100000 in
theorem dfits_any (P : Nat → Prop) (d : Nat) (a : Al) (cs : List Value) (s : Bs) (w : World) (hT : TAt P w d cs (treeA a)) (ha : lenA a ≤ 1000) (hs : s.length ≤ 1000) :
    Calls Tryd.prog 48 #[.agg cs.toArray, .string ⟨s.toArray⟩] w fun e w' => (∃ b, e = .returned (.bool b) ∧ (b = true ↔ langA a s)) ∧ Below w.heap.size w w' := by
  have hss : (⟨s.toArray⟩ : ByteArray).size = s.length := by simp [ByteArray.size]
  have hcl := hT.node.1
  obtain ⟨N, hNN⟩ : ∃ N, s.length + 1 = N := ⟨_, rfl⟩
  have hNi : (s.length : Int) + 1 = (N : Int) := by omega
  have hN : N ≤ 1001 := by omega
  have hN0 : 0 < N := by omega
  have hmk := make_bool N (by omega) (N : Int) rfl
  have hX : (Value.agg cs.toArray).cells = cs.toArray := rfl
  have KE := fun (P : Nat → Prop) w' v f (h1 : TAt P w' d cs (treeA a)) (h2 : BAt w' v (s.length + 1) f) => (ends_all d).2.2 a ha P w' cs s v f hs h1 h2
  rw [hNN] at KE
  have HKE := Lib.hid KE
  clear KE
  have hsl : s.length < N := by omega
  obtain ⟨S9, eS⟩ : ∃ S9, (⟨s.toArray⟩ : ByteArray) = S9 := ⟨_, rfl⟩
  simp only [eS] at hss HKE ⊢
  clear eS
  go_enter Tryd.func48, Tryd.ntmps48
  go_upto_region 1 with fail
  have rN := Rw.new w 61 cs
  have hb0 := (Below.refl w.heap.size w).alloc (Nat.le_refl _) (.cells cs.toArray 61)
  have A := Asd.of_below (S := fun _ => False) hb0
  replace hT := hT.stay hb0
  generalize w.alloc (.cells cs.toArray 61) = w1 at *
  obtain ⟨bN, hbN, eN⟩ : ∃ bN, w.heap.size ≤ bN ∧ w.heap.size = bN := ⟨_, Nat.le_refl _, rfl⟩
  rw [eN] at rN
  simp only [eN]
  have hsz1 := A.size
  have hlN := Rw.lt rN
  clear hb0
  go_upto_region 2 with fail
  have ro := Rw.new w1 4 (rowB N (fun _ => false))
  have hb1 := (Below.refl w1.heap.size w1).alloc (Nat.le_refl _) (.cells (rowB N (fun _ => false)).toArray 4)
  replace A := A.below hb1
  replace rN := rN.stay hb1
  replace hT := hT.mono (P' := fun j => j < w1.heap.size) (fun j _ h => h)
  replace hT := hT.stay hb1
  generalize w1.alloc (.cells (rowB N (fun _ => false)).toArray 4) = w2 at *
  obtain ⟨gO, eO⟩ : ∃ gO, w1.heap.size = gO := ⟨_, rfl⟩
  rw [eO] at ro hsz1 hlN hT
  simp only [eO]
  clear hb1 hmk hX
  have co := (ro.cell 0).trans (rowB_get _ hN0)
  have fo := ro.frozen 0
  go_upto_region 3 with fail
  replace rN := rN.other (by omega) 0 (.bool true) (k := gO)
  replace hT := hT.keep ((Asd.refl (fun j => j = gO) w2).set1 0 (.bool true)) (fun i hp _ e => by omega)
  replace A := A.setCell (p := ⟨gO, 0, none⟩) (.inr hsz1) (.bool true)
  replace ro := ro.setCell 0 (.bool true)
  rw [rowB_set] at ro
  generalize w2.setCell ⟨gO, 0, none⟩ (.bool true) = w3 at *
  clear co fo
  have KE := Lib.hid (HKE.out _ w3 (.slice (some ⟨gO, 0, none⟩) N N) _ hT ⟨gO, rfl, ro⟩)
  clear HKE hT
  go_wp2_with (refine load_node _ _ rN hcl _ rfl rfl rfl ?_)
  refine KE.out.mono ?_
  rintro e w4 ⟨hb4, v4, f4, rfl, ⟨g4, rfl, r4⟩, hE4⟩
  have c4 := (r4.cell s.length).trans (rowB_get f4 hsl)
  have HB : Unit → (f4 s.length = true ↔ langA a s) := fun _ => by
    have q := hE4 s.length
    rw [ends_iff (fun i => pl_zero N i hN0), ends_whole] at q
    rw [← q]
    unfold Pl
    exact ⟨fun h => ⟨hsl, h⟩, fun h => h.2⟩
  obtain ⟨b, hb⟩ : ∃ b, f4 s.length = b := ⟨_, rfl⟩
  rw [hb] at c4 HB
  clear hE4 hb KE
  go_wp2_with fail
  go_ret
  exact ⟨⟨b, rfl, HB ()⟩, by first | exact asd_below (A.below hb4) | (rw [← eN]; exact asd_below (A.below hb4))⟩
end Go.Proofs.YteooofakpkbgoaaDoor.Dn
