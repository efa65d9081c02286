/- label.Text: the text of a label, or that it is not valid. -/
import Derived.Test.YtkmbllnnaljepaaDoorIter
namespace Go.Proofs.YtkmbllnnaljepaaDoor
open Go.ChangeShapes Go.WideShapes Go.RowKit Go.Shelf
attribute [local go_sem] Oper.semAt_some

/-- The texts of teams, one behind the other. -/
def tailT : List Nat → List UInt8
  | [] => []
  | k :: r => 43 :: (Lib.decDigits k ++ r.flatMap fun j => 44 :: Lib.decDigits j)
def sepT (ks : List Nat) : UInt8 := if ks.isEmpty then 43 else 44
def txtL (l : Nat) (ks : List Nat) : List UInt8 := Lib.decDigits l ++ tailT ks
theorem tailT_snoc (ks : List Nat) (x : Nat) : tailT (ks ++ [x]) = tailT ks ++ sepT ks :: Lib.decDigits x := by
  cases ks with
  | nil => simp [tailT, sepT]
  | cons k r => simp [tailT, sepT, List.flatMap_append]
theorem txtL_snoc (l : Nat) (ks : List Nat) (x : Nat) : txtL l (ks ++ [x]) = txtL l ks ++ sepT ks :: Lib.decDigits x := by unfold txtL; rw [tailT_snoc, List.append_assoc]
theorem dig_len {k : Nat} (h : k < 100) : (Lib.decDigits k).length ≤ 2 := by
  rw [Lib.decDigits]
  split
  · simp
  · rw [Lib.decDigits, dif_pos (by omega)]; simp
theorem txtL_len (l : Nat) (hl : l < 100) (ks : List (Fin 32)) : (txtL l (ks.map Fin.val)).length ≤ 2 + 3 * ks.length := by
  have h2 : (tailT (ks.map Fin.val)).length ≤ 3 * ks.length := by
    cases ks with
    | nil => simp [tailT]
    | cons k r =>
      have hk := dig_len (k := k.val) (by omega)
      have hr : ((r.map Fin.val).flatMap fun j => 44 :: Lib.decDigits j).length ≤ 3 * r.length := by
        induction r with
        | nil => simp
        | cons a b ih =>
          have ha := dig_len (k := a.val) (by omega)
          simp at ih ⊢
          omega
      simp only [List.map_cons, tailT, List.length_cons, List.length_append]
      omega
  have h1 := dig_len hl
  unfold txtL
  rw [List.length_append]
  omega

theorem cell_new1 (W : World) (v : Value) (t : TypeId) : (W.alloc (.cells #[v] t)).cell? ⟨W.heap.size, 0, none⟩ = some v ∧ (W.alloc (.cells #[v] t)).frozen? ⟨W.heap.size, 0, none⟩ = false :=
  ⟨(World.cell?_alloc_at _ _ _ _ rfl).trans rfl, World.frozen?_alloc_at _ _ _ _ rfl⟩
theorem cell_past {W : World} {a : Addr} {v : Value} (o : Obj) (h : W.cell? a = some v) : (W.alloc o).cell? a = some v := Below.keeps ((Below.refl _ _).alloc (Nat.le_refl _) _) h
theorem frozen_past {W : World} {a : Addr} {v : Value} (o : Obj) (h : W.cell? a = some v) (hf : W.frozen? a = false) : (W.alloc o).frozen? a = false :=
  (((Below.refl _ W).alloc (Nat.le_refl _) o).frozen (World.block_lt_of_cell? W a h)).trans hf

set_option maxHeartbeats 400000 in
theorem teamTexts_any (l c : Int) (w : World) :
    Calls Tryd.prog 35 #[.agg #[.int .i64 l, .int .u32 c]] w fun e w' => e = .returned (.func (.func 39) #[] #[.pointer (some ⟨w.heap.size, 0, none⟩)]) ∧ w' = w.alloc (.cells #[.int .i64 l, .int .u32 c] 24) := by
  have hmf : ∀ (fn : Fn) (first cap : Array Value) (w : World), (Instr.makeFunc fn first cap).run Tryd.prog w = .ok (.func fn first cap) w := fun _ _ _ _ => rfl
  go_enter Tryd.func35, Tryd.ntmps35
  go_wp2
  go_ret
  exact ⟨rfl, rfl⟩

set_option maxHeartbeats 1000000 in
set_option maxRecDepth 100000 in
theorem text_no (l c : Int) (hl : rB l = false) (w : World) :
    CallsIn Fence.wide 5 Tryd.prog 23 #[.agg #[.int .i64 l, .int .u32 c]] w fun e w' => e = .returned (.tuple #[.string ⟨#[]⟩, .int .i64 1]) ∧ Below w.heap.size w w' := by
  refine callsIn_of_wp_marks Tryd.func23 rfl trivial ?_ rfl
  simp only [Tryd.ntmps23, List.size_toArray, List.length_cons, List.length_nil, Nat.reduceAdd, Nat.reduceSub, Array.replicate_succ, Array.replicate_zero, List.push_toArray, List.append_toArray, List.nil_append, List.cons_append]
  gi_wp2_with fail
  refine ⟨trivial, ?_⟩
  refine (callsIn_wide.2 (right_any _ _ _)).mono ?_
  rintro e w1 ⟨rfl, hb⟩
  gi_wp2
  exact ⟨_, results_tmp2 rfl _ _ _, rfl, ((Below.refl _ _).alloc (Nat.le_refl _) _).trans (hb.mono (by simp))⟩

theorem text_round {w W : World} {T L : Nat} {pre : List (Fin 32)} {x : Fin 32} (hz : w.heap.size < T) (hB : Below w.heap.size w W)
    (hc : W.cell? ⟨T, 0, none⟩ = some (.string ⟨(txtL L (pre.map Fin.val)).toArray⟩)) (hf : W.frozen? ⟨T, 0, none⟩ = false)
    (hc' : W.cell? ⟨T + 1, 0, none⟩ = some (.string ⟨#[sepT (pre.map Fin.val)]⟩)) (hf' : W.frozen? ⟨T + 1, 0, none⟩ = false) :
    let W' := (W.setCell ⟨T, 0, none⟩ (.string (⟨(txtL L (pre.map Fin.val)).toArray⟩ ++ (⟨#[sepT (pre.map Fin.val)]⟩ ++ dgs x.val)))).setCell ⟨T + 1, 0, none⟩ (.string ⟨#[44]⟩)
    KeepsOthers W W' ∧ KpT T (T + 1) W W' ∧ (W'.cell? ⟨T, 0, none⟩ = some (.string ⟨(txtL L ((pre ++ [x]).map Fin.val)).toArray⟩) ∧ W'.frozen? ⟨T, 0, none⟩ = false ∧
      W'.cell? ⟨T + 1, 0, none⟩ = some (.string ⟨#[sepT ((pre ++ [x]).map Fin.val)]⟩) ∧ W'.frozen? ⟨T + 1, 0, none⟩ = false) ∧ Below w.heap.size w W' := by
  intro W'
  have e1 : (⟨(txtL L (pre.map Fin.val)).toArray⟩ ++ (⟨#[sepT (pre.map Fin.val)]⟩ ++ dgs x.val) : ByteArray) = ⟨(txtL L ((pre ++ [x]).map Fin.val)).toArray⟩ := by
    rw [List.map_append, List.map_cons, List.map_nil, txtL_snoc]
    apply ByteArray.ext
    simp [dgs]
  have e2 : sepT ((pre ++ [x]).map Fin.val) = 44 := by simp [sepT]
  have hne : (⟨T, 0, none⟩ : Addr) ≠ ⟨T + 1, 0, none⟩ := by intro h; injection h; omega
  refine ⟨(KeepsOthers.setCell _ _ _).trans (KeepsOthers.setCell _ _ _), ⟨?_, ?_⟩, ⟨?_, ?_, ?_, ?_⟩, (hB.setCell (p := ⟨T, 0, none⟩) (by simp; omega) _).setCell (p := ⟨T + 1, 0, none⟩) (by simp; omega) _⟩
  · simp [W', World.setCell]
  · intro k o h1 h2 h3 _
    exact ((Below.heap_setCell _ ⟨T + 1, 0, none⟩ _ k h2).trans (Below.heap_setCell _ ⟨T, 0, none⟩ _ k h1)).trans h3
  · rw [← e1]
    show ((W.setCell _ _).setCell _ _).cell? _ = _
    rw [World.cell?_setCell_other _ _ _ _ hne.symm]
    exact World.cell?_setCell_same' _ _ _ (by rw [hc]; rfl)
  · show ((W.setCell _ _).setCell _ _).frozen? _ = _
    rw [World.frozen?_setCell, World.frozen?_setCell]; exact hf
  · rw [e2]
    exact World.cell?_setCell_same' _ _ _ (by rw [World.cell?_setCell_other _ _ _ _ hne, hc']; rfl)
  · show ((W.setCell _ _).setCell _ _).frozen? _ = _
    rw [World.frozen?_setCell, World.frozen?_setCell]; exact hf'

set_option maxHeartbeats 1000000 in
set_option maxRecDepth 100000 in
theorem text_yes (l c : Int) (hl : rB l = true) (hc0 : 0 ≤ c) (hc1 : c < 4294967296) (w : World) :
    CallsIn Fence.wide 5 Tryd.prog 23 #[.agg #[.int .i64 l, .int .u32 c]] w fun e w' => e = .returned (.tuple #[.string ⟨(txtL l.toNat (tms c 32)).toArray⟩, .int .i64 0]) ∧ Below w.heap.size w w' := by
  have hl2 := rB_true.1 hl
  obtain ⟨L, rfl⟩ := Int.eq_ofNat_of_zero_le hl2.1
  rw [Int.toNat_natCast]
  refine callsIn_of_wp_marks Tryd.func23 rfl trivial ?_ rfl
  simp only [Tryd.ntmps23, List.size_toArray, List.length_cons, List.length_nil, Nat.reduceAdd, Nat.reduceSub, Array.replicate_succ, Array.replicate_zero, List.push_toArray, List.append_toArray, List.nil_append, List.cons_append]
  gi_wp2_with fail
  refine ⟨trivial, ?_⟩
  refine (callsIn_wide.2 (right_any _ _ _)).mono ?_
  rintro e w1 ⟨rfl, hb⟩
  have hA := (LabAt.one w L c).keep hb
  have q0 : ∀ o1 o2 : Obj, ((w1.alloc o1).alloc o2).cell? ⟨w.heap.size, 0, none⟩ = some (.int .i64 (L : Int)) := fun o1 o2 => ((hA.later o1).later o2).1
  have q1 : ∀ o1 o2 : Obj, ((w1.alloc o1).alloc o2).cell? ⟨w.heap.size, 1, none⟩ = some (.int .u32 c) := fun o1 o2 => ((hA.later o1).later o2).2
  have hz : w.heap.size < w1.heap.size := World.block_lt_of_cell? w1 _ hA.1
  obtain ⟨a0, a1⟩ := hA
  have hB1 : Below w.heap.size w w1 := ((Below.refl _ _).alloc (Nat.le_refl _) _).trans (hb.mono (by simp))
  clear hb
  gi_wp2_with fail
  refine ⟨trivial, ?_⟩
  refine (callsIn_wide.2 (Tryd.strconv_Itoa_small L (by omega) _)).mono ?_
  rintro e w2 ⟨rfl, rfl⟩
  gi_wp2_with fail
  refine ⟨trivial, ?_⟩
  refine (callsIn_wide.2 (teamTexts_any _ _ _)).mono ?_
  rintro e w2 ⟨rfl, rfl⟩
  gi_wp2_with fail
  clear q0 q1
  have hT := cell_new1 w2 (.string ⟨(Lib.decDigits L).toArray⟩) 9
  have hM := cell_new1 (w2.alloc (.cells #[.string ⟨(Lib.decDigits L).toArray⟩] 9)) (.string ⟨#[43]⟩) 9
  rw [World.size_alloc] at hM
  have hB0 : Below w.heap.size w (((w2.alloc (.cells #[.string ⟨(Lib.decDigits L).toArray⟩] 9)).alloc (.cells #[.string ⟨#[43]⟩] 9)).alloc (.cells #[.int .i64 L, .int .u32 c] 24)) :=
    ((hB1.alloc (by omega) _).alloc (by simp; omega) _).alloc (by simp; omega) _
  have hbx := LabAt.one ((w2.alloc (.cells #[.string ⟨(Lib.decDigits L).toArray⟩] 9)).alloc (.cells #[.string ⟨#[43]⟩] 9)) L c
  simp only [World.size_alloc] at hbx
  refine wpIn_rangeFunc_ownF rfl (by omega) (gf := 39) (lb := #[.pointer (some ⟨w2.heap.size + 1 + 1, 0, none⟩)]) rfl trivial (enters_of Tryd.func39 (by kernel_rfl) rfl)
    (iter_stops (5 - 1) (w2.heap.size + 1 + 1) w2.heap.size (w2.heap.size + 1) L c hc0 hc1 _ (by simp; omega) (by simp) hbx) KpT.trans (fun W l o o' h1 h2 h3 h4 => KpT.put W l o o' h1 h2 h3 h4) (Below.refl _ _) (fun _ => rfl)
    (fun pre W => (W.cell? ⟨w2.heap.size, 0, none⟩ = some (.string ⟨(txtL L (pre.map Fin.val)).toArray⟩) ∧ W.frozen? ⟨w2.heap.size, 0, none⟩ = false ∧ W.cell? ⟨w2.heap.size + 1, 0, none⟩ = some (.string ⟨#[sepT (pre.map Fin.val)]⟩) ∧ W.frozen? ⟨w2.heap.size + 1, 0, none⟩ = false) ∧ Below w.heap.size w W)
    (fun _ _ _ => False)
    (OwnFrom.and (Own.from (fun s A B row hs hg hr => ⟨cell_kept hs.1 hg hr, (frozen_kept hs.1 hg hr).trans hs.2.1, cell_kept hs.2.2.1 hg hr, (frozen_kept hs.2.2.1 hg hr).trans hs.2.2.2⟩) _) (ownFrom_below (Nat.le_refl _) (by simp; omega)))
    (fun _ _ _ _ _ hs _ _ => hs)
    ⟨⟨?s1, ?s2, ?s3, ?s4⟩, hB0⟩
    (fun x => { tmps := #[.agg #[.int .i64 L, .int .u32 c], .pointer (some ⟨w.heap.size, 0, none⟩), .string ⟨#[]⟩, .int .i64 0, .pointer (some ⟨w2.heap.size, 0, none⟩), .pointer (some ⟨w2.heap.size + 1, 0, none⟩), .string (dgs x.val), .agg #[.int .i64 L, .int .u32 c], .bool true, .bool false, .pointer (some ⟨w.heap.size, 0, none⟩), .int .i64 L, .string ⟨(Lib.decDigits L).toArray⟩, .agg #[.int .i64 L, .int .u32 c], .func (.func 39) #[] #[.pointer (some ⟨w2.heap.size + 1 + 1, 0, none⟩)], .string (dgs x.val), undef, undef, undef, undef, undef, undef], defers := [] }) ?assign ?body ?done ?stop
  case s1 => rw [show txtL L (([] : List (Fin 32)).map Fin.val) = Lib.decDigits L by simp [txtL, tailT]]; exact cell_past _ (cell_past _ hT.1)
  case s2 => exact frozen_past _ (cell_past _ hT.1) (frozen_past _ hT.1 hT.2)
  case s3 => exact cell_past _ hM.1
  case s4 => exact frozen_past _ hM.1 hM.2
  case assign =>
    intro l x W K hK
    gi_wp2
    exact hK
  case body =>
    rintro l pre x W ⟨⟨hc, hf, hc', hf'⟩, hB⟩ hlt
    have hlen := txtL_len L (by omega) pre
    have hd : (dgs x.val).size ≤ 2 := dig_len (k := x.val) (by omega)
    clear hT hM hB0 hbx a0 a1 hB1 hl
    gi_wp2
    exact text_round hz hB hc hf hc' hf'
  case done =>
    rintro D ys W hD rfl ⟨⟨hc, hf, _⟩, hB⟩ hK
    gi_wp2
    refine ⟨by simp, .inl ⟨_, _, rfl, run_takeDeferred hK, ?_⟩⟩
    rw [← tmsF_map]
    exact ⟨_, results_tmp2 rfl _ _ _, rfl, hB.trans (belowK_b (w := w) (Nat.le_refl _) W D _ _ (by simp at hD; omega) hK rfl rfl)⟩
  case stop =>
    rintro D c pre W _ _ h _
    exact h.elim
/-- What label.Text answers. -/
theorem text_right (l c : Int) (hl : rB l = true) (hc0 : 0 ≤ c) (hc1 : c < 4294967296) (w : World) :
    Calls Tryd.prog 23 #[.agg #[.int .i64 l, .int .u32 c]] w fun e w' => e = .returned (.tuple #[.string ⟨(txtL l.toNat (tms c 32)).toArray⟩, .int .i64 0]) ∧ Below w.heap.size w w' :=
  callsIn_wide.1 (text_yes l c hl hc0 hc1 w)
theorem text_wrong (l c : Int) (hl : rB l = false) (w : World) :
    Calls Tryd.prog 23 #[.agg #[.int .i64 l, .int .u32 c]] w fun e w' => e = .returned (.tuple #[.string ⟨#[]⟩, .int .i64 1]) ∧ Below w.heap.size w w' :=
  callsIn_wide.1 (text_no l c hl w)
end Go.Proofs.YtkmbllnnaljepaaDoor
