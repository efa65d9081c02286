/- The document's own Find, Raised: the label of the first of a name, a field's label. -/
import Derived.Test.YtknhkmlihbgjpaaDoorAVis
import Derived.Test.YtknhkmlihbgjpaaDoorLbJoin
namespace Go.Proofs.YtknhkmlihbgjpaaDoor
open Go.ChangeShapes Go.WideShapes Go.RowKit

set_option maxHeartbeats 3200000 in
set_option maxRecDepth 100000 in
theorem rfind_any (P : Nat → Prop) (v : Value) (ns : List Nd) (nm : Bs) (w : World) (h : NdsAt P w v ns) (hl : ns.length ≤ 9223372036854775807) :
    Calls Tryd.prog 58 #[v, .string ⟨nm.toArray⟩] w fun e w' => e = .returned (findV (findN ns nm)) ∧ Below w.heap.size w w' := by
  obtain ⟨a, c, rfl⟩ := h.shape
  obtain ⟨n, hn⟩ : ∃ n, ns.length = n := ⟨_, rfl⟩
  rw [hn] at hl h ⊢
  have HN : Unit → ns.length = n := fun _ => hn
  clear hn
  obtain ⟨O, hO⟩ : ∃ O, findN ns nm = O := ⟨_, rfl⟩
  have HO : Unit → findN ns nm = O := fun _ => hO
  rw [hO]
  clear hO
  have hni : (n : Int) ≤ 9223372036854775807 := by omega
  go_enter Tryd.func58, Tryd.ntmps58
  go_upto_region 1 with fail
  have hB0 : Below w.heap.size w (w.alloc (.cells #[.int .i64 0, .int .u32 0] 25)) := (Below.refl w.heap.size w).alloc (Nat.le_refl _) _
  have r0 : Rw (w.alloc (.cells #[.int .i64 0, .int .u32 0] 25)) w.heap.size 25 [.int .i64 0, .int .u32 0] := Rw.new w 25 [.int .i64 0, .int .u32 0]
  generalize w.alloc (.cells #[.int .i64 0, .int .u32 0] 25) = w1 at *
  have hR0 := r0.lt
  generalize hR : w.heap.size = R at r0 hB0 hR0 ⊢
  have HR : Unit → w.heap.size = R := fun _ => hR
  clear hR
  go_upto_region 2 with fail
  go_loopw [6] (fun iv wr => ∃ k : Nat, k ≤ n ∧ iv = .int .i64 (k : Int) ∧ findN ns nm = findN (ns.drop k) nm ∧ Rw wr R 25 [.int .i64 0, .int .u32 0] ∧ Below R w wr) (fun iv _ => n - (intOf iv).toNat)
  case atStart => exact ⟨0, Nat.zero_le _, rfl, by rw [List.drop_zero], r0, hB0⟩
  case round =>
    clear r0 hB0 hR0
    obtain ⟨k, hk, rfl, hV, r0, hB⟩ := hrel
    have HV : Unit → findN ns nm = findN (ns.drop k) nm := fun _ => hV
    clear hV
    have hR0 := r0.lt
    have u0 := Rw.cell r0 0
    have u1 := Rw.cell r0 1
    have z0 := Rw.frozen r0 0
    have z1 := Rw.frozen r0 1
    simp only [List.getElem?_cons_zero, List.getElem?_cons_succ] at u0 u1
    by_cases hlt : k < n
    · have hki : (k : Int) < (n : Int) := by omega
      obtain ⟨f, hf⟩ : ∃ f, ns[k]? = some f := ⟨_, List.getElem?_eq_getElem (by have := HN (); omega)⟩
      obtain ⟨g, o, rfl, _, hg, c0, c1, c2⟩ := (h.stay (hB.mono (Nat.le_of_eq (HR ())))).part hf
      have hst := findN_at hf nm
      have hsame := same_text f.n nm
      clear hf
      obtain ⟨f1, f2, f3⟩ := f
      simp only at c0 c1 c2 hst hsame
      replace c2 : wr.cell? ⟨g, o + k * 3 + 1 + 1, none⟩ = some (.int .u32 f3) := c2
      by_cases he : f1 = nm
      · rw [if_pos he] at hst
        have e : some (f2, f3) = O := (hst.symm.trans (HV ()).symm).trans (HO ())
        subst e
        have hb : (f1 == nm) = true := by simpa using he
        rw [hb] at hsame
        clear hst he
        go_wp2_with fail
        refine bodyPost_ret (v := .tuple #[.agg #[.int .i64 f2, .int .u32 f3], .bool true]) (by simp [results, Tryd.results58, go_sem, u0, u1]) rfl ?_
        exact ⟨rfl, by rw [HR ()]; exact (hB.setCell (p := ⟨R, 0, none⟩) (Nat.le_refl _) _).setCell (p := ⟨R, 1, none⟩) (Nat.le_refl _) _⟩
      · rw [if_neg he] at hst
        have HV2 : Unit → findN ns nm = findN (ns.drop (k + 1)) nm := fun _ => (HV ()).trans hst
        have hb : (f1 == nm) = false := by simpa using he
        rw [hb] at hsame
        clear hst he
        go_wp2_with fail
        go_roundw
        case rel => exact ⟨k + 1, by omega, by go_num, HV2 (), r0, hB⟩
        case measure => simp [intOf]; omega
    · have hki : ¬ (k : Int) < (n : Int) := by omega
      have e : (none : Option (Int × Int)) = O := by rw [← HO (), HV (), List.drop_eq_nil_of_le (by have := HN (); omega)]; rfl
      subst e
      go_wp2_with fail
      refine bodyPost_ret (v := .tuple #[.agg #[.int .i64 0, .int .u32 0], .bool false]) (by simp [results, Tryd.results58, go_sem, u0, u1]) rfl ?_
      exact ⟨rfl, by rw [HR ()]; exact (hB.setCell (p := ⟨R, 0, none⟩) (Nat.le_refl _) _).setCell (p := ⟨R, 1, none⟩) (Nat.le_refl _) _⟩
set_option maxHeartbeats 3200000 in
set_option maxRecDepth 100000 in
theorem rraised_any (P : Nat → Prop) (x0 x1 x2 x3 x4 x5 : Sl) (ns : List Nd) (nm : Bs) (l c : Int) (w : World) (h : NdsAt P w x3.v ns) (hl : ns.length ≤ 9223372036854775807) (hu : ∀ m ∈ ns, U32 m.c) (hc : U32 c) :
    Calls Tryd.prog 30 #[.agg #[x0.v, x1.v, x2.v, x3.v, x4.v, x5.v], .string ⟨nm.toArray⟩, .agg #[.int .i64 l, .int .u32 c]] w fun e w' => e = .returned (.agg #[.int .i64 (raisedL ns nm l), .int .u32 (raisedC ns nm l c)]) ∧ Below w.heap.size w w' := by
  have KF := Lib.hid fun w' (hb : Below w.heap.size w w') => rfind_any P x3.v ns nm w' (h.stay hb) hl
  have HU : Unit → ∀ x, findN ns nm = some x → U32 x.2 := fun _ x hx => by
    obtain ⟨m, hm, _, e⟩ := find_mem hx
    rw [← e]; exact hu m hm
  obtain ⟨RL, hRL⟩ : ∃ x, raisedL ns nm l = x := ⟨_, rfl⟩
  obtain ⟨RC, hRC⟩ : ∃ x, raisedC ns nm l c = x := ⟨_, rfl⟩
  have HR : Unit → raisedL ns nm l = RL ∧ raisedC ns nm l c = RC := fun _ => ⟨hRL, hRC⟩
  rw [hRL, hRC]
  obtain ⟨F, hF⟩ : ∃ F, findN ns nm = F := ⟨_, rfl⟩
  have HF : Unit → findN ns nm = F := fun _ => hF
  simp only [hF] at KF
  clear hRL hRC hF hu h hl
  obtain ⟨a0, n0, c0⟩ := x0
  obtain ⟨a1, n1, c1⟩ := x1
  obtain ⟨a2, n2, c2⟩ := x2
  obtain ⟨a3, n3, c3⟩ := x3
  obtain ⟨a4, n4, c4⟩ := x4
  obtain ⟨a5, n5, c5⟩ := x5
  simp only [Sl.v] at KF ⊢
  go_enter Tryd.func30, Tryd.ntmps30
  go_upto_region 1 with fail
  obtain ⟨rP, rB, rO, hB⟩ := put3n w 50 25 25 [.slice a0 n0 c0, .slice a1 n1 c1, .slice a2 n2 c2, .slice a3 n3 c3, .slice a4 n4 c4, .slice a5 n5 c5] [.int .i64 l, .int .u32 c] [.int .i64 0, .int .u32 0]
  generalize ((w.alloc (.cells #[.slice a0 n0 c0, .slice a1 n1 c1, .slice a2 n2 c2, .slice a3 n3 c3, .slice a4 n4 c4, .slice a5 n5 c5] 50)).alloc (.cells #[.int .i64 l, .int .u32 c] 25)).alloc (.cells #[.int .i64 0, .int .u32 0] 25) = w1 at *
  have p3 := Rw.cell rP 3
  simp only [List.getElem?_cons_zero, List.getElem?_cons_succ] at p3
  go_wp2_with fail
  refine (KF.out _ hB).mono ?_
  rintro e w2 ⟨rfl, hb⟩
  clear KF p3 rP
  replace hB := hB.trans (hb.mono hB.size)
  replace rB := rB.stay hb
  replace rO := rO.stay hb
  clear hb
  cases F with
  | none =>
    have e1 : l = RL ∧ c = RC := by have := HR (); unfold raisedL raisedC at this; rw [HF ()] at this; exact this
    obtain ⟨rfl, rfl⟩ := e1
    simp only [findV]
    have hal : Below w2.heap.size w2 (w2.alloc (.cells #[.int .i64 0, .int .u32 0] 25)) := (Below.refl _ _).alloc (Nat.le_refl _) _
    replace rB := rB.stay hal
    replace rO := rO.stay hal
    replace hB := hB.trans (hal.mono hB.size)
    go_upto_region 2 with fail
    generalize w2.alloc (.cells #[.int .i64 0, .int .u32 0] 25) = w3 at *
    generalize w2.heap.size = R at *
    have u0 := Rw.cell rO 0
    have u1 := Rw.cell rO 1
    have z0 := Rw.frozen rO 0
    have z1 := Rw.frozen rO 1
    have b0 := Rw.cell rB 0
    have b1 := Rw.cell rB 1
    simp only [List.getElem?_cons_zero, List.getElem?_cons_succ] at u0 u1 b0 b1
    go_wp2_with fail
    refine bodyPost_ret (v := .agg #[.int .i64 l, .int .u32 c]) (by simp [results, Tryd.results30, go_sem, u0, u1]) rfl ?_
    exact ⟨rfl, (hB.setCell (p := ⟨w.heap.size + 1 + 1, 0, none⟩) (by simp; omega) _).setCell (p := ⟨w.heap.size + 1 + 1, 1, none⟩) (by simp; omega) _⟩
  | some x =>
    have e1 : jL l x.1 = RL ∧ jC l c x.1 x.2 = RC := by have := HR (); unfold raisedL raisedC at this; rw [HF ()] at this; exact this
    have hx := HU () x (HF ())
    obtain ⟨x1, x2⟩ := x
    simp only at e1 hx
    simp only [findV]
    have hal : Below w2.heap.size w2 (w2.alloc (.cells #[.int .i64 x1, .int .u32 x2] 25)) := (Below.refl _ _).alloc (Nat.le_refl _) _
    have rX : Rw (w2.alloc (.cells #[.int .i64 x1, .int .u32 x2] 25)) w2.heap.size 25 [.int .i64 x1, .int .u32 x2] := Rw.new w2 25 [.int .i64 x1, .int .u32 x2]
    replace rB := rB.stay hal
    replace rO := rO.stay hal
    replace hB := hB.trans (hal.mono hB.size)
    go_upto_region 2 with fail
    generalize w2.alloc (.cells #[.int .i64 x1, .int .u32 x2] 25) = w3 at *
    generalize w2.heap.size = R at *
    have KJ := Lb.rjoin_any l c x1 x2 hc.1 hc.2 hx.1 hx.2 w3
    rw [e1.1, e1.2] at KJ
    replace KJ := Lib.hid KJ
    have d0 := Rw.cell rX 0
    have d1 := Rw.cell rX 1
    have b0 := Rw.cell rB 0
    have b1 := Rw.cell rB 1
    simp only [List.getElem?_cons_zero, List.getElem?_cons_succ] at d0 d1 b0 b1
    clear e1 hal
    go_wp2_with fail
    refine KJ.out.mono ?_
    rintro e w4 ⟨rfl, hb⟩
    replace rO := rO.stay hb
    replace hB := hB.trans (hb.mono hB.size)
    clear KJ hb d0 d1 b0 b1
    have u0 := Rw.cell rO 0
    have u1 := Rw.cell rO 1
    have z0 := Rw.frozen rO 0
    have z1 := Rw.frozen rO 1
    simp only [List.getElem?_cons_zero, List.getElem?_cons_succ] at u0 u1
    go_wp2_with fail
    refine bodyPost_ret (v := .agg #[.int .i64 RL, .int .u32 RC]) (by simp [results, Tryd.results30, go_sem, u0, u1]) rfl ?_
    exact ⟨rfl, (hB.setCell (p := ⟨w.heap.size + 1 + 1, 0, none⟩) (by simp; omega) _).setCell (p := ⟨w.heap.size + 1 + 1, 1, none⟩) (by simp; omega) _⟩
end Go.Proofs.YtknhkmlihbgjpaaDoor
