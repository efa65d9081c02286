/- alert.Cut: what of an alert may be told to a label. -/
import Derived.Test.YtknhkmlihbgjpaaDoorAVis
namespace Go.Proofs.YtknhkmlihbgjpaaDoor
open Go.ChangeShapes Go.WideShapes Go.RowKit

/-- Is anything told? -/
def cutB (ns : List Nd) (l c m d : Int) (fs : List (Bs × Bs)) : Bool := flB l c m d && !(visF ns l c m d fs).isEmpty
def alV (s : Bs) (y : Value) (l c p q : Int) : Value := .agg #[.string ⟨s.toArray⟩, y, .int .i64 l, .int .u32 c, .int .i64 p, .int .i64 q]
def CutP (ns : List Nd) (s : Bs) (l c m d p q : Int) (fs : List (Bs × Bs)) (w : World) (e : Ending) (w' : World) : Prop := Below w.heap.size w w' ∧
  ((cutB ns l c m d fs = false ∧ e = .returned (.tuple #[alV [] (.slice none 0 0) 0 0 0 0, .bool false])) ∨
   (cutB ns l c m d fs = true ∧ ∃ z : Sl, e = .returned (.tuple #[alV s z.v l c p q, .bool true]) ∧ w'.ownsRow w.heap.size 64 2 z.v (visF ns l c m d fs).length ((visF ns l c m d fs).map encF).flatten))
set_option maxHeartbeats 6400000 in
set_option maxRecDepth 100000 in
theorem cut_any (P P' : Nat → Prop) (x0 x1 x2 x3 x4 x5 y : Sl) (s : Bs) (ns : List Nd) (fs : List (Bs × Bs)) (l c m d p q : Int) (w : World) (h : FldsAt P w y.v fs) (hl : fs.length ≤ 1000) (hn : NdsAt P' w x3.v ns) (hnl : ns.length ≤ 9223372036854775807) (hu : ∀ m ∈ ns, U32 m.c) (hc : U32 c) (hd : U32 d) :
    Calls Tryd.prog 25 #[.agg #[x0.v, x1.v, x2.v, x3.v, x4.v, x5.v], alV s y.v l c p q, .agg #[.int .i64 m, .int .u32 d]] w (CutP ns s l c m d p q fs w) := by
  have KV := Lib.hid fun w' (hb : Below w.heap.size w w') => visible_any P P' x0 x1 x2 x3 x4 x5 y.v ns fs l c m d w' (h.stay hb) hl (hn.stay hb) hnl hu hc hd
  have KF := Lib.hid fun w' => flows_any l c m d hc.1 hc.2 hd.1 hd.2 w'
  have hvl : (visF ns l c m d fs).length ≤ 1000 := Nat.le_trans (vis_len ns l c m d fs) hl
  clear h hl hn hnl hu hc hd
  obtain ⟨a0, n0, k0⟩ := x0
  obtain ⟨a1, n1, k1⟩ := x1
  obtain ⟨a2, n2, k2⟩ := x2
  obtain ⟨a3, n3, k3⟩ := x3
  obtain ⟨a4, n4, k4⟩ := x4
  obtain ⟨a5, n5, k5⟩ := x5
  obtain ⟨ay, ny, ky⟩ := y
  unfold alV
  simp only [Sl.v] at KV ⊢
  have HCB : Unit → cutB ns l c m d fs = (flB l c m d && !(visF ns l c m d fs).isEmpty) := fun _ => rfl
  have HCP : ∀ w1 e w', CutP ns s l c m d p q fs w1 e w' = (Below w1.heap.size w1 w' ∧
  ((cutB ns l c m d fs = false ∧ e = .returned (.tuple #[alV [] (.slice none 0 0) 0 0 0 0, .bool false])) ∨
   (cutB ns l c m d fs = true ∧ ∃ z : Sl, e = .returned (.tuple #[alV s z.v l c p q, .bool true]) ∧ w'.ownsRow w1.heap.size 64 2 z.v (visF ns l c m d fs).length ((visF ns l c m d fs).map encF).flatten))) := fun _ _ _ => rfl
  replace HCP := Lib.hid HCP
  generalize CutP ns s l c m d p q fs = CP at *
  generalize cutB ns l c m d fs = cb at *
  generalize visF ns l c m d fs = V at *
  generalize flB l c m d = fl at *
  go_enter Tryd.func25, Tryd.ntmps25
  go_upto_region 1 with fail
  obtain ⟨rP, rA, rT, rR, hB⟩ := put4n w 50 29 25 29 [.slice a0 n0 k0, .slice a1 n1 k1, .slice a2 n2 k2, .slice a3 n3 k3, .slice a4 n4 k4, .slice a5 n5 k5] [.string ⟨s.toArray⟩, .slice ay ny ky, .int .i64 l, .int .u32 c, .int .i64 p, .int .i64 q] [.int .i64 m, .int .u32 d] [.string ⟨#[]⟩, .slice none 0 0, .int .i64 0, .int .u32 0, .int .i64 0, .int .i64 0]
  generalize (((w.alloc (.cells #[.slice a0 n0 k0, .slice a1 n1 k1, .slice a2 n2 k2, .slice a3 n3 k3, .slice a4 n4 k4, .slice a5 n5 k5] 50)).alloc (.cells #[.string ⟨s.toArray⟩, .slice ay ny ky, .int .i64 l, .int .u32 c, .int .i64 p, .int .i64 q] 29)).alloc (.cells #[.int .i64 m, .int .u32 d] 25)).alloc (.cells #[.string ⟨#[]⟩, .slice none 0 0, .int .i64 0, .int .u32 0, .int .i64 0, .int .i64 0] 29) = w1 at *
  generalize hbR : w.heap.size + 1 + 1 + 1 = bR at rR ⊢
  generalize hbT : w.heap.size + 1 + 1 = bT at rT ⊢
  generalize hbA : w.heap.size + 1 = bA at rA ⊢
  generalize hbP : w.heap.size = bP at rP ⊢
  have hne : bA ≠ bR ∧ bP ≠ bA ∧ bA ≠ bT ∧ w.heap.size ≤ bA ∧ w.heap.size ≤ bR := by omega
  have HBP : Unit → w.heap.size = bP := fun _ => hbP
  clear hbR hbT hbA hbP
  have t0 := Rw.cell rT 0
  have t1 := Rw.cell rT 1
  have e2 := Rw.cell rA 2
  have e3 := Rw.cell rA 3
  simp only [List.getElem?_cons_zero, List.getElem?_cons_succ] at t0 t1 e2 e3
  go_wp2_with fail
  refine (KF.out _).mono ?_
  rintro e w2 ⟨rfl, hb⟩
  clear KF t0 t1 e2 e3
  replace hB := hB.trans (hb.mono hB.size)
  replace rP := rP.stay hb
  replace rA := rA.stay hb
  replace rT := rT.stay hb
  replace rR := rR.stay hb
  clear hb
  cases fl with
  | false =>
    have z0 := Rw.frozen rR 0
    have z1 := Rw.frozen rR 1
    have z2 := Rw.frozen rR 2
    have z3 := Rw.frozen rR 3
    have z4 := Rw.frozen rR 4
    have z5 := Rw.frozen rR 5
    have u0 := Rw.cell rR 0
    have u1 := Rw.cell rR 1
    have u2 := Rw.cell rR 2
    have u3 := Rw.cell rR 3
    have u4 := Rw.cell rR 4
    have u5 := Rw.cell rR 5
    simp only [List.getElem?_cons_zero, List.getElem?_cons_succ] at u0 u1 u2 u3 u4 u5
    go_wp2_with fail
    refine bodyPost_ret (v := .tuple #[alV [] (.slice none 0 0) 0 0 0 0, .bool false]) (by simp [results, Tryd.results25, go_sem, u0, u1, u2, u3, u4, u5, alV]) rfl ?_
    rw [HCP.out]
    exact ⟨(((((hB.setCell (p := ⟨bR, 0, none⟩) hne.2.2.2.2 _).setCell (p := ⟨bR, 1, none⟩) hne.2.2.2.2 _).setCell (p := ⟨bR, 2, none⟩) hne.2.2.2.2 _).setCell (p := ⟨bR, 3, none⟩) hne.2.2.2.2 _).setCell (p := ⟨bR, 4, none⟩) hne.2.2.2.2 _).setCell (p := ⟨bR, 5, none⟩) hne.2.2.2.2 _, .inl ⟨by rw [HCB ()]; rfl, rfl⟩⟩
  | true =>
    have hA2 := rA.lt
    have hR2 := rR.lt
    have p0 := Rw.cell rP 0
    have p1 := Rw.cell rP 1
    have p2 := Rw.cell rP 2
    have p3 := Rw.cell rP 3
    have p4 := Rw.cell rP 4
    have p5 := Rw.cell rP 5
    have e1 := Rw.cell rA 1
    have e2 := Rw.cell rA 2
    have e3 := Rw.cell rA 3
    have t0 := Rw.cell rT 0
    have t1 := Rw.cell rT 1
    simp only [List.getElem?_cons_zero, List.getElem?_cons_succ] at p0 p1 p2 p3 p4 p5 e1 e2 e3 t0 t1
    go_wp2_with fail
    refine (KV.out _ hB).mono ?_
    rintro e w3 ⟨v', rfl, hown, hb⟩
    clear KV p0 p1 p2 p3 p4 p5 e1 e2 e3 t0 t1 rP rT
    replace hB := hB.trans (hb.mono hB.size)
    replace rA := rA.stay hb
    replace rR := rR.stay hb
    clear hb
    obtain ⟨aO, cO, rfl, _⟩ := own_slice hown
    have e1 := Rw.cell rA 1
    have z1 := Rw.frozen rA 1
    simp only [List.getElem?_cons_zero, List.getElem?_cons_succ] at e1
    have hw1 : w.heap.size ≤ w2.heap.size := by have := hne.2.2.2.1; omega
    go_upto_region 4 with fail
    have hbl : ∀ i, (Value.slice aO V.length cO).ownBlock = some i → i ≠ bR := fun i hi e => by have := (hown.lt i hi).1; omega
    have hown2 := own_asdS hown (Asd.one w3 bA 1 (.slice aO V.length cO)) (fun i hi e => by have := (hown.lt i hi).1; omega)
    have rR2 := Rw.other rR (k := bA) (Ne.symm hne.1) 1 (.slice aO V.length cO)
    have rA2 := Rw.setCell rA 1 (.slice aO V.length cO)
    replace hB := hB.setCell (p := ⟨bA, 1, none⟩) hne.2.2.2.1 (.slice aO V.length cO)
    simp only [List.set_cons_zero, List.set_cons_succ] at rA2
    generalize w3.setCell ⟨bA, 1, none⟩ (.slice aO V.length cO) = w4 at *
    replace hown2 := own_mono hown2 hw1
    clear hown rR rA e1 z1 hA2 hR2 hw1
    have z0 := Rw.frozen rR2 0
    have z1 := Rw.frozen rR2 1
    have z2 := Rw.frozen rR2 2
    have z3 := Rw.frozen rR2 3
    have z4 := Rw.frozen rR2 4
    have z5 := Rw.frozen rR2 5
    have u0 := Rw.cell rR2 0
    have u1 := Rw.cell rR2 1
    have u2 := Rw.cell rR2 2
    have u3 := Rw.cell rR2 3
    have u4 := Rw.cell rR2 4
    have u5 := Rw.cell rR2 5
    have e0 := Rw.cell rA2 0
    have e1 := Rw.cell rA2 1
    have e2 := Rw.cell rA2 2
    have e3 := Rw.cell rA2 3
    have e4 := Rw.cell rA2 4
    have e5 := Rw.cell rA2 5
    simp only [List.getElem?_cons_zero, List.getElem?_cons_succ] at u0 u1 u2 u3 u4 u5 e0 e1 e2 e3 e4 e5
    by_cases hV : V = []
    · subst hV
      simp only [List.length_nil] at *
      go_wp2_with fail
      refine bodyPost_ret (v := .tuple #[alV [] (.slice none 0 0) 0 0 0 0, .bool false]) (by simp [results, Tryd.results25, go_sem, u0, u1, u2, u3, u4, u5, alV]) rfl ?_
      rw [HCP.out]
      exact ⟨(((((hB.setCell (p := ⟨bR, 0, none⟩) hne.2.2.2.2 _).setCell (p := ⟨bR, 1, none⟩) hne.2.2.2.2 _).setCell (p := ⟨bR, 2, none⟩) hne.2.2.2.2 _).setCell (p := ⟨bR, 3, none⟩) hne.2.2.2.2 _).setCell (p := ⟨bR, 4, none⟩) hne.2.2.2.2 _).setCell (p := ⟨bR, 5, none⟩) hne.2.2.2.2 _, .inl ⟨by rw [HCB ()]; rfl, rfl⟩⟩
    · have hlen : decide ((V.length : Int) = 0) = false := decide_eq_false (by have := List.length_pos_iff.2 hV; omega)
      have hlen2 : ¬ (V.length : Int) = 0 := by have := List.length_pos_iff.2 hV; omega
      have hcb : cb = true := by rw [HCB ()]; cases V with
        | nil => exact absurd rfl hV
        | cons _ _ => rfl
      go_wp2_with fail
      refine bodyPost_ret (v := .tuple #[alV s (.slice aO V.length cO) l c p q, .bool true]) (by simp [results, Tryd.results25, go_sem, u0, u1, u2, u3, u4, u5, alV]) rfl ?_
      rw [HCP.out]
      refine ⟨(((((hB.setCell (p := ⟨bR, 0, none⟩) hne.2.2.2.2 _).setCell (p := ⟨bR, 1, none⟩) hne.2.2.2.2 _).setCell (p := ⟨bR, 2, none⟩) hne.2.2.2.2 _).setCell (p := ⟨bR, 3, none⟩) hne.2.2.2.2 _).setCell (p := ⟨bR, 4, none⟩) hne.2.2.2.2 _).setCell (p := ⟨bR, 5, none⟩) hne.2.2.2.2 _, .inr ⟨hcb, ⟨aO, V.length, cO⟩, rfl, own_asdS hown2 ((((((Asd.one w4 bR 0 _).set1 1 _).set1 2 _).set1 3 _).set1 4 _).set1 5 _) (fun i hi e => hbl i hi e)⟩⟩
end Go.Proofs.YtknhkmlihbgjpaaDoor
