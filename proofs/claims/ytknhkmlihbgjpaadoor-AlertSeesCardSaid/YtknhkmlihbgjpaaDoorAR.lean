/- AR: several texts in one. -/
import Derived.Test.YtknhkmlihbgjpaaDoorAVis
import Derived.Test.YtknhkmlihbgjpaaDoorLbJoin
import Derived.Test.YtknhkmlihbgjpaaDoorLbFlows
import Derived.Test.YtknhkmlihbgjpaaDoorACut
import Derived.Test.YtknhkmlihbgjpaaDoorABack
/- The document's own Find, Raised: the label of the first of a name, a field's label. -/
namespace Go.Proofs.YtknhkmlihbgjpaaDoor
open Go.ChangeShapes Go.WideShapes Go.RowKit

set_option maxHeartbeats 3200000 in
set_option maxRecDepth 100000 in
theorem rfind_any (P : Nat → Prop) (v : Value) (ns : List Nd) (nm : Bs) (w : World) (h : NdsAt P w v ns) (hl : ns.length ≤ 9223372036854775807) :
    Calls Tryd.prog 58 #[v, .string ⟨nm.toArray⟩] w fun e w' => e = .returned (findV (findN ns nm)) ∧ Below w.heap.size w w' := by
  obtain ⟨a, c, rfl⟩ := h.shape
  obtain ⟨n, hn⟩ : ∃ n, ns.length = n := ⟨_, rfl⟩
  rw [hn] at hl h ⊢
  have HN : Unit → ns.length = n := fun _ => hn
  clear hn
  obtain ⟨O, hO⟩ : ∃ O, findN ns nm = O := ⟨_, rfl⟩
  have HO : Unit → findN ns nm = O := fun _ => hO
  rw [hO]
  clear hO
  have hni : (n : Int) ≤ 9223372036854775807 := by omega
  go_enter Tryd.func58, Tryd.ntmps58
  go_upto_region 1 with fail
  have hB0 : Below w.heap.size w (w.alloc (.cells #[.int .i64 0, .int .u32 0] 25)) := (Below.refl w.heap.size w).alloc (Nat.le_refl _) _
  have r0 : Rw (w.alloc (.cells #[.int .i64 0, .int .u32 0] 25)) w.heap.size 25 [.int .i64 0, .int .u32 0] := Rw.new w 25 [.int .i64 0, .int .u32 0]
  generalize w.alloc (.cells #[.int .i64 0, .int .u32 0] 25) = w1 at *
  have hR0 := r0.lt
  generalize hR : w.heap.size = R at r0 hB0 hR0 ⊢
  have HR : Unit → w.heap.size = R := fun _ => hR
  clear hR
  go_upto_region 2 with fail
  go_loopw [6] (fun iv wr => ∃ k : Nat, k ≤ n ∧ iv = .int .i64 (k : Int) ∧ findN ns nm = findN (ns.drop k) nm ∧ Rw wr R 25 [.int .i64 0, .int .u32 0] ∧ Below R w wr) (fun iv _ => n - (intOf iv).toNat)
  case atStart => exact ⟨0, Nat.zero_le _, rfl, by rw [List.drop_zero], r0, hB0⟩
  case round =>
    clear r0 hB0 hR0
    obtain ⟨k, hk, rfl, hV, r0, hB⟩ := hrel
    have HV : Unit → findN ns nm = findN (ns.drop k) nm := fun _ => hV
    clear hV
    have hR0 := r0.lt
    have u0 := Rw.cell r0 0
    have u1 := Rw.cell r0 1
    have z0 := Rw.frozen r0 0
    have z1 := Rw.frozen r0 1
    simp only [List.getElem?_cons_zero, List.getElem?_cons_succ] at u0 u1
    by_cases hlt : k < n
    · have hki : (k : Int) < (n : Int) := by omega
      obtain ⟨f, hf⟩ : ∃ f, ns[k]? = some f := ⟨_, List.getElem?_eq_getElem (by have := HN (); omega)⟩
      obtain ⟨g, o, rfl, _, hg, c0, c1, c2⟩ := (h.stay (hB.mono (Nat.le_of_eq (HR ())))).part hf
      have hst := findN_at hf nm
      have hsame := same_text f.n nm
      clear hf
      obtain ⟨f1, f2, f3⟩ := f
      simp only at c0 c1 c2 hst hsame
      replace c2 : wr.cell? ⟨g, o + k * 3 + 1 + 1, none⟩ = some (.int .u32 f3) := c2
      by_cases he : f1 = nm
      · rw [if_pos he] at hst
        have e : some (f2, f3) = O := (hst.symm.trans (HV ()).symm).trans (HO ())
        subst e
        have hb : (f1 == nm) = true := by simpa using he
        rw [hb] at hsame
        clear hst he
        go_wp2_with fail
        refine bodyPost_ret (v := .tuple #[.agg #[.int .i64 f2, .int .u32 f3], .bool true]) (by simp [results, Tryd.results58, go_sem, u0, u1]) rfl ?_
        exact ⟨rfl, by rw [HR ()]; exact (hB.setCell (p := ⟨R, 0, none⟩) (Nat.le_refl _) _).setCell (p := ⟨R, 1, none⟩) (Nat.le_refl _) _⟩
      · rw [if_neg he] at hst
        have HV2 : Unit → findN ns nm = findN (ns.drop (k + 1)) nm := fun _ => (HV ()).trans hst
        have hb : (f1 == nm) = false := by simpa using he
        rw [hb] at hsame
        clear hst he
        go_wp2_with fail
        go_roundw
        case rel => exact ⟨k + 1, by omega, by go_num, HV2 (), r0, hB⟩
        case measure => simp [intOf]; omega
    · have hki : ¬ (k : Int) < (n : Int) := by omega
      have e : (none : Option (Int × Int)) = O := by rw [← HO (), HV (), List.drop_eq_nil_of_le (by have := HN (); omega)]; rfl
      subst e
      go_wp2_with fail
      refine bodyPost_ret (v := .tuple #[.agg #[.int .i64 0, .int .u32 0], .bool false]) (by simp [results, Tryd.results58, go_sem, u0, u1]) rfl ?_
      exact ⟨rfl, by rw [HR ()]; exact (hB.setCell (p := ⟨R, 0, none⟩) (Nat.le_refl _) _).setCell (p := ⟨R, 1, none⟩) (Nat.le_refl _) _⟩
set_option maxHeartbeats 3200000 in
set_option maxRecDepth 100000 in
theorem rraised_any (P : Nat → Prop) (x0 x1 x2 x3 x4 x5 : Sl) (ns : List Nd) (nm : Bs) (l c : Int) (w : World) (h : NdsAt P w x3.v ns) (hl : ns.length ≤ 9223372036854775807) (hu : ∀ m ∈ ns, U32 m.c) (hc : U32 c) :
    Calls Tryd.prog 30 #[.agg #[x0.v, x1.v, x2.v, x3.v, x4.v, x5.v], .string ⟨nm.toArray⟩, .agg #[.int .i64 l, .int .u32 c]] w fun e w' => e = .returned (.agg #[.int .i64 (raisedL ns nm l), .int .u32 (raisedC ns nm l c)]) ∧ Below w.heap.size w w' := by
  have KF := Lib.hid fun w' (hb : Below w.heap.size w w') => rfind_any P x3.v ns nm w' (h.stay hb) hl
  have HU : Unit → ∀ x, findN ns nm = some x → U32 x.2 := fun _ x hx => by
    obtain ⟨m, hm, _, e⟩ := find_mem hx
    rw [← e]; exact hu m hm
  obtain ⟨RL, hRL⟩ : ∃ x, raisedL ns nm l = x := ⟨_, rfl⟩
  obtain ⟨RC, hRC⟩ : ∃ x, raisedC ns nm l c = x := ⟨_, rfl⟩
  have HR : Unit → raisedL ns nm l = RL ∧ raisedC ns nm l c = RC := fun _ => ⟨hRL, hRC⟩
  rw [hRL, hRC]
  obtain ⟨F, hF⟩ : ∃ F, findN ns nm = F := ⟨_, rfl⟩
  have HF : Unit → findN ns nm = F := fun _ => hF
  simp only [hF] at KF
  clear hRL hRC hF hu h hl
  obtain ⟨a0, n0, c0⟩ := x0
  obtain ⟨a1, n1, c1⟩ := x1
  obtain ⟨a2, n2, c2⟩ := x2
  obtain ⟨a3, n3, c3⟩ := x3
  obtain ⟨a4, n4, c4⟩ := x4
  obtain ⟨a5, n5, c5⟩ := x5
  simp only [Sl.v] at KF ⊢
  go_enter Tryd.func30, Tryd.ntmps30
  go_upto_region 1 with fail
  obtain ⟨rP, rB, rO, hB⟩ := put3n w 50 25 25 [.slice a0 n0 c0, .slice a1 n1 c1, .slice a2 n2 c2, .slice a3 n3 c3, .slice a4 n4 c4, .slice a5 n5 c5] [.int .i64 l, .int .u32 c] [.int .i64 0, .int .u32 0]
  generalize ((w.alloc (.cells #[.slice a0 n0 c0, .slice a1 n1 c1, .slice a2 n2 c2, .slice a3 n3 c3, .slice a4 n4 c4, .slice a5 n5 c5] 50)).alloc (.cells #[.int .i64 l, .int .u32 c] 25)).alloc (.cells #[.int .i64 0, .int .u32 0] 25) = w1 at *
  have p3 := Rw.cell rP 3
  simp only [List.getElem?_cons_zero, List.getElem?_cons_succ] at p3
  go_wp2_with fail
  refine (KF.out _ hB).mono ?_
  rintro e w2 ⟨rfl, hb⟩
  clear KF p3 rP
  replace hB := hB.trans (hb.mono hB.size)
  replace rB := rB.stay hb
  replace rO := rO.stay hb
  clear hb
  cases F with
  | none =>
    have e1 : l = RL ∧ c = RC := by have := HR (); unfold raisedL raisedC at this; rw [HF ()] at this; exact this
    obtain ⟨rfl, rfl⟩ := e1
    simp only [findV]
    have hal : Below w2.heap.size w2 (w2.alloc (.cells #[.int .i64 0, .int .u32 0] 25)) := (Below.refl _ _).alloc (Nat.le_refl _) _
    replace rB := rB.stay hal
    replace rO := rO.stay hal
    replace hB := hB.trans (hal.mono hB.size)
    go_upto_region 2 with fail
    generalize w2.alloc (.cells #[.int .i64 0, .int .u32 0] 25) = w3 at *
    generalize w2.heap.size = R at *
    have u0 := Rw.cell rO 0
    have u1 := Rw.cell rO 1
    have z0 := Rw.frozen rO 0
    have z1 := Rw.frozen rO 1
    have b0 := Rw.cell rB 0
    have b1 := Rw.cell rB 1
    simp only [List.getElem?_cons_zero, List.getElem?_cons_succ] at u0 u1 b0 b1
    go_wp2_with fail
    refine bodyPost_ret (v := .agg #[.int .i64 l, .int .u32 c]) (by simp [results, Tryd.results30, go_sem, u0, u1]) rfl ?_
    exact ⟨rfl, (hB.setCell (p := ⟨w.heap.size + 1 + 1, 0, none⟩) (by simp; omega) _).setCell (p := ⟨w.heap.size + 1 + 1, 1, none⟩) (by simp; omega) _⟩
  | some x =>
    have e1 : jL l x.1 = RL ∧ jC l c x.1 x.2 = RC := by have := HR (); unfold raisedL raisedC at this; rw [HF ()] at this; exact this
    have hx := HU () x (HF ())
    obtain ⟨x1, x2⟩ := x
    simp only at e1 hx
    simp only [findV]
    have hal : Below w2.heap.size w2 (w2.alloc (.cells #[.int .i64 x1, .int .u32 x2] 25)) := (Below.refl _ _).alloc (Nat.le_refl _) _
    have rX : Rw (w2.alloc (.cells #[.int .i64 x1, .int .u32 x2] 25)) w2.heap.size 25 [.int .i64 x1, .int .u32 x2] := Rw.new w2 25 [.int .i64 x1, .int .u32 x2]
    replace rB := rB.stay hal
    replace rO := rO.stay hal
    replace hB := hB.trans (hal.mono hB.size)
    go_upto_region 2 with fail
    generalize w2.alloc (.cells #[.int .i64 x1, .int .u32 x2] 25) = w3 at *
    generalize w2.heap.size = R at *
    have KJ := Lb.rjoin_any l c x1 x2 hc.1 hc.2 hx.1 hx.2 w3
    rw [e1.1, e1.2] at KJ
    replace KJ := Lib.hid KJ
    have d0 := Rw.cell rX 0
    have d1 := Rw.cell rX 1
    have b0 := Rw.cell rB 0
    have b1 := Rw.cell rB 1
    simp only [List.getElem?_cons_zero, List.getElem?_cons_succ] at d0 d1 b0 b1
    clear e1 hal
    go_wp2_with fail
    refine KJ.out.mono ?_
    rintro e w4 ⟨rfl, hb⟩
    replace rO := rO.stay hb
    replace hB := hB.trans (hb.mono hB.size)
    clear KJ hb d0 d1 b0 b1
    have u0 := Rw.cell rO 0
    have u1 := Rw.cell rO 1
    have z0 := Rw.frozen rO 0
    have z1 := Rw.frozen rO 1
    simp only [List.getElem?_cons_zero, List.getElem?_cons_succ] at u0 u1
    go_wp2_with fail
    refine bodyPost_ret (v := .agg #[.int .i64 RL, .int .u32 RC]) (by simp [results, Tryd.results30, go_sem, u0, u1]) rfl ?_
    exact ⟨rfl, (hB.setCell (p := ⟨w.heap.size + 1 + 1, 0, none⟩) (by simp; omega) _).setCell (p := ⟨w.heap.size + 1 + 1, 1, none⟩) (by simp; omega) _⟩
end Go.Proofs.YtknhkmlihbgjpaaDoor
/- The document's own Visible: the fields whose label flows to a label. -/
namespace Go.Proofs.YtknhkmlihbgjpaaDoor
open Go.ChangeShapes Go.WideShapes Go.RowKit

theorem CL.one {W w : World} {L : List (Addr × Value)} (h : CL W L w) {p : Addr} {v : Value} (hc : w.cell? p = some v) : CL W ((p, v) :: L) w :=
  ⟨h.1, fun q hq => by
    rcases List.mem_cons.1 hq with e | e
    · subst e; exact hc
    · exact h.2 q e⟩
set_option maxHeartbeats 6400000 in
set_option maxRecDepth 100000 in
theorem rvis_any (P P' : Nat → Prop) (x0 x1 x2 x3 x4 x5 : Sl) (v : Value) (ns : List Nd) (fs : List (Bs × Bs)) (l c m d : Int) (w : World) (h : FldsAt P w v fs) (hl : fs.length ≤ 1000) (hn : NdsAt P' w x3.v ns) (hnl : ns.length ≤ 9223372036854775807) (hu : ∀ m ∈ ns, U32 m.c) (hc : U32 c) (hd : U32 d) :
    Calls Tryd.prog 52 #[.agg #[x0.v, x1.v, x2.v, x3.v, x4.v, x5.v], v, .agg #[.int .i64 l, .int .u32 c], .agg #[.int .i64 m, .int .u32 d]] w fun e w' => ∃ v', e = .returned v' ∧ w'.ownsRow w.heap.size 64 2 v' (visF ns l c m d fs).length ((visF ns l c m d fs).map encF).flatten ∧ Below w.heap.size w w' := by
  have KR := Lib.hid fun f w' (hb : Below w.heap.size w w') => rraised_any P' x0 x1 x2 x3 x4 x5 ns f l c w' (hn.stay hb) hnl hu hc
  have KF := Lib.hid fun f w' => (Lb.rflows_any (raisedL ns f l) (raisedC ns f l c) m d (raisedC_u hu hc).1 (raisedC_u hu hc).2 hd.1 hd.2 w')
  clear hn hnl hu hc hd
  obtain ⟨a, c0, rfl⟩ := h.shape
  obtain ⟨n, hn⟩ : ∃ n, fs.length = n := ⟨_, rfl⟩
  rw [hn] at hl h ⊢
  have HN : Unit → fs.length = n := fun _ => hn
  clear hn
  obtain ⟨F, hF⟩ : ∃ F, visF ns l c m d fs = F := ⟨_, rfl⟩
  rw [hF]
  have HF : Unit → visF ns l c m d fs = F := fun _ => hF
  clear hF
  have HL : Unit → ∀ i, (visF ns l c m d (fs.take i)).length ≤ 1000 := fun _ i => Nat.le_trans (vis_len ns l c m d _) (by rw [List.length_take]; have := HN (); omega)
  obtain ⟨a0, n0, k0⟩ := x0
  obtain ⟨a1, n1, k1⟩ := x1
  obtain ⟨a2, n2, k2⟩ := x2
  obtain ⟨a3, n3, k3⟩ := x3
  obtain ⟨a4, n4, k4⟩ := x4
  obtain ⟨a5, n5, k5⟩ := x5
  simp only [Sl.v] at KR ⊢
  go_enter Tryd.func52, Tryd.ntmps52
  go_upto_region 3 with fail
  obtain ⟨rP, rB, rT, hB⟩ := put3n w 50 25 25 [.slice a0 n0 k0, .slice a1 n1 k1, .slice a2 n2 k2, .slice a3 n3 k3, .slice a4 n4 k4, .slice a5 n5 k5] [.int .i64 l, .int .u32 c] [.int .i64 m, .int .u32 d]
  generalize ((w.alloc (.cells #[.slice a0 n0 k0, .slice a1 n1 k1, .slice a2 n2 k2, .slice a3 n3 k3, .slice a4 n4 k4, .slice a5 n5 k5] 50)).alloc (.cells #[.int .i64 l, .int .u32 c] 25)).alloc (.cells #[.int .i64 m, .int .u32 d] 25) = w1 at *
  have hsz := hB.size
  generalize hbp : w.heap.size + 1 + 1 = bT at rT ⊢
  generalize hbb : w.heap.size + 1 = bB at rB ⊢
  generalize hba : w.heap.size = bP at rP ⊢
  have HBP : Unit → w.heap.size = bP := fun _ => hba
  clear hbp hbb hba
  go_loopw [9, 10] (fun u9 u14 wr => ∃ (i : Nat) (O : List (Bs × Bs)), u14 = .int .i64 (i : Int) ∧ i ≤ n ∧ O = visF ns l c m d (fs.take i) ∧ wr.ownsRow w1.heap.size 64 2 u9 O.length (O.map encF).flatten ∧ Below w1.heap.size w1 wr) (fun _ u14 _ => n - (intOf u14).toNat)
  case atStart => exact ⟨0, [], rfl, Nat.zero_le _, rfl, World.ownsRow_nil _ _ _ _, Below.refl _ _⟩
  case round =>
    obtain ⟨i, O, rfl, hin, hO, hown, hB1⟩ := hrel
    have HOO : Unit → O = visF ns l c m d (fs.take i) := fun _ => hO
    have hOl : O.length ≤ 1000 := by rw [hO]; exact HL () i
    clear hO
    obtain ⟨aO, cO, rfl, _⟩ := own_slice hown
    have hszr := hB1.size
    have hB2 := hB.trans (hB1.mono hsz)
    by_cases hlt : i < n
    · have hki : (i : Int) < (n : Int) := by omega
      obtain ⟨f, hf⟩ : ∃ f, fs[i]? = some f := ⟨_, List.getElem?_eq_getElem (by have := HN (); omega)⟩
      obtain ⟨g, o, rfl, _, hgl, c0, c1⟩ := (h.stay hB2).part hf
      have HNX : Unit → visF ns l c m d (fs.take (i + 1)) = O ++ (if seenB ns l c m d f then [f] else []) := fun _ => by rw [vis_take hf, HOO ()]
      clear hf
      obtain ⟨f1, f2⟩ := f
      simp only at *
      replace c1 : wr.cell? ⟨g, o + i * 2 + 1, none⟩ = some (.string ⟨f2.toArray⟩) := c1
      go_upto_region 5 with fail
      generalize wr = w2 at *
      have hB3 := hB1
      have hown1 := hown
      have hB4 := hB2
      clear hown hB1 hB2
      have hS : CL w2 [(⟨bP, 0, none⟩, .slice a0 n0 k0), (⟨bP, 1, none⟩, .slice a1 n1 k1), (⟨bP, 2, none⟩, .slice a2 n2 k2), (⟨bP, 3, none⟩, .slice a3 n3 k3), (⟨bP, 4, none⟩, .slice a4 n4 k4), (⟨bP, 5, none⟩, .slice a5 n5 k5), (⟨g, o + i * 2, none⟩, .string ⟨f1.toArray⟩), (⟨bB, 0, none⟩, .int .i64 l), (⟨bB, 1, none⟩, .int .u32 c), (⟨bT, 0, none⟩, .int .i64 m), (⟨bT, 1, none⟩, .int .u32 d)] { w2 with drawn := w2.drawn + 1 } :=
        CL.drew (((((CL.one ((((CL.nil w2).row (rT.stay hB3) 1 rfl).row (rT.stay hB3) 0 rfl).row (rB.stay hB3) 1 rfl |>.row (rB.stay hB3) 0 rfl) c0).row (rP.stay hB3) 5 rfl).row (rP.stay hB3) 4 rfl).row (rP.stay hB3) 3 rfl).row (rP.stay hB3) 2 rfl |>.row (rP.stay hB3) 1 rfl |>.row (rP.stay hB3) 0 rfl)
      have KR1 := Lib.hid fun w' (hb : Below w2.heap.size w2 w') => KR.out f1 w' (hB4.trans (hb.mono hB4.size))
      have KF1 := Lib.hid (KF.out f1)
      have hsn : seenB ns l c m d (f1, f2) = flB (raisedL ns f1 l) (raisedC ns f1 l c) m d := rfl
      rw [hsn] at HNX
      clear hsn
      go_cut [26] from 17 to 25 (fun u24 wx => u24 = .bool (flB (raisedL ns f1 l) (raisedC ns f1 l c) m d) ∧ Below w2.heap.size w2 wx)
      case first =>
        generalize raisedL ns f1 l = RL at *
        generalize raisedC ns f1 l c = RC at *
        refine wp_region_held (S := CL w2 [(⟨bP, 0, none⟩, .slice a0 n0 k0), (⟨bP, 1, none⟩, .slice a1 n1 k1), (⟨bP, 2, none⟩, .slice a2 n2 k2), (⟨bP, 3, none⟩, .slice a3 n3 k3), (⟨bP, 4, none⟩, .slice a4 n4 k4), (⟨bP, 5, none⟩, .slice a5 n5 k5), (⟨g, o + i * 2, none⟩, .string ⟨f1.toArray⟩), (⟨bB, 0, none⟩, .int .i64 l), (⟨bB, 1, none⟩, .int .u32 c), (⟨bT, 0, none⟩, .int .i64 m), (⟨bT, 1, none⟩, .int .u32 d)]) (by kernel_rfl) ?_
        generalize { w2 with drawn := w2.drawn + 1 } = D1 at *
        refine held_val 0 rfl (by kernel_rfl) (by kernel_rfl) (by kernel_rfl) (fun _ _ _ _ h => h) (by rfl) hS ?_
        apply Exists.intro
        refine ⟨fun w' hw' => ?_, ?_⟩
        · have e0 := hw'.at 0 rfl; have e1 := hw'.at 1 rfl; have e2 := hw'.at 2 rfl; have e3 := hw'.at 3 rfl; have e4 := hw'.at 4 rfl; have e5 := hw'.at 5 rfl
          go_simp
          first | done | rfl | exact ⟨rfl, rfl⟩
        simp only [Act.put, List.setIfInBounds_toArray, List.set_cons_zero, List.set_cons_succ]
        refine held_val 1 rfl (by kernel_rfl) (by kernel_rfl) (by kernel_rfl) (fun _ _ _ _ h => h) (by rfl) hS ?_
        apply Exists.intro
        refine ⟨fun w' hw' => ?_, ?_⟩
        · have e6 := hw'.at 6 rfl; have e7 := hw'.at 7 rfl; have e8 := hw'.at 8 rfl; have e9 := hw'.at 9 rfl; have e10 := hw'.at 10 rfl
          go_simp
          first | done | rfl | exact ⟨rfl, rfl⟩
        simp only [Act.put, List.setIfInBounds_toArray, List.set_cons_zero, List.set_cons_succ]
        refine held_val 2 rfl (by kernel_rfl) (by kernel_rfl) (by kernel_rfl) (fun _ _ _ _ h => h) (by rfl) hS ?_
        apply Exists.intro
        refine ⟨fun w' hw' => ?_, ?_⟩
        · have e6 := hw'.at 6 rfl; have e7 := hw'.at 7 rfl; have e8 := hw'.at 8 rfl; have e9 := hw'.at 9 rfl; have e10 := hw'.at 10 rfl
          go_simp
          first | done | rfl | exact ⟨rfl, rfl⟩
        simp only [Act.put, List.setIfInBounds_toArray, List.set_cons_zero, List.set_cons_succ]
        refine held_val 3 rfl (by kernel_rfl) (by kernel_rfl) (by kernel_rfl) (fun _ _ _ _ h => h) (by rfl) hS ?_
        apply Exists.intro
        refine ⟨fun w' hw' => ?_, ?_⟩
        · have e6 := hw'.at 6 rfl; have e7 := hw'.at 7 rfl; have e8 := hw'.at 8 rfl; have e9 := hw'.at 9 rfl; have e10 := hw'.at 10 rfl
          go_simp
          first | done | rfl | exact ⟨rfl, rfl⟩
        simp only [Act.put, List.setIfInBounds_toArray, List.set_cons_zero, List.set_cons_succ]
        refine held_val 4 rfl (by kernel_rfl) (by kernel_rfl) (by kernel_rfl) (fun _ _ _ _ h => h) (by rfl) hS ?_
        apply Exists.intro
        refine ⟨fun w' hw' => ?_, ?_⟩
        · have e6 := hw'.at 6 rfl; have e7 := hw'.at 7 rfl; have e8 := hw'.at 8 rfl; have e9 := hw'.at 9 rfl; have e10 := hw'.at 10 rfl
          go_simp
          first | done | rfl | exact ⟨rfl, rfl⟩
        simp only [Act.put, List.setIfInBounds_toArray, List.set_cons_zero, List.set_cons_succ]
        refine held_val 5 rfl (by kernel_rfl) (by kernel_rfl) (by kernel_rfl) (fun _ _ _ _ h => h) (by rfl) hS ?_
        apply Exists.intro
        refine ⟨fun w' hw' => ?_, ?_⟩
        · have e6 := hw'.at 6 rfl; have e7 := hw'.at 7 rfl; have e8 := hw'.at 8 rfl; have e9 := hw'.at 9 rfl; have e10 := hw'.at 10 rfl
          go_simp
          first | done | rfl | exact ⟨rfl, rfl⟩
        simp only [Act.put, List.setIfInBounds_toArray, List.set_cons_zero, List.set_cons_succ]
        refine held_val 6 rfl (by kernel_rfl) (by kernel_rfl) (by kernel_rfl) (fun _ _ _ _ h => h) (by rfl) hS ?_
        apply Exists.intro
        refine ⟨fun w' hw' => ?_, ?_⟩
        · have e6 := hw'.at 6 rfl; have e7 := hw'.at 7 rfl; have e8 := hw'.at 8 rfl; have e9 := hw'.at 9 rfl; have e10 := hw'.at 10 rfl
          go_simp
          first | done | rfl | exact ⟨rfl, rfl⟩
        simp only [Act.put, List.setIfInBounds_toArray, List.set_cons_zero, List.set_cons_succ]
        refine held_val 8 rfl (by kernel_rfl) (by kernel_rfl) (by kernel_rfl) (fun _ _ _ _ h => h) (by rfl) hS ?_
        apply Exists.intro
        refine ⟨fun w' hw' => ?_, ?_⟩
        · have e6 := hw'.at 6 rfl; have e7 := hw'.at 7 rfl; have e8 := hw'.at 8 rfl; have e9 := hw'.at 9 rfl; have e10 := hw'.at 10 rfl
          go_simp
          first | done | rfl | exact ⟨rfl, rfl⟩
        simp only [Act.put, List.setIfInBounds_toArray, List.set_cons_zero, List.set_cons_succ]
        refine held_call 7 (by kernel_rfl) rfl (by rfl) ?_
        apply Exists.intro
        apply Exists.intro
        refine ⟨?_, ?_⟩
        · go_simp
          first | done | rfl | exact ⟨rfl, rfl⟩
        refine (KR1.out _ hS.1).mono ?_
        rintro e wA ⟨heA, hbA⟩
        replace hS := hS.go hbA
        refine ⟨_, heA, hS, ?_⟩
        simp only [Act.put, List.setIfInBounds_toArray, List.set_cons_zero, List.set_cons_succ]
        clear heA hbA
        refine held_call 9 (by kernel_rfl) rfl (by rfl) ?_
        apply Exists.intro
        apply Exists.intro
        refine ⟨?_, ?_⟩
        · go_simp
          first | done | rfl | exact ⟨rfl, rfl⟩
        refine (KF1.out _).mono ?_
        rintro e wB ⟨heB, hbB⟩
        replace hS := hS.go hbB
        refine ⟨_, heB, hS, ?_⟩
        simp only [Act.put, List.setIfInBounds_toArray, List.set_cons_zero, List.set_cons_succ]
        refine wpAnyH_done (by kernel_rfl) ?_ _
        have hb5 := hS.1
        go_wp2_with fail
        go_meet
        exact ⟨rfl, hb5⟩
      case rest =>
        obtain ⟨rfl, hB6⟩ := hcut
        generalize wc = w6 at *
        replace c0 := Below.keeps hB6 c0
        replace c1 := Below.keeps hB6 c1
        have hown2 := own_stay2 hown1 hB6
        have hB7 := hB3.trans (hB6.mono hB3.size)
        have hsz7 := hB7.size
        clear hown1 hB3 hB4 hB6 hS KR1 KF1
        cases he : flB (raisedL ns f1 l) (raisedC ns f1 l c) m d with
        | false =>
          rw [he] at HNX
          have HNY : Unit → visF ns l c m d (fs.take (i + 1)) = O := fun _ => by rw [HNX ()]; simp
          clear HNX
          go_wp2_with fail
          go_roundw
          case rel => exact ⟨i + 1, O, by go_num, by omega, (HNY ()).symm, hown2, hB7⟩
          case measure => simp [intOf]; omega
        | true =>
          rw [he] at HNX
          have HNY : Unit → visF ns l c m d (fs.take (i + 1)) = O ++ [(f1, f2)] := fun _ => by rw [HNX ()]; simp
          clear HNX
          go_upto_region 6 with fail
          have hal := (Below.refl w6.heap.size w6).alloc (Nat.le_refl _) (.cells #[.string ⟨f1.toArray⟩, .string ⟨f2.toArray⟩] 64)
          have hown3 := own_stay2 hown2 hal
          have rY : Rw (w6.alloc (.cells #[.string ⟨f1.toArray⟩, .string ⟨f2.toArray⟩] 64)) w6.heap.size 64 (encF (f1, f2)) := Rw.new w6 64 [.string ⟨f1.toArray⟩, .string ⟨f2.toArray⟩]
          have hB8 := hB7.alloc hB7.size (.cells #[.string ⟨f1.toArray⟩, .string ⟨f2.toArray⟩] 64)
          clear hown2 hal
          go_wp2_with (refine wpList_own_fld _ _ rfl rfl w1.heap.size _ O (f1, f2) rfl hown3 w6.heap.size rfl rY (by omega) (by have := hB8.size; omega) ?_)
          intro v5 w5 hO5 hg5 _
          have hB9 := hB8.grown hg5 hB8.size (fun j e => (hown3.lt j e).1)
          obtain ⟨g5, c5, rfl⟩ := own_succ hO5
          clear hown3 rY hg5 hB8
          go_wp2_with fail
          go_roundw
          case rel => exact ⟨i + 1, O ++ [(f1, f2)], by go_num, by omega, (HNY ()).symm, by rw [List.length_append, flds_snoc2]; exact hO5, hB9⟩
          case measure => simp [intOf]; omega
    · have hFO : O = F := by
        rw [HOO (), ← HF (), List.take_of_length_le (by have := HN (); omega)]
      subst hFO
      have HOW : Unit → _ := fun _ => hown
      clear hown
      have hki : ¬ (i : Int) < (n : Int) := by omega
      go_wp2_with fail
      go_ret
      exact ⟨_, rfl, own_mono (HOW ()) hsz, hB2⟩
end Go.Proofs.YtknhkmlihbgjpaaDoor
/- The document's own Cut of an alert. -/
namespace Go.Proofs.YtknhkmlihbgjpaaDoor
open Go.ChangeShapes Go.WideShapes Go.RowKit

set_option maxHeartbeats 6400000 in
set_option maxRecDepth 100000 in
theorem rcut9_any (P P' : Nat → Prop) (x0 x1 x2 x3 x4 x5 y : Sl) (s : Bs) (ns : List Nd) (fs : List (Bs × Bs)) (l c m d p q : Int) (w : World) (h : FldsAt P w y.v fs) (hl : fs.length ≤ 1000) (hn : NdsAt P' w x3.v ns) (hnl : ns.length ≤ 9223372036854775807) (hu : ∀ m ∈ ns, U32 m.c) (hc : U32 c) (hd : U32 d) :
    Calls Tryd.prog 26 #[.agg #[x0.v, x1.v, x2.v, x3.v, x4.v, x5.v], alV s y.v l c p q, .agg #[.int .i64 m, .int .u32 d]] w (CutP ns s l c m d p q fs w) := by
  have KV := Lib.hid fun w' (hb : Below w.heap.size w w') => rvis_any P P' x0 x1 x2 x3 x4 x5 y.v ns fs l c m d w' (h.stay hb) hl (hn.stay hb) hnl hu hc hd
  have KF := Lib.hid fun w' => Lb.rflows_any l c m d hc.1 hc.2 hd.1 hd.2 w'
  have hvl : (visF ns l c m d fs).length ≤ 1000 := Nat.le_trans (vis_len ns l c m d fs) hl
  clear h hl hn hnl hu hc hd
  obtain ⟨a0, n0, k0⟩ := x0
  obtain ⟨a1, n1, k1⟩ := x1
  obtain ⟨a2, n2, k2⟩ := x2
  obtain ⟨a3, n3, k3⟩ := x3
  obtain ⟨a4, n4, k4⟩ := x4
  obtain ⟨a5, n5, k5⟩ := x5
  obtain ⟨ay, ny, ky⟩ := y
  unfold alV
  simp only [Sl.v] at KV ⊢
  have HCB : Unit → cutB ns l c m d fs = (flB l c m d && !(visF ns l c m d fs).isEmpty) := fun _ => rfl
  have HCP : ∀ w1 e w', CutP ns s l c m d p q fs w1 e w' = (Below w1.heap.size w1 w' ∧
  ((cutB ns l c m d fs = false ∧ e = .returned (.tuple #[alV [] (.slice none 0 0) 0 0 0 0, .bool false])) ∨
   (cutB ns l c m d fs = true ∧ ∃ z : Sl, e = .returned (.tuple #[alV s z.v l c p q, .bool true]) ∧ w'.ownsRow w1.heap.size 64 2 z.v (visF ns l c m d fs).length ((visF ns l c m d fs).map encF).flatten))) := fun _ _ _ => rfl
  replace HCP := Lib.hid HCP
  generalize CutP ns s l c m d p q fs = CP at *
  generalize cutB ns l c m d fs = cb at *
  generalize visF ns l c m d fs = V at *
  generalize flB l c m d = fl at *
  go_enter Tryd.func26, Tryd.ntmps26
  go_upto_region 1 with fail
  obtain ⟨rP, rA, rT, rR, hB⟩ := put4n w 50 27 25 27 [.slice a0 n0 k0, .slice a1 n1 k1, .slice a2 n2 k2, .slice a3 n3 k3, .slice a4 n4 k4, .slice a5 n5 k5] [.string ⟨s.toArray⟩, .slice ay ny ky, .int .i64 l, .int .u32 c, .int .i64 p, .int .i64 q] [.int .i64 m, .int .u32 d] [.string ⟨#[]⟩, .slice none 0 0, .int .i64 0, .int .u32 0, .int .i64 0, .int .i64 0]
  generalize (((w.alloc (.cells #[.slice a0 n0 k0, .slice a1 n1 k1, .slice a2 n2 k2, .slice a3 n3 k3, .slice a4 n4 k4, .slice a5 n5 k5] 50)).alloc (.cells #[.string ⟨s.toArray⟩, .slice ay ny ky, .int .i64 l, .int .u32 c, .int .i64 p, .int .i64 q] 27)).alloc (.cells #[.int .i64 m, .int .u32 d] 25)).alloc (.cells #[.string ⟨#[]⟩, .slice none 0 0, .int .i64 0, .int .u32 0, .int .i64 0, .int .i64 0] 27) = w1 at *
  generalize hbR : w.heap.size + 1 + 1 + 1 = bR at rR ⊢
  generalize hbT : w.heap.size + 1 + 1 = bT at rT ⊢
  generalize hbA : w.heap.size + 1 = bA at rA ⊢
  generalize hbP : w.heap.size = bP at rP ⊢
  have hne : bA ≠ bR ∧ bP ≠ bA ∧ bA ≠ bT ∧ w.heap.size ≤ bA ∧ w.heap.size ≤ bR := by omega
  have HBP : Unit → w.heap.size = bP := fun _ => hbP
  clear hbR hbT hbA hbP
  have hA2 := rA.lt
  have hR2 := rR.lt
  have p0 := Rw.cell rP 0
  have p1 := Rw.cell rP 1
  have p2 := Rw.cell rP 2
  have p3 := Rw.cell rP 3
  have p4 := Rw.cell rP 4
  have p5 := Rw.cell rP 5
  have e1 := Rw.cell rA 1
  have e2 := Rw.cell rA 2
  have e3 := Rw.cell rA 3
  have t0 := Rw.cell rT 0
  have t1 := Rw.cell rT 1
  simp only [List.getElem?_cons_zero, List.getElem?_cons_succ] at p0 p1 p2 p3 p4 p5 e1 e2 e3 t0 t1
  go_wp2_with fail
  refine (KV.out _ hB).mono ?_
  rintro e w2 ⟨v', rfl, hown, hb⟩
  have hw1 := hB.size
  clear KV p0 p1 p2 p3 p4 p5 e1 e2 e3 t0 t1
  replace hB := hB.trans (hb.mono hB.size)
  replace rA := rA.stay hb
  replace rT := rT.stay hb
  replace rR := rR.stay hb
  clear hb rP
  obtain ⟨aO, cO, rfl, _⟩ := own_slice hown
  have e2 := Rw.cell rA 2
  have e3 := Rw.cell rA 3
  have t0 := Rw.cell rT 0
  have t1 := Rw.cell rT 1
  simp only [List.getElem?_cons_zero, List.getElem?_cons_succ] at e2 e3 t0 t1
  go_wp2_with fail
  refine (KF.out _).mono ?_
  rintro e w3 ⟨rfl, hb⟩
  clear KF e2 e3 t0 t1
  replace hB := hB.trans (hb.mono hB.size)
  replace rA := rA.stay hb
  replace rR := rR.stay hb
  replace hown := own_stay2 hown hb
  clear hb rT
  cases fl with
  | false =>
    have z0 := Rw.frozen rR 0
    have z1 := Rw.frozen rR 1
    have z2 := Rw.frozen rR 2
    have z3 := Rw.frozen rR 3
    have z4 := Rw.frozen rR 4
    have z5 := Rw.frozen rR 5
    have u0 := Rw.cell rR 0
    have u1 := Rw.cell rR 1
    have u2 := Rw.cell rR 2
    have u3 := Rw.cell rR 3
    have u4 := Rw.cell rR 4
    have u5 := Rw.cell rR 5
    simp only [List.getElem?_cons_zero, List.getElem?_cons_succ] at u0 u1 u2 u3 u4 u5
    go_wp2_with fail
    refine bodyPost_ret (v := .tuple #[alV [] (.slice none 0 0) 0 0 0 0, .bool false]) (by simp [results, Tryd.results26, go_sem, u0, u1, u2, u3, u4, u5, alV]) rfl ?_
    rw [HCP.out]
    exact ⟨(((((hB.setCell (p := ⟨bR, 0, none⟩) hne.2.2.2.2 _).setCell (p := ⟨bR, 1, none⟩) hne.2.2.2.2 _).setCell (p := ⟨bR, 2, none⟩) hne.2.2.2.2 _).setCell (p := ⟨bR, 3, none⟩) hne.2.2.2.2 _).setCell (p := ⟨bR, 4, none⟩) hne.2.2.2.2 _).setCell (p := ⟨bR, 5, none⟩) hne.2.2.2.2 _, .inl ⟨by rw [HCB ()]; rfl, rfl⟩⟩
  | true =>
    by_cases hV : V = []
    · subst hV
      simp only [List.length_nil] at *
      have z0 := Rw.frozen rR 0
      have z1 := Rw.frozen rR 1
      have z2 := Rw.frozen rR 2
      have z3 := Rw.frozen rR 3
      have z4 := Rw.frozen rR 4
      have z5 := Rw.frozen rR 5
      have u0 := Rw.cell rR 0
      have u1 := Rw.cell rR 1
      have u2 := Rw.cell rR 2
      have u3 := Rw.cell rR 3
      have u4 := Rw.cell rR 4
      have u5 := Rw.cell rR 5
      simp only [List.getElem?_cons_zero, List.getElem?_cons_succ] at u0 u1 u2 u3 u4 u5
      go_wp2_with fail
      refine bodyPost_ret (v := .tuple #[alV [] (.slice none 0 0) 0 0 0 0, .bool false]) (by simp [results, Tryd.results26, go_sem, u0, u1, u2, u3, u4, u5, alV]) rfl ?_
      rw [HCP.out]
      exact ⟨(((((hB.setCell (p := ⟨bR, 0, none⟩) hne.2.2.2.2 _).setCell (p := ⟨bR, 1, none⟩) hne.2.2.2.2 _).setCell (p := ⟨bR, 2, none⟩) hne.2.2.2.2 _).setCell (p := ⟨bR, 3, none⟩) hne.2.2.2.2 _).setCell (p := ⟨bR, 4, none⟩) hne.2.2.2.2 _).setCell (p := ⟨bR, 5, none⟩) hne.2.2.2.2 _, .inl ⟨by rw [HCB ()]; rfl, rfl⟩⟩
    · have hlen : decide ((V.length : Int) = 0) = false := decide_eq_false (by have := List.length_pos_iff.2 hV; omega)
      have hlen2 : ¬ (V.length : Int) = 0 := by have := List.length_pos_iff.2 hV; omega
      have hlen3 : ((V.length : Int) == 0) = false := by rw [beq_eq_false_iff_ne]; exact hlen2
      have hcb : cb = true := by rw [HCB ()]; cases V with
        | nil => exact absurd rfl hV
        | cons _ _ => rfl
      have e1 := Rw.cell rA 1
      have z1 := Rw.frozen rA 1
      simp only [List.getElem?_cons_zero, List.getElem?_cons_succ] at e1
      go_upto_region 5 with fail
      have hbl : ∀ i, (Value.slice aO V.length cO).ownBlock = some i → i ≠ bR := fun i hi e => by have := (hown.lt i hi).1; omega
      have hown2 := own_asdS hown (Asd.one w3 bA 1 (.slice aO V.length cO)) (fun i hi e => by have := (hown.lt i hi).1; omega)
      have rR2 := Rw.other rR (k := bA) (Ne.symm hne.1) 1 (.slice aO V.length cO)
      have rA2 := Rw.setCell rA 1 (.slice aO V.length cO)
      replace hB := hB.setCell (p := ⟨bA, 1, none⟩) hne.2.2.2.1 (.slice aO V.length cO)
      simp only [List.set_cons_zero, List.set_cons_succ] at rA2
      generalize w3.setCell ⟨bA, 1, none⟩ (.slice aO V.length cO) = w4 at *
      replace hown2 := own_mono hown2 hw1
      clear hown rR rA e1 z1 hA2 hR2 hw1
      have z0 := Rw.frozen rR2 0
      have z1 := Rw.frozen rR2 1
      have z2 := Rw.frozen rR2 2
      have z3 := Rw.frozen rR2 3
      have z4 := Rw.frozen rR2 4
      have z5 := Rw.frozen rR2 5
      have u0 := Rw.cell rR2 0
      have u1 := Rw.cell rR2 1
      have u2 := Rw.cell rR2 2
      have u3 := Rw.cell rR2 3
      have u4 := Rw.cell rR2 4
      have u5 := Rw.cell rR2 5
      have e0 := Rw.cell rA2 0
      have e1 := Rw.cell rA2 1
      have e2 := Rw.cell rA2 2
      have e3 := Rw.cell rA2 3
      have e4 := Rw.cell rA2 4
      have e5 := Rw.cell rA2 5
      simp only [List.getElem?_cons_zero, List.getElem?_cons_succ] at u0 u1 u2 u3 u4 u5 e0 e1 e2 e3 e4 e5
      go_wp2_with fail
      refine bodyPost_ret (v := .tuple #[alV s (.slice aO V.length cO) l c p q, .bool true]) (by simp [results, Tryd.results26, go_sem, u0, u1, u2, u3, u4, u5, alV]) rfl ?_
      rw [HCP.out]
      refine ⟨(((((hB.setCell (p := ⟨bR, 0, none⟩) hne.2.2.2.2 _).setCell (p := ⟨bR, 1, none⟩) hne.2.2.2.2 _).setCell (p := ⟨bR, 2, none⟩) hne.2.2.2.2 _).setCell (p := ⟨bR, 3, none⟩) hne.2.2.2.2 _).setCell (p := ⟨bR, 4, none⟩) hne.2.2.2.2 _).setCell (p := ⟨bR, 5, none⟩) hne.2.2.2.2 _, .inr ⟨hcb, ⟨aO, V.length, cO⟩, rfl, own_asdS hown2 ((((((Asd.one w4 bR 0 _).set1 1 _).set1 2 _).set1 3 _).set1 4 _).set1 5 _) (fun i hi e => hbl i hi e)⟩⟩
end Go.Proofs.YtknhkmlihbgjpaaDoor
/- The document's own Cut of a policy: the first so many of each list. -/
namespace Go.Proofs.YtknhkmlihbgjpaaDoor
open Go.ChangeShapes Go.WideShapes Go.RowKit

/-- A slice that fits its place. -/
def SlOk (y : Sl) : Prop := y.n ≤ y.c ∧ y.n ≤ 9223372036854775807
/-- Its first so many. -/
def Sl.cut (y : Sl) (n : Nat) : Sl := ⟨y.a, min y.n n, y.c⟩
theorem cut_sl {t e : TypeId} {k : Nat} (ht : Tryd.prog.underlying t = some (.slice e)) (hs : ∀ w, (sizeOf e).run Tryd.prog w = .ok k w) (a : Option Addr) (n c : Nat) (hn : min n 14 ≤ c) (w : World) : (Instr.slice t (.slice a n c) none (some (.int .i64 (min (n : Int) 14))) none).run Tryd.prog w = .ok (.slice a (min n 14) c) w := by
  obtain ⟨j, hj⟩ : ∃ j, min n 14 = j := ⟨_, rfl⟩
  have e : min (n : Int) 14 = (j : Int) := by omega
  rw [e, hj]
  rw [hj] at hn
  have h0 : ∀ b : Addr, b.add 0 = b := fun b => by unfold Addr.add; simp
  cases a with
  | none => simp [Instr.slice, Sem.run_bind, run_underlying ht, Instr.sliceBounds, run_sliceBound, hs, show (j : Int) ≤ (c : Int) by omega, show (0 : Int) ≤ (j : Int) by omega]
  | some b => simp [Instr.slice, Sem.run_bind, run_underlying ht, Instr.sliceBounds, run_sliceBound, hs, show (j : Int) ≤ (c : Int) by omega, show (0 : Int) ≤ (j : Int) by omega, h0]
theorem size_nds (w : World) : (sizeOf 82).run Tryd.prog w = .ok 3 w := by kernel_rfl
theorem size_rts (w : World) : (sizeOf 102).run Tryd.prog w = .ok 6 w := by kernel_rfl
theorem size_ihs (w : World) : (sizeOf 106).run Tryd.prog w = .ok 5 w := by kernel_rfl
set_option maxHeartbeats 6400000 in
set_option maxRecDepth 100000 in
theorem rcutp_any (x0 x1 x2 x3 x4 x5 : Sl) (w : World) (h0 : SlOk x0) (h1 : SlOk x1) (h2 : SlOk x2) (h3 : SlOk x3) (h4 : SlOk x4) (h5 : SlOk x5) :
    Calls Tryd.prog 24 #[.agg #[x0.v, x1.v, x2.v, x3.v, x4.v, x5.v], .int .i64 14] w fun e w' => e = .returned (.agg #[(x0.cut 14).v, (x1.cut 14).v, (x2.cut 14).v, (x3.cut 14).v, (x4.cut 14).v, (x5.cut 14).v]) ∧ Below w.heap.size w w' := by
  obtain ⟨a0, n0, k0⟩ := x0
  obtain ⟨a1, n1, k1⟩ := x1
  obtain ⟨a2, n2, k2⟩ := x2
  obtain ⟨a3, n3, k3⟩ := x3
  obtain ⟨a4, n4, k4⟩ := x4
  obtain ⟨a5, n5, k5⟩ := x5
  unfold SlOk at *
  simp only [Sl.v, Sl.cut] at *
  have hc0 := fun w => cut_sl Tryd.underlying46 size_nds a0 n0 k0 (by omega) w
  have hn0 : (n0 : Int) ≤ 9223372036854775807 := by omega
  clear h0
  obtain ⟨m0, hm0⟩ : ∃ m, min n0 14 = m := ⟨_, rfl⟩
  simp only [hm0] at hc0 ⊢
  clear hm0
  have hc1 := fun w => cut_sl Tryd.underlying46 size_nds a1 n1 k1 (by omega) w
  have hn1 : (n1 : Int) ≤ 9223372036854775807 := by omega
  clear h1
  obtain ⟨m1, hm1⟩ : ∃ m, min n1 14 = m := ⟨_, rfl⟩
  simp only [hm1] at hc1 ⊢
  clear hm1
  have hc2 := fun w => cut_sl Tryd.underlying46 size_nds a2 n2 k2 (by omega) w
  have hn2 : (n2 : Int) ≤ 9223372036854775807 := by omega
  clear h2
  obtain ⟨m2, hm2⟩ : ∃ m, min n2 14 = m := ⟨_, rfl⟩
  simp only [hm2] at hc2 ⊢
  clear hm2
  have hc3 := fun w => cut_sl Tryd.underlying46 size_nds a3 n3 k3 (by omega) w
  have hn3 : (n3 : Int) ≤ 9223372036854775807 := by omega
  clear h3
  obtain ⟨m3, hm3⟩ : ∃ m, min n3 14 = m := ⟨_, rfl⟩
  simp only [hm3] at hc3 ⊢
  clear hm3
  have hc4 := fun w => cut_sl Tryd.underlying47 size_rts a4 n4 k4 (by omega) w
  have hn4 : (n4 : Int) ≤ 9223372036854775807 := by omega
  clear h4
  obtain ⟨m4, hm4⟩ : ∃ m, min n4 14 = m := ⟨_, rfl⟩
  simp only [hm4] at hc4 ⊢
  clear hm4
  have hc5 := fun w => cut_sl Tryd.underlying48 size_ihs a5 n5 k5 (by omega) w
  have hn5 : (n5 : Int) ≤ 9223372036854775807 := by omega
  clear h5
  obtain ⟨m5, hm5⟩ : ∃ m, min n5 14 = m := ⟨_, rfl⟩
  simp only [hm5] at hc5 ⊢
  clear hm5
  go_enter Tryd.func24, Tryd.ntmps24
  go_upto_region 1 with fail
  obtain ⟨rP, rR, hB⟩ := put2n w 50 50 [.slice a0 n0 k0, .slice a1 n1 k1, .slice a2 n2 k2, .slice a3 n3 k3, .slice a4 n4 k4, .slice a5 n5 k5] [.slice none 0 0, .slice none 0 0, .slice none 0 0, .slice none 0 0, .slice none 0 0, .slice none 0 0]
  generalize (w.alloc (.cells #[.slice a0 n0 k0, .slice a1 n1 k1, .slice a2 n2 k2, .slice a3 n3 k3, .slice a4 n4 k4, .slice a5 n5 k5] 50)).alloc (.cells #[.slice none 0 0, .slice none 0 0, .slice none 0 0, .slice none 0 0, .slice none 0 0, .slice none 0 0] 50) = w1 at *
  generalize hbR : w.heap.size + 1 = bR at *
  have hge : w.heap.size < bR := by omega
  clear hbR
  generalize hbP : w.heap.size = bP at rP ⊢
  have HBP : Unit → w.heap.size = bP := fun _ => hbP
  clear hbP
  have hne : bP ≠ bR ∧ w.heap.size ≤ bP := by have := HBP (); omega
  have p := Rw.cell rP 0
  have z := Rw.frozen rP 0
  simp only [List.getElem?_cons_zero] at p
  go_upto_region 2 with fail
  replace hB := hB.setCell (p := ⟨bP, 0, none⟩) hne.2 (.slice a0 m0 k0)
  replace rR := Rw.other rR (k := bP) (Ne.symm hne.1) 0 (.slice a0 m0 k0)
  replace rP := Rw.setCell rP 0 (.slice a0 m0 k0)
  simp only [List.set_cons_zero] at rP
  generalize w1.setCell ⟨bP, 0, none⟩ (.slice a0 m0 k0) = w2 at *
  clear p z hc0 hn0
  have p := Rw.cell rP 1
  have z := Rw.frozen rP 1
  simp only [List.getElem?_cons_zero, List.getElem?_cons_succ] at p
  go_upto_region 3 with fail
  replace hB := hB.setCell (p := ⟨bP, 1, none⟩) hne.2 (.slice a1 m1 k1)
  replace rR := Rw.other rR (k := bP) (Ne.symm hne.1) 1 (.slice a1 m1 k1)
  replace rP := Rw.setCell rP 1 (.slice a1 m1 k1)
  simp only [List.set_cons_zero, List.set_cons_succ] at rP
  generalize w2.setCell ⟨bP, 1, none⟩ (.slice a1 m1 k1) = w3 at *
  clear p z hc1 hn1
  have p := Rw.cell rP 2
  have z := Rw.frozen rP 2
  simp only [List.getElem?_cons_zero, List.getElem?_cons_succ] at p
  go_upto_region 4 with fail
  replace hB := hB.setCell (p := ⟨bP, 2, none⟩) hne.2 (.slice a2 m2 k2)
  replace rR := Rw.other rR (k := bP) (Ne.symm hne.1) 2 (.slice a2 m2 k2)
  replace rP := Rw.setCell rP 2 (.slice a2 m2 k2)
  simp only [List.set_cons_zero, List.set_cons_succ] at rP
  generalize w3.setCell ⟨bP, 2, none⟩ (.slice a2 m2 k2) = w4 at *
  clear p z hc2 hn2
  have p := Rw.cell rP 3
  have z := Rw.frozen rP 3
  simp only [List.getElem?_cons_zero, List.getElem?_cons_succ] at p
  go_upto_region 5 with fail
  replace hB := hB.setCell (p := ⟨bP, 3, none⟩) hne.2 (.slice a3 m3 k3)
  replace rR := Rw.other rR (k := bP) (Ne.symm hne.1) 3 (.slice a3 m3 k3)
  replace rP := Rw.setCell rP 3 (.slice a3 m3 k3)
  simp only [List.set_cons_zero, List.set_cons_succ] at rP
  generalize w4.setCell ⟨bP, 3, none⟩ (.slice a3 m3 k3) = w5 at *
  clear p z hc3 hn3
  have p := Rw.cell rP 4
  have z := Rw.frozen rP 4
  simp only [List.getElem?_cons_zero, List.getElem?_cons_succ] at p
  go_upto_region 6 with fail
  replace hB := hB.setCell (p := ⟨bP, 4, none⟩) hne.2 (.slice a4 m4 k4)
  replace rR := Rw.other rR (k := bP) (Ne.symm hne.1) 4 (.slice a4 m4 k4)
  replace rP := Rw.setCell rP 4 (.slice a4 m4 k4)
  simp only [List.set_cons_zero, List.set_cons_succ] at rP
  generalize w5.setCell ⟨bP, 4, none⟩ (.slice a4 m4 k4) = w6 at *
  clear p z hc4 hn4
  have p := Rw.cell rP 5
  have z := Rw.frozen rP 5
  simp only [List.getElem?_cons_zero, List.getElem?_cons_succ] at p
  go_upto_region 7 with fail
  replace hB := hB.setCell (p := ⟨bP, 5, none⟩) hne.2 (.slice a5 m5 k5)
  replace rR := Rw.other rR (k := bP) (Ne.symm hne.1) 5 (.slice a5 m5 k5)
  replace rP := Rw.setCell rP 5 (.slice a5 m5 k5)
  simp only [List.set_cons_zero, List.set_cons_succ] at rP
  generalize w6.setCell ⟨bP, 5, none⟩ (.slice a5 m5 k5) = w7 at *
  clear p z hc5 hn5
  have z0 := Rw.frozen rR 0
  have u0 := Rw.cell rR 0
  have p0 := Rw.cell rP 0
  have z1 := Rw.frozen rR 1
  have u1 := Rw.cell rR 1
  have p1 := Rw.cell rP 1
  have z2 := Rw.frozen rR 2
  have u2 := Rw.cell rR 2
  have p2 := Rw.cell rP 2
  have z3 := Rw.frozen rR 3
  have u3 := Rw.cell rR 3
  have p3 := Rw.cell rP 3
  have z4 := Rw.frozen rR 4
  have u4 := Rw.cell rR 4
  have p4 := Rw.cell rP 4
  have z5 := Rw.frozen rR 5
  have u5 := Rw.cell rR 5
  have p5 := Rw.cell rP 5
  simp only [List.getElem?_cons_zero, List.getElem?_cons_succ] at u0 p0 u1 p1 u2 p2 u3 p3 u4 p4 u5 p5
  have hge2 := Nat.le_of_lt hge
  go_wp2_with fail
  refine bodyPost_ret (v := .agg #[.slice a0 m0 k0, .slice a1 m1 k1, .slice a2 m2 k2, .slice a3 m3 k3, .slice a4 m4 k4, .slice a5 m5 k5]) (by simp [results, Tryd.results24, go_sem, u0, u1, u2, u3, u4, u5]) rfl ?_
  exact ⟨rfl, ((((((hB.setCell (p := ⟨bR, 0, none⟩) hge2 _).setCell (p := ⟨bR, 1, none⟩) hge2 _).setCell (p := ⟨bR, 2, none⟩) hge2 _).setCell (p := ⟨bR, 3, none⟩) hge2 _).setCell (p := ⟨bR, 4, none⟩) hge2 _).setCell (p := ⟨bR, 5, none⟩) hge2 _)⟩
end Go.Proofs.YtknhkmlihbgjpaaDoor
