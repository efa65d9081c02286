/- AlertSees returns true: the law (written by wip/tools/gensees.py). -/
import Derived.Test.YtknhkmlihbgjpaaDoorACutsL
import Derived.Test.YtknhkmlihbgjpaaDoorASeesP
import Derived.Test.YtknhkmlihbgjpaaDoorLbMeet
import Derived.Test.YtknhkmlihbgjpaaDoorAOpenQ
namespace Go.Proofs.YtknhkmlihbgjpaaDoor
open Go.ChangeShapes Go.WideShapes Go.RowKit
open Dn (Rt Ih RtOk IhOk NmOk MsOk NdOk encR encI enc3 M3 checkD)

theorem PolAt.stay {w w' : World} {v0 v1 v2 v3 v4 v5 : Value} {s r p ra : List Nd} {rts : List Rt} {ihs : List Ih} (h : PolAt w v0 v1 v2 v3 v4 v5 s r p ra rts ihs) (k : Below w.heap.size w w') : PolAt w' v0 v1 v2 v3 v4 v5 s r p ra rts ihs :=
  ⟨h.h0.stay k, h.h1.stay k, h.h2.stay k, h.h3.stay k, h.u3, RowsAt.stay h.h4 k, h.l4, fun x hx => ⟨(h.o4 x hx).1.stay k, (h.o4 x hx).2.stay k⟩, RowsAt.stay h.h5 k, h.l5, fun x hx => ⟨(h.o5 x hx).1.stay k, (h.o5 x hx).2.1.stay k, (h.o5 x hx).2.2.stay k⟩⟩
theorem PolAt.slices {w : World} {v0 v1 v2 v3 v4 v5 : Value} {s r p ra : List Nd} {rts : List Rt} {ihs : List Ih} (h : PolAt w v0 v1 v2 v3 v4 v5 s r p ra rts ihs) : ∃ x0 x1 x2 x3 x4 x5 : Sl, v0 = x0.v ∧ v1 = x1.v ∧ v2 = x2.v ∧ v3 = x3.v ∧ v4 = x4.v ∧ v5 = x5.v := by
  obtain ⟨a0, c0, e0⟩ := h.h0.1.shape
  obtain ⟨a1, c1, e1⟩ := h.h1.1.shape
  obtain ⟨a2, c2, e2⟩ := h.h2.1.shape
  obtain ⟨a3, c3, e3⟩ := h.h3.1.shape
  obtain ⟨a4, c4, e4⟩ := RowsAt.shape h.h4
  obtain ⟨a5, c5, e5⟩ := RowsAt.shape h.h5
  exact ⟨⟨a0, _, c0⟩, ⟨a1, _, c1⟩, ⟨a2, _, c2⟩, ⟨a3, _, c3⟩, ⟨a4, _, c4⟩, ⟨a5, _, c5⟩, e0, e1, e2, e3, e4, e5⟩
theorem PolAt.check {w : World} {v0 v1 v2 v3 v4 v5 : Value} {s r p ra : List Nd} {rts : List Rt} {ihs : List Ih} (h : PolAt w v0 v1 v2 v3 v4 v5 s r p ra rts ihs) :
    Calls Tryd.prog 32 #[.agg #[v0, v1, v2, v3, v4, v5]] w fun e w' => e = .returned (.int .i64 (checkD s r p ra rts ihs)) ∧ Below w.heap.size w w' :=
  Dn.check_any v0 v1 v2 v3 v4 v5 s r p ra rts ihs w h.h0 h.h1 h.h2 h.h3 h.h4 h.l4 h.o4 h.h5 h.l5 h.o5
theorem outI_u32 {b : Bool} {c : Int} (h : U32 c) : U32 (outI b c) := by
  cases b
  · exact ⟨Int.le_refl 0, (by decide : (0 : Int) < 4294967296)⟩
  · exact h
/-- What the four cuts return fits together. -/
theorem sees_plain (ns : List Nd) (S : Bs) (F : List (Bs × Bs)) (L c P Q m d m2 d2 : Int) (hm : rB m = true) (hm2 : rB m2 = true) (ht : timesB P Q = true) (ok yes is was : Bool)
    (h1 : cutB ns L c m d F = ok) (h2 : cutB ns L c m2 d2 F = yes) (h3 : cutB ns (outI ok L) (outI ok c) m2 d2 (outS ok (visF ns L c m d F)) = is) (h4 : cutB ns L c (mL m m2) (mC m d m2 d2) F = was) :
    (flB m d m2 d2 = true → ok = true → yes = true ∧ (outS ok (visF ns L c m d F)).length ≤ (outS yes (visF ns L c m2 d2 F)).length) ∧ was = (ok && is) ∧
    (was = true → sameB (outS is (outS ok S)) (outS was S) (outS is (visF ns (outI ok L) (outI ok c) m2 d2 (outS ok (visF ns L c m d F)))) (outS was (visF ns L c (mL m m2) (mC m d m2 d2) F)) (outI is (outI ok L)) (outI is (outI ok c)) (outI is (outI ok P)) (outI is (outI ok Q)) (outI was L) (outI was c) (outI was P) (outI was Q) = true) ∧
    (ok = true → outI ok L = L ∧ outI ok c = c ∧ firesB (outI ok P) (outI ok Q) P = true) := by
  have hcm := cut_meet ns L c m d m2 d2 hm hm2 F
  rw [h1, h4] at hcm
  have hw : was = (ok && is) := by
    rw [hcm]
    cases ok with
    | false => rfl
    | true => rw [← h3]; rfl
  refine ⟨fun hf ho => ?_, hw, fun hwas => ?_, fun ho => ?_⟩
  · subst ho
    have hy := cut_up ns L c m d m2 d2 hf F h1
    rw [h2] at hy
    subst hy
    exact ⟨rfl, vis_up ns L c m d m2 d2 hf F⟩
  · rw [hwas] at hw
    have h5 : ok = true ∧ is = true := by
      cases ok <;> cases is <;> first | exact ⟨rfl, rfl⟩ | exact absurd hw (by decide)
    obtain ⟨rfl, rfl⟩ := h5
    subst hwas
    have e : visF ns L c (mL m m2) (mC m d m2 d2) F = visF ns L c m2 d2 (visF ns L c m d F) := vis_meet ns L c m d m2 d2 hm hm2 F
    show sameB S S (visF ns L c m2 d2 (visF ns L c m d F)) (visF ns L c (mL m m2) (mC m d m2 d2) F) L c P Q L c P Q = true
    rw [e]
    exact same_self9 _ _ _ _ _ _
  · subst ho
    exact ⟨rfl, rfl, fires_from ht⟩
set_option maxHeartbeats 25600000 in
set_option maxRecDepth 100000 in
theorem sees_law (x0 x1 x2 x3 x4 x5 : Sl) (sn rn pn ra : List Nd) (rts : List Rt) (ihs : List Ih) (s : Bs) (y : Sl) (fs : List (Bs × Bs)) (l c p q m d m2 d2 : Int) (w : World) (ht : Dg.Tabs w) (hP : PolAt w x0.v x1.v x2.v x3.v x4.v x5.v sn rn pn ra rts ihs)
    (h : FldsAt (fun _ => True) w y.v fs) (hs : s.length ≤ 9223372036854775807) (hl : fs.length ≤ 9223372036854775807) (hfl : ∀ f ∈ fs, f.1.length ≤ 9223372036854775807 ∧ f.2.length ≤ 9223372036854775807) (hc : U32 c) (hd : U32 d) (hd2 : U32 d2) :
    Calls Tryd.prog 6 #[.agg #[x0.v, x1.v, x2.v, x3.v, x4.v, x5.v], alV s y.v l c p q, .agg #[.int .i64 m, .int .u32 d, .int .i64 m2, .int .u32 d2]] w fun e w' => e = .returned (.bool true) ∧ Below w.heap.size w w' := by
  have KL := Lib.hid fun w' (hb : Below w.heap.size w w') => lives_any w' (ht.keep hb)
  have hgl := (good_gd fs).len
  have KG0 := fun w' (hb : Below w.heap.size w w') => good9_full (fun _ => True) s y fs l c p q w' (h.stay hb) hs hl hfl
  obtain ⟨sm, hsm⟩ : ∃ sm, decide (0 < (goodN fs).length) = sm := ⟨_, rfl⟩
  rw [hsm] at KG0
  clear hsm
  have KK0 := fun w' (hb : Below w.heap.size w w') => (hP.stay hb).check
  obtain ⟨ck, hck⟩ : ∃ ck, checkD sn rn pn ra rts ihs = ck := ⟨_, rfl⟩
  rw [hck] at KK0
  clear hck
  generalize goodN fs = F at *
  generalize gS s = S at *
  generalize gL l = L at *
  generalize gP p = P0 at *
  have KR := Lib.hid fun (m d : Int) w' => Lb.rright_any m d w'
  have KF := Lib.hid fun w' => Lb.rflows_any m d m2 d2 hd.1 hd.2 hd2.1 hd2.2 w'
  have KM := Lib.hid fun w' => Lb.rmeet_any m d m2 d2 hd.1 hd.2 hd2.1 hd2.2 w'
  have hu3 := hP.u3
  have hn3 := hP.h3
  have hdm : U32 (mC m d m2 d2) := by
    unfold mC
    split
    · exact Lb.and_range d d2 hd.2
    · exact ⟨Int.le_refl 0, by decide⟩
  have KC := Lib.hid fun (S : Bs) (F : List (Bs × Bs)) (L c P q m d : Int) (hF : F.length ≤ 8) (hc : U32 c) (hd : U32 d) (cb : Bool) (hcb : cutB ra L c m d F = cb) (z : Sl) (w' : World) (hb : Below w.heap.size w w') (hz : FldsAt (fun _ => True) w' z.v F) => (cut_any (fun _ => True) (fun _ => True) x0 x1 x2 x3 x4 x5 z S ra F L c m d P q w' hz (by omega) ((hn3.stay hb).1) hn3.2.1 hu3 hc hd).mono fun _ _ h => cutq hcb h
  clear hP hn3 hu3
  obtain ⟨a0, n0, k0⟩ := x0
  obtain ⟨a1, n1, k1⟩ := x1
  obtain ⟨a2, n2, k2⟩ := x2
  obtain ⟨a3, n3, k3⟩ := x3
  obtain ⟨a4, n4, k4⟩ := x4
  obtain ⟨a5, n5, k5⟩ := x5
  obtain ⟨ay, ny, ky⟩ := y
  clear h hl hfl ht hs
  have HC : Unit → U32 c := fun _ => hc
  have HD : Unit → U32 d := fun _ => hd
  have HD2 : Unit → U32 d2 := fun _ => hd2
  have HDM : Unit → U32 (mC m d m2 d2) := fun _ => hdm
  clear hc hd hd2 hdm
  unfold alV at *
  simp only [Sl.v] at KG0 KK0 KC ⊢
  have KG := Lib.hid KG0
  have KK := Lib.hid KK0
  clear KG0 KK0
  go_enter Tryd.func6, Tryd.ntmps6
  go_upto_region 1 with fail
  obtain ⟨rP, rA, rT, hB⟩ := put3n w 50 27 66 [.slice a0 n0 k0, .slice a1 n1 k1, .slice a2 n2 k2, .slice a3 n3 k3, .slice a4 n4 k4, .slice a5 n5 k5] [.string ⟨s.toArray⟩, .slice ay ny ky, .int .i64 l, .int .u32 c, .int .i64 p, .int .i64 q] [.int .i64 m, .int .u32 d, .int .i64 m2, .int .u32 d2]
  generalize ((w.alloc (.cells #[.slice a0 n0 k0, .slice a1 n1 k1, .slice a2 n2 k2, .slice a3 n3 k3, .slice a4 n4 k4, .slice a5 n5 k5] 50)).alloc (.cells #[.string ⟨s.toArray⟩, .slice ay ny ky, .int .i64 l, .int .u32 c, .int .i64 p, .int .i64 q] 27)).alloc (.cells #[.int .i64 m, .int .u32 d, .int .i64 m2, .int .u32 d2] 66) = wn at *
  generalize w.heap.size + 1 + 1 = bT at rT ⊢
  generalize w.heap.size + 1 = bA at rA ⊢
  generalize hbP : w.heap.size = bP at rP ⊢
  have HBP : Unit → w.heap.size = bP := fun _ => hbP
  clear hbP
  go_wp2_with fail
  refine (KL.out _ hB).mono ?_
  rintro e wn ⟨rfl, hb⟩
  replace hB := hB.trans (hb.mono hB.size)
  replace rP := rP.stay hb
  replace rA := rA.stay hb
  replace rT := rT.stay hb
  clear hb
  clear KL
  have e0 := Rw.cell rA 0
  have e1 := Rw.cell rA 1
  have e2 := Rw.cell rA 2
  have e3 := Rw.cell rA 3
  have e4 := Rw.cell rA 4
  have e5 := Rw.cell rA 5
  simp only [List.getElem?_cons_zero, List.getElem?_cons_succ] at e0 e1 e2 e3 e4 e5
  go_wp2_with fail
  refine (KG.out _ hB).mono ?_
  rintro e wn ⟨⟨ag, ng, kg⟩, Q0, rfl, hz, hb, hti⟩
  replace hB := hB.trans (hb.mono hB.size)
  replace rP := rP.stay hb
  replace rT := rT.stay hb
  clear hb KG rA e0 e1 e2 e3 e4 e5
  simp only at hz ⊢
  have HTI : Unit → timesB P0 Q0 = true := fun _ => hti
  clear hti
  have hb : Below wn.heap.size wn (wn.alloc (.cells #[.string ⟨S.toArray⟩, .slice ag ng kg, .int .i64 L, .int .u32 c, .int .i64 P0, .int .i64 Q0] 27)) := (Below.refl _ _).alloc (Nat.le_refl _) _
  have rG : Rw (wn.alloc (.cells #[.string ⟨S.toArray⟩, .slice ag ng kg, .int .i64 L, .int .u32 c, .int .i64 P0, .int .i64 Q0] 27)) wn.heap.size 27 [.string ⟨S.toArray⟩, .slice ag ng kg, .int .i64 L, .int .u32 c, .int .i64 P0, .int .i64 Q0] := Rw.new wn 27 [.string ⟨S.toArray⟩, .slice ag ng kg, .int .i64 L, .int .u32 c, .int .i64 P0, .int .i64 Q0]
  replace hB := hB.trans (hb.mono hB.size)
  replace rP := rP.stay hb
  replace rT := rT.stay hb
  replace hz := hz.stay hb
  go_upto_region 4 with fail
  clear hb
  generalize wn.heap.size = bG at *
  generalize wn.alloc (.cells #[.string ⟨S.toArray⟩, .slice ag ng kg, .int .i64 L, .int .u32 c, .int .i64 P0, .int .i64 Q0] 27) = wn at *
  have p0 := Rw.cell rP 0
  have p1 := Rw.cell rP 1
  have p2 := Rw.cell rP 2
  have p3 := Rw.cell rP 3
  have p4 := Rw.cell rP 4
  have p5 := Rw.cell rP 5
  simp only [List.getElem?_cons_zero, List.getElem?_cons_succ] at p0 p1 p2 p3 p4 p5
  have g0 := Rw.cell rT 0
  have g1 := Rw.cell rT 1
  have g2 := Rw.cell rT 2
  have g3 := Rw.cell rT 3
  simp only [List.getElem?_cons_zero, List.getElem?_cons_succ] at g0 g1 g2 g3
  cases sm
  · go_wp2_with fail
    go_ret
    exact ⟨rfl, hB⟩
  go_wp2_with fail
  refine (KK.out _ hB).mono ?_
  rintro e wn ⟨rfl, hb⟩
  replace hB := hB.trans (hb.mono hB.size)
  replace rP := rP.stay hb
  replace rT := rT.stay hb
  replace hz := hz.stay hb
  replace rG := rG.stay hb
  clear hb
  clear KK p0 p1 p2 p3 p4 p5 g0 g1 g2 g3
  rcases Decidable.em (ck = 0) with rfl | hck
  rotate_left
  · have hck2 : (ck == 0) = false := by simp [hck]
    have hck3 : (ck != 0) = true := by simp [hck]
    clear hck
    go_wp2_with fail
    go_ret
    exact ⟨rfl, hB⟩
  have g0 := Rw.cell rT 0
  have g1 := Rw.cell rT 1
  have g2 := Rw.cell rT 2
  have g3 := Rw.cell rT 3
  simp only [List.getElem?_cons_zero, List.getElem?_cons_succ] at g0 g1 g2 g3
  go_wp2_with fail
  refine (KR.out m d _).mono ?_
  rintro e wn ⟨rfl, hb⟩
  replace hB := hB.trans (hb.mono hB.size)
  replace rP := rP.stay hb
  replace rT := rT.stay hb
  replace hz := hz.stay hb
  replace rG := rG.stay hb
  clear hb
  clear g0 g1 g2 g3
  obtain ⟨g1, hm⟩ : ∃ g1, rB m = g1 := ⟨_, rfl⟩
  rw [hm]
  have HM : Unit → rB m = g1 := fun _ => hm
  clear hm
  cases g1
  · go_wp2_with fail
    go_ret
    exact ⟨rfl, hB⟩
  have g0 := Rw.cell rT 0
  have g1 := Rw.cell rT 1
  have g2 := Rw.cell rT 2
  have g3 := Rw.cell rT 3
  simp only [List.getElem?_cons_zero, List.getElem?_cons_succ] at g0 g1 g2 g3
  go_wp2_with fail
  refine (KR.out m2 d2 _).mono ?_
  rintro e wn ⟨rfl, hb⟩
  replace hB := hB.trans (hb.mono hB.size)
  replace rP := rP.stay hb
  replace rT := rT.stay hb
  replace hz := hz.stay hb
  replace rG := rG.stay hb
  clear hb
  clear g0 g1 g2 g3
  obtain ⟨g1, hm⟩ : ∃ g1, rB m2 = g1 := ⟨_, rfl⟩
  rw [hm]
  have HM2 : Unit → rB m2 = g1 := fun _ => hm
  clear hm
  cases g1
  · go_wp2_with fail
    go_ret
    exact ⟨rfl, hB⟩
  clear KR
  go_upto_region 6 with fail
  have e0 := Rw.cell rG 0
  have e1 := Rw.cell rG 1
  have e2 := Rw.cell rG 2
  have e3 := Rw.cell rG 3
  have e4 := Rw.cell rG 4
  have e5 := Rw.cell rG 5
  simp only [List.getElem?_cons_zero, List.getElem?_cons_succ] at e0 e1 e2 e3 e4 e5
  have KB := back_any (fun _ => True) S ⟨ag, ng, kg⟩ F L c P0 Q0 wn hz (by omega)
  unfold alV at KB
  rw [List.take_of_length_le (by omega : F.length ≤ 12)] at KB
  simp only [Sl.v] at KB
  replace KB := Lib.hid KB
  go_wp2_with fail
  refine KB.out.mono ?_
  rintro e wn ⟨⟨ax, nx, kx⟩, rfl, hx, hb⟩
  replace hB := hB.trans (hb.mono hB.size)
  replace rT := rT.stay hb
  replace rP := rP.stay hb
  clear KB hb hz rG e0 e1 e2 e3 e4 e5
  simp only at hx ⊢
  have hb : Below wn.heap.size wn (wn.alloc (.cells #[.string ⟨S.toArray⟩, .slice ax nx kx, .int .i64 L, .int .u32 c, .int .i64 P0, .int .i64 Q0] 29)) := (Below.refl _ _).alloc (Nat.le_refl _) _
  have rX : Rw (wn.alloc (.cells #[.string ⟨S.toArray⟩, .slice ax nx kx, .int .i64 L, .int .u32 c, .int .i64 P0, .int .i64 Q0] 29)) wn.heap.size 29 [.string ⟨S.toArray⟩, .slice ax nx kx, .int .i64 L, .int .u32 c, .int .i64 P0, .int .i64 Q0] := Rw.new wn 29 [.string ⟨S.toArray⟩, .slice ax nx kx, .int .i64 L, .int .u32 c, .int .i64 P0, .int .i64 Q0]
  replace hB := hB.trans (hb.mono hB.size)
  replace rP := rP.stay hb
  replace rT := rT.stay hb
  replace hx := hx.stay hb
  go_upto_region 7 with fail
  clear hb
  generalize wn.heap.size = bX at *
  generalize wn.alloc (.cells #[.string ⟨S.toArray⟩, .slice ax nx kx, .int .i64 L, .int .u32 c, .int .i64 P0, .int .i64 Q0] 29) = wn at *
  have hF8 : F.length ≤ 8 := hgl
  clear hgl
  obtain ⟨ok, hok⟩ : ∃ ok, cutB ra L c m d F = ok := ⟨_, rfl⟩
  obtain ⟨yes, hyes⟩ : ∃ yes, cutB ra L c m2 d2 F = yes := ⟨_, rfl⟩
  obtain ⟨is, his⟩ : ∃ is, cutB ra (outI ok L) (outI ok c) m2 d2 (outS ok (visF ra L c m d F)) = is := ⟨_, rfl⟩
  obtain ⟨was, hwas⟩ : ∃ was, cutB ra L c (mL m m2) (mC m d m2 d2) F = was := ⟨_, rfl⟩
  have hpl := sees_plain ra S F L c P0 Q0 m d m2 d2 (HM ()) (HM2 ()) (HTI ()) ok yes is was hok hyes his hwas
  have hF18 : (outS ok (visF ra L c m d F)).length ≤ 8 := Nat.le_trans (outS_len _ _) (Nat.le_trans (vis_len ..) hF8)
  have hF48 : (outS was (visF ra L c (mL m m2) (mC m d m2 d2) F)).length ≤ 1000000 := Nat.le_trans (outS_len _ _) (Nat.le_trans (vis_len ..) (by omega))
  have KC1 := Lib.hid fun z w' hb hz => KC.out S F L c P0 Q0 m d hF8 (HC ()) (HD ()) ok hok z w' hb hz
  have KC2 := Lib.hid fun z w' hb hz => KC.out S F L c P0 Q0 m2 d2 hF8 (HC ()) (HD2 ()) yes hyes z w' hb hz
  have KC3 := Lib.hid fun z w' hb hz => KC.out (outS ok S) (outS ok (visF ra L c m d F)) (outI ok L) (outI ok c) (outI ok P0) (outI ok Q0) m2 d2 hF18 (outI_u32 (HC ())) (HD2 ()) is his z w' hb hz
  have KC4 := Lib.hid fun z w' hb hz => KC.out S F L c P0 Q0 (mL m m2) (mC m d m2 d2) hF8 (HC ()) (HDM ()) was hwas z w' hb hz
  obtain ⟨hp1, hp2, hp3, hp4⟩ := hpl
  generalize outS is (visF ra (outI ok L) (outI ok c) m2 d2 (outS ok (visF ra L c m d F))) = F3 at *
  generalize outS ok (visF ra L c m d F) = F1 at *
  generalize outS yes (visF ra L c m2 d2 F) = F2 at *
  generalize outS was (visF ra L c (mL m m2) (mC m d m2 d2) F) = F4 at *
  generalize outS is (outS ok S) = S3 at *
  generalize outS ok S = S1 at *
  generalize outS yes S = S2 at *
  generalize outS was S = S4 at *
  generalize outI is (outI ok L) = L3 at *
  generalize outI ok L = L1 at *
  generalize outI yes L = L2 at *
  generalize outI was L = L4 at *
  generalize outI is (outI ok c) = C3 at *
  generalize outI ok c = C1 at *
  generalize outI yes c = C2 at *
  generalize outI was c = C4 at *
  generalize outI is (outI ok P0) = P3 at *
  generalize outI ok P0 = P1 at *
  generalize outI yes P0 = P2 at *
  generalize outI was P0 = P4 at *
  generalize outI is (outI ok Q0) = Q3 at *
  generalize outI ok Q0 = Q1 at *
  generalize outI yes Q0 = Q2 at *
  generalize outI was Q0 = Q4 at *
  generalize mL m m2 = ml at *
  generalize mC m d m2 d2 = mc at *
  have HP1 : Unit → flB m d m2 d2 = true → ok = true → yes = true ∧ F1.length ≤ F2.length := fun _ => hp1
  have HP2 : Unit → was = (ok && is) := fun _ => hp2
  have HP4 : Unit → ok = true → L1 = L ∧ C1 = c ∧ firesB P1 Q1 P0 = true := fun _ => hp4
  obtain ⟨sm, hsm⟩ : ∃ sm, sameB S3 S4 F3 F4 L3 C3 P3 Q3 L4 C4 P4 Q4 = sm := ⟨_, rfl⟩
  rw [hsm] at hp3
  have HP3 : Unit → was = true → sm = true := fun _ => hp3
  have KS := Lib.hid fun (y z : Sl) (w' : World) (hy : FldsAt (fun _ => True) w' y.v F3) (hz : FldsAt (fun _ => True) w' z.v F4) => samea_any (fun _ => True) (fun _ => True) S3 S4 y z F3 F4 L3 C3 P3 Q3 L4 C4 P4 Q4 w' hy hz hF48
  rw [hsm] at KS
  have KFi := Lib.hid fun (y : Sl) w' => fires_any S1 y L1 C1 P1 Q1 P0 w'
  clear hp1 hp2 hp3 hp4 hsm hok hyes his hwas KC HM HM2 HTI HC HD HD2 HDM hF48 hF18 hF8
  unfold CutQ alV at KC1 KC2 KC3 KC4
  unfold alV at KS KFi
  simp only [Sl.v] at KC1 KC2 KC3 KC4 KS KFi
  generalize flB m d m2 d2 = fl at *
  have p0 := Rw.cell rP 0
  have p1 := Rw.cell rP 1
  have p2 := Rw.cell rP 2
  have p3 := Rw.cell rP 3
  have p4 := Rw.cell rP 4
  have p5 := Rw.cell rP 5
  simp only [List.getElem?_cons_zero, List.getElem?_cons_succ] at p0 p1 p2 p3 p4 p5
  have e0 := Rw.cell rX 0
  have e1 := Rw.cell rX 1
  have e2 := Rw.cell rX 2
  have e3 := Rw.cell rX 3
  have e4 := Rw.cell rX 4
  have e5 := Rw.cell rX 5
  simp only [List.getElem?_cons_zero, List.getElem?_cons_succ] at e0 e1 e2 e3 e4 e5
  have g0 := Rw.cell rT 0
  have g1 := Rw.cell rT 1
  have g2 := Rw.cell rT 2
  have g3 := Rw.cell rT 3
  simp only [List.getElem?_cons_zero, List.getElem?_cons_succ] at g0 g1 g2 g3
  go_wp2_with fail
  refine (KC1.out ⟨ax, nx, kx⟩ _ hB hx).mono ?_
  rintro e wn ⟨hb, ⟨au, nu, ku⟩, rfl, hn⟩
  replace hB := hB.trans (hb.mono hB.size)
  replace rP := rP.stay hb
  replace rT := rT.stay hb
  replace hx := hx.stay hb
  replace rX := rX.stay hb
  clear hb
  replace hn : FldsAt (fun _ => True) wn (.slice au nu ku) F1 := hn.mono fun _ _ _ => trivial
  have hu := hn
  clear hn KC1 p0 p1 p2 p3 p4 p5 e0 e1 e2 e3 e4 e5 g0 g1 g2 g3
  simp only
  have hb : Below wn.heap.size wn (wn.alloc (.cells #[.string ⟨S1.toArray⟩, .slice au nu ku, .int .i64 L1, .int .u32 C1, .int .i64 P1, .int .i64 Q1] 29)) := (Below.refl _ _).alloc (Nat.le_refl _) _
  have rU : Rw (wn.alloc (.cells #[.string ⟨S1.toArray⟩, .slice au nu ku, .int .i64 L1, .int .u32 C1, .int .i64 P1, .int .i64 Q1] 29)) wn.heap.size 29 [.string ⟨S1.toArray⟩, .slice au nu ku, .int .i64 L1, .int .u32 C1, .int .i64 P1, .int .i64 Q1] := Rw.new wn 29 [.string ⟨S1.toArray⟩, .slice au nu ku, .int .i64 L1, .int .u32 C1, .int .i64 P1, .int .i64 Q1]
  replace hB := hB.trans (hb.mono hB.size)
  replace rP := rP.stay hb
  replace rT := rT.stay hb
  replace hx := hx.stay hb
  replace rX := rX.stay hb
  replace hu := hu.stay hb
  go_upto_region 8 with fail
  clear hb
  generalize wn.heap.size = bU at *
  generalize wn.alloc (.cells #[.string ⟨S1.toArray⟩, .slice au nu ku, .int .i64 L1, .int .u32 C1, .int .i64 P1, .int .i64 Q1] 29) = wn at *
  have p0 := Rw.cell rP 0
  have p1 := Rw.cell rP 1
  have p2 := Rw.cell rP 2
  have p3 := Rw.cell rP 3
  have p4 := Rw.cell rP 4
  have p5 := Rw.cell rP 5
  simp only [List.getElem?_cons_zero, List.getElem?_cons_succ] at p0 p1 p2 p3 p4 p5
  have e0 := Rw.cell rX 0
  have e1 := Rw.cell rX 1
  have e2 := Rw.cell rX 2
  have e3 := Rw.cell rX 3
  have e4 := Rw.cell rX 4
  have e5 := Rw.cell rX 5
  simp only [List.getElem?_cons_zero, List.getElem?_cons_succ] at e0 e1 e2 e3 e4 e5
  have g0 := Rw.cell rT 0
  have g1 := Rw.cell rT 1
  have g2 := Rw.cell rT 2
  have g3 := Rw.cell rT 3
  simp only [List.getElem?_cons_zero, List.getElem?_cons_succ] at g0 g1 g2 g3
  go_wp2_with fail
  refine (KC2.out ⟨ax, nx, kx⟩ _ hB hx).mono ?_
  rintro e wn ⟨hb, ⟨av, nv, kv⟩, rfl, hn⟩
  replace hB := hB.trans (hb.mono hB.size)
  replace rP := rP.stay hb
  replace rT := rT.stay hb
  replace hx := hx.stay hb
  replace rX := rX.stay hb
  replace hu := hu.stay hb
  replace rU := rU.stay hb
  clear hb
  replace hn : FldsAt (fun _ => True) wn (.slice av nv kv) F2 := hn.mono fun _ _ _ => trivial
  have hv := hn
  clear hn KC2 p0 p1 p2 p3 p4 p5 e0 e1 e2 e3 e4 e5 g0 g1 g2 g3
  simp only
  have hb : Below wn.heap.size wn (wn.alloc (.cells #[.string ⟨S2.toArray⟩, .slice av nv kv, .int .i64 L2, .int .u32 C2, .int .i64 P2, .int .i64 Q2] 29)) := (Below.refl _ _).alloc (Nat.le_refl _) _
  have rV : Rw (wn.alloc (.cells #[.string ⟨S2.toArray⟩, .slice av nv kv, .int .i64 L2, .int .u32 C2, .int .i64 P2, .int .i64 Q2] 29)) wn.heap.size 29 [.string ⟨S2.toArray⟩, .slice av nv kv, .int .i64 L2, .int .u32 C2, .int .i64 P2, .int .i64 Q2] := Rw.new wn 29 [.string ⟨S2.toArray⟩, .slice av nv kv, .int .i64 L2, .int .u32 C2, .int .i64 P2, .int .i64 Q2]
  replace hB := hB.trans (hb.mono hB.size)
  replace rP := rP.stay hb
  replace rT := rT.stay hb
  replace hx := hx.stay hb
  replace rX := rX.stay hb
  replace hu := hu.stay hb
  replace rU := rU.stay hb
  replace hv := hv.stay hb
  go_upto_region 9 with fail
  clear hb
  generalize wn.heap.size = bV at *
  generalize wn.alloc (.cells #[.string ⟨S2.toArray⟩, .slice av nv kv, .int .i64 L2, .int .u32 C2, .int .i64 P2, .int .i64 Q2] 29) = wn at *
  have hlu : F1.length = nu := (FldsAt.cap hu).1.symm
  have hlv : F2.length = nv := (FldsAt.cap hv).1.symm
  rw [hlu, hlv] at HP1
  clear hlu hlv
  go_cut [82] (fun u82 wx => u82 = .bool false ∧ Below wn.heap.size wn wx)
  case first =>
    have g0 := Rw.cell rT 0
    have g1 := Rw.cell rT 1
    have g2 := Rw.cell rT 2
    have g3 := Rw.cell rT 3
    simp only [List.getElem?_cons_zero, List.getElem?_cons_succ] at g0 g1 g2 g3
    go_wp2_with fail
    refine (KF.out _).mono ?_
    rintro e wn2 ⟨rfl, hb⟩
    replace rV := rV.stay hb
    replace rU := rU.stay hb
    clear KF rT hu hv hx rP rX hB
    clear g0 g1 g2 g3
    have e0 := Rw.cell rU 0
    have e1 := Rw.cell rU 1
    have e2 := Rw.cell rU 2
    have e3 := Rw.cell rU 3
    have e4 := Rw.cell rU 4
    have e5 := Rw.cell rU 5
    simp only [List.getElem?_cons_zero, List.getElem?_cons_succ] at e0 e1 e2 e3 e4 e5
    have p0 := Rw.cell rV 0
    have p1 := Rw.cell rV 1
    have p2 := Rw.cell rV 2
    have p3 := Rw.cell rV 3
    have p4 := Rw.cell rV 4
    have p5 := Rw.cell rV 5
    simp only [List.getElem?_cons_zero, List.getElem?_cons_succ] at p0 p1 p2 p3 p4 p5
    cases fl
    · go_wp2_with fail
      go_meet
      exact ⟨rfl, hb⟩
    cases ok
    · go_wp2_with fail
      go_meet
      exact ⟨rfl, hb⟩
    obtain ⟨hy, hle⟩ := HP1 () rfl rfl
    subst hy
    have HLT : Unit → ¬ nv < nu := fun _ => by omega
    clear hle HP1
    go_wp2_with fail
    go_meet
    exact ⟨congrArg Value.bool (decide_eq_false (HLT ())), hb⟩
  case rest =>
    obtain ⟨rfl, hb⟩ := hcut
    generalize wc = wn at *
    replace hB := hB.trans (hb.mono hB.size)
    replace rP := rP.stay hb
    replace rT := rT.stay hb
    replace hx := hx.stay hb
    replace rX := rX.stay hb
    replace hu := hu.stay hb
    replace rU := rU.stay hb
    clear hb rV hv HP1 KF
    have p0 := Rw.cell rP 0
    have p1 := Rw.cell rP 1
    have p2 := Rw.cell rP 2
    have p3 := Rw.cell rP 3
    have p4 := Rw.cell rP 4
    have p5 := Rw.cell rP 5
    simp only [List.getElem?_cons_zero, List.getElem?_cons_succ] at p0 p1 p2 p3 p4 p5
    have e0 := Rw.cell rU 0
    have e1 := Rw.cell rU 1
    have e2 := Rw.cell rU 2
    have e3 := Rw.cell rU 3
    have e4 := Rw.cell rU 4
    have e5 := Rw.cell rU 5
    simp only [List.getElem?_cons_zero, List.getElem?_cons_succ] at e0 e1 e2 e3 e4 e5
    have g0 := Rw.cell rT 0
    have g1 := Rw.cell rT 1
    have g2 := Rw.cell rT 2
    have g3 := Rw.cell rT 3
    simp only [List.getElem?_cons_zero, List.getElem?_cons_succ] at g0 g1 g2 g3
    go_wp2_with fail
    refine (KC3.out ⟨au, nu, ku⟩ _ hB hu).mono ?_
    rintro e wn ⟨hb, ⟨ar, nr, kr⟩, rfl, hn⟩
    replace hB := hB.trans (hb.mono hB.size)
    replace rP := rP.stay hb
    replace rT := rT.stay hb
    replace hx := hx.stay hb
    replace rX := rX.stay hb
    replace hu := hu.stay hb
    replace rU := rU.stay hb
    clear hb
    replace hn : FldsAt (fun _ => True) wn (.slice ar nr kr) F3 := hn.mono fun _ _ _ => trivial
    have hr := hn
    clear hn KC3 p0 p1 p2 p3 p4 p5 e0 e1 e2 e3 e4 e5 g0 g1 g2 g3
    simp only
    have hb : Below wn.heap.size wn (wn.alloc (.cells #[.string ⟨S3.toArray⟩, .slice ar nr kr, .int .i64 L3, .int .u32 C3, .int .i64 P3, .int .i64 Q3] 29)) := (Below.refl _ _).alloc (Nat.le_refl _) _
    have rR : Rw (wn.alloc (.cells #[.string ⟨S3.toArray⟩, .slice ar nr kr, .int .i64 L3, .int .u32 C3, .int .i64 P3, .int .i64 Q3] 29)) wn.heap.size 29 [.string ⟨S3.toArray⟩, .slice ar nr kr, .int .i64 L3, .int .u32 C3, .int .i64 P3, .int .i64 Q3] := Rw.new wn 29 [.string ⟨S3.toArray⟩, .slice ar nr kr, .int .i64 L3, .int .u32 C3, .int .i64 P3, .int .i64 Q3]
    replace hB := hB.trans (hb.mono hB.size)
    replace rP := rP.stay hb
    replace rT := rT.stay hb
    replace hx := hx.stay hb
    replace rX := rX.stay hb
    replace hu := hu.stay hb
    replace rU := rU.stay hb
    replace hr := hr.stay hb
    go_upto_region 12 with fail
    clear hb
    generalize wn.heap.size = bR at *
    generalize wn.alloc (.cells #[.string ⟨S3.toArray⟩, .slice ar nr kr, .int .i64 L3, .int .u32 C3, .int .i64 P3, .int .i64 Q3] 29) = wn at *
    have hCL := Lib.hid fun w' (k : Below wn.heap.size wn w') => (show CL wn [(⟨bP, 0, none⟩, .slice a0 n0 k0), (⟨bP, 1, none⟩, .slice a1 n1 k1), (⟨bP, 2, none⟩, .slice a2 n2 k2), (⟨bP, 3, none⟩, .slice a3 n3 k3), (⟨bP, 4, none⟩, .slice a4 n4 k4), (⟨bP, 5, none⟩, .slice a5 n5 k5), (⟨bX, 0, none⟩, .string ⟨S.toArray⟩), (⟨bX, 1, none⟩, .slice ax nx kx), (⟨bX, 2, none⟩, .int .i64 L), (⟨bX, 3, none⟩, .int .u32 c), (⟨bX, 4, none⟩, .int .i64 P0), (⟨bX, 5, none⟩, .int .i64 Q0), (⟨bT, 0, none⟩, .int .i64 m), (⟨bT, 1, none⟩, .int .u32 d), (⟨bT, 2, none⟩, .int .i64 m2), (⟨bT, 3, none⟩, .int .u32 d2)] w' from ((((((((((((((((CL.bare k).row (rT.stay k) 3 rfl).row (rT.stay k) 2 rfl).row (rT.stay k) 1 rfl).row (rT.stay k) 0 rfl).row (rX.stay k) 5 rfl).row (rX.stay k) 4 rfl).row (rX.stay k) 3 rfl).row (rX.stay k) 2 rfl).row (rX.stay k) 1 rfl).row (rX.stay k) 0 rfl).row (rP.stay k) 5 rfl).row (rP.stay k) 4 rfl).row (rP.stay k) 3 rfl).row (rP.stay k) 2 rfl).row (rP.stay k) 1 rfl).row (rP.stay k) 0 rfl)
    have KC5 := Lib.hid fun w' (k : Below wn.heap.size wn w') => KC4.out ⟨ax, nx, kx⟩ w' (hB.trans (k.mono hB.size)) (hx.stay k)
    simp only at KC5
    clear KC4
    go_cut [16, 17] (fun u16 u17 wx => ∃ g : Nat, u16 = .pointer (some ⟨g, 0, none⟩) ∧ u17 = .bool was ∧ ∃ zz : Sl, Rw wx g 29 [.string ⟨S4.toArray⟩, zz.v, .int .i64 L4, .int .u32 C4, .int .i64 P4, .int .i64 Q4] ∧ FldsAt (fun _ => True) wx zz.v F4 ∧ Below wn.heap.size wn wx)
    case first =>
      refine wp_region_held (S := CL wn [(⟨bP, 0, none⟩, .slice a0 n0 k0), (⟨bP, 1, none⟩, .slice a1 n1 k1), (⟨bP, 2, none⟩, .slice a2 n2 k2), (⟨bP, 3, none⟩, .slice a3 n3 k3), (⟨bP, 4, none⟩, .slice a4 n4 k4), (⟨bP, 5, none⟩, .slice a5 n5 k5), (⟨bX, 0, none⟩, .string ⟨S.toArray⟩), (⟨bX, 1, none⟩, .slice ax nx kx), (⟨bX, 2, none⟩, .int .i64 L), (⟨bX, 3, none⟩, .int .u32 c), (⟨bX, 4, none⟩, .int .i64 P0), (⟨bX, 5, none⟩, .int .i64 Q0), (⟨bT, 0, none⟩, .int .i64 m), (⟨bT, 1, none⟩, .int .u32 d), (⟨bT, 2, none⟩, .int .i64 m2), (⟨bT, 3, none⟩, .int .u32 d2)]) (by kernel_rfl) ?_
      have hS := hCL.out wn.drew ((Below.refl wn.heap.size wn).drew)
      change wpAnyH _ _ _ _ _ _ _ _ wn.drew
      generalize wn.drew = D1 at *
      refine held_val 0 rfl (by kernel_rfl) (by kernel_rfl) (by kernel_rfl) (fun _ _ _ _ h => h) (by rfl) hS ?_
      apply Exists.intro
      refine ⟨fun w' hw' => ?_, ?_⟩
      · have e0 := hw'.at 0 rfl; have e1 := hw'.at 1 rfl; have e2 := hw'.at 2 rfl; have e3 := hw'.at 3 rfl; have e4 := hw'.at 4 rfl; have e5 := hw'.at 5 rfl
        go_simp
        first | done | rfl | exact ⟨rfl, rfl⟩
      simp only [Act.put, List.setIfInBounds_toArray, List.set_cons_zero, List.set_cons_succ]
      refine held_val 1 rfl (by kernel_rfl) (by kernel_rfl) (by kernel_rfl) (fun _ _ _ _ h => h) (by rfl) hS ?_
      apply Exists.intro
      refine ⟨fun w' hw' => ?_, ?_⟩
      · have e0 := hw'.at 6 rfl; have e1 := hw'.at 7 rfl; have e2 := hw'.at 8 rfl; have e3 := hw'.at 9 rfl; have e4 := hw'.at 10 rfl; have e5 := hw'.at 11 rfl
        go_simp
        first | done | rfl | exact ⟨rfl, rfl⟩
      simp only [Act.put, List.setIfInBounds_toArray, List.set_cons_zero, List.set_cons_succ]
      refine held_val 2 rfl (by kernel_rfl) (by kernel_rfl) (by kernel_rfl) (fun _ _ _ _ h => h) (by rfl) hS ?_
      apply Exists.intro
      refine ⟨fun w' hw' => ?_, ?_⟩
      · skip
        go_simp
        first | done | rfl | exact ⟨rfl, rfl⟩
      simp only [Act.put, List.setIfInBounds_toArray, List.set_cons_zero, List.set_cons_succ]
      refine held_val 3 rfl (by kernel_rfl) (by kernel_rfl) (by kernel_rfl) (fun _ _ _ _ h => h) (by rfl) hS ?_
      apply Exists.intro
      refine ⟨fun w' hw' => ?_, ?_⟩
      · have e0 := hw'.at 12 rfl; have e1 := hw'.at 13 rfl; have e2 := hw'.at 14 rfl; have e3 := hw'.at 15 rfl
        go_simp
        first | done | rfl | exact ⟨rfl, rfl⟩
      simp only [Act.put, List.setIfInBounds_toArray, List.set_cons_zero, List.set_cons_succ]
      refine held_val 4 rfl (by kernel_rfl) (by kernel_rfl) (by kernel_rfl) (fun _ _ _ _ h => h) (by rfl) hS ?_
      apply Exists.intro
      refine ⟨fun w' hw' => ?_, ?_⟩
      · skip
        go_simp
        first | done | rfl | exact ⟨rfl, rfl⟩
      simp only [Act.put, List.setIfInBounds_toArray, List.set_cons_zero, List.set_cons_succ]
      refine held_val 5 rfl (by kernel_rfl) (by kernel_rfl) (by kernel_rfl) (fun _ _ _ _ h => h) (by rfl) hS ?_
      apply Exists.intro
      refine ⟨fun w' hw' => ?_, ?_⟩
      · have e0 := hw'.at 12 rfl; have e1 := hw'.at 13 rfl; have e2 := hw'.at 14 rfl; have e3 := hw'.at 15 rfl
        go_simp
        first | done | rfl | exact ⟨rfl, rfl⟩
      simp only [Act.put, List.setIfInBounds_toArray, List.set_cons_zero, List.set_cons_succ]
      refine held_two 6 11 (by kernel_rfl) rfl rfl (by rfl) (by rfl) ?_ ?_
      · skip
        refine wp_enter ?_
        apply Exists.intro
        apply Exists.intro
        refine ⟨?_, ?_⟩
        · go_simp
          first | done | rfl | exact ⟨rfl, rfl⟩
        refine (KM.out _).mono ?_
        rintro e D2 ⟨rfl, hb⟩
        replace hS := hS.go hb
        refine ⟨_, rfl, hS, ?_⟩
        clear hb
        try simp only [Act.put, List.setIfInBounds_toArray, List.set_cons_zero, List.set_cons_succ]
        refine held_two 7 11 (by kernel_rfl) rfl rfl (by rfl) (by rfl) ?_ ?_
        · skip
          refine wp_enter ?_
          apply Exists.intro
          apply Exists.intro
          refine ⟨?_, ?_⟩
          · go_simp
            first | done | rfl | exact ⟨rfl, rfl⟩
          refine (KC5.out _ hS.1).mono ?_
          rintro e D3 ⟨hb, ⟨aw, nw, kw⟩, rfl, hzc⟩
          have hszD := hS.1.size
          replace hS := hS.go hb
          replace hzc : FldsAt (fun k => k < D3.heap.size) D3 (.slice aw nw kw) F4 := hzc.mono fun i hi _ => by omega
          refine ⟨_, rfl, hS, ?_⟩
          clear hb
          try simp only [Act.put, List.setIfInBounds_toArray, List.set_cons_zero, List.set_cons_succ]
          refine held_val 8 rfl (by kernel_rfl) (by kernel_rfl) (by kernel_rfl) (fun _ _ _ _ h => h) (by rfl) hS ?_
          apply Exists.intro
          refine ⟨fun w' hw' => ?_, ?_⟩
          · skip
            go_simp
            first | done | rfl | exact ⟨rfl, rfl⟩
          simp only [Act.put, List.setIfInBounds_toArray, List.set_cons_zero, List.set_cons_succ]
          refine held_val 9 rfl (by kernel_rfl) (by kernel_rfl) (by kernel_rfl) (fun _ _ _ _ h => h) (by rfl) hS ?_
          apply Exists.intro
          refine ⟨fun w' hw' => ?_, ?_⟩
          · skip
            go_simp
            first | done | rfl | exact ⟨rfl, rfl⟩
          simp only [Act.put, List.setIfInBounds_toArray, List.set_cons_zero, List.set_cons_succ]
          refine held_val 10 rfl (by kernel_rfl) (by kernel_rfl) (by kernel_rfl) (fun _ _ _ _ h => h) (by rfl) hS ?_
          apply Exists.intro
          refine ⟨fun w' hw' => ?_, ?_⟩
          · skip
            go_simp
            first | done | rfl | exact ⟨rfl, rfl⟩
          simp only [Act.put, List.setIfInBounds_toArray, List.set_cons_zero, List.set_cons_succ]
          refine held_one 11 (by kernel_rfl) rfl (by rfl) ?_
          unfold Oper.wp
          go_simp
          have hal : Below D3.heap.size D3 (D3.alloc (.cells #[.string ⟨#[]⟩, .slice none 0 0, .int .i64 0, .int .u32 0, .int .i64 0, .int .i64 0] 29)) := (Below.refl _ _).alloc (Nat.le_refl _) _
          have rO : Rw (D3.alloc (.cells #[.string ⟨#[]⟩, .slice none 0 0, .int .i64 0, .int .u32 0, .int .i64 0, .int .i64 0] 29)) D3.heap.size 29 [.string ⟨#[]⟩, .slice none 0 0, .int .i64 0, .int .u32 0, .int .i64 0, .int .i64 0] := Rw.new D3 29 [.string ⟨#[]⟩, .slice none 0 0, .int .i64 0, .int .u32 0, .int .i64 0, .int .i64 0]
          have hOb : wn.heap.size ≤ D3.heap.size := hS.1.size
          replace hS := hS.go hal
          replace hzc := hzc.stay hal
          refine ⟨hS, ?_⟩
          clear hal
          generalize D3.alloc (.cells #[.string ⟨#[]⟩, .slice none 0 0, .int .i64 0, .int .u32 0, .int .i64 0, .int .i64 0] 29) = D4 at *
          generalize D3.heap.size = b at *
          try simp only [Act.put, List.setIfInBounds_toArray, List.set_cons_zero, List.set_cons_succ]
          have z0 := Rw.frozen rO 0
          have z1 := Rw.frozen rO 1
          have z2 := Rw.frozen rO 2
          have z3 := Rw.frozen rO 3
          have z4 := Rw.frozen rO 4
          have z5 := Rw.frozen rO 5
          have u0 := Rw.cell rO 0
          have u1 := Rw.cell rO 1
          have u2 := Rw.cell rO 2
          have u3 := Rw.cell rO 3
          have u4 := Rw.cell rO 4
          have u5 := Rw.cell rO 5
          simp only [List.getElem?_cons_zero, List.getElem?_cons_succ] at u0 u1 u2 u3 u4 u5
          have rO2 := rO.set6 (.string ⟨S4.toArray⟩) (.slice aw nw kw) (.int .i64 L4) (.int .u32 C4) (.int .i64 P4) (.int .i64 Q4)
          have hB9 := below_set6 hS.1 hOb (.string ⟨S4.toArray⟩) (.slice aw nw kw) (.int .i64 L4) (.int .u32 C4) (.int .i64 P4) (.int .i64 Q4)
          have hz9 : FldsAt (fun _ => True) ((((((D4.setCell ⟨b, 0, none⟩ (.string ⟨S4.toArray⟩)).setCell ⟨b, 1, none⟩ (.slice aw nw kw)).setCell ⟨b, 2, none⟩ (.int .i64 L4)).setCell ⟨b, 3, none⟩ (.int .u32 C4)).setCell ⟨b, 4, none⟩ (.int .i64 P4)).setCell ⟨b, 5, none⟩ (.int .i64 Q4)) (.slice aw nw kw) F4 :=
            (hzc.keepN (S := fun k => k = b) ((((((Asd.one D4 b 0 _).set1 1 _).set1 2 _).set1 3 _).set1 4 _).set1 5 _) (fun i hi _ e => by have hi2 : i < b := hi; omega)).mono fun _ _ _ => trivial
          refine held_one 12 (by kernel_rfl) rfl (by rfl) ?_
          refine wp_skip (w' := (((((D4.setCell ⟨b, 0, none⟩ (.string ⟨S4.toArray⟩)).setCell ⟨b, 1, none⟩ (.slice aw nw kw)).setCell ⟨b, 2, none⟩ (.int .i64 L4)).setCell ⟨b, 3, none⟩ (.int .u32 C4)).setCell ⟨b, 4, none⟩ (.int .i64 P4)).setCell ⟨b, 5, none⟩ (.int .i64 Q4)) ?_ rfl ?_
          · go_simp
            done
          replace hS := hCL.out _ hB9
          refine ⟨hS, ?_⟩
          generalize (((((D4.setCell ⟨b, 0, none⟩ (.string ⟨S4.toArray⟩)).setCell ⟨b, 1, none⟩ (.slice aw nw kw)).setCell ⟨b, 2, none⟩ (.int .i64 L4)).setCell ⟨b, 3, none⟩ (.int .u32 C4)).setCell ⟨b, 4, none⟩ (.int .i64 P4)).setCell ⟨b, 5, none⟩ (.int .i64 Q4) = D5 at *
          try simp only [Act.put, List.setIfInBounds_toArray, List.set_cons_zero, List.set_cons_succ]
          clear z0 z1 z2 z3 z4 z5 u0 u1 u2 u3 u4 u5
          refine held_val 13 rfl (by kernel_rfl) (by kernel_rfl) (by kernel_rfl) (fun _ _ _ _ h => h) (by rfl) hS ?_
          apply Exists.intro
          refine ⟨fun w' hw' => ?_, ?_⟩
          · skip
            go_simp
            first | done | rfl | exact ⟨rfl, rfl⟩
          simp only [Act.put, List.setIfInBounds_toArray, List.set_cons_zero, List.set_cons_succ]
          refine wpAnyH_done (by kernel_rfl) ?_ _
          go_wp2_with fail
          go_meet
          exact ⟨b, rfl, rfl, ⟨aw, nw, kw⟩, rO2, hz9, hB9⟩
        · skip
          unfold Oper.wp
          go_simp
          have hal : Below D2.heap.size D2 (D2.alloc (.cells #[.string ⟨#[]⟩, .slice none 0 0, .int .i64 0, .int .u32 0, .int .i64 0, .int .i64 0] 29)) := (Below.refl _ _).alloc (Nat.le_refl _) _
          have rO : Rw (D2.alloc (.cells #[.string ⟨#[]⟩, .slice none 0 0, .int .i64 0, .int .u32 0, .int .i64 0, .int .i64 0] 29)) D2.heap.size 29 [.string ⟨#[]⟩, .slice none 0 0, .int .i64 0, .int .u32 0, .int .i64 0, .int .i64 0] := Rw.new D2 29 [.string ⟨#[]⟩, .slice none 0 0, .int .i64 0, .int .u32 0, .int .i64 0, .int .i64 0]
          have hOb : wn.heap.size ≤ D2.heap.size := hS.1.size
          replace hS := hS.go hal
          refine ⟨hS, ?_⟩
          clear hal
          generalize D2.alloc (.cells #[.string ⟨#[]⟩, .slice none 0 0, .int .i64 0, .int .u32 0, .int .i64 0, .int .i64 0] 29) = D3 at *
          generalize D2.heap.size = b at *
          try simp only [Act.put, List.setIfInBounds_toArray, List.set_cons_zero, List.set_cons_succ]
          refine held_one 7 (by kernel_rfl) rfl (by rfl) ?_
          refine wp_enter ?_
          apply Exists.intro
          apply Exists.intro
          refine ⟨?_, ?_⟩
          · go_simp
            first | done | rfl | exact ⟨rfl, rfl⟩
          refine (KC5.out _ hS.1).mono ?_
          rintro e D4 ⟨hb, ⟨aw, nw, kw⟩, rfl, hzc⟩
          have hszD := hS.1.size
          replace hS := hS.go hb
          have hltD := rO.lt
          replace rO := rO.stay hb
          replace hzc : FldsAt (fun k => b < k) D4 (.slice aw nw kw) F4 := hzc.mono fun i hi _ => by omega
          refine ⟨_, rfl, hS, ?_⟩
          clear hb
          try simp only [Act.put, List.setIfInBounds_toArray, List.set_cons_zero, List.set_cons_succ]
          refine held_val 8 rfl (by kernel_rfl) (by kernel_rfl) (by kernel_rfl) (fun _ _ _ _ h => h) (by rfl) hS ?_
          apply Exists.intro
          refine ⟨fun w' hw' => ?_, ?_⟩
          · skip
            go_simp
            first | done | rfl | exact ⟨rfl, rfl⟩
          simp only [Act.put, List.setIfInBounds_toArray, List.set_cons_zero, List.set_cons_succ]
          refine held_val 9 rfl (by kernel_rfl) (by kernel_rfl) (by kernel_rfl) (fun _ _ _ _ h => h) (by rfl) hS ?_
          apply Exists.intro
          refine ⟨fun w' hw' => ?_, ?_⟩
          · skip
            go_simp
            first | done | rfl | exact ⟨rfl, rfl⟩
          simp only [Act.put, List.setIfInBounds_toArray, List.set_cons_zero, List.set_cons_succ]
          refine held_val 10 rfl (by kernel_rfl) (by kernel_rfl) (by kernel_rfl) (fun _ _ _ _ h => h) (by rfl) hS ?_
          apply Exists.intro
          refine ⟨fun w' hw' => ?_, ?_⟩
          · skip
            go_simp
            first | done | rfl | exact ⟨rfl, rfl⟩
          simp only [Act.put, List.setIfInBounds_toArray, List.set_cons_zero, List.set_cons_succ]
          have z0 := Rw.frozen rO 0
          have z1 := Rw.frozen rO 1
          have z2 := Rw.frozen rO 2
          have z3 := Rw.frozen rO 3
          have z4 := Rw.frozen rO 4
          have z5 := Rw.frozen rO 5
          have u0 := Rw.cell rO 0
          have u1 := Rw.cell rO 1
          have u2 := Rw.cell rO 2
          have u3 := Rw.cell rO 3
          have u4 := Rw.cell rO 4
          have u5 := Rw.cell rO 5
          simp only [List.getElem?_cons_zero, List.getElem?_cons_succ] at u0 u1 u2 u3 u4 u5
          have rO2 := rO.set6 (.string ⟨S4.toArray⟩) (.slice aw nw kw) (.int .i64 L4) (.int .u32 C4) (.int .i64 P4) (.int .i64 Q4)
          have hB9 := below_set6 hS.1 hOb (.string ⟨S4.toArray⟩) (.slice aw nw kw) (.int .i64 L4) (.int .u32 C4) (.int .i64 P4) (.int .i64 Q4)
          have hz9 : FldsAt (fun _ => True) ((((((D4.setCell ⟨b, 0, none⟩ (.string ⟨S4.toArray⟩)).setCell ⟨b, 1, none⟩ (.slice aw nw kw)).setCell ⟨b, 2, none⟩ (.int .i64 L4)).setCell ⟨b, 3, none⟩ (.int .u32 C4)).setCell ⟨b, 4, none⟩ (.int .i64 P4)).setCell ⟨b, 5, none⟩ (.int .i64 Q4)) (.slice aw nw kw) F4 :=
            (hzc.keepN (S := fun k => k = b) ((((((Asd.one D4 b 0 _).set1 1 _).set1 2 _).set1 3 _).set1 4 _).set1 5 _) (fun i hi _ e => by have hi2 : b < i := hi; omega)).mono fun _ _ _ => trivial
          refine held_one 12 (by kernel_rfl) rfl (by rfl) ?_
          refine wp_skip (w' := (((((D4.setCell ⟨b, 0, none⟩ (.string ⟨S4.toArray⟩)).setCell ⟨b, 1, none⟩ (.slice aw nw kw)).setCell ⟨b, 2, none⟩ (.int .i64 L4)).setCell ⟨b, 3, none⟩ (.int .u32 C4)).setCell ⟨b, 4, none⟩ (.int .i64 P4)).setCell ⟨b, 5, none⟩ (.int .i64 Q4)) ?_ rfl ?_
          · go_simp
            done
          replace hS := hCL.out _ hB9
          refine ⟨hS, ?_⟩
          generalize (((((D4.setCell ⟨b, 0, none⟩ (.string ⟨S4.toArray⟩)).setCell ⟨b, 1, none⟩ (.slice aw nw kw)).setCell ⟨b, 2, none⟩ (.int .i64 L4)).setCell ⟨b, 3, none⟩ (.int .u32 C4)).setCell ⟨b, 4, none⟩ (.int .i64 P4)).setCell ⟨b, 5, none⟩ (.int .i64 Q4) = D5 at *
          try simp only [Act.put, List.setIfInBounds_toArray, List.set_cons_zero, List.set_cons_succ]
          clear z0 z1 z2 z3 z4 z5 u0 u1 u2 u3 u4 u5
          refine held_val 13 rfl (by kernel_rfl) (by kernel_rfl) (by kernel_rfl) (fun _ _ _ _ h => h) (by rfl) hS ?_
          apply Exists.intro
          refine ⟨fun w' hw' => ?_, ?_⟩
          · skip
            go_simp
            first | done | rfl | exact ⟨rfl, rfl⟩
          simp only [Act.put, List.setIfInBounds_toArray, List.set_cons_zero, List.set_cons_succ]
          refine wpAnyH_done (by kernel_rfl) ?_ _
          go_wp2_with fail
          go_meet
          exact ⟨b, rfl, rfl, ⟨aw, nw, kw⟩, rO2, hz9, hB9⟩
      · skip
        unfold Oper.wp
        go_simp
        have hal : Below D1.heap.size D1 (D1.alloc (.cells #[.string ⟨#[]⟩, .slice none 0 0, .int .i64 0, .int .u32 0, .int .i64 0, .int .i64 0] 29)) := (Below.refl _ _).alloc (Nat.le_refl _) _
        have rO : Rw (D1.alloc (.cells #[.string ⟨#[]⟩, .slice none 0 0, .int .i64 0, .int .u32 0, .int .i64 0, .int .i64 0] 29)) D1.heap.size 29 [.string ⟨#[]⟩, .slice none 0 0, .int .i64 0, .int .u32 0, .int .i64 0, .int .i64 0] := Rw.new D1 29 [.string ⟨#[]⟩, .slice none 0 0, .int .i64 0, .int .u32 0, .int .i64 0, .int .i64 0]
        have hOb : wn.heap.size ≤ D1.heap.size := hS.1.size
        replace hS := hS.go hal
        refine ⟨hS, ?_⟩
        clear hal
        generalize D1.alloc (.cells #[.string ⟨#[]⟩, .slice none 0 0, .int .i64 0, .int .u32 0, .int .i64 0, .int .i64 0] 29) = D2 at *
        generalize D1.heap.size = b at *
        try simp only [Act.put, List.setIfInBounds_toArray, List.set_cons_zero, List.set_cons_succ]
        refine held_one 6 (by kernel_rfl) rfl (by rfl) ?_
        refine wp_enter ?_
        apply Exists.intro
        apply Exists.intro
        refine ⟨?_, ?_⟩
        · go_simp
          first | done | rfl | exact ⟨rfl, rfl⟩
        refine (KM.out _).mono ?_
        rintro e D3 ⟨rfl, hb⟩
        replace hS := hS.go hb
        replace rO := rO.stay hb
        refine ⟨_, rfl, hS, ?_⟩
        clear hb
        try simp only [Act.put, List.setIfInBounds_toArray, List.set_cons_zero, List.set_cons_succ]
        refine held_one 7 (by kernel_rfl) rfl (by rfl) ?_
        refine wp_enter ?_
        apply Exists.intro
        apply Exists.intro
        refine ⟨?_, ?_⟩
        · go_simp
          first | done | rfl | exact ⟨rfl, rfl⟩
        refine (KC5.out _ hS.1).mono ?_
        rintro e D4 ⟨hb, ⟨aw, nw, kw⟩, rfl, hzc⟩
        have hszD := hS.1.size
        replace hS := hS.go hb
        have hltD := rO.lt
        replace rO := rO.stay hb
        replace hzc : FldsAt (fun k => b < k) D4 (.slice aw nw kw) F4 := hzc.mono fun i hi _ => by omega
        refine ⟨_, rfl, hS, ?_⟩
        clear hb
        try simp only [Act.put, List.setIfInBounds_toArray, List.set_cons_zero, List.set_cons_succ]
        refine held_val 8 rfl (by kernel_rfl) (by kernel_rfl) (by kernel_rfl) (fun _ _ _ _ h => h) (by rfl) hS ?_
        apply Exists.intro
        refine ⟨fun w' hw' => ?_, ?_⟩
        · skip
          go_simp
          first | done | rfl | exact ⟨rfl, rfl⟩
        simp only [Act.put, List.setIfInBounds_toArray, List.set_cons_zero, List.set_cons_succ]
        refine held_val 9 rfl (by kernel_rfl) (by kernel_rfl) (by kernel_rfl) (fun _ _ _ _ h => h) (by rfl) hS ?_
        apply Exists.intro
        refine ⟨fun w' hw' => ?_, ?_⟩
        · skip
          go_simp
          first | done | rfl | exact ⟨rfl, rfl⟩
        simp only [Act.put, List.setIfInBounds_toArray, List.set_cons_zero, List.set_cons_succ]
        refine held_val 10 rfl (by kernel_rfl) (by kernel_rfl) (by kernel_rfl) (fun _ _ _ _ h => h) (by rfl) hS ?_
        apply Exists.intro
        refine ⟨fun w' hw' => ?_, ?_⟩
        · skip
          go_simp
          first | done | rfl | exact ⟨rfl, rfl⟩
        simp only [Act.put, List.setIfInBounds_toArray, List.set_cons_zero, List.set_cons_succ]
        have z0 := Rw.frozen rO 0
        have z1 := Rw.frozen rO 1
        have z2 := Rw.frozen rO 2
        have z3 := Rw.frozen rO 3
        have z4 := Rw.frozen rO 4
        have z5 := Rw.frozen rO 5
        have u0 := Rw.cell rO 0
        have u1 := Rw.cell rO 1
        have u2 := Rw.cell rO 2
        have u3 := Rw.cell rO 3
        have u4 := Rw.cell rO 4
        have u5 := Rw.cell rO 5
        simp only [List.getElem?_cons_zero, List.getElem?_cons_succ] at u0 u1 u2 u3 u4 u5
        have rO2 := rO.set6 (.string ⟨S4.toArray⟩) (.slice aw nw kw) (.int .i64 L4) (.int .u32 C4) (.int .i64 P4) (.int .i64 Q4)
        have hB9 := below_set6 hS.1 hOb (.string ⟨S4.toArray⟩) (.slice aw nw kw) (.int .i64 L4) (.int .u32 C4) (.int .i64 P4) (.int .i64 Q4)
        have hz9 : FldsAt (fun _ => True) ((((((D4.setCell ⟨b, 0, none⟩ (.string ⟨S4.toArray⟩)).setCell ⟨b, 1, none⟩ (.slice aw nw kw)).setCell ⟨b, 2, none⟩ (.int .i64 L4)).setCell ⟨b, 3, none⟩ (.int .u32 C4)).setCell ⟨b, 4, none⟩ (.int .i64 P4)).setCell ⟨b, 5, none⟩ (.int .i64 Q4)) (.slice aw nw kw) F4 :=
          (hzc.keepN (S := fun k => k = b) ((((((Asd.one D4 b 0 _).set1 1 _).set1 2 _).set1 3 _).set1 4 _).set1 5 _) (fun i hi _ e => by have hi2 : b < i := hi; omega)).mono fun _ _ _ => trivial
        refine held_one 12 (by kernel_rfl) rfl (by rfl) ?_
        refine wp_skip (w' := (((((D4.setCell ⟨b, 0, none⟩ (.string ⟨S4.toArray⟩)).setCell ⟨b, 1, none⟩ (.slice aw nw kw)).setCell ⟨b, 2, none⟩ (.int .i64 L4)).setCell ⟨b, 3, none⟩ (.int .u32 C4)).setCell ⟨b, 4, none⟩ (.int .i64 P4)).setCell ⟨b, 5, none⟩ (.int .i64 Q4)) ?_ rfl ?_
        · go_simp
          done
        replace hS := hCL.out _ hB9
        refine ⟨hS, ?_⟩
        generalize (((((D4.setCell ⟨b, 0, none⟩ (.string ⟨S4.toArray⟩)).setCell ⟨b, 1, none⟩ (.slice aw nw kw)).setCell ⟨b, 2, none⟩ (.int .i64 L4)).setCell ⟨b, 3, none⟩ (.int .u32 C4)).setCell ⟨b, 4, none⟩ (.int .i64 P4)).setCell ⟨b, 5, none⟩ (.int .i64 Q4) = D5 at *
        try simp only [Act.put, List.setIfInBounds_toArray, List.set_cons_zero, List.set_cons_succ]
        clear z0 z1 z2 z3 z4 z5 u0 u1 u2 u3 u4 u5
        refine held_val 13 rfl (by kernel_rfl) (by kernel_rfl) (by kernel_rfl) (fun _ _ _ _ h => h) (by rfl) hS ?_
        apply Exists.intro
        refine ⟨fun w' hw' => ?_, ?_⟩
        · skip
          go_simp
          first | done | rfl | exact ⟨rfl, rfl⟩
        simp only [Act.put, List.setIfInBounds_toArray, List.set_cons_zero, List.set_cons_succ]
        refine wpAnyH_done (by kernel_rfl) ?_ _
        go_wp2_with fail
        go_meet
        exact ⟨b, rfl, rfl, ⟨aw, nw, kw⟩, rO2, hz9, hB9⟩
    case rest =>
      obtain ⟨bW, rfl, rfl, ⟨aw, nw, kw⟩, rW, hw, hb⟩ := hcut
      generalize wc = wn at *
      simp only [Sl.v] at rW hw
      replace hB := hB.trans (hb.mono hB.size)
      replace rX := rX.stay hb
      replace hu := hu.stay hb
      replace rU := rU.stay hb
      replace hr := hr.stay hb
      replace rR := rR.stay hb
      clear hb KC5 hCL hx rP rT hu
      have hwas := HP2 ()
      clear HP2
      subst hwas
      have e0 := Rw.cell rX 0
      have e1 := Rw.cell rX 1
      have e2 := Rw.cell rX 2
      have e3 := Rw.cell rX 3
      have e4 := Rw.cell rX 4
      have e5 := Rw.cell rX 5
      simp only [List.getElem?_cons_zero, List.getElem?_cons_succ] at e0 e1 e2 e3 e4 e5
      have p0 := Rw.cell rU 0
      have p1 := Rw.cell rU 1
      have p2 := Rw.cell rU 2
      have p3 := Rw.cell rU 3
      have p4 := Rw.cell rU 4
      have p5 := Rw.cell rU 5
      simp only [List.getElem?_cons_zero, List.getElem?_cons_succ] at p0 p1 p2 p3 p4 p5
      have g0 := Rw.cell rR 0
      have g1 := Rw.cell rR 1
      have g2 := Rw.cell rR 2
      have g3 := Rw.cell rR 3
      have g4 := Rw.cell rR 4
      have g5 := Rw.cell rR 5
      simp only [List.getElem?_cons_zero, List.getElem?_cons_succ] at g0 g1 g2 g3 g4 g5
      have t0 := Rw.cell rW 0
      have t1 := Rw.cell rW 1
      have t2 := Rw.cell rW 2
      have t3 := Rw.cell rW 3
      have t4 := Rw.cell rW 4
      have t5 := Rw.cell rW 5
      simp only [List.getElem?_cons_zero, List.getElem?_cons_succ] at t0 t1 t2 t3 t4 t5
      have K1 := KS.out ⟨ar, nr, kr⟩ ⟨aw, nw, kw⟩ wn hr hw
      simp only at K1
      replace K1 := Lib.hid K1
      clear KS hr hw
      cases ok
      · simp only [Bool.false_and] at *
        clear HP3 HP4
        go_wp2_with fail
        go_ret
        exact ⟨rfl, hB⟩
      obtain ⟨e1L, e1C, hfi⟩ := HP4 () rfl
      subst e1L e1C
      clear HP4
      rw [hfi] at KFi
      clear hfi
      cases is
      · simp only [Bool.and_false] at *
        clear HP3
        go_wp2_with fail
        refine (KFi.out ⟨au, nu, ku⟩ _).mono ?_
        rintro e wn2 ⟨rfl, hb⟩
        replace hB := hB.trans (hb.mono hB.size)
        go_wp2_with fail
        go_ret
        exact ⟨rfl, hB⟩
      · simp only [Bool.and_self] at *
        have hsm := HP3 () (by trivial)
        subst hsm
        clear HP3
        go_wp2_with fail
        refine K1.out.mono ?_
        rintro e wn3 ⟨rfl, hb⟩
        replace hB := hB.trans (hb.mono hB.size)
        replace rX := rX.stay hb
        replace rU := rU.stay hb
        clear hb K1
        clear e0 e1 e2 e3 e4 e5 p0 p1 p2 p3 p4 p5 g0 g1 g2 g3 g4 g5 t0 t1 t2 t3 t4 t5
        have e0 := Rw.cell rX 0
        have e1 := Rw.cell rX 1
        have e2 := Rw.cell rX 2
        have e3 := Rw.cell rX 3
        have e4 := Rw.cell rX 4
        have e5 := Rw.cell rX 5
        simp only [List.getElem?_cons_zero, List.getElem?_cons_succ] at e0 e1 e2 e3 e4 e5
        have p0 := Rw.cell rU 0
        have p1 := Rw.cell rU 1
        have p2 := Rw.cell rU 2
        have p3 := Rw.cell rU 3
        have p4 := Rw.cell rU 4
        have p5 := Rw.cell rU 5
        simp only [List.getElem?_cons_zero, List.getElem?_cons_succ] at p0 p1 p2 p3 p4 p5
        go_wp2_with fail
        refine (KFi.out ⟨au, nu, ku⟩ _).mono ?_
        rintro e wn2 ⟨rfl, hb⟩
        replace hB := hB.trans (hb.mono hB.size)
        go_wp2_with fail
        go_ret
        exact ⟨rfl, hB⟩
end Go.Proofs.YtknhkmlihbgjpaaDoor
