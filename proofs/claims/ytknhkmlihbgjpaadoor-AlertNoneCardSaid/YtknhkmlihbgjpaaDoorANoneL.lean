/- AlertNone returns true: the law. -/
import Derived.Test.YtknhkmlihbgjpaaDoorAGood9
namespace Go.Proofs.YtknhkmlihbgjpaaDoor
open Go.ChangeShapes Go.WideShapes Go.RowKit

theorem vis_nil (l c m d : Int) (F : List (Bs × Bs)) : visF [] l c m d F = if flB l c m d then F else [] := by
  have e : ∀ f : Bs × Bs, seenB [] l c m d f = flB l c m d := fun f => rfl
  unfold visF
  simp only [funext e]
  cases flB l c m d with
  | true => exact List.filter_eq_self.2 fun _ _ => rfl
  | false => exact List.filter_eq_nil_iff.2 fun _ _ => by simp
theorem cut_nil (l c m d : Int) (F : List (Bs × Bs)) : cutB [] l c m d F = (flB l c m d && decide (0 < F.length)) := by
  unfold cutB
  rw [vis_nil]
  cases flB l c m d <;> cases F <;> simp
theorem same_self (s : Bs) (F : List (Bs × Bs)) (l c p q : Int) : sameB s s F F l c p q l c p q = true := by
  unfold sameB
  simp
set_option maxHeartbeats 12800000 in
set_option maxRecDepth 100000 in
theorem none_law (P : Nat → Prop) (s : Bs) (y : Sl) (fs : List (Bs × Bs)) (l c p q m0 d0 m1 d1 : Int) (w : World) (ht : Dg.Tabs w) (h : FldsAt P w y.v fs) (hs : s.length ≤ 9223372036854775807) (hl : fs.length ≤ 9223372036854775807) (hfl : ∀ f ∈ fs, f.1.length ≤ 9223372036854775807 ∧ f.2.length ≤ 9223372036854775807) (hc : U32 c) (hd0 : U32 d0) (hd1 : U32 d1) :
    Calls Tryd.prog 10 #[alV s y.v l c p q, .agg #[.int .i64 m0, .int .u32 d0, .int .i64 m1, .int .u32 d1]] w fun e w' => e = .returned (.bool true) ∧ Below w.heap.size w w' := by
  have KL := Lib.hid fun w' (hb : Below w.heap.size w w') => lives_any w' (ht.keep hb)
  have KG := Lib.hid fun w' (hb : Below w.heap.size w w') => good9_any P s y fs l c p q w' (h.stay hb) hs hl hfl
  have hgl := (good_gd fs).len
  obtain ⟨ay, ny, ky⟩ := y
  clear h hl hfl ht hs
  unfold alV at *
  simp only [Sl.v] at KG ⊢
  generalize goodN fs = F at *
  generalize gS s = S at *
  generalize gL l = L at *
  generalize gP p = P0 at *
  have KC := Lib.hid fun (z : Sl) (q' m d : Int) (hd : U32 d) (w' : World) (hz : FldsAt (fun _ => True) w' z.v F) => cut_any (fun _ => True) (fun _ => True) ⟨none, 0, 0⟩ ⟨none, 0, 0⟩ ⟨none, 0, 0⟩ ⟨none, 0, 0⟩ ⟨none, 0, 0⟩ ⟨none, 0, 0⟩ z S [] F L c m d P0 q' w' hz (by omega) (.inl ⟨rfl, none, 0, rfl⟩) (by decide) (fun _ h => by cases h) hc hd
  have KF := Lib.hid fun (m d : Int) (hd : U32 d) w' => Lb.rflows_any L c m d hc.1 hc.2 hd.1 hd.2 w'
  have KF2 := Lib.hid fun w' => Lb.rflows_any m1 d1 m0 d0 hd1.1 hd1.2 hd0.1 hd0.2 w'
  have HTR : Unit → flB L c m1 d1 = true → flB m1 d1 m0 d0 = true → flB L c m0 d0 = true := fun _ a b => flB_trans a b
  go_enter Tryd.func10, Tryd.ntmps10
  go_upto_region 1 with fail
  obtain ⟨rI, rT, hB⟩ := put2n w 27 66 [.string ⟨s.toArray⟩, .slice ay ny ky, .int .i64 l, .int .u32 c, .int .i64 p, .int .i64 q] [.int .i64 m0, .int .u32 d0, .int .i64 m1, .int .u32 d1]
  generalize (w.alloc (.cells #[.string ⟨s.toArray⟩, .slice ay ny ky, .int .i64 l, .int .u32 c, .int .i64 p, .int .i64 q] 27)).alloc (.cells #[.int .i64 m0, .int .u32 d0, .int .i64 m1, .int .u32 d1] 66) = w1 at *
  go_wp2_with fail
  refine (KL.out _ hB).mono ?_
  rintro e w2 ⟨rfl, hb⟩
  have hB2 := hB.trans (hb.mono hB.size)
  replace rI := rI.stay hb
  replace rT := rT.stay hb
  clear KL hb hB
  have a0 := Rw.cell rI 0
  have a1 := Rw.cell rI 1
  have a2 := Rw.cell rI 2
  have a3 := Rw.cell rI 3
  have a4 := Rw.cell rI 4
  have a5 := Rw.cell rI 5
  simp only [List.getElem?_cons_zero, List.getElem?_cons_succ] at a0 a1 a2 a3 a4 a5
  go_wp2_with fail
  refine (KG.out _ hB2).mono ?_
  rintro e w3 ⟨⟨ag, ng, kg⟩, Q0, rfl, hz, hb⟩
  have hB3 := hB2.trans (hb.mono hB2.size)
  replace rT := rT.stay hb
  clear KG hb hB2 rI a0 a1 a2 a3 a4 a5
  simp only at hz ⊢
  have hal : Below w3.heap.size w3 (w3.alloc (.cells #[.string ⟨S.toArray⟩, .slice ag ng kg, .int .i64 L, .int .u32 c, .int .i64 P0, .int .i64 Q0] 27)) := (Below.refl _ _).alloc (Nat.le_refl _) _
  have rG : Rw (w3.alloc (.cells #[.string ⟨S.toArray⟩, .slice ag ng kg, .int .i64 L, .int .u32 c, .int .i64 P0, .int .i64 Q0] 27)) w3.heap.size 27 [.string ⟨S.toArray⟩, .slice ag ng kg, .int .i64 L, .int .u32 c, .int .i64 P0, .int .i64 Q0] := Rw.new w3 27 [.string ⟨S.toArray⟩, .slice ag ng kg, .int .i64 L, .int .u32 c, .int .i64 P0, .int .i64 Q0]
  have hB4 := hB3.trans (hal.mono hB3.size)
  replace hz := hz.stay hal
  replace rT := rT.stay hal
  go_upto_region 4 with fail
  generalize w3.alloc (.cells #[.string ⟨S.toArray⟩, .slice ag ng kg, .int .i64 L, .int .u32 c, .int .i64 P0, .int .i64 Q0] 27) = w4 at *
  generalize w3.heap.size = bG at *
  clear hal hB3
  have a0 := Rw.cell rG 0
  have a1 := Rw.cell rG 1
  have a2 := Rw.cell rG 2
  have a3 := Rw.cell rG 3
  have a4 := Rw.cell rG 4
  have a5 := Rw.cell rG 5
  simp only [List.getElem?_cons_zero, List.getElem?_cons_succ] at a0 a1 a2 a3 a4 a5
  have KB := back_any (fun _ => True) S ⟨ag, ng, kg⟩ F L c P0 Q0 w4 hz (by omega)
  unfold alV at KB
  rw [List.take_of_length_le (by omega : F.length ≤ 12)] at KB
  simp only [Sl.v] at KB
  replace KB := Lib.hid KB
  go_wp2_with fail
  refine KB.out.mono ?_
  rintro e w5 ⟨⟨ax, nx, kx⟩, rfl, hx, hb⟩
  have hB5 := hB4.trans (hb.mono hB4.size)
  replace rT := rT.stay hb
  clear KB hb hB4 hz rG a0 a1 a2 a3 a4 a5
  simp only at hx ⊢
  have hal : Below w5.heap.size w5 (w5.alloc (.cells #[.string ⟨S.toArray⟩, .slice ax nx kx, .int .i64 L, .int .u32 c, .int .i64 P0, .int .i64 Q0] 29)) := (Below.refl _ _).alloc (Nat.le_refl _) _
  have rX : Rw (w5.alloc (.cells #[.string ⟨S.toArray⟩, .slice ax nx kx, .int .i64 L, .int .u32 c, .int .i64 P0, .int .i64 Q0] 29)) w5.heap.size 29 [.string ⟨S.toArray⟩, .slice ax nx kx, .int .i64 L, .int .u32 c, .int .i64 P0, .int .i64 Q0] := Rw.new w5 29 [.string ⟨S.toArray⟩, .slice ax nx kx, .int .i64 L, .int .u32 c, .int .i64 P0, .int .i64 Q0]
  have hB6 := hB5.trans (hal.mono hB5.size)
  replace hx := hx.stay hal
  replace rT := rT.stay hal
  go_upto_region 5 with fail
  generalize w5.alloc (.cells #[.string ⟨S.toArray⟩, .slice ax nx kx, .int .i64 L, .int .u32 c, .int .i64 P0, .int .i64 Q0] 29) = w6 at *
  generalize w5.heap.size = bX at *
  clear hal hB5
  have a0 := Rw.cell rX 0
  have a1 := Rw.cell rX 1
  have a2 := Rw.cell rX 2
  have a3 := Rw.cell rX 3
  have a4 := Rw.cell rX 4
  have a5 := Rw.cell rX 5
  simp only [List.getElem?_cons_zero, List.getElem?_cons_succ] at a0 a1 a2 a3 a4 a5
  have t0 := Rw.cell rT 0
  have t1 := Rw.cell rT 1
  simp only [List.getElem?_cons_zero, List.getElem?_cons_succ] at t0 t1
  have K0 := KC.out ⟨ax, nx, kx⟩ Q0 m0 d0 hd0 w6 hx
  unfold alV at K0
  simp only [Sl.v] at K0
  replace K0 := Lib.hid K0
  go_wp2_with fail
  refine K0.out.mono ?_
  rintro e w7 ⟨hb, hcut⟩
  have hB7 := hB6.trans (hb.mono hB6.size)
  replace hx := hx.stay hb
  replace rT := rT.stay hb
  replace rX := rX.stay hb
  clear K0 hb hB6 a0 a1 a2 a3 a4 a5 t0 t1
  have hfe : (F.length : Int) = 0 ∨ 0 < (F.length : Int) := by omega
  rw [cut_nil] at hcut
  rcases hfe with hF0 | hFp
  · have hF0 : F.length = 0 := by omega
    have hsm : decide (0 < F.length) = false := decide_eq_false (by omega)
    simp only [hsm, Bool.and_false] at hcut ⊢
    rcases hcut with ⟨_, rfl⟩ | ⟨hyes, _⟩
    · unfold alV
      have hal : Below w7.heap.size w7 (w7.alloc (.cells #[.string ⟨#[]⟩, .slice none 0 0, .int .i64 0, .int .u32 0, .int .i64 0, .int .i64 0] 29)) := (Below.refl _ _).alloc (Nat.le_refl _) _
      have rB : Rw (w7.alloc (.cells #[.string ⟨#[]⟩, .slice none 0 0, .int .i64 0, .int .u32 0, .int .i64 0, .int .i64 0] 29)) w7.heap.size 29 [.string ⟨#[]⟩, .slice none 0 0, .int .i64 0, .int .u32 0, .int .i64 0, .int .i64 0] := Rw.new w7 29 [.string ⟨#[]⟩, .slice none 0 0, .int .i64 0, .int .u32 0, .int .i64 0, .int .i64 0]
      have hB8 := hB7.trans (hal.mono hB7.size)
      replace hx := hx.stay hal
      replace rT := rT.stay hal
      replace rX := rX.stay hal
      go_upto_region 6 with fail
      generalize w7.alloc (.cells #[.string ⟨#[]⟩, .slice none 0 0, .int .i64 0, .int .u32 0, .int .i64 0, .int .i64 0] 29) = w8 at *
      clear hal hB7
      have hBw8 := hB8
      clear hB8
      have a0 := Rw.cell rX 0
      have a1 := Rw.cell rX 1
      have a2 := Rw.cell rX 2
      have a3 := Rw.cell rX 3
      have a4 := Rw.cell rX 4
      have a5 := Rw.cell rX 5
      simp only [List.getElem?_cons_zero, List.getElem?_cons_succ] at a0 a1 a2 a3 a4 a5
      have t2 := Rw.cell rT 2
      have t3 := Rw.cell rT 3
      simp only [List.getElem?_cons_zero, List.getElem?_cons_succ] at t2 t3
      have K1 := KC.out ⟨ax, nx, kx⟩ Q0 m1 d1 hd1 w8 hx
      unfold alV at K1
      simp only [Sl.v] at K1
      replace K1 := Lib.hid K1
      go_wp2_with fail
      refine K1.out.mono ?_
      rintro e y7 ⟨hb, hcut⟩
      have hBy := hBw8.trans (hb.mono hBw8.size)
      replace rT := rT.stay hb
      clear K1 hb hBw8 a0 a1 a2 a3 a4 a5 t2 t3
      rw [cut_nil] at hcut
      rcases hcut with ⟨hno, rfl⟩ | ⟨hyes, zz, rfl, _⟩
      · unfold alV
        go_wp2_with fail
        go_ret
        exact ⟨rfl, hBy.trans (((Below.refl _ _).alloc (Nat.le_refl _) _).mono hBy.size)⟩
      · exact absurd hyes (by rw [hF0]; simp)
    · cases hyes
  · have hsm : decide (0 < F.length) = true := decide_eq_true (by omega)
    simp only [hsm, Bool.and_true] at hcut ⊢
    rcases hcut with ⟨hA, rfl⟩ | ⟨hA, zb, rfl, hown⟩
    · unfold alV
      have hal : Below w7.heap.size w7 (w7.alloc (.cells #[.string ⟨#[]⟩, .slice none 0 0, .int .i64 0, .int .u32 0, .int .i64 0, .int .i64 0] 29)) := (Below.refl _ _).alloc (Nat.le_refl _) _
      have rB : Rw (w7.alloc (.cells #[.string ⟨#[]⟩, .slice none 0 0, .int .i64 0, .int .u32 0, .int .i64 0, .int .i64 0] 29)) w7.heap.size 29 [.string ⟨#[]⟩, .slice none 0 0, .int .i64 0, .int .u32 0, .int .i64 0, .int .i64 0] := Rw.new w7 29 [.string ⟨#[]⟩, .slice none 0 0, .int .i64 0, .int .u32 0, .int .i64 0, .int .i64 0]
      have hB8 := hB7.trans (hal.mono hB7.size)
      replace hx := hx.stay hal
      replace rT := rT.stay hal
      replace rX := rX.stay hal
      go_upto_region 6 with fail
      generalize w7.alloc (.cells #[.string ⟨#[]⟩, .slice none 0 0, .int .i64 0, .int .u32 0, .int .i64 0, .int .i64 0] 29) = w8 at *
      clear hal hB7
      have a2 := Rw.cell rX 2
      have a3 := Rw.cell rX 3
      simp only [List.getElem?_cons_zero, List.getElem?_cons_succ] at a2 a3
      have t0 := Rw.cell rT 0
      have t1 := Rw.cell rT 1
      simp only [List.getElem?_cons_zero, List.getElem?_cons_succ] at t0 t1
      have K3 := KF.out m0 d0 hd0 w8
      rw [hA] at K3
      replace K3 := Lib.hid K3
      go_wp2_with fail
      refine K3.out.mono ?_
      rintro e w9 ⟨rfl, hb⟩
      have hBw9 := hB8.trans (hb.mono hB8.size)
      replace hx := hx.stay hb
      replace rT := rT.stay hb
      replace rX := rX.stay hb
      replace rB := rB.stay hb
      clear K3 hb hB8 a2 a3 t0 t1
      have a0 := Rw.cell rX 0
      have a1 := Rw.cell rX 1
      have a2 := Rw.cell rX 2
      have a3 := Rw.cell rX 3
      have a4 := Rw.cell rX 4
      have a5 := Rw.cell rX 5
      simp only [List.getElem?_cons_zero, List.getElem?_cons_succ] at a0 a1 a2 a3 a4 a5
      have t2 := Rw.cell rT 2
      have t3 := Rw.cell rT 3
      simp only [List.getElem?_cons_zero, List.getElem?_cons_succ] at t2 t3
      have K1 := KC.out ⟨ax, nx, kx⟩ Q0 m1 d1 hd1 w9 hx
      unfold alV at K1
      simp only [Sl.v] at K1
      replace K1 := Lib.hid K1
      go_wp2_with fail
      refine K1.out.mono ?_
      rintro e y7 ⟨hb, hcut⟩
      have hBy := hBw9.trans (hb.mono hBw9.size)
      replace rT := rT.stay hb
      clear K1 hb hBw9 a0 a1 a2 a3 a4 a5 t2 t3
      rw [cut_nil] at hcut
      rcases hcut with ⟨hno, rfl⟩ | ⟨hyes, zz, rfl, _⟩
      · unfold alV
        go_wp2_with fail
        go_ret
        exact ⟨rfl, hBy.trans (((Below.refl _ _).alloc (Nat.le_refl _) _).mono hBy.size)⟩
      · unfold alV
        obtain ⟨a9, n9, k9⟩ := zz
        simp only [Sl.v]
        have hG : flB m1 d1 m0 d0 = false := by
          cases hg : flB m1 d1 m0 d0 with
          | false => rfl
          | true =>
            have := HTR () (by simpa using (Bool.and_eq_true .. ▸ hyes).1) hg
            rw [this] at hA
            cases hA
        have K2 := KF2.out
        rw [hG] at K2
        replace K2 := Lib.hid K2
        have hbt : y7.heap.size ≤ (y7.alloc (.cells #[.string ⟨S.toArray⟩, .slice a9 n9 k9, .int .i64 L, .int .u32 c, .int .i64 P0, .int .i64 Q0] 29)).heap.size := by simp
        have hal : Below y7.heap.size y7 (y7.alloc (.cells #[.string ⟨S.toArray⟩, .slice a9 n9 k9, .int .i64 L, .int .u32 c, .int .i64 P0, .int .i64 Q0] 29)) := (Below.refl _ _).alloc (Nat.le_refl _) _
        have hBz := hBy.trans (hal.mono hBy.size)
        replace rT := rT.stay hal
        go_upto_region 10 with fail
        generalize y7.alloc (.cells #[.string ⟨S.toArray⟩, .slice a9 n9 k9, .int .i64 L, .int .u32 c, .int .i64 P0, .int .i64 Q0] 29) = y8 at *
        have t0 := Rw.cell rT 0
        have t1 := Rw.cell rT 1
        have t2 := Rw.cell rT 2
        have t3 := Rw.cell rT 3
        simp only [List.getElem?_cons_zero, List.getElem?_cons_succ] at t0 t1 t2 t3
        go_wp2_with fail
        refine (K2.out _).mono ?_
        rintro e y9 ⟨rfl, hb⟩
        go_wp2_with fail
        go_ret
        exact ⟨rfl, hBz.trans (hb.mono hBz.size)⟩
    · rw [vis_nil, hA, if_pos rfl] at hown
      unfold alV
      obtain ⟨ab, nb, kb⟩ := zb
      simp only [Sl.v] at hown ⊢
      have hal : Below w7.heap.size w7 (w7.alloc (.cells #[.string ⟨S.toArray⟩, .slice ab nb kb, .int .i64 L, .int .u32 c, .int .i64 P0, .int .i64 Q0] 29)) := (Below.refl _ _).alloc (Nat.le_refl _) _
      have rB : Rw (w7.alloc (.cells #[.string ⟨S.toArray⟩, .slice ab nb kb, .int .i64 L, .int .u32 c, .int .i64 P0, .int .i64 Q0] 29)) w7.heap.size 29 [.string ⟨S.toArray⟩, .slice ab nb kb, .int .i64 L, .int .u32 c, .int .i64 P0, .int .i64 Q0] := Rw.new w7 29 [.string ⟨S.toArray⟩, .slice ab nb kb, .int .i64 L, .int .u32 c, .int .i64 P0, .int .i64 Q0]
      have hB8 := hB7.trans (hal.mono hB7.size)
      replace hx := hx.stay hal
      replace rT := rT.stay hal
      replace rX := rX.stay hal
      have hown8 := own_stay2 hown hal
      go_upto_region 6 with fail
      generalize w7.alloc (.cells #[.string ⟨S.toArray⟩, .slice ab nb kb, .int .i64 L, .int .u32 c, .int .i64 P0, .int .i64 Q0] 29) = w8 at *
      clear hal hB7
      have a2 := Rw.cell rX 2
      have a3 := Rw.cell rX 3
      simp only [List.getElem?_cons_zero, List.getElem?_cons_succ] at a2 a3
      have t0 := Rw.cell rT 0
      have t1 := Rw.cell rT 1
      simp only [List.getElem?_cons_zero, List.getElem?_cons_succ] at t0 t1
      have K3 := KF.out m0 d0 hd0 w8
      rw [hA] at K3
      replace K3 := Lib.hid K3
      go_wp2_with fail
      refine K3.out.mono ?_
      rintro e w9 ⟨rfl, hb⟩
      have hBw9 := hB8.trans (hb.mono hB8.size)
      replace hx := hx.stay hb
      replace rT := rT.stay hb
      replace rX := rX.stay hb
      replace rB := rB.stay hb
      replace hown8 := own_stay2 hown8 hb
      clear K3 hb hB8 a2 a3 t0 t1
      have KS := samea_any _ _ S S ⟨ab, nb, kb⟩ ⟨ax, nx, kx⟩ F F L c P0 Q0 L c P0 Q0 w9 (own_flds hown8) hx (by omega)
      rw [same_self] at KS
      unfold alV at KS
      simp only [Sl.v] at KS
      replace KS := Lib.hid KS
      have a0 := Rw.cell rX 0
      have a1 := Rw.cell rX 1
      have a2 := Rw.cell rX 2
      have a3 := Rw.cell rX 3
      have a4 := Rw.cell rX 4
      have a5 := Rw.cell rX 5
      simp only [List.getElem?_cons_zero, List.getElem?_cons_succ] at a0 a1 a2 a3 a4 a5
      have b0 := Rw.cell rB 0
      have b1 := Rw.cell rB 1
      have b2 := Rw.cell rB 2
      have b3 := Rw.cell rB 3
      have b4 := Rw.cell rB 4
      have b5 := Rw.cell rB 5
      simp only [List.getElem?_cons_zero, List.getElem?_cons_succ] at b0 b1 b2 b3 b4 b5
      go_wp2_with fail
      refine KS.out.mono ?_
      rintro e w10 ⟨rfl, hb⟩
      have hBw10 := hBw9.trans (hb.mono hBw9.size)
      replace hx := hx.stay hb
      replace rT := rT.stay hb
      replace rX := rX.stay hb
      clear KS hb hBw9 a0 a1 a2 a3 a4 a5 b0 b1 b2 b3 b4 b5
      have a0 := Rw.cell rX 0
      have a1 := Rw.cell rX 1
      have a2 := Rw.cell rX 2
      have a3 := Rw.cell rX 3
      have a4 := Rw.cell rX 4
      have a5 := Rw.cell rX 5
      simp only [List.getElem?_cons_zero, List.getElem?_cons_succ] at a0 a1 a2 a3 a4 a5
      have t2 := Rw.cell rT 2
      have t3 := Rw.cell rT 3
      simp only [List.getElem?_cons_zero, List.getElem?_cons_succ] at t2 t3
      have K1 := KC.out ⟨ax, nx, kx⟩ Q0 m1 d1 hd1 w10 hx
      unfold alV at K1
      simp only [Sl.v] at K1
      replace K1 := Lib.hid K1
      go_wp2_with fail
      refine K1.out.mono ?_
      rintro e y7 ⟨hb, hcut⟩
      have hBy := hBw10.trans (hb.mono hBw10.size)
      replace rT := rT.stay hb
      clear K1 hb hBw10 a0 a1 a2 a3 a4 a5 t2 t3
      rw [cut_nil] at hcut
      rcases hcut with ⟨hno, rfl⟩ | ⟨hyes, zz, rfl, _⟩
      · unfold alV
        go_wp2_with fail
        go_ret
        exact ⟨rfl, hBy.trans (((Below.refl _ _).alloc (Nat.le_refl _) _).mono hBy.size)⟩
      · unfold alV
        obtain ⟨a9, n9, k9⟩ := zz
        simp only [Sl.v]
        go_wp2_with fail
        go_ret
        exact ⟨rfl, hBy.trans (((Below.refl _ _).alloc (Nat.le_refl _) _).mono hBy.size)⟩
end Go.Proofs.YtknhkmlihbgjpaaDoor
