/- policy.Visible: the fields whose label flows to a label. -/
import Derived.Test.YtknhkmlihbgjpaaDoorAOwn
namespace Go.Proofs.YtknhkmlihbgjpaaDoor
open Go.ChangeShapes Go.WideShapes Go.RowKit

def seenB (ns : List Nd) (l c m d : Int) (f : Bs × Bs) : Bool := flB (raisedL ns f.1 l) (raisedC ns f.1 l c) m d
def visF (ns : List Nd) (l c m d : Int) (fs : List (Bs × Bs)) : List (Bs × Bs) := fs.filter (seenB ns l c m d)
theorem vis_take {ns : List Nd} {l c m d : Int} {fs : List (Bs × Bs)} {k : Nat} {f : Bs × Bs} (h : fs[k]? = some f) : visF ns l c m d (fs.take (k + 1)) = visF ns l c m d (fs.take k) ++ (if seenB ns l c m d f then [f] else []) := by
  unfold visF
  rw [List.take_add_one, h, List.filter_append]
  cases hb : seenB ns l c m d f <;> simp [hb]
theorem vis_len (ns : List Nd) (l c m d : Int) (fs : List (Bs × Bs)) : (visF ns l c m d fs).length ≤ fs.length := List.length_filter_le _ _
set_option maxHeartbeats 6400000 in
set_option maxRecDepth 100000 in
theorem visible_any (P P' : Nat → Prop) (x0 x1 x2 x3 x4 x5 : Sl) (v : Value) (ns : List Nd) (fs : List (Bs × Bs)) (l c m d : Int) (w : World) (h : FldsAt P w v fs) (hl : fs.length ≤ 1000) (hn : NdsAt P' w x3.v ns) (hnl : ns.length ≤ 9223372036854775807) (hu : ∀ m ∈ ns, U32 m.c) (hc : U32 c) (hd : U32 d) :
    Calls Tryd.prog 51 #[.agg #[x0.v, x1.v, x2.v, x3.v, x4.v, x5.v], v, .agg #[.int .i64 l, .int .u32 c], .agg #[.int .i64 m, .int .u32 d]] w fun e w' => ∃ v', e = .returned v' ∧ w'.ownsRow w.heap.size 64 2 v' (visF ns l c m d fs).length ((visF ns l c m d fs).map encF).flatten ∧ Below w.heap.size w w' := by
  have KR := Lib.hid fun f w' (hb : Below w.heap.size w w') => raised_any P' x0 x1 x2 x3 x4 x5 ns f l c w' (hn.stay hb) hnl hu hc
  have KF := Lib.hid fun f w' => (flows_any (raisedL ns f l) (raisedC ns f l c) m d (raisedC_u hu hc).1 (raisedC_u hu hc).2 hd.1 hd.2 w')
  clear hn hnl hu hc hd
  obtain ⟨a, c0, rfl⟩ := h.shape
  obtain ⟨n, hn⟩ : ∃ n, fs.length = n := ⟨_, rfl⟩
  rw [hn] at hl h ⊢
  have HN : Unit → fs.length = n := fun _ => hn
  clear hn
  obtain ⟨F, hF⟩ : ∃ F, visF ns l c m d fs = F := ⟨_, rfl⟩
  rw [hF]
  have HF : Unit → visF ns l c m d fs = F := fun _ => hF
  clear hF
  have HL : Unit → ∀ i, (visF ns l c m d (fs.take i)).length ≤ 1000 := fun _ i => Nat.le_trans (vis_len ns l c m d _) (by rw [List.length_take]; have := HN (); omega)
  obtain ⟨a0, n0, k0⟩ := x0
  obtain ⟨a1, n1, k1⟩ := x1
  obtain ⟨a2, n2, k2⟩ := x2
  obtain ⟨a3, n3, k3⟩ := x3
  obtain ⟨a4, n4, k4⟩ := x4
  obtain ⟨a5, n5, k5⟩ := x5
  simp only [Sl.v] at KR ⊢
  go_enter Tryd.func51, Tryd.ntmps51
  go_upto_region 3 with fail
  obtain ⟨rP, rB, rT, hB⟩ := put3n w 50 25 25 [.slice a0 n0 k0, .slice a1 n1 k1, .slice a2 n2 k2, .slice a3 n3 k3, .slice a4 n4 k4, .slice a5 n5 k5] [.int .i64 l, .int .u32 c] [.int .i64 m, .int .u32 d]
  generalize ((w.alloc (.cells #[.slice a0 n0 k0, .slice a1 n1 k1, .slice a2 n2 k2, .slice a3 n3 k3, .slice a4 n4 k4, .slice a5 n5 k5] 50)).alloc (.cells #[.int .i64 l, .int .u32 c] 25)).alloc (.cells #[.int .i64 m, .int .u32 d] 25) = w1 at *
  have hsz := hB.size
  generalize hbp : w.heap.size + 1 + 1 = bT at rT ⊢
  generalize hbb : w.heap.size + 1 = bB at rB ⊢
  generalize hba : w.heap.size = bP at rP ⊢
  have HBP : Unit → w.heap.size = bP := fun _ => hba
  clear hbp hbb hba
  go_loopw [9, 14] (fun u9 u14 wr => ∃ (i : Nat) (O : List (Bs × Bs)), u14 = .int .i64 (i : Int) ∧ i ≤ n ∧ O = visF ns l c m d (fs.take i) ∧ wr.ownsRow w1.heap.size 64 2 u9 O.length (O.map encF).flatten ∧ Below w1.heap.size w1 wr) (fun _ u14 _ => n - (intOf u14).toNat)
  case atStart => exact ⟨0, [], rfl, Nat.zero_le _, rfl, World.ownsRow_nil _ _ _ _, Below.refl _ _⟩
  case round =>
    obtain ⟨i, O, rfl, hin, hO, hown, hB1⟩ := hrel
    have HOO : Unit → O = visF ns l c m d (fs.take i) := fun _ => hO
    have hOl : O.length ≤ 1000 := by rw [hO]; exact HL () i
    clear hO
    obtain ⟨aO, cO, rfl, _⟩ := own_slice hown
    have hszr := hB1.size
    have hB2 := hB.trans (hB1.mono hsz)
    by_cases hlt : i < n
    · have hki : (i : Int) < (n : Int) := by omega
      obtain ⟨f, hf⟩ : ∃ f, fs[i]? = some f := ⟨_, List.getElem?_eq_getElem (by have := HN (); omega)⟩
      obtain ⟨g, o, rfl, _, hgl, c0, c1⟩ := (h.stay hB2).part hf
      have HNX : Unit → visF ns l c m d (fs.take (i + 1)) = O ++ (if seenB ns l c m d f then [f] else []) := fun _ => by rw [vis_take hf, HOO ()]
      clear hf
      obtain ⟨f1, f2⟩ := f
      simp only at *
      go_upto_region 5 with fail
      have hal := (Below.refl wr.heap.size wr).alloc (Nat.le_refl _) (.cells #[.string ⟨f1.toArray⟩, .string ⟨f2.toArray⟩] 64)
      have rM : Rw (wr.alloc (.cells #[.string ⟨f1.toArray⟩, .string ⟨f2.toArray⟩] 64)) wr.heap.size 64 [.string ⟨f1.toArray⟩, .string ⟨f2.toArray⟩] := Rw.new wr 64 [.string ⟨f1.toArray⟩, .string ⟨f2.toArray⟩]
      have hown1 := own_stay2 hown hal
      have hB3 := hB1.trans (hal.mono hszr)
      generalize wr.alloc (.cells #[.string ⟨f1.toArray⟩, .string ⟨f2.toArray⟩] 64) = w2 at *
      generalize wr.heap.size = b at *
      have hB4 := hB.trans (hB3.mono hsz)
      clear hown hB1 hB2 hal c0 c1
      have hS : CL w2 [(⟨bP, 0, none⟩, .slice a0 n0 k0), (⟨bP, 1, none⟩, .slice a1 n1 k1), (⟨bP, 2, none⟩, .slice a2 n2 k2), (⟨bP, 3, none⟩, .slice a3 n3 k3), (⟨bP, 4, none⟩, .slice a4 n4 k4), (⟨bP, 5, none⟩, .slice a5 n5 k5), (⟨b, 0, none⟩, .string ⟨f1.toArray⟩), (⟨bB, 0, none⟩, .int .i64 l), (⟨bB, 1, none⟩, .int .u32 c), (⟨bT, 0, none⟩, .int .i64 m), (⟨bT, 1, none⟩, .int .u32 d)] { w2 with drawn := w2.drawn + 1 } :=
        CL.drew ((((((((((((CL.nil w2).row (rT.stay hB3) 1 rfl).row (rT.stay hB3) 0 rfl).row (rB.stay hB3) 1 rfl).row (rB.stay hB3) 0 rfl).row rM 0 rfl).row (rP.stay hB3) 5 rfl).row (rP.stay hB3) 4 rfl).row (rP.stay hB3) 3 rfl).row (rP.stay hB3) 2 rfl).row (rP.stay hB3) 1 rfl).row (rP.stay hB3) 0 rfl)
      have KR1 := Lib.hid fun w' (hb : Below w2.heap.size w2 w') => KR.out f1 w' (hB4.trans (hb.mono hB4.size))
      have KF1 := Lib.hid (KF.out f1)
      have hsn : seenB ns l c m d (f1, f2) = flB (raisedL ns f1 l) (raisedC ns f1 l c) m d := rfl
      rw [hsn] at HNX
      clear hsn
      go_cut [24] from 18 to 23 (fun u24 wx => u24 = .bool (flB (raisedL ns f1 l) (raisedC ns f1 l c) m d) ∧ Below w2.heap.size w2 wx)
      case first =>
        generalize raisedL ns f1 l = RL at *
        generalize raisedC ns f1 l c = RC at *
        refine wp_region_held (S := CL w2 [(⟨bP, 0, none⟩, .slice a0 n0 k0), (⟨bP, 1, none⟩, .slice a1 n1 k1), (⟨bP, 2, none⟩, .slice a2 n2 k2), (⟨bP, 3, none⟩, .slice a3 n3 k3), (⟨bP, 4, none⟩, .slice a4 n4 k4), (⟨bP, 5, none⟩, .slice a5 n5 k5), (⟨b, 0, none⟩, .string ⟨f1.toArray⟩), (⟨bB, 0, none⟩, .int .i64 l), (⟨bB, 1, none⟩, .int .u32 c), (⟨bT, 0, none⟩, .int .i64 m), (⟨bT, 1, none⟩, .int .u32 d)]) (by kernel_rfl) ?_
        generalize { w2 with drawn := w2.drawn + 1 } = D1 at *
        refine held_val 0 rfl (by kernel_rfl) (by kernel_rfl) (by kernel_rfl) (fun _ _ _ _ h => h) (by rfl) hS ?_
        apply Exists.intro
        refine ⟨fun w' hw' => ?_, ?_⟩
        · have e0 := hw'.at 0 rfl; have e1 := hw'.at 1 rfl; have e2 := hw'.at 2 rfl; have e3 := hw'.at 3 rfl; have e4 := hw'.at 4 rfl; have e5 := hw'.at 5 rfl
          go_simp
          first | done | rfl | exact ⟨rfl, rfl⟩
        simp only [Act.put, List.setIfInBounds_toArray, List.set_cons_zero, List.set_cons_succ]
        refine held_val 1 rfl (by kernel_rfl) (by kernel_rfl) (by kernel_rfl) (fun _ _ _ _ h => h) (by rfl) hS ?_
        apply Exists.intro
        refine ⟨fun w' hw' => ?_, ?_⟩
        · have e6 := hw'.at 6 rfl; have e7 := hw'.at 7 rfl; have e8 := hw'.at 8 rfl; have e9 := hw'.at 9 rfl; have e10 := hw'.at 10 rfl
          go_simp
          first | done | rfl | exact ⟨rfl, rfl⟩
        simp only [Act.put, List.setIfInBounds_toArray, List.set_cons_zero, List.set_cons_succ]
        refine held_val 2 rfl (by kernel_rfl) (by kernel_rfl) (by kernel_rfl) (fun _ _ _ _ h => h) (by rfl) hS ?_
        apply Exists.intro
        refine ⟨fun w' hw' => ?_, ?_⟩
        · have e6 := hw'.at 6 rfl; have e7 := hw'.at 7 rfl; have e8 := hw'.at 8 rfl; have e9 := hw'.at 9 rfl; have e10 := hw'.at 10 rfl
          go_simp
          first | done | rfl | exact ⟨rfl, rfl⟩
        simp only [Act.put, List.setIfInBounds_toArray, List.set_cons_zero, List.set_cons_succ]
        refine held_val 3 rfl (by kernel_rfl) (by kernel_rfl) (by kernel_rfl) (fun _ _ _ _ h => h) (by rfl) hS ?_
        apply Exists.intro
        refine ⟨fun w' hw' => ?_, ?_⟩
        · have e6 := hw'.at 6 rfl; have e7 := hw'.at 7 rfl; have e8 := hw'.at 8 rfl; have e9 := hw'.at 9 rfl; have e10 := hw'.at 10 rfl
          go_simp
          first | done | rfl | exact ⟨rfl, rfl⟩
        simp only [Act.put, List.setIfInBounds_toArray, List.set_cons_zero, List.set_cons_succ]
        refine held_val 5 rfl (by kernel_rfl) (by kernel_rfl) (by kernel_rfl) (fun _ _ _ _ h => h) (by rfl) hS ?_
        apply Exists.intro
        refine ⟨fun w' hw' => ?_, ?_⟩
        · have e6 := hw'.at 6 rfl; have e7 := hw'.at 7 rfl; have e8 := hw'.at 8 rfl; have e9 := hw'.at 9 rfl; have e10 := hw'.at 10 rfl
          go_simp
          first | done | rfl | exact ⟨rfl, rfl⟩
        simp only [Act.put, List.setIfInBounds_toArray, List.set_cons_zero, List.set_cons_succ]
        refine held_call 4 (by kernel_rfl) rfl (by rfl) ?_
        apply Exists.intro
        apply Exists.intro
        refine ⟨?_, ?_⟩
        · go_simp
          first | done | rfl | exact ⟨rfl, rfl⟩
        refine (KR1.out _ hS.1).mono ?_
        rintro e wA ⟨heA, hbA⟩
        replace hS := hS.go hbA
        refine ⟨_, heA, hS, ?_⟩
        simp only [Act.put, List.setIfInBounds_toArray, List.set_cons_zero, List.set_cons_succ]
        clear heA hbA
        refine held_call 6 (by kernel_rfl) rfl (by rfl) ?_
        apply Exists.intro
        apply Exists.intro
        refine ⟨?_, ?_⟩
        · go_simp
          first | done | rfl | exact ⟨rfl, rfl⟩
        refine (KF1.out _).mono ?_
        rintro e wB ⟨heB, hbB⟩
        replace hS := hS.go hbB
        refine ⟨_, heB, hS, ?_⟩
        simp only [Act.put, List.setIfInBounds_toArray, List.set_cons_zero, List.set_cons_succ]
        refine wpAnyH_done (by kernel_rfl) ?_ _
        have hb5 := hS.1
        go_wp2_with fail
        go_meet
        exact ⟨rfl, hb5⟩
      case rest =>
        obtain ⟨rfl, hB6⟩ := hcut
        generalize wc = w6 at *
        replace rM := rM.stay hB6
        have hown2 := own_stay2 hown1 hB6
        have hB7 := hB3.trans (hB6.mono hB3.size)
        have hsz7 := hB7.size
        clear hown1 hB3 hB4 hB6 hS KR1 KF1
        have d0 := Rw.cell rM 0
        have d1 := Rw.cell rM 1
        simp only [List.getElem?_cons_zero, List.getElem?_cons_succ] at d0 d1
        cases he : flB (raisedL ns f1 l) (raisedC ns f1 l c) m d with
        | false =>
          rw [he] at HNX
          have HNY : Unit → visF ns l c m d (fs.take (i + 1)) = O := fun _ => by rw [HNX ()]; simp
          clear HNX
          go_wp2_with fail
          go_roundw
          case rel => exact ⟨i + 1, O, by go_num, by omega, (HNY ()).symm, hown2, hB7⟩
          case measure => simp [intOf]; omega
        | true =>
          rw [he] at HNX
          have HNY : Unit → visF ns l c m d (fs.take (i + 1)) = O ++ [(f1, f2)] := fun _ => by rw [HNX ()]; simp
          clear HNX
          go_upto_region 6 with fail
          have hal := (Below.refl w6.heap.size w6).alloc (Nat.le_refl _) (.cells #[.string ⟨f1.toArray⟩, .string ⟨f2.toArray⟩] 64)
          have hown3 := own_stay2 hown2 hal
          have rY : Rw (w6.alloc (.cells #[.string ⟨f1.toArray⟩, .string ⟨f2.toArray⟩] 64)) w6.heap.size 64 (encF (f1, f2)) := Rw.new w6 64 [.string ⟨f1.toArray⟩, .string ⟨f2.toArray⟩]
          have hB8 := hB7.alloc hB7.size (.cells #[.string ⟨f1.toArray⟩, .string ⟨f2.toArray⟩] 64)
          clear hown2 hal
          go_wp2_with (refine wpList_own_fld _ _ rfl rfl w1.heap.size _ O (f1, f2) rfl hown3 w6.heap.size rfl rY (by omega) (by have := hB8.size; omega) ?_)
          intro v5 w5 hO5 hg5 _
          have hB9 := hB8.grown hg5 hB8.size (fun j e => (hown3.lt j e).1)
          obtain ⟨g5, c5, rfl⟩ := own_succ hO5
          clear hown3 rY hg5 hB8
          go_wp2_with fail
          go_roundw
          case rel => exact ⟨i + 1, O ++ [(f1, f2)], by go_num, by omega, (HNY ()).symm, by rw [List.length_append, flds_snoc2]; exact hO5, hB9⟩
          case measure => simp [intOf]; omega
    · have hFO : O = F := by
        rw [HOO (), ← HF (), List.take_of_length_le (by have := HN (); omega)]
      subst hFO
      have HOW : Unit → _ := fun _ => hown
      clear hown
      have hki : ¬ (i : Int) < (n : Int) := by omega
      go_wp2_with fail
      go_ret
      exact ⟨_, rfl, own_mono (HOW ()) hsz, hB2⟩
end Go.Proofs.YtknhkmlihbgjpaaDoor
