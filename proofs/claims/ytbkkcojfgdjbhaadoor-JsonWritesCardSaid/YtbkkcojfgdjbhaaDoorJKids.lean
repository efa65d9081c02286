/- A list or an object: the walk. -/
import Derived.Test.YtbkkcojfgdjbhaaDoorJCount
namespace Go.Proofs.YtbkkcojfgdjbhaaDoor
open Go.ChangeShapes Go.WideShapes Go.RowKit

/-- How many values were begun. -/
def countOf (w : World) (R : Nat) : Nat := match w.cell? ⟨R, 1, none⟩ with
  | some (.int _ n) => n.toNat
  | _ => 0
theorem Rq.counted {w : World} {R : Nat} {l : Bs} {n : Nat} {M : Value} (h : Rq w R l n M) : countOf w R = n := by
  unfold countOf
  rw [h.count]
  simp
theorem ent_any (d : Nat) (HV : VCt d) (R V mb : Nat) (kind : Int) (keys : List Bs) (kids : List J) (l : Bs) (n : Nat) (w : World) (h : Kst R V (.map (some mb)) kind (d + 1) keys kids l n w) (hE : Env w) (hm : Wm w mb) (hR : 10 ≤ R) (hmR : mb ≠ R) (hmV : mb < V) (hRV : R < V) (hl : l.length ≤ 1000000) (hn : n ≤ 400) (hkl : kids.length ≤ 400) (hkk : keys.length ≤ 400) :
    Calls Tryd.prog 70 #[.pointer (some ⟨R, 0, none⟩), .pointer (some ⟨V, 0, none⟩), .int .i64 (6 - (d : Int))] w (EntQ R V mb w d kind keys kids (entN (valN d) kind keys l n)) := by
  by_cases hk : kind = 6
  · subst hk
    exact ent_obj d HV R V mb keys kids l n w h hE hm hR hmR hmV hRV hl hn hkl hkk
  · exact ent_list d HV R V mb kind keys kids l n w h hE hm hR hmR hRV hl hn hkl hk
/-- A whole value is read. -/
theorem load_val {ops : Array Oper} {rest : List Oper} {o : Oper} {a : Act} {w : World} {Q : Exit → Act → World → Prop} (g : Nat) (t : TypeId) (cs : List Value) (hr : Rw w g t cs) (hn : cs.length = 5) (x : Operand) (hgd : o.guard = none) (ho : o.op = .load 29 x) (hx : a.eval x = .pointer (some ⟨g, 0, none⟩))
    (h : wpList Tryd.prog ops Q rest (a.put o.dst (.agg cs.toArray)) w) : wpList Tryd.prog ops Q (o :: rest) a w :=
  wpList_load_row hgd 29 x ho g hx t cs.toArray (0, 0) _ hr Tryd.underlying29 rfl (by rw [show cs.toArray.size = 5 by simp [hn]]; kernel_rfl) h
/-- What a list or an object is read as. -/
def kidsN (d : Nat) (kind : Int) (l : Bs) (n : Nat) : Rs (J × Nat) := match d with
  | 0 => .err 3
  | d + 1 => kidN (valN d) 401 kind [] [] (skipB l) n
/-- What lies in memory between two entries. -/
def Kl (w : World) (R V mb d kN : Nat) (l0 : Bs) (n0 : Nat) (f : Nat) (keys : List Bs) (kids : List J) (l : Bs) (n : Nat) (wr : World) : Prop :=
  kidN (valN d) 401 (kN : Int) [] [] l0 n0 = kidN (valN d) f (kN : Int) keys kids l n ∧ 401 + n0 ≤ f + n ∧ n0 ≤ n ∧ n ≤ 400 ∧ kids.length + n0 ≤ n ∧ keys.length ≤ kids.length ∧ l.length ≤ 1000000 ∧ Kst R V (.map (some mb)) (kN : Int) (d + 1) keys kids l n wr ∧ Asd (fun k => k = R ∨ V ≤ k) w wr

set_option maxHeartbeats 3200000 in
set_option maxRecDepth 100000 in
theorem kids_deep (R mb kN : Nat) (l : Bs) (n : Nat) (w : World) (hq : Rq w R l n (.map (some mb))) :
    Calls Tryd.prog 47 #[.pointer (some ⟨R, 0, none⟩), .int .i64 (kN : Int), .int .i64 6] w (ValQ R mb w 0 (.err 3)) := by
  have hz := zero_val
  go_enter Tryd.func47, Tryd.ntmps47
  go_wp2_with (refine store_arr w.heap.size 29 zero5 (Rw.new w _ zero5) 5 rfl 29 (by kernel_rfl) zero5 rfl (one5 _ _ _ rfl rfl) _ _ rfl rfl rfl rfl ?_)
  rw [World.setRow_alloc_new]
  refine ret_val w.heap.size 29 zero5 (Rw.new w _ _) rfl _ rfl rfl rfl rfl ?_
  exact ⟨⟨⟨zero5, rfl, rfl, one5 _ _ _ rfl rfl, rfl⟩, l, n, hq.stay ((Below.refl _ _).alloc (Nat.le_refl _) _)⟩, (Asd.refl _ _).alloc _⟩

set_option maxHeartbeats 3200000 in
set_option maxRecDepth 100000 in
theorem kids_any (d : Nat) (HV : VCt d) (R mb kN : Nat) (oc : UInt8) (l : Bs) (n : Nat) (w : World) (hq : Rq w R (oc :: l) n (.map (some mb))) (hE : Env w) (hm : Wm w mb) (hR : 10 ≤ R) (hmR : mb ≠ R) (hl : l.length ≤ 1000000) (hn : n ≤ 400) (hd : d < 6) (hk7 : kN < 7)
    (hop : [0, 0, 0, 0, 0, 91, 123][kN]? = some oc.toNat) (hcl : [0, 0, 0, 0, 0, 93, 125][kN]? = some (clN (kN : Int)).toNat) :
    Calls Tryd.prog 47 #[.pointer (some ⟨R, 0, none⟩), .int .i64 (kN : Int), .int .i64 (6 - ((d + 1 : Nat) : Int))] w (ValQ R mb w (d + 1) (kidsN (d + 1) (kN : Int) l n)) := by
  have hz := zero_val
  have hRw := Rw.lt hq
  have hmw := hm.lt
  have hd6 : (6 - ((d + 1 : Nat) : Int) == 6) = false := by rw [beq_eq_false_iff_ne]; omega
  have hki : (kN : Int) < 7 := by omega
  have HR : Unit → kidsN (d + 1) (kN : Int) l n = kidN (valN d) 401 (kN : Int) [] [] (skipB l) n := fun _ => rfl
  go_enter Tryd.func47, Tryd.ntmps47
  go_upto_region 4 with (refine store_arr (w.heap.size + 1) 29 zero5 (by have := Rw.new (w.alloc (.cells zero5.toArray 29)) 29 zero5; simpa using this) 5 rfl 29 (by kernel_rfl) (cells5 (kN : Int) 0 [] (.slice none 0 0) (.slice none 0 0)) rfl (one5 _ _ _ rfl rfl) _ _ rfl rfl rfl rfl ?_)
  have hb1 : Below w.heap.size w (w.alloc (.cells zero5.toArray 29)) := (Below.refl _ _).alloc (Nat.le_refl _) _
  have rN0 := Rw.new w 29 zero5
  have hsz1 : (w.alloc (.cells zero5.toArray 29)).heap.size = w.heap.size + 1 := by simp
  have rV0 := Rw.new (w.alloc (.cells zero5.toArray 29)) 29 zero5
  have hb2 : Below (w.alloc (.cells zero5.toArray 29)).heap.size (w.alloc (.cells zero5.toArray 29)) ((w.alloc (.cells zero5.toArray 29)).alloc (.cells zero5.toArray 29)) := (Below.refl _ _).alloc (Nat.le_refl _) _
  rw [hsz1] at rV0
  have rN1 := rN0.stay hb2
  have a1 : Asd (· = R) w ((w.alloc (.cells zero5.toArray 29)).alloc (.cells zero5.toArray 29)) := (Asd.of_below hb1).below hb2
  have rN := rN1.rowOther (k := w.heap.size + 1) (by omega) (cells5 (kN : Int) 0 [] (.slice none 0 0) (.slice none 0 0)).toArray
  have rV := rV0.row (cells5 (kN : Int) 0 [] (.slice none 0 0) (.slice none 0 0))
  have a2 := a1.setRow (g := w.heap.size + 1) (.inr (by omega)) (cells5 (kN : Int) 0 [] (.slice none 0 0) (.slice none 0 0)).toArray
  have hq2 : Rq (((w.alloc (.cells zero5.toArray 29)).alloc (.cells zero5.toArray 29)).setRow (w.heap.size + 1) (cells5 (kN : Int) 0 [] (.slice none 0 0) (.slice none 0 0)).toArray) R (oc :: l) n (.map (some mb)) := Rw.rowOther ((hq.stay hb1).stay hb2) (by omega) _
  have hE2 := hE.one a2 hR
  have hm2 := hm.keep a2 hmR
  have HA2 : Unit → Asd (· = R) w _ := fun _ => a2
  have hsz2 : w.heap.size + 1 < (((w.alloc (.cells zero5.toArray 29)).alloc (.cells zero5.toArray 29)).setRow (w.heap.size + 1) (cells5 (kN : Int) 0 [] (.slice none 0 0) (.slice none 0 0)).toArray).heap.size := Rw.lt rV
  simp only [Act.put]
  clear hb1 hb2 rN0 rN1 rV0 a1 hsz1 hq hE hm a2
  generalize ((w.alloc (.cells zero5.toArray 29)).alloc (.cells zero5.toArray 29)).setRow (w.heap.size + 1) (cells5 (kN : Int) 0 [] (.slice none 0 0) (.slice none 0 0)).toArray = W2 at *
  generalize hN : w.heap.size = N6 at *
  have HN : Unit → w.heap.size = N6 := fun _ => hN
  clear hN
  obtain ⟨V, hV⟩ : ∃ V, V = N6 + 1 := ⟨_, rfl⟩
  have HVV : Unit → V = N6 + 1 := fun _ => hV
  rw [← hV] at rV hsz2 ⊢
  have hRV : R < V := by omega
  have hmV : mb < V := by omega
  have hNV : N6 < V := by omega
  have hNR : N6 ≠ R := by omega
  clear hV
  have hKc : Kc V (kN : Int) (d + 1) [] [] (.slice none 0 0) (.slice none 0 0) [] W2 := ⟨rV, World.ownsRow_nil _ _ _ _, World.ownsRow_nil _ _ _ _, rfl, fun i cs kid h => by simp at h, .inl rfl⟩
  clear rV
  have co := hE2.opn kN oc.toNat hop
  generalize (zero5.set 0 (.int .i64 (kN : Int))).toArray = ZA
  go_wp2_with fail
  refine (take_hit R oc l n (.map (some mb)) W2 hq2).mono ?_
  rintro e w3 ⟨rfl, hq3, a3⟩
  clear co hq2
  go_wp2_with fail
  refine (skip_any R l n (.map (some mb)) w3 hq3).mono ?_
  rintro e w4 ⟨rfl, hq4, a4⟩
  replace a4 := a3.andThen a4
  clear a3 hq3
  go_upto_region 6 with fail
  have hK0 : Kl W2 R V mb d kN (skipB l) n 401 [] [] (skipB l) n w4 := ⟨rfl, by omega, Nat.le_refl _, hn, by simp, by simp, by have := skip_len l; omega, ⟨_, _, _, hq4, hKc.asd a4 (fun i e => by rw [e]; exact hRV)⟩, a4.any (fun i e => .inl e)⟩
  clear hq4 a4 hKc
  have hdd : 6 - ((d : Int) + 1) + 1 = 6 - (d : Int) := by omega
  go_loopw [9] (fun _ wr => ∃ f keys kids l' n', Kl W2 R V mb d kN (skipB l) n f keys kids l' n' wr) (fun _ wr => 401 - countOf wr R)
  case atStart => exact ⟨_, _, _, _, _, hK0⟩
  case round =>
    clear hK0
    obtain ⟨f, keys, kids, l', n', hkk, hf, hn0, hn4, hkn, hkl, hll, hst, hA⟩ := hrel
    have hEr := hE2.asd hA (fun i e => by rcases e with rfl | e; exact hR; omega)
    have hmr := hm2.keep hA (by rintro (e | e); exact hmR e; omega)
    have rNr := rN.keep hA (by rintro (e | e); exact hNR e; omega)
    have cc := hEr.cls kN _ hcl
    obtain ⟨f, rfl⟩ : ∃ f2, f = f2 + 1 := ⟨f - 1, by omega⟩
    have HK : Unit → kidN (valN d) 401 (kN : Int) [] [] (skipB l) n = _ := fun _ => hkk.trans (kid_step _ _ _ _ _ _ _)
    clear hkk
    by_cases hend : l'.head? = some (clN (kN : Int))
    · obtain ⟨r, rfl⟩ : ∃ r, l' = clN (kN : Int) :: r := by
        cases l' with
        | nil => cases hend
        | cons c r => simp at hend; exact ⟨r, by rw [hend]⟩
      rw [if_pos hend] at HK
      obtain ⟨cs, hqr, rVr, hJr⟩ := hst.val
      obtain ⟨h5, h1⟩ := hJr.five
      clear hst hend
      have KT := Lib.hid (take_hit R (clN (kN : Int)) r n' (.map (some mb)) wr hqr)
      go_wp2_with fail
      refine KT.out.mono ?_
      rintro e w5 ⟨rfl, hq5, a5⟩
      clear KT cc hqr
      have rV5 := rVr.keep a5 (by omega)
      have rN5 := rNr.keep a5 hNR
      have hJ5 := hJr.keep a5 (fun i hi _ e => by have hi : V < i := hi; omega)
      have A5 := hA.andThen (a5.any (S' := fun k => k = R ∨ V ≤ k) (fun i e => .inl e))
      clear a5 rVr rNr hJr hA
      go_wp2_with (first
        | (refine load_val V 29 cs rV5 h5 _ rfl rfl rfl ?_)
        | (refine store_arr N6 29 zero5 rN5 5 rfl 29 (by kernel_rfl) cs h5 h1 _ _ rfl rfl rfl rfl ?_))
      refine ret_val N6 29 cs (rN5.row _) h5 _ rfl rfl rfl rfl ?_
      refine ⟨?_, ((HA2 ()).trans A5 (fun i e hi => by rcases e with e | e; exact e; have := HN (); have := HVV (); omega)).setRow (.inr (by rw [HN ()]; exact Nat.le_refl _)) _⟩
      rw [HR (), HK ()]
      refine ⟨⟨cs, rfl, ?_⟩, Rw.rowOther hq5 (fun e => hNR e.symm) _⟩
      have k6 : Asd (· = N6) w5 (w5.setRow N6 cs.toArray) := (Asd.refl (· = N6) w5).setRow (g := N6) (.inl rfl) _
      refine (hJ5.keep k6 (fun i hi _ e => by have hi : V < i := hi; omega)).mono (fun i hi _ => ?_)
      have hi : V < i := hi
      have := HN ()
      omega
    · rw [if_neg hend] at HK
      obtain ⟨kv, dv, css, hqr, hcr⟩ := hst
      have KT := Lib.hid (take_miss R (clN (kN : Int)) l' n' (.map (some mb)) wr hqr hend _ rfl)
      obtain ⟨ad, cap, rfl, hcap⟩ := own_slice hcr.2.2.1
      have c4 : wr.cell? ⟨V, 4, none⟩ = some (.slice ad kids.length cap) := Rw.cell hcr.1 4
      have hcn := hqr.counted
      by_cases hk0 : kids = []
      · subst hk0
        rw [show nextN ([] : List J).isEmpty l' = some l' from rfl] at HK
        simp only at HK
        obtain ⟨l1, hl1⟩ : ∃ l1, l1 = l' := ⟨_, rfl⟩
        rw [← hl1] at HK
        go_wp2_with fail
        refine KT.out.mono ?_
        rintro e w5 ⟨rfl, rfl⟩
        clear KT cc
        have hsX : Kst R V (.map (some mb)) (kN : Int) (d + 1) keys [] l1 n' w5 := ⟨_, _, _, by rw [hl1]; exact hqr, hcr⟩
        have hlX : l1.length ≤ 1000000 := by rw [hl1]; exact hll
        have hl1' : l1.length ≤ l'.length := by rw [hl1]; exact Nat.le_refl _
        have hEX := hEr
        have hmX := hmr
        have rNX := rNr
        have AX := hA
        clear hqr hcr hl1 hEr hmr rNr hA
        have KE := Lib.hid (ent_any d HV R V mb (kN : Int) keys [] l1 n' w5 hsX hEX hmX hR hmR hmV hRV hlX hn4 (by omega) (by omega))
        have hgd := @ent_good (valN d) (val_good d) (kN : Int) keys l1 n'
        cases he : entN (valN d) (kN : Int) keys l1 n' with
        | err er =>
          rw [he] at KE HK
          go_wp2_with fail
          refine KE.out.mono ?_
          rintro e w6 ⟨⟨rfl, hne, r6, n6, hq6⟩, a6⟩
          clear KE
          have rN6 := rNX.keep a6 (by rintro (e | e); exact hNR e; omega)
          have A6 := AX.andThen a6
          go_wp2_with (refine store_arr N6 29 zero5 rN6 5 rfl 29 (by kernel_rfl) zero5 rfl (one5 _ _ _ rfl rfl) _ _ rfl rfl rfl rfl ?_)
          refine ret_val N6 29 zero5 (rN6.row _) rfl _ rfl rfl rfl rfl ?_
          refine ⟨?_, ((HA2 ()).trans A6 (fun i e hi => by rcases e with e | e; exact e; have := HN (); have := HVV (); omega)).setRow (.inr (by rw [HN ()]; exact Nat.le_refl _)) _⟩
          rw [HR (), HK ()]
          exact ⟨⟨zero5, rfl, rfl, one5 _ _ _ rfl rfl, hne⟩, r6, n6, Rw.rowOther hq6 (fun e => hNR e.symm) _⟩
        | ok x r6 =>
          obtain ⟨s6, j6, n6⟩ := x
          obtain ⟨hg1, hg2, hg3⟩ := hgd hn4 he
          rw [he] at KE HK
          go_wp2_with fail
          refine KE.out.mono ?_
          rintro e w6 ⟨⟨rfl, hs6⟩, a6⟩
          clear KE
          have A6 := AX.andThen a6
          have hc6 : countOf w6 R = n6 := by obtain ⟨_, _, _, q6, _⟩ := hs6; exact q6.counted
          have hK6 : Kl W2 R V mb d kN (skipB l) n f (if (kN : Int) = 6 then keys ++ [s6] else keys) ([] ++ [j6]) r6 n6 w6 := by
            refine ⟨HK (), by omega, by omega, hg2, by simp only [List.length_append, List.length_cons, List.length_nil] at hkn ⊢; omega, ?_, by omega, hs6, A6⟩
            split
            · simp only [List.length_append, List.length_cons, List.length_nil] at hkl ⊢; omega
            · simp only [List.length_append, List.length_cons, List.length_nil] at hkl ⊢; omega
          clear hs6 a6 A6 HK hsX AX rNX hEX hmX
          go_wp2_with fail
          go_roundw
          case rel => exact ⟨_, _, _, _, _, hK6⟩
          case measure => rw [hc6, hcn]; omega
      · have hpos : (0 : Int) < (kids.length : Int) := by have := List.length_pos_iff.2 hk0; omega
        have hie : kids.isEmpty = false := by cases kids; exact absurd rfl hk0; rfl
        rw [hie] at HK
        by_cases hcm : l'.head? = some 44
        · obtain ⟨r, rfl⟩ : ∃ r, l' = 44 :: r := by
            cases l' with
            | nil => cases hcm
            | cons c r => simp at hcm; exact ⟨r, by rw [hcm]⟩
          rw [show nextN false (44 :: r) = some (skipB r) from rfl] at HK
          simp only at HK
          have hsk := skip_len r
          simp at hll
          obtain ⟨l1, hl1⟩ : ∃ l1, l1 = skipB r := ⟨_, rfl⟩
          rw [← hl1] at HK hsk
          have KC := Lib.hid (comma_hit R r n' (.map (some mb)) wr hqr)
          rw [← hl1] at KC
          go_wp2_with fail
          refine KT.out.mono ?_
          rintro e w5 ⟨rfl, rfl⟩
          clear KT cc
          go_wp2_with fail
          refine KC.out.mono ?_
          rintro e w9 ⟨rfl, hq9, a9⟩
          clear KC c4 hqr
          have hsX : Kst R V (.map (some mb)) (kN : Int) (d + 1) keys kids l1 n' w9 := ⟨_, _, _, hq9, hcr.asd a9 (fun i e => by rw [e]; exact hRV)⟩
          have hlX : l1.length ≤ 1000000 := by omega
          have hEX := hEr.one a9 hR
          have hmX := hmr.keep a9 hmR
          have rNX := rNr.keep a9 hNR
          have AX := hA.andThen (a9.any (S' := fun k => k = R ∨ V ≤ k) (fun i e => .inl e))
          clear hq9 hcr hl1 hEr hmr rNr hA a9
          have KE := Lib.hid (ent_any d HV R V mb (kN : Int) keys kids l1 n' w9 hsX hEX hmX hR hmR hmV hRV hlX hn4 (by omega) (by omega))
          have hgd := @ent_good (valN d) (val_good d) (kN : Int) keys l1 n'
          cases he : entN (valN d) (kN : Int) keys l1 n' with
          | err er =>
            rw [he] at KE HK
            go_wp2_with fail
            refine KE.out.mono ?_
            rintro e w6 ⟨⟨rfl, hne, r6, n6, hq6⟩, a6⟩
            clear KE
            have rN6 := rNX.keep a6 (by rintro (e | e); exact hNR e; omega)
            have A6 := AX.andThen a6
            go_wp2_with (refine store_arr N6 29 zero5 rN6 5 rfl 29 (by kernel_rfl) zero5 rfl (one5 _ _ _ rfl rfl) _ _ rfl rfl rfl rfl ?_)
            refine ret_val N6 29 zero5 (rN6.row _) rfl _ rfl rfl rfl rfl ?_
            refine ⟨?_, ((HA2 ()).trans A6 (fun i e hi => by rcases e with e | e; exact e; have := HN (); have := HVV (); omega)).setRow (.inr (by rw [HN ()]; exact Nat.le_refl _)) _⟩
            rw [HR (), HK ()]
            exact ⟨⟨zero5, rfl, rfl, one5 _ _ _ rfl rfl, hne⟩, r6, n6, Rw.rowOther hq6 (fun e => hNR e.symm) _⟩
          | ok x r6 =>
            obtain ⟨s6, j6, n6⟩ := x
            obtain ⟨hg1, hg2, hg3⟩ := hgd hn4 he
            rw [he] at KE HK
            go_wp2_with fail
            refine KE.out.mono ?_
            rintro e w6 ⟨⟨rfl, hs6⟩, a6⟩
            clear KE
            have A6 := AX.andThen a6
            have hc6 : countOf w6 R = n6 := by obtain ⟨_, _, _, q6, _⟩ := hs6; exact q6.counted
            have hK6 : Kl W2 R V mb d kN (skipB l) n f (if (kN : Int) = 6 then keys ++ [s6] else keys) (kids ++ [j6]) r6 n6 w6 := by
              refine ⟨HK (), by omega, by omega, hg2, by simp only [List.length_append, List.length_cons, List.length_nil] at hkn ⊢; omega, ?_, by omega, hs6, A6⟩
              split
              · simp only [List.length_append, List.length_cons, List.length_nil] at hkl ⊢; omega
              · simp only [List.length_append, List.length_cons, List.length_nil] at hkl ⊢; omega
            clear hs6 a6 A6 HK hsX AX rNX hEX hmX
            go_wp2_with fail
            go_roundw
            case rel => exact ⟨_, _, _, _, _, hK6⟩
            case measure => rw [hc6, hcn]; omega
        · have hnx : nextN false l' = none := by
            cases l' with
            | nil => rfl
            | cons c r => simp at hcm; simp [nextN, hcm]
          rw [hnx] at HK
          simp only at HK
          have KC := Lib.hid (comma_miss R l' n' (.map (some mb)) wr hqr hcm)
          go_wp2_with fail
          refine KT.out.mono ?_
          rintro e w5 ⟨rfl, rfl⟩
          clear KT cc
          go_wp2_with fail
          refine KC.out.mono ?_
          rintro e w9 ⟨rfl, rfl⟩
          clear KC c4
          go_wp2_with (refine store_arr N6 29 zero5 rNr 5 rfl 29 (by kernel_rfl) zero5 rfl (one5 _ _ _ rfl rfl) _ _ rfl rfl rfl rfl ?_)
          refine ret_val N6 29 zero5 (rNr.row _) rfl _ rfl rfl rfl rfl ?_
          refine ⟨?_, ((HA2 ()).trans hA (fun i e hi => by rcases e with e | e; exact e; have := HN (); have := HVV (); omega)).setRow (.inr (by rw [HN ()]; exact Nat.le_refl _)) _⟩
          rw [HR (), HK ()]
          exact ⟨⟨zero5, rfl, rfl, one5 _ _ _ rfl rfl, rfl⟩, _, _, Rw.rowOther hqr (fun e => hNR e.symm) _⟩
end Go.Proofs.YtbkkcojfgdjbhaaDoor
