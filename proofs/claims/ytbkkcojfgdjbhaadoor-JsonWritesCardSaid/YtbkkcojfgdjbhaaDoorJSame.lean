/- Values that are the same. -/
import Derived.Test.YtbkkcojfgdjbhaaDoorJFitsStep
import Derived.Test.YtbkkcojfgdjbhaaDoorShelfC
namespace Go.Proofs.YtbkkcojfgdjbhaaDoor
open Go.ChangeShapes Go.WideShapes Go.RowKit

theorem equal_any (P P' : Nat → Prop) (v v' : Value) (ss : List Bs) (w : World) (h : StrsAt P w v ss) (h' : StrsAt P' w v' ss) (hl : ss.length ≤ 1000000) :
    Calls Tryd.prog 28 #[v, v'] w fun e w' => e = .returned (.bool true) ∧ Below w.heap.size w w' := by
  by_cases h0 : ss = []
  · subst h0
    obtain ⟨a, c, rfl⟩ : ∃ a c, v = .slice a 0 c := by
      rcases h with ⟨_, a, c, rfl⟩ | ⟨g, o, c, rfl, _⟩
      · exact ⟨a, c, rfl⟩
      · exact ⟨_, c, rfl⟩
    obtain ⟨a', c', rfl⟩ : ∃ a c, v' = .slice a 0 c := by
      rcases h' with ⟨_, a, c, rfl⟩ | ⟨g, o, c, rfl, _⟩
      · exact ⟨a, c, rfl⟩
      · exact ⟨_, c, rfl⟩
    refine (Tryd.slices_Equal_string_empty a a' c 0 c' w (by omega)).mono fun e w' h => ?_
    obtain ⟨rfl, rfl⟩ := h
    exact ⟨rfl, Below.refl _ _⟩
  · rcases h with ⟨h1, _⟩ | ⟨g, o, c, rfl, _, _, _, hc⟩
    · exact absurd h1 h0
    · rcases h' with ⟨h1, _⟩ | ⟨g', o', c', rfl, _, _, _, hc'⟩
      · exact absurd h1 h0
      · refine (Tryd.slices_Equal_string g o ss.length c g' o' ss.length c' (ss.map fun s => (⟨s.toArray⟩ : ByteArray)) (ss.map fun s => (⟨s.toArray⟩ : ByteArray)) w (by simp) (by simp) (by omega) (by omega) (fun j hj => ?_) (fun j hj => ?_)).mono fun e w' h => ?_
        · have hj' : j < ss.length := by simpa using hj
          rw [hc j _ (List.getElem?_eq_getElem hj')]
          simp [hj']
        · have hj' : j < ss.length := by simpa using hj
          rw [hc' j _ (List.getElem?_eq_getElem hj')]
          simp [hj']
        · obtain ⟨he, q, rfl⟩ := h
          exact ⟨by rw [he]; simp, ⟨rfl, rfl, rfl, Nat.le_refl _, fun _ _ => rfl⟩⟩
/-- The contract of Same, of values that are the same, at most D deep. -/
def SCt (D : Nat) : Prop := ∀ (P P' : Nat → Prop) (D' : Nat) (cs cs' : List Value) (j : J) (w : World), JAt P w D cs j → JAt P' w D' cs' j → Siz D j →
  Calls Tryd.prog 18 #[.agg cs.toArray, .agg cs'.toArray] w fun e w' => e = .returned (.bool true) ∧ Below w.heap.size w w'
/-- The kids of a value, in memory. -/
def KidsAt (P : Nat → Prop) (w : World) (D : Nat) (dv : Value) (kids : List J) : Prop := (kids = [] ∧ ∃ a c, dv = .slice a 0 c) ∨ ∃ g o c, dv = .slice (some ⟨g, o, none⟩) kids.length c ∧ P g ∧ g < w.heap.size ∧
      ∀ (i : Nat) kid, kids[i]? = some kid → ∃ cs', cs'.length = 5 ∧ (∀ (j : Nat) u, cs'[j]? = some u → w.cell? ⟨g, o + 5 * i + j, none⟩ = some u) ∧ JAt P w D cs' kid
theorem KidsAt.stay {P : Nat → Prop} {w w' : World} {D : Nat} {dv : Value} {kids : List J} (h : KidsAt P w D dv kids) (k : Below w.heap.size w w') : KidsAt P w' D dv kids := by
  rcases h with h | ⟨g, o, c, e2, hp, hlt, hc⟩
  · exact .inl h
  · refine .inr ⟨g, o, c, e2, hp, Nat.lt_of_lt_of_le hlt k.size, fun i kid hi => ?_⟩
    obtain ⟨cs', h5, h6, h7⟩ := hc i kid hi
    exact ⟨cs', h5, fun j u hu => by rw [k.cell hlt]; exact h6 j u hu, h7.keep (S := fun _ => False) (Asd.of_below k) (fun _ _ _ h => h)⟩
theorem KidsAt.shape {P : Nat → Prop} {w : World} {D : Nat} {dv : Value} {kids : List J} (h : KidsAt P w D dv kids) : ∃ a c, dv = .slice a kids.length c := by
  rcases h with ⟨rfl, a, c, rfl⟩ | ⟨g, o, c, rfl, _⟩
  · exact ⟨a, c, rfl⟩
  · exact ⟨_, c, rfl⟩
theorem KidsAt.kid {P : Nat → Prop} {w : World} {D : Nat} {a : Option Addr} {n c : Nat} {kids : List J} (h : KidsAt P w D (.slice a n c) kids) {q : Nat} {kid : J} (hq : kids[q]? = some kid) :
    ∃ g o cs, a = some ⟨g, o, none⟩ ∧ cs.length = 5 ∧ (∀ (j : Nat) u, cs[j]? = some u → w.cell? ⟨g, o + q * 5 + j, none⟩ = some u) ∧ JAt P w D cs kid := by
  rcases h with ⟨rfl, _⟩ | ⟨g, o, c, e, _, _, hc⟩
  · simp at hq
  · injection e with e1 e2 e3
    obtain ⟨cs', h5, h6, h7⟩ := hc q kid hq
    exact ⟨g, o, cs', e1, h5, fun j u hu => by rw [Nat.mul_comm q 5]; exact h6 j u hu, h7⟩
theorem JAt.open {P : Nat → Prop} {w : World} {D : Nat} {cs : List Value} {k n : Int} {s : Bs} {keys : List Bs} {kids : List J} (h : JAt P w D cs (.mk k n s keys kids)) : ∃ D' kv dv, D = D' + 1 ∧ cs = cells5 k n s kv dv ∧ StrsAt P w kv keys ∧ KidsAt P w D' dv kids := by
  cases D with
  | zero => exact h.elim
  | succ D =>
    obtain ⟨kv, dv, e, hk, hd⟩ := h
    exact ⟨D, kv, dv, rfl, e, hk, hd⟩
set_option maxHeartbeats 3200000 in
set_option maxRecDepth 100000 in
theorem equalFunc_any (D : Nat) (HS : SCt D) (P P' : Nat → Prop) (D' : Nat) (dv dv' : Value) (kids : List J) (w : World) (h : KidsAt P w D dv kids) (h' : KidsAt P' w D' dv' kids) (hl : kids.length ≤ 1000000) (hz : ∀ kid ∈ kids, Siz D kid) :
    Calls Tryd.prog 29 #[dv, dv', .func (.func 18) #[] #[]] w fun e w' => e = .returned (.bool true) ∧ Below w.heap.size w w' := by
  obtain ⟨da, dc, rfl⟩ := h.shape
  obtain ⟨da', dc', rfl⟩ := h'.shape
  have H := Lib.hid h
  have H' := Lib.hid h'
  clear h h'
  go_enter Tryd.func29, Tryd.ntmps29
  go_upto_region 4 with fail
  go_loopw [17] (fun i wr => ∃ q : Nat, q ≤ kids.length ∧ i = .int .i64 (q : Int) ∧ Below w.heap.size w wr) (fun i _ => kids.length - (intOf i).toNat)
  case atStart => exact ⟨0, by omega, rfl, Below.refl _ _⟩
  case round =>
    obtain ⟨q, hq, rfl, hb⟩ := hrel
    by_cases hlt : q < kids.length
    · obtain ⟨kid, hkid⟩ : ∃ s, kids[q]? = some s := ⟨_, List.getElem?_eq_getElem hlt⟩
      obtain ⟨g, o, cs, hda, h5, hc, hJ⟩ := (H.out.stay hb).kid hkid
      obtain ⟨g', o', cs', hda', h5', hc', hJ'⟩ := (H'.out.stay hb).kid hkid
      subst hda hda'
      have hqi : (q : Int) < (kids.length : Int) := by omega
      obtain ⟨_, h1⟩ := hJ.five
      obtain ⟨_, h1'⟩ := hJ'.five
      have hzk := hz kid (List.mem_of_getElem? hkid)
      have rN := Rw.new wr 29 zero5
      clear hkid
      go_upto_region 6 with (first
        | (refine load5_at g (o + q * 5) cs h5 hc _ rfl rfl rfl ?_)
        | (refine store_arr wr.heap.size 29 zero5 rN 5 rfl 29 (by kernel_rfl) cs h5 h1 _ _ rfl rfl rfl rfl ?_))
      rw [World.setRow_alloc_new]
      clear rN
      have rT := Rw.new wr 29 cs
      have hbl : Below wr.heap.size wr (wr.alloc (.cells cs.toArray 29)) := (Below.refl _ _).alloc (Nat.le_refl _) _
      have hgl : g' < wr.heap.size ∨ ∀ (j : Nat) u, cs'[j]? = some u → False := by
        cases hx : cs'[0]? with
        | none => rw [List.getElem?_eq_none_iff, h5'] at hx; omega
        | some u => exact .inl (World.block_lt_of_cell? wr _ (hc' 0 u hx))
      replace hc' : ∀ (j : Nat) u, cs'[j]? = some u → (wr.alloc (.cells cs.toArray 29)).cell? ⟨g', o' + q * 5 + j, none⟩ = some u := fun j u hu => by
        rcases hgl with hgl | hgl
        · rw [hbl.cell hgl]; exact hc' j u hu
        · exact (hgl j u hu).elim
      replace hJ := hJ.keep (S := fun _ => False) (Asd.of_below hbl) (fun _ _ _ h => h)
      replace hJ' := hJ'.keep (S := fun _ => False) (Asd.of_below hbl) (fun _ _ _ h => h)
      replace hb := hb.trans (hbl.mono hb.size)
      clear hbl hc hgl
      generalize wr.heap.size = T at *
      generalize wr.alloc (.cells cs.toArray 29) = w1 at *
      have rN := Rw.new w1 29 zero5
      go_upto_region 7 with (first
        | (refine load5_at g' (o' + q * 5) cs' h5' hc' _ rfl rfl rfl ?_)
        | (refine store_arr w1.heap.size 29 zero5 rN 5 rfl 29 (by kernel_rfl) cs' h5' h1' _ _ rfl rfl rfl rfl ?_))
      rw [World.setRow_alloc_new]
      clear rN hc'
      have rT' := Rw.new w1 29 cs'
      have hbl : Below w1.heap.size w1 (w1.alloc (.cells cs'.toArray 29)) := (Below.refl _ _).alloc (Nat.le_refl _) _
      replace rT := rT.stay hbl
      replace hJ := hJ.keep (S := fun _ => False) (Asd.of_below hbl) (fun _ _ _ h => h)
      replace hJ' := hJ'.keep (S := fun _ => False) (Asd.of_below hbl) (fun _ _ _ h => h)
      replace hb := hb.trans (hbl.mono hb.size)
      clear hbl
      generalize w1.heap.size = T' at *
      generalize w1.alloc (.cells cs'.toArray 29) = w2 at *
      have K := Lib.hid (HS P P' D' cs cs' kid w2 hJ hJ' hzk)
      clear hJ hJ'
      go_wp2_with (first
        | (refine load_val T 29 cs rT h5 _ rfl rfl rfl ?_)
        | (refine load_val T' 29 cs' rT' h5' _ rfl rfl rfl ?_))
      refine K.out.mono ?_
      rintro e w3 ⟨rfl, hb3⟩
      replace hb := hb.trans (hb3.mono hb.size)
      clear K hb3 rT rT'
      go_wp2_with fail
      go_roundw
      case rel => exact ⟨q + 1, by omega, by go_num, hb⟩
      case measure => simp [intOf]; omega
    · obtain rfl : q = kids.length := by omega
      go_wp2_with fail
      go_ret
      exact ⟨rfl, hb⟩
set_option maxHeartbeats 800000 in
set_option maxRecDepth 100000 in
theorem same_step (D : Nat) (HS : ∀ d, D = d + 1 → SCt d) : SCt D := by
  intro P P' D' cs cs' j w hJ hJ' hS
  obtain ⟨k, n, s, keys, kids⟩ := j
  obtain ⟨d, kv, dv, rfl, rfl, hkv, hdv⟩ := hJ.open
  obtain ⟨d', kv', dv', rfl, rfl, hkv', hdv'⟩ := hJ'.open
  obtain ⟨_, hk1, _, hk2, hk3⟩ := hS
  have rA := Rw.new w 29 (cells5 k n s kv dv)
  have hb1 : Below w.heap.size w (w.alloc (.cells (cells5 k n s kv dv).toArray 29)) := (Below.refl _ _).alloc (Nat.le_refl _) _
  have hsz : (w.alloc (.cells (cells5 k n s kv dv).toArray 29)).heap.size = w.heap.size + 1 := by simp
  have rB := Rw.new (w.alloc (.cells (cells5 k n s kv dv).toArray 29)) 29 (cells5 k n s kv' dv')
  have hb2 : Below (w.alloc (.cells (cells5 k n s kv dv).toArray 29)).heap.size (w.alloc (.cells (cells5 k n s kv dv).toArray 29)) ((w.alloc (.cells (cells5 k n s kv dv).toArray 29)).alloc (.cells (cells5 k n s kv' dv').toArray 29)) := (Below.refl _ _).alloc (Nat.le_refl _) _
  replace rA := rA.stay hb2
  rw [hsz] at rB
  have hb := hb1.trans (hb2.mono hb1.size)
  clear hb1 hb2 hsz hJ hJ'
  go_enter Tryd.func18, Tryd.ntmps18
  go_upto_region 1 with fail
  generalize (w.alloc (.cells (cells5 k n s kv dv).toArray 29)).alloc (.cells (cells5 k n s kv' dv').toArray 29) = W at *
  have a0 := Rw.cell rA 0
  have a1 := Rw.cell rA 1
  have a2 := Rw.cell rA 2
  have a3 := Rw.cell rA 3
  have a4 := Rw.cell rA 4
  change _ = some (Value.int .i64 k) at a0
  change _ = some (Value.int .i64 n) at a1
  change _ = some (Value.string ⟨s.toArray⟩) at a2
  change _ = some kv at a3
  change _ = some dv at a4
  have b0 := Rw.cell rB 0
  have b1 := Rw.cell rB 1
  have b2 := Rw.cell rB 2
  have b3 := Rw.cell rB 3
  have b4 := Rw.cell rB 4
  change _ = some (Value.int .i64 k) at b0
  change _ = some (Value.int .i64 n) at b1
  change _ = some (Value.string ⟨s.toArray⟩) at b2
  change _ = some kv' at b3
  change _ = some dv' at b4
  have K1 := Lib.hid (equal_any P P' kv kv' keys W (hkv.keepN (S := fun _ => False) (Asd.of_below hb) (fun _ _ _ h => h)) (hkv'.keepN (S := fun _ => False) (Asd.of_below hb) (fun _ _ _ h => h)) hk1)
  have HW : Hid (∀ w2, Below W.heap.size W w2 → Calls Tryd.prog 29 #[dv, dv', .func (.func 18) #[] #[]] w2 fun e w' => e = .returned (.bool true) ∧ Below w2.heap.size w2 w') :=
    fun w2 h2 => equalFunc_any d (HS d rfl) P P' d' dv dv' kids w2 ((hdv.stay hb).stay h2) ((hdv'.stay hb).stay h2) hk2 hk3
  clear hkv hkv' hdv hdv' HS
  go_wp2_with fail
  trace_state
  refine K1.out.mono ?_
  rintro e w2 ⟨rfl, hb2⟩
  have K2 := Lib.hid (HW.out w2 hb2)
  have a4 := Rw.cell (rA.stay hb2) 4
  change _ = some dv at a4
  have b4 := Rw.cell (rB.stay hb2) 4
  change _ = some dv' at b4
  clear K1 HW
  go_wp2_with fail
  refine K2.out.mono ?_
  rintro e w3 ⟨rfl, hb3⟩
  have hbb := (hb.trans (hb2.mono hb.size)).trans (hb3.mono (Nat.le_trans hb.size hb2.size))
  clear K2
  go_wp2_with fail
  go_ret
  exact ⟨rfl, hbb⟩
theorem same_any (D : Nat) : SCt D := by
  induction D with
  | zero => exact same_step 0 (fun d e => by omega)
  | succ D ih => exact same_step (D + 1) (fun d e => by obtain rfl : D = d := by omega
                                                        exact ih)
end Go.Proofs.YtbkkcojfgdjbhaaDoor
