/- What stands by a key. -/
import Derived.Test.YtbkkcojfgdjbhaaDoorJCopied
import Derived.Test.YtbkkcojfgdjbhaaDoorJBackV
namespace Go.Proofs.YtbkkcojfgdjbhaaDoor
open Go.ChangeShapes Go.WideShapes Go.RowKit

/-- The place of the first key that is x. -/
def ixN : List Bs → Bs → Nat → Option Nat
  | [], _, _ => none
  | k :: r, x, i => if k = x then some i else ixN r x (i + 1)
def ixI (keys : List Bs) (x : Bs) : Int := match ixN keys x 0 with
  | some m => (m : Int)
  | none => -1
theorem ba_inj (a b : Bs) : ((⟨a.toArray⟩ : ByteArray) = ⟨b.toArray⟩) ↔ a = b := by
  constructor
  · intro h
    have := congrArg (fun s : ByteArray => s.data.toList) h
    simpa using this
  · intro h; rw [h]
theorem ix_is (keys : List Bs) (x : Bs) (i : Nat) : Lib.idxFromS (keys.map fun s => (⟨s.toArray⟩ : ByteArray)) ⟨x.toArray⟩ i = match ixN keys x i with
  | some m => (m : Int)
  | none => -1 := by
  induction keys generalizing i with
  | nil => rfl
  | cons k r ih =>
    rw [List.map_cons, Lib.idxFromS, ixN]
    by_cases h : k = x
    · rw [if_pos ((ba_inj k x).2 h), if_pos h]
    · rw [if_neg (fun e => h ((ba_inj k x).1 e)), if_neg h]; exact ih (i + 1)
theorem ix_lt {keys : List Bs} {x : Bs} {i m : Nat} (h : ixN keys x i = some m) : i ≤ m ∧ m < i + keys.length ∧ keys[m - i]? = some x := by
  induction keys generalizing i with
  | nil => cases h
  | cons k r ih =>
    rw [ixN] at h
    split at h
    · rename_i e
      cases h
      exact ⟨Nat.le_refl _, by simp, by simp [e]⟩
    · have := ih h
      refine ⟨by omega, by rw [List.length_cons]; omega, ?_⟩
      rw [show m - i = (m - (i + 1)) + 1 by omega, List.getElem?_cons_succ]
      exact this.2.2
theorem indexS_any (P : Nat → Prop) (v : Value) (ss : List Bs) (s : Bs) (w : World) (h : StrsAt P w v ss) (hl : ss.length ≤ 1000000) :
    Calls Tryd.prog 34 #[v, .string ⟨s.toArray⟩] w fun e w' => e = .returned (.int .i64 (ixI ss s)) ∧ w' = w := by
  rcases h with ⟨rfl, a, c, rfl⟩ | ⟨g, o, c, rfl, _, _, _, hc⟩
  · exact Tryd.slices_Index_string_empty a c _ w
  · refine (Tryd.slices_Index_string g o ss.length c (ss.map fun s => (⟨s.toArray⟩ : ByteArray)) ⟨s.toArray⟩ w (by simp) (by omega) (fun j hj => ?_)).mono fun e w' h => ?_
    · have hj' : j < ss.length := by simpa using hj
      rw [hc j _ (List.getElem?_eq_getElem hj')]
      simp [hj']
    · rw [List.take_of_length_le (by simp)] at h
      unfold Lib.idxOfS at h
      rw [ix_is] at h
      exact h
/-- What stands by a key of a value that may be. -/
def getN (j : J) (key : Bs) : Option J := match j with
  | .mk k n s keys kids => if rightN (.mk k n s keys kids) then (match ixN keys key 0 with
    | some i => kids[i]?
    | none => none) else none
theorem right_keys {k n : Int} {s : Bs} {keys : List Bs} {kids : List J} (h : rightN (.mk k n s keys kids) = true) : keys.length ≤ kids.length ∧ (k = 6 ∨ keys = []) := by
  unfold rightN at h
  cases hf : fitN 6 (.mk k n s keys kids) 400 with
  | none => rw [hf] at h; cases h
  | some l2 =>
    obtain ⟨_, hform, hc⟩ := fit_form hf
    rcases hc with ⟨h5, h6, _⟩ | ⟨h56, _⟩
    · obtain ⟨ha, hb⟩ := form_leaf hform ⟨h5, h6⟩
      exact ⟨by omega, .inr (List.eq_nil_of_length_eq_zero ha)⟩
    · rcases h56 with rfl | rfl
      · have := (form_rest hform (.inl rfl)).2.2 rfl
        exact ⟨by omega, .inr (List.eq_nil_of_length_eq_zero this)⟩
      · have := (form_kind hform).2.2 rfl
        exact ⟨by omega, .inl rfl⟩
def GetP (w : World) (D : Nat) (o : Option J) (e : Ending) (w' : World) : Prop :=
  (match o with
    | some kid => ∃ cs : List Value, e = .returned (.tuple #[.agg cs.toArray, .bool true]) ∧ JAt (fun k => w.heap.size ≤ k) w' D cs kid
    | none => e = .returned (.tuple #[.agg zero5.toArray, .bool false])) ∧ Below w.heap.size w w'
set_option maxHeartbeats 3200000 in
set_option maxRecDepth 100000 in
theorem get_any (P : Nat → Prop) (D : Nat) (cs : List Value) (j : J) (key : Bs) (w : World) (hJ : JAt P w (D + 1) cs j) (hE : Env w) (hS : Siz 7 j) (hD : Siz (D + 1) j) :
    Calls Tryd.prog 22 #[.agg cs.toArray, .string ⟨key.toArray⟩] w (GetP w D (getN j key)) := by
  obtain ⟨k, n, s, keys, kids⟩ := j
  have hz := zero_val
  have hJ0 := hJ
  obtain ⟨d, kv, dv, e, rfl, hkv, hdv⟩ := hJ.open
  obtain rfl : D = d := by omega
  clear e
  obtain ⟨_, hk1, _, hk2, hk3⟩ := hD
  have hbig := hE.big
  have hg : getN (.mk k n s keys kids) key = if rightN (.mk k n s keys kids) then (match ixN keys key 0 with
    | some i => kids[i]?
    | none => none) else none := rfl
  have HG : Unit → _ := fun _ => hg
  clear hg hJ
  generalize getN (.mk k n s keys kids) key = GG at *
  have rA := Rw.new w 29 (cells5 k n s kv dv)
  have hb1 : Below w.heap.size w (w.alloc (.cells (cells5 k n s kv dv).toArray 29)) := (Below.refl _ _).alloc (Nat.le_refl _) _
  have hsz : (w.alloc (.cells (cells5 k n s kv dv).toArray 29)).heap.size = w.heap.size + 1 := by simp
  have rB := Rw.new (w.alloc (.cells (cells5 k n s kv dv).toArray 29)) 29 zero5
  have hb2 : Below (w.alloc (.cells (cells5 k n s kv dv).toArray 29)).heap.size (w.alloc (.cells (cells5 k n s kv dv).toArray 29)) ((w.alloc (.cells (cells5 k n s kv dv).toArray 29)).alloc (.cells zero5.toArray 29)) := (Below.refl _ _).alloc (Nat.le_refl _) _
  replace rA := rA.stay hb2
  rw [hsz] at rB
  have hb := hb1.trans (hb2.mono hb1.size)
  clear hb1 hb2 hsz
  go_enter Tryd.func22, Tryd.ntmps22
  go_upto_region 1 with fail
  generalize (w.alloc (.cells (cells5 k n s kv dv).toArray 29)).alloc (.cells zero5.toArray 29) = W at *
  have K1 := Lib.hid (right_any P (D + 1) (cells5 k n s kv dv) _ W (hJ0.keep (S := fun _ => False) (Asd.of_below hb) (fun _ _ _ h => h)) (hE.keep (hb.mono hbig)) hS)
  clear hJ0
  cases hr : rightN (.mk k n s keys kids) with
  | false =>
    rw [hr] at K1 HG
    go_wp2_with (refine load_val w.heap.size 29 _ rA rfl _ rfl rfl rfl ?_)
    refine K1.out.mono ?_
    rintro e w2 ⟨rfl, hb2⟩
    clear K1
    replace rB := rB.stay hb2
    replace hb := hb.trans (hb2.mono hb.size)
    go_wp2_with (refine store_arr (w.heap.size + 1) 29 zero5 rB 5 rfl 29 (by kernel_rfl) zero5 rfl (one5 _ _ _ rfl rfl) _ _ rfl rfl rfl rfl ?_)
    refine ret_val (w.heap.size + 1) 29 zero5 (rB.row _) rfl _ rfl rfl rfl rfl ?_
    refine ⟨?_, below_setRow hb (by omega) _⟩
    rw [HG ()]
    rfl
  | true =>
    obtain ⟨hkk, _⟩ := right_keys hr
    rw [hr] at K1 HG
    go_wp2_with (refine load_val w.heap.size 29 _ rA rfl _ rfl rfl rfl ?_)
    refine K1.out.mono ?_
    rintro e w2 ⟨rfl, hb2⟩
    clear K1
    replace rB := rB.stay hb2
    replace rA := rA.stay hb2
    replace hb := hb.trans (hb2.mono hb.size)
    clear hb2
    have a3 := Rw.cell rA 3
    change _ = some kv at a3
    have K2 := Lib.hid (indexS_any P kv keys key w2 (hkv.keepN (S := fun _ => False) (Asd.of_below hb) (fun _ _ _ h => h)) hk1)
    cases hi : ixN keys key 0 with
    | none =>
      have hI : ixI keys key = -1 := by unfold ixI; rw [hi]
      rw [hI] at K2
      rw [hi] at HG
      go_wp2_with fail
      refine K2.out.mono ?_
      rintro e w3 ⟨rfl, rfl⟩
      clear K2 a3
      go_wp2_with (refine store_arr (w.heap.size + 1) 29 zero5 rB 5 rfl 29 (by kernel_rfl) zero5 rfl (one5 _ _ _ rfl rfl) _ _ rfl rfl rfl rfl ?_)
      refine ret_val (w.heap.size + 1) 29 zero5 (rB.row _) rfl _ rfl rfl rfl rfl ?_
      refine ⟨?_, below_setRow hb (by omega) _⟩
      rw [HG ()]
      rfl
    | some m =>
      have hI : ixI keys key = (m : Int) := by unfold ixI; rw [hi]
      obtain ⟨_, hm, _⟩ := ix_lt hi
      rw [hI] at K2
      rw [hi] at HG
      obtain ⟨kid, hkid⟩ : ∃ q, kids[m]? = some q := ⟨_, List.getElem?_eq_getElem (by omega)⟩
      have Hk : Unit → GG = some kid := fun _ => by rw [HG ()]; exact hkid
      obtain ⟨da, dc, rfl⟩ := hdv.shape
      obtain ⟨g, o, cs', hda, h5, hc, hJ'⟩ := (hdv.stay hb).kid hkid
      subst hda
      have hzk := hk3 kid (List.mem_of_getElem? hkid)
      have hmi : (m : Int) < (kids.length : Int) := by omega
      have K3 := Lib.hid (copied_any D _ cs' kid w2 hJ' hzk)
      have hm0 : ¬ (m : Int) < 0 := by omega
      clear hkid HG hdv hI hi
      go_wp2_with fail
      refine K2.out.mono ?_
      rintro e w3 ⟨rfl, rfl⟩
      clear K2 a3
      have a4 := Rw.cell rA 4
      change _ = some (Value.slice (some ⟨g, o, none⟩) kids.length dc) at a4
      go_wp2_with (refine load5_at g (o + m * 5) cs' h5 hc _ rfl rfl rfl ?_)
      refine K3.out.mono ?_
      rintro e w4 ⟨cs2, rfl, hJ4, hb4⟩
      obtain ⟨h52, ho2⟩ := hJ4.five
      have hw2 := Rw.lt rB
      replace rB := rB.stay hb4
      have hbw := hb.trans (hb4.mono hb.size)
      clear K3 a4 hc
      go_wp2_with (refine store_arr (w.heap.size + 1) 29 zero5 rB 5 rfl 29 (by kernel_rfl) cs2 h52 ho2 _ _ rfl rfl rfl rfl ?_)
      refine ret_val (w.heap.size + 1) 29 cs2 (rB.row _) h52 _ rfl rfl rfl rfl ?_
      refine ⟨?_, below_setRow hbw (by omega) _⟩
      rw [Hk ()]
      have A : Asd (fun k => w.heap.size + 1 = k) w4 (w4.setRow (w.heap.size + 1) cs2.toArray) := (Asd.refl _ _).setRow (.inl rfl) _
      exact ⟨cs2, rfl, (hJ4.keep A (fun i hi _ e => by have hi : w3.heap.size ≤ i := hi; omega)).mono (fun i hi _ => by have hi : w3.heap.size ≤ i := hi; have := hb.size; show w.heap.size ≤ i; omega)⟩
end Go.Proofs.YtbkkcojfgdjbhaaDoor
