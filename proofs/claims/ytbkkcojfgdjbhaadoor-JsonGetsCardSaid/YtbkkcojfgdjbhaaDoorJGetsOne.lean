/- JsonGets returns true for every input, and leaves its arguments as they were: the statement's tied card. -/
import Derived.Test.YtbkkcojfgdjbhaaDoorFrame
import Derived.Test.YtbkkcojfgdjbhaaDoorPost
import Derived.Test.YtbkkcojfgdjbhaaDoorJBackR
import Derived.Test.YtbkkcojfgdjbhaaDoorJLives
import Derived.Test.YtbkkcojfgdjbhaaDoorJGet
namespace Go.Proofs.YtbkkcojfgdjbhaaDoor
open Go.ChangeShapes Go.WideShapes Go.RowKit

theorem ky_out : ∀ (keys done : List Bs), kyN done keys = true → ∀ x ∈ keys, done.contains x = false := by
  intro keys
  induction keys with
  | nil => intro done _ x hx; cases hx
  | cons k r ih =>
    intro done h x hx
    obtain ⟨_, h2, h3⟩ := ky_split h
    rcases List.mem_cons.1 hx with rfl | hx
    · exact h2
    · have := ih _ h3 x hx
      simp only [List.contains_eq_mem, List.mem_append, decide_eq_false_iff_not, not_or] at this ⊢
      exact this.1
/-- Each key is found where it stands. -/
theorem ky_ix : ∀ (keys done : List Bs) (i m : Nat) (x : Bs), kyN done keys = true → keys[i]? = some x → ixN keys x m = some (m + i) := by
  intro keys
  induction keys with
  | nil => intro done i m x _ h; simp at h
  | cons k r ih =>
    intro done i m x h hi
    obtain ⟨_, h2, h3⟩ := ky_split h
    cases i with
    | zero =>
      simp at hi
      rw [ixN, if_pos hi]; rfl
    | succ i =>
      rw [List.getElem?_cons_succ] at hi
      have hx := ky_out r _ h3 x (List.mem_of_getElem? hi)
      rw [ixN, if_neg, ih _ i (m + 1) x h3 hi]
      · congr 1; omega
      · intro e
        subst e
        simp at hx
theorem ix_mem : ∀ (keys : List Bs) (x : Bs) (m : Nat), (ixN keys x m).isSome = decide (x ∈ keys) := by
  intro keys
  induction keys with
  | nil => intro x m; simp [ixN]
  | cons k r ih =>
    intro x m
    rw [ixN]
    by_cases h : k = x
    · rw [if_pos h]; subst h; simp
    · rw [if_neg h, ih]
      have h' : ¬ x = k := fun e => h e.symm
      simp [h']
/-- Whether one of the first q is x. -/
def inN (keys : List Bs) (x : Bs) (q : Nat) : Bool := decide (x ∈ keys.take q)
theorem inN_step (keys : List Bs) (x k : Bs) (q : Nat) (h : keys[q]? = some k) : inN keys x (q + 1) = (inN keys x q || (k == x)) := by
  unfold inN
  rw [List.take_add_one, h]
  simp only [Option.toList_some, List.mem_append, List.mem_singleton, Bool.decide_or]
  congr 1
  rw [Bool.eq_iff_iff, decide_eq_true_eq, beq_iff_eq]
  exact eq_comm
theorem right_ky {k n : Int} {s : Bs} {keys : List Bs} {kids : List J} (h : rightN (.mk k n s keys kids) = true) : kyN [] keys = true := by
  rcases right_keys h with ⟨_, h6 | rfl⟩
  · unfold rightN at h
    cases hf : fitN 6 (.mk k n s keys kids) 400 with
    | none => rw [hf] at h; cases h
    | some l2 =>
      obtain ⟨_, _, hc⟩ := fit_form hf
      rcases hc with ⟨_, h7, _⟩ | ⟨_, _, _, h7, _⟩
      · exact absurd h6 h7
      · exact h7
  · rfl
theorem get_at {k n : Int} {s : Bs} {keys : List Bs} {kids : List J} (h : rightN (.mk k n s keys kids) = true) {q : Nat} {x : Bs} (hq : keys[q]? = some x) : getN (.mk k n s keys kids) x = kids[q]? := by
  show (if _ then _ else _) = _
  rw [if_pos h, ky_ix keys [] q 0 x (right_ky h) hq]
  simp
theorem get_some {k n : Int} {s : Bs} {keys : List Bs} {kids : List J} (h : rightN (.mk k n s keys kids) = true) (x : Bs) : (getN (.mk k n s keys kids) x).isSome = decide (x ∈ keys) := by
  show Option.isSome (if _ then _ else _) = _
  rw [if_pos h, ← ix_mem keys x 0]
  cases hi : ixN keys x 0 with
  | none => rfl
  | some m =>
    obtain ⟨_, hm, _⟩ := ix_lt hi
    have := (right_keys h).1
    show Option.isSome (kids[m]?) = true
    rw [List.getElem?_eq_getElem (by omega)]
    rfl
theorem StrsAt.shape {P : Nat → Prop} {w : World} {v : Value} {ss : List Bs} (h : StrsAt P w v ss) : ∃ a c, v = .slice a ss.length c := by
  rcases h with ⟨rfl, a, c, rfl⟩ | ⟨g, o, c, rfl, _⟩
  · exact ⟨a, c, rfl⟩
  · exact ⟨_, c, rfl⟩
theorem StrsAt.text {P : Nat → Prop} {w : World} {a : Option Addr} {n c : Nat} {ss : List Bs} (h : StrsAt P w (.slice a n c) ss) {q : Nat} {s : Bs} (hq : ss[q]? = some s) : ∃ g o, a = some ⟨g, o, none⟩ ∧ g < w.heap.size ∧ w.cell? ⟨g, o + q, none⟩ = some (.string ⟨s.toArray⟩) := by
  rcases h with ⟨rfl, _⟩ | ⟨g, o, c, e, _, _, hlt, hc⟩
  · simp at hq
  · injection e with e1 e2 e3
    exact ⟨g, o, e1, hlt, hc q s hq⟩
theorem run_load_vals {o : Oper} {a : Act} {w : World} (x : Operand) (ho : o.op = .load 29 x) (g k : Nat) (cs : List Value) (h5 : cs.length = 5) (hc : ∀ (j : Nat) u, cs[j]? = some u → w.cell? ⟨g, k + j, none⟩ = some u) (hx : a.eval x = .pointer (some ⟨g, k, none⟩)) : (execOp a.eval o).run Tryd.prog w = .ok (.value (.agg cs.toArray)) w := by
  unfold execOp
  simp only [ho, hx, Instr.loadAt, Instr.sureAddr, Sem.run_bind, Sem.run_pure, Result.andThen_ok, run_load5 w g k cs h5 hc]
theorem load_doc {ops : Array Oper} {rest : List Oper} {o : Oper} {a : Act} {w : World} {Q : Exit → Act → World → Prop} (g : Nat) (t : TypeId) (cs : List Value) (hr : Rw w g t cs) (hn : cs.length = 5) (x : Operand) (hgd : o.guard = none) (ho : o.op = .load 25 x) (hx : a.eval x = .pointer (some ⟨g, 0, none⟩))
    (h : wpList Tryd.prog ops Q rest (a.put o.dst (.agg cs.toArray)) w) : wpList Tryd.prog ops Q (o :: rest) a w :=
  wpList_load_row hgd 25 x ho g hx t cs.toArray (0, 0) _ hr Tryd.underlying25 rfl (by rw [show cs.toArray.size = 5 by simp [hn]]; kernel_rfl) h
set_option maxHeartbeats 3200000 in
set_option maxRecDepth 100000 in
theorem jgets_any (P : Nat → Prop) (D : Nat) (cs0 : List Value) (j0 : J) (key : Bs) (w : World) (hE : Env w) (hJ0 : JAt P w D cs0 j0) (hkz : ∀ e, Kz e j0) :
    Calls Tryd.prog 8 #[.agg cs0.toArray, .string ⟨key.toArray⟩] w fun e w' => e = .returned (.bool true) ∧ Below w.heap.size w w' := by
  have hbig := hE.big
  have hz := zero_val
  have hJ1 := hJ0.mono (P' := fun k => k < w.heap.size) (fun _ _ h => h)
  clear hJ0
  obtain ⟨h5, ho⟩ := hJ1.five
  have rA := Rw.new w 25 cs0
  have hb1 : Below w.heap.size w (w.alloc (.cells cs0.toArray 25)) := (Below.refl _ _).alloc (Nat.le_refl _) _
  have KL := Lib.hid (lives_any (w.alloc (.cells cs0.toArray 25)) (hE.keep (hb1.mono hbig)))
  go_enter Tryd.func8, Tryd.ntmps8
  go_wp2_with fail
  refine KL.out.mono ?_
  rintro e w1 ⟨rfl, hb2⟩
  clear KL
  replace rA := rA.stay hb2
  have hsz := hb2.size
  replace hb2 := hb1.trans (hb2.mono hb1.size)
  go_upto_region 4 with fail
  have hNg : w.heap.size < w1.heap.size := Nat.lt_of_lt_of_le (Rw.lt rA) (Nat.le_refl _)
  have rC := Rw.new w1 3 [.int .i64 0]
  have hbl : Below w1.heap.size w1 (w1.alloc (.cells #[.int .i64 0] 3)) := (Below.refl _ _).alloc (Nat.le_refl _) _
  replace rA := rA.stay hbl
  replace hb2 := hb2.trans (hbl.mono hb2.size)
  have hJ2 := hJ1.keep (S := fun _ => False) (hb2.size |> fun _ => Asd.of_below hb2) (fun _ _ _ h => h)
  have KB : Hid (Calls Tryd.prog 12 #[.agg cs0.toArray, .int .i64 0, .pointer (some ⟨w1.heap.size, 0, none⟩)] (w1.alloc (.cells #[.int .i64 0] 3)) fun e w' => ∃ cs' : List Value, e = .returned (.agg cs'.toArray) ∧ JAt (fun k => k < w.heap.size ∨ (w1.alloc (.cells #[.int .i64 0] 3)).heap.size ≤ k) w' 10 cs' (backN 9 j0 0).1 ∧ Rw w' w1.heap.size 3 [.int .i64 ((backN 9 j0 0).2 : Int)] ∧ Asd (· = w1.heap.size) (w1.alloc (.cells #[.int .i64 0] 3)) w') :=
    back_any 9 (Nat.le_refl _) (fun k => k < w.heap.size) D cs0 j0 0 w1.heap.size _ hJ2 (fun i hi e => by have hi : i < w.heap.size := hi; omega) (by omega) rC
  clear hbl rC hJ2 hJ1 hb1 hsz
  generalize w1.alloc (.cells #[.int .i64 0] 3) = w2 at *
  have hNw : w.heap.size ≤ w1.heap.size := by omega
  generalize w1.heap.size = N at *
  have xS := fun d => back_siz 9 j0 0 d hkz
  go_wp2_with (refine load_doc w.heap.size 25 cs0 rA h5 _ rfl rfl rfl ?_)
  refine KB.out.mono ?_
  rintro e w3 ⟨cs1, rfl, hJ3, _, A3⟩
  clear KB hkz rA
  generalize (backN 9 j0 0).1 = x at *
  have hb3 : Below w.heap.size w w3 := hb2.trans (A3.toBelow hb2.size (fun i e => by omega))
  clear hb2 A3
  obtain ⟨x5, xo⟩ := hJ3.five
  obtain ⟨k, n, s, keys, kids⟩ := x
  obtain ⟨dx, kvx, dvx, e9, rfl, -, -⟩ := hJ3.open
  clear e9 dx
  have rN := Rw.new w3 29 zero5
  go_upto_region 5 with (refine store_arr w3.heap.size 29 zero5 rN 5 rfl 29 (by kernel_rfl) (cells5 k n s kvx dvx) x5 xo _ _ rfl rfl rfl rfl ?_)
  rw [World.setRow_alloc_new]
  have rX := Rw.new w3 29 (cells5 k n s kvx dvx)
  have hbl : Below w3.heap.size w3 (w3.alloc (.cells (cells5 k n s kvx dvx).toArray 29)) := (Below.refl _ _).alloc (Nat.le_refl _) _
  replace hJ3 := hJ3.keep (S := fun _ => False) (Asd.of_below hbl) (fun _ _ _ h => h)
  replace hb3 := hb3.trans (hbl.mono hb3.size)
  clear rN hbl
  generalize w3.alloc (.cells (cells5 k n s kvx dvx).toArray 29) = w4 at *
  generalize w3.heap.size = X at *
  have K0 := Lib.hid (right_any _ _ _ _ w4 hJ3 (hE.keep (hb3.mono hbig)) (xS 7))
  cases gri : rightN (.mk k n s keys kids) with
  | false =>
    rw [gri] at K0
    clear gri
    go_wp2_with (refine load_val X 29 _ rX rfl _ rfl rfl rfl ?_)
    refine K0.out.mono ?_
    rintro e w5 ⟨rfl, hb5⟩
    clear K0
    have hb := hb3.trans (hb5.mono hb3.size)
    clear hb5 hb3
    go_wp2_with fail
    go_ret
    exact ⟨rfl, hb⟩
  | true =>
    rw [gri] at K0
    obtain ⟨hkk, hk6⟩ := right_keys gri
    have hga : ∀ (q : Nat) (y : Bs), keys[q]? = some y → getN (.mk k n s keys kids) y = kids[q]? := fun q y h => get_at gri h
    have hgs := get_some gri key
    go_wp2_with (refine load_val X 29 _ rX rfl _ rfl rfl rfl ?_)
    refine K0.out.mono ?_
    rintro e w5 ⟨rfl, hb5⟩
    clear K0 gri
    replace rX := rX.stay hb5
    replace hJ3 := hJ3.keep (S := fun _ => False) (Asd.of_below hb5) (fun _ _ _ h => h)
    replace hb3 := hb3.trans (hb5.mono hb3.size)
    clear hb5
    obtain ⟨dx, kv', dv', e9, e8, hkv, hdv⟩ := hJ3.open
    obtain rfl : dx = 9 := by omega
    obtain ⟨rfl, rfl⟩ : kvx = kv' ∧ dvx = dv' := by simpa [cells5] using e8
    clear e8 e9
    obtain ⟨ka, kc, rfl⟩ := hkv.shape
    obtain ⟨da, dc, rfl⟩ := hdv.shape
    have hS10 := xS 10
    obtain ⟨_, hk1, _, hk2, hk3⟩ := hS10
    have hzz := fun kid (h : kid ∈ kids) => hk3 kid h
    have HG : Hid (∀ (y : Bs) (w' : World), Below w5.heap.size w5 w' → Calls Tryd.prog 22 #[.agg (cells5 k n s (.slice ka keys.length kc) (.slice da kids.length dc)).toArray, .string ⟨y.toArray⟩] w' (GetP w' 9 (getN (.mk k n s keys kids) y))) := fun y w' h =>
      get_any _ 9 _ _ y w' (hJ3.keep (S := fun _ => False) (Asd.of_below h) (fun _ _ _ h => h)) (hE.keep ((hb3.trans (h.mono hb3.size)).mono hbig)) (xS 7) (xS 10)
    clear hJ3 xS hk3
    go_upto_region 8 with fail
    go_loopw [7] (fun i wr => ∃ q : Nat, q ≤ keys.length ∧ i = .int .i64 (q : Int) ∧ Below w5.heap.size w5 wr) (fun i _ => keys.length - (intOf i).toNat)
    case atStart => exact ⟨0, by omega, rfl, Below.refl _ _⟩
    case round =>
     obtain ⟨q, hq, rfl, hbr⟩ := hrel
     have hb := hb3.trans (hbr.mono hb3.size)
     by_cases hlt : q < keys.length
     ·
      obtain ⟨y, hy⟩ : ∃ s, keys[q]? = some s := ⟨_, List.getElem?_eq_getElem hlt⟩
      obtain ⟨kid, hkid⟩ : ∃ s, kids[q]? = some s := ⟨_, List.getElem?_eq_getElem (by omega)⟩
      have hzk := hzz kid (List.mem_of_getElem? hkid)
      have hgq := (hga q y hy).trans hkid
      obtain ⟨gk, ok, rfl, hgk, hck⟩ := (hkv.keepN (S := fun _ => False) (Asd.of_below hbr) (fun _ _ _ h => h)).text hy
      obtain ⟨gd, od, csd, rfl, h5d, hcd, hJd⟩ := (hdv.stay hbr).kid hkid
      have hgd : gd < wr.heap.size := by
        cases hx : csd[0]? with
        | none => rw [List.getElem?_eq_none_iff, h5d] at hx; omega
        | some u => exact World.block_lt_of_cell? wr _ (hcd 0 u hx)
      have KG : Hid (∀ w', Below wr.heap.size wr w' → Calls Tryd.prog 22 #[.agg (cells5 k n s (.slice (some ⟨gk, ok, none⟩) keys.length kc) (.slice (some ⟨gd, od, none⟩) kids.length dc)).toArray, .string ⟨y.toArray⟩] w' fun e w'' => ∃ cs : List Value, e = .returned (.tuple #[.agg cs.toArray, .bool true]) ∧ JAt (fun k => w'.heap.size ≤ k) w'' 9 cs kid ∧ Below w'.heap.size w' w'') := fun w' h => by
        refine (HG.out y w' (hbr.trans (h.mono hbr.size))).mono ?_
        rw [hgq]
        rintro e w'' ⟨⟨cs, rfl, hJx⟩, hbx⟩
        exact ⟨cs, rfl, hJx, hbx⟩
      replace rX := rX.stay hbr
      have cX3 := Rw.cell rX 3
      change _ = some (Value.slice (some ⟨gk, ok, none⟩) keys.length kc) at cX3
      have hXl := Rw.lt rX
      have hqi : (q : Int) < (keys.length : Int) := by omega
      have hqj : (q : Int) < (kids.length : Int) := by omega
      have hq0 : ¬ (q : Int) < 0 := by omega
      clear hkid hy hgq hga hkv hdv hzz HG hgs hk6
      go_upto_region 10 with fail
      refine wp_region_held (S := fun w' => Below wr.heap.size wr w') (by kernel_rfl) ?_
      have hS : Below wr.heap.size wr { wr with drawn := wr.drawn + 1 } := (Below.refl _ wr).drew
      generalize { wr with drawn := wr.drawn + 1 } = Dp at *
      refine held_val 0 rfl (by kernel_rfl) (by kernel_rfl) (by kernel_rfl) (fun _ _ _ _ h => h) (by rfl) hS ⟨.agg (cells5 k n s (.slice (some ⟨gk, ok, none⟩) keys.length kc) (.slice (some ⟨gd, od, none⟩) kids.length dc)).toArray, fun w' hw' => ?_, ?_⟩
      · exact run_load_val _ rfl X 29 _ (rX.stay hw') rfl rfl
      simp only [Act.put, List.setIfInBounds_toArray, List.set_cons_zero, List.set_cons_succ]
      refine held_val 1 rfl (by kernel_rfl) (by kernel_rfl) (by kernel_rfl) (fun _ _ _ _ h => h) (by rfl) hS ?_
      apply Exists.intro
      refine ⟨fun w' hw' => ?_, ?_⟩
      · skip
        go_simp
        first | done | rfl | exact ⟨rfl, rfl⟩
      simp only [Act.put, List.setIfInBounds_toArray, List.set_cons_zero, List.set_cons_succ]
      refine held_val 2 rfl (by kernel_rfl) (by kernel_rfl) (by kernel_rfl) (fun _ _ _ _ h => h) (by rfl) hS ?_
      apply Exists.intro
      refine ⟨fun w' hw' => ?_, ?_⟩
      · have e1 : w'.cell? ⟨X, 3, none⟩ = some (.slice (some ⟨gk, ok, none⟩) keys.length kc) := by rw [hw'.cell hXl]; exact cX3
        go_simp
        first | done | rfl | exact ⟨rfl, rfl⟩
      simp only [Act.put, List.setIfInBounds_toArray, List.set_cons_zero, List.set_cons_succ]
      refine held_val 3 rfl (by kernel_rfl) (by kernel_rfl) (by kernel_rfl) (fun _ _ _ _ h => h) (by rfl) hS ?_
      apply Exists.intro
      refine ⟨fun w' hw' => ?_, ?_⟩
      · skip
        go_simp
        first | done | rfl | exact ⟨rfl, rfl⟩
      simp only [Act.put, List.setIfInBounds_toArray, List.set_cons_zero, List.set_cons_succ]
      refine held_val 4 rfl (by kernel_rfl) (by kernel_rfl) (by kernel_rfl) (fun _ _ _ _ h => h) (by rfl) hS ?_
      apply Exists.intro
      refine ⟨fun w' hw' => ?_, ?_⟩
      · skip
        go_simp
        first | done | rfl | exact ⟨rfl, rfl⟩
      simp only [Act.put, List.setIfInBounds_toArray, List.set_cons_zero, List.set_cons_succ]
      refine held_val 5 rfl (by kernel_rfl) (by kernel_rfl) (by kernel_rfl) (fun _ _ _ _ h => h) (by rfl) hS ?_
      apply Exists.intro
      refine ⟨fun w' hw' => ?_, ?_⟩
      · have e1 : w'.cell? ⟨gk, ok + q, none⟩ = some (.string ⟨y.toArray⟩) := by rw [hw'.cell hgk]; exact hck
        go_simp
        first | done | rfl | exact ⟨rfl, rfl⟩
      simp only [Act.put, List.setIfInBounds_toArray, List.set_cons_zero, List.set_cons_succ]
      -- <<walk
      refine held_two 6 10 (by kernel_rfl) rfl rfl (by rfl) (by rfl) ?_ ?_
      · skip
        refine wp_call2 ?_
        apply Exists.intro
        apply Exists.intro
        refine ⟨?_, ?_⟩
        · go_simp
          first | done | rfl | exact ⟨rfl, rfl⟩
        refine (KG.out _ hS).mono ?_
        rintro e xp ⟨csp, rfl, hJp, hcp⟩
        obtain ⟨h5p, hop⟩ := hJp.five
        replace hS := hS.trans (hcp.mono hS.size)
        refine ⟨_, rfl, hS, ?_⟩
        simp only [Act.put, List.setIfInBounds_toArray, List.set_cons_zero, List.set_cons_succ]
        refine held_val 7 rfl (by kernel_rfl) (by kernel_rfl) (by kernel_rfl) (fun _ _ _ _ h => h) (by rfl) hS ?_
        apply Exists.intro
        refine ⟨fun w' hw' => ?_, ?_⟩
        · skip
          go_simp
          first | done | rfl | exact ⟨rfl, rfl⟩
        simp only [Act.put, List.setIfInBounds_toArray, List.set_cons_zero, List.set_cons_succ]
        refine held_val 8 rfl (by kernel_rfl) (by kernel_rfl) (by kernel_rfl) (fun _ _ _ _ h => h) (by rfl) hS ?_
        apply Exists.intro
        refine ⟨fun w' hw' => ?_, ?_⟩
        · skip
          go_simp
          first | done | rfl | exact ⟨rfl, rfl⟩
        simp only [Act.put, List.setIfInBounds_toArray, List.set_cons_zero, List.set_cons_succ]
        refine held_val 9 rfl (by kernel_rfl) (by kernel_rfl) (by kernel_rfl) (fun _ _ _ _ h => h) (by rfl) hS ?_
        apply Exists.intro
        refine ⟨fun w' hw' => ?_, ?_⟩
        · skip
          go_simp
          first | done | rfl | exact ⟨rfl, rfl⟩
        simp only [Act.put, List.setIfInBounds_toArray, List.set_cons_zero, List.set_cons_succ]

        refine held_one 10 (by kernel_rfl) rfl (by rfl) ?_
        unfold Oper.wp
        go_simp
        have rN := Rw.new xp 29 zero5
        have hS2 : Below wr.heap.size wr (xp.alloc (.cells zero5.toArray 29)) := hS.alloc hS.size _
        refine ⟨hS2, ?_⟩
        refine held_one 11 (by kernel_rfl) rfl (by rfl) ?_
        refine wp_store_val _ _ rfl _ _ rfl rfl (run_storeVar_row _ _ 29 _ _ _ rN (by rw [show csp.toArray.size = 5 by simp [h5p]]; kernel_rfl) (by simp [h5p, zero5, cells5]) (by rw [Array.all_eq_true_iff_forall_mem]; intro v hv; exact hop v (by simpa using hv))) ?_
        rw [World.setRow_alloc_new]
        have hbl : Below xp.heap.size xp (xp.alloc (.cells csp.toArray 29)) := (Below.refl _ _).alloc (Nat.le_refl _) _
        have hS3 : Below wr.heap.size wr (xp.alloc (.cells csp.toArray 29)) := hS.alloc hS.size _
        replace hJp := hJp.keep (S := fun _ => False) (Asd.of_below hbl) (fun _ _ _ h => h)
        have rXp := Rw.new xp 29 csp
        clear hS2 hbl hcp
        refine ⟨hS3, ?_⟩
        simp only [Act.put]
        clear hS rN
        have hS := hS3
        clear hS3
        generalize xp.alloc (.cells csp.toArray 29) = yp at *
        generalize xp.heap.size = zp at *
        refine held_val 12 rfl (by kernel_rfl) (by kernel_rfl) (by kernel_rfl) (fun _ _ _ _ h => h) (by rfl) hS ?_
        apply Exists.intro
        refine ⟨fun w' hw' => ?_, ?_⟩
        · skip
          go_simp
          first | done | rfl | exact ⟨rfl, rfl⟩
        simp only [Act.put, List.setIfInBounds_toArray, List.set_cons_zero, List.set_cons_succ]
        refine wpAnyH_done (by kernel_rfl) ?_ _
        replace hb := hb.trans (hS.mono hb.size)
        replace rX := rX.stay hS
        replace hcd : ∀ (j : Nat) u, csd[j]? = some u → yp.cell? ⟨gd, od + q * 5 + j, none⟩ = some u := fun j u hu => by rw [hS.cell hgd]; exact hcd j u hu
        replace hJd := hJd.keep (S := fun _ => False) (Asd.of_below hS) (fun _ _ _ h => h)
        replace hgd := Nat.lt_of_lt_of_le hgd hS.size
        have cX4 := Rw.cell rX 4
        change _ = some (Value.slice (some ⟨gd, od, none⟩) kids.length dc) at cX4
        have hXl := Rw.lt rX
        have KS : Hid (∀ w', Below yp.heap.size yp w' → Calls Tryd.prog 18 #[.agg csp.toArray, .agg csd.toArray] w' fun e w'' => e = .returned (.bool true) ∧ Below w'.heap.size w' w'') := fun w' h => same_any 9 _ _ _ _ _ kid w' (hJp.keep (S := fun _ => False) (Asd.of_below h) (fun _ _ _ h => h)) (hJd.keep (S := fun _ => False) (Asd.of_below h) (fun _ _ _ h => h)) hzk
        replace hbr := hbr.trans (hS.mono hbr.size)
        clear KG hS
        go_upto_region 11 with fail
        refine wp_region_held (S := fun w' => Below yp.heap.size yp w') (by kernel_rfl) ?_
        have hS : Below yp.heap.size yp { yp with drawn := yp.drawn + 1 } := (Below.refl _ yp).drew
        generalize { yp with drawn := yp.drawn + 1 } = Dq at *
        refine held_val 0 rfl (by kernel_rfl) (by kernel_rfl) (by kernel_rfl) (fun _ _ _ _ h => h) (by rfl) hS ?_
        apply Exists.intro
        refine ⟨fun w' hw' => ?_, ?_⟩
        · skip
          go_simp
          first | done | rfl | exact ⟨rfl, rfl⟩
        simp only [Act.put, List.setIfInBounds_toArray, List.set_cons_zero, List.set_cons_succ]
        refine held_val 1 rfl (by kernel_rfl) (by kernel_rfl) (by kernel_rfl) (fun _ _ _ _ h => h) (by rfl) hS ?_
        apply Exists.intro
        refine ⟨fun w' hw' => ?_, ?_⟩
        · skip
          go_simp
          first | done | rfl | exact ⟨rfl, rfl⟩
        simp only [Act.put, List.setIfInBounds_toArray, List.set_cons_zero, List.set_cons_succ]
        refine held_val 2 rfl (by kernel_rfl) (by kernel_rfl) (by kernel_rfl) (fun _ _ _ _ h => h) (by rfl) hS ?_
        apply Exists.intro
        refine ⟨fun w' hw' => ?_, ?_⟩
        · skip
          go_simp
          first | done | rfl | exact ⟨rfl, rfl⟩
        simp only [Act.put, List.setIfInBounds_toArray, List.set_cons_zero, List.set_cons_succ]
        refine held_val 3 rfl (by kernel_rfl) (by kernel_rfl) (by kernel_rfl) (fun _ _ _ _ h => h) (by rfl) hS ⟨.agg csp.toArray, fun w' hw' => ?_, ?_⟩
        · exact run_load_val _ rfl _ 29 csp (rXp.stay hw') h5p rfl
        simp only [Act.put, List.setIfInBounds_toArray, List.set_cons_zero, List.set_cons_succ]
        refine held_val 4 rfl (by kernel_rfl) (by kernel_rfl) (by kernel_rfl) (fun _ _ _ _ h => h) (by rfl) hS ?_
        apply Exists.intro
        refine ⟨fun w' hw' => ?_, ?_⟩
        · skip
          go_simp
          first | done | rfl | exact ⟨rfl, rfl⟩
        simp only [Act.put, List.setIfInBounds_toArray, List.set_cons_zero, List.set_cons_succ]
        refine held_val 5 rfl (by kernel_rfl) (by kernel_rfl) (by kernel_rfl) (fun _ _ _ _ h => h) (by rfl) hS ?_
        apply Exists.intro
        refine ⟨fun w' hw' => ?_, ?_⟩
        · have e1 : w'.cell? ⟨X, 4, none⟩ = some (.slice (some ⟨gd, od, none⟩) kids.length dc) := by rw [hw'.cell hXl]; exact cX4
          go_simp
          first | done | rfl | exact ⟨rfl, rfl⟩
        simp only [Act.put, List.setIfInBounds_toArray, List.set_cons_zero, List.set_cons_succ]
        refine held_val 6 rfl (by kernel_rfl) (by kernel_rfl) (by kernel_rfl) (fun _ _ _ _ h => h) (by rfl) hS ?_
        apply Exists.intro
        refine ⟨fun w' hw' => ?_, ?_⟩
        · skip
          go_simp
          first | done | rfl | exact ⟨rfl, rfl⟩
        simp only [Act.put, List.setIfInBounds_toArray, List.set_cons_zero, List.set_cons_succ]
        refine held_val 7 rfl (by kernel_rfl) (by kernel_rfl) (by kernel_rfl) (fun _ _ _ _ h => h) (by rfl) hS ?_
        apply Exists.intro
        refine ⟨fun w' hw' => ?_, ?_⟩
        · skip
          go_simp
          first | done | rfl | exact ⟨rfl, rfl⟩
        simp only [Act.put, List.setIfInBounds_toArray, List.set_cons_zero, List.set_cons_succ]
        refine held_val 8 rfl (by kernel_rfl) (by kernel_rfl) (by kernel_rfl) (fun _ _ _ _ h => h) (by rfl) hS ⟨.agg csd.toArray, fun w' hw' => ?_, ?_⟩
        · exact run_load_vals _ rfl gd (od + q * 5) csd h5d (fun j u hu => by rw [hw'.cell hgd]; exact hcd j u hu) rfl
        simp only [Act.put, List.setIfInBounds_toArray, List.set_cons_zero, List.set_cons_succ]
        refine held_call 9 (by kernel_rfl) rfl (by rfl) ?_
        apply Exists.intro
        apply Exists.intro
        refine ⟨?_, ?_⟩
        · go_simp
          first | done | rfl | exact ⟨rfl, rfl⟩
        refine (KS.out _ hS).mono ?_
        rintro e xq ⟨rfl, hcq⟩
        replace hS := hS.trans (hcq.mono hS.size)
        refine ⟨_, rfl, hS, ?_⟩
        simp only [Act.put, List.setIfInBounds_toArray, List.set_cons_zero, List.set_cons_succ]
        refine held_val 10 rfl (by kernel_rfl) (by kernel_rfl) (by kernel_rfl) (fun _ _ _ _ h => h) (by rfl) hS ?_
        apply Exists.intro
        refine ⟨fun w' hw' => ?_, ?_⟩
        · skip
          go_simp
          first | done | rfl | exact ⟨rfl, rfl⟩
        simp only [Act.put, List.setIfInBounds_toArray, List.set_cons_zero, List.set_cons_succ]
        refine held_val 11 rfl (by kernel_rfl) (by kernel_rfl) (by kernel_rfl) (fun _ _ _ _ h => h) (by rfl) hS ?_
        apply Exists.intro
        refine ⟨fun w' hw' => ?_, ?_⟩
        · skip
          go_simp
          first | done | rfl | exact ⟨rfl, rfl⟩
        simp only [Act.put, List.setIfInBounds_toArray, List.set_cons_zero, List.set_cons_succ]
        refine wpAnyH_done (by kernel_rfl) ?_ _
        replace hbr := hbr.trans (hS.mono hbr.size)
        clear KS hS rXp hJp rX
        go_wp2_with fail
        go_roundw
        case rel => exact ⟨q + 1, by omega, by go_num, hbr⟩
        case measure => simp [intOf]; omega
      · skip
        unfold Oper.wp
        go_simp
        have rN := Rw.new Dp 29 zero5
        have hzp : wr.heap.size ≤ Dp.heap.size := hS.size
        have hzq : Dp.heap.size < (Dp.alloc (.cells zero5.toArray 29)).heap.size := by simp
        replace hS : Below wr.heap.size wr (Dp.alloc (.cells zero5.toArray 29)) := hS.alloc hS.size _
        refine ⟨hS, ?_⟩
        change wpAnyH _ _ _ _ _ _ _ _ (Dp.alloc (.cells zero5.toArray 29))
        generalize Dp.heap.size = zp at *
        generalize Dp.alloc (.cells zero5.toArray 29) = vp at *
        refine held_one 6 (by kernel_rfl) rfl (by rfl) ?_
        refine wp_call2 ?_
        apply Exists.intro
        apply Exists.intro
        refine ⟨?_, ?_⟩
        · go_simp
          first | done | rfl | exact ⟨rfl, rfl⟩
        refine (KG.out _ hS).mono ?_
        rintro e xp ⟨csp, rfl, hJp, hcp⟩
        replace rN := rN.stay hcp
        obtain ⟨h5p, hop⟩ := hJp.five
        replace hS := hS.trans (hcp.mono hS.size)
        refine ⟨_, rfl, hS, ?_⟩
        simp only [Act.put, List.setIfInBounds_toArray, List.set_cons_zero, List.set_cons_succ]
        refine held_val 7 rfl (by kernel_rfl) (by kernel_rfl) (by kernel_rfl) (fun _ _ _ _ h => h) (by rfl) hS ?_
        apply Exists.intro
        refine ⟨fun w' hw' => ?_, ?_⟩
        · skip
          go_simp
          first | done | rfl | exact ⟨rfl, rfl⟩
        simp only [Act.put, List.setIfInBounds_toArray, List.set_cons_zero, List.set_cons_succ]
        refine held_val 8 rfl (by kernel_rfl) (by kernel_rfl) (by kernel_rfl) (fun _ _ _ _ h => h) (by rfl) hS ?_
        apply Exists.intro
        refine ⟨fun w' hw' => ?_, ?_⟩
        · skip
          go_simp
          first | done | rfl | exact ⟨rfl, rfl⟩
        simp only [Act.put, List.setIfInBounds_toArray, List.set_cons_zero, List.set_cons_succ]
        refine held_val 9 rfl (by kernel_rfl) (by kernel_rfl) (by kernel_rfl) (fun _ _ _ _ h => h) (by rfl) hS ?_
        apply Exists.intro
        refine ⟨fun w' hw' => ?_, ?_⟩
        · skip
          go_simp
          first | done | rfl | exact ⟨rfl, rfl⟩
        simp only [Act.put, List.setIfInBounds_toArray, List.set_cons_zero, List.set_cons_succ]
        refine held_one 11 (by kernel_rfl) rfl (by rfl) ?_
        refine wp_store_val _ _ rfl _ _ rfl rfl (run_storeVar_row _ _ 29 _ _ _ rN (by rw [show csp.toArray.size = 5 by simp [h5p]]; kernel_rfl) (by simp [h5p, zero5, cells5]) (by rw [Array.all_eq_true_iff_forall_mem]; intro v hv; exact hop v (by simpa using hv))) ?_
        have hS3 : Below wr.heap.size wr (xp.setRow zp csp.toArray) := below_setRow hS hzp _
        have rXp := rN.row csp
        have A9 : Asd (fun k => zp = k) xp (xp.setRow zp csp.toArray) := (Asd.refl _ _).setRow (.inl rfl) _
        replace hJp := hJp.keep A9 (fun i hi _ e => by have hi : vp.heap.size ≤ i := hi; omega)
        clear hcp A9
        refine ⟨hS3, ?_⟩
        simp only [Act.put]
        clear hS rN
        have hS := hS3
        clear hS3
        generalize xp.setRow zp csp.toArray = yp at *
        refine held_val 12 rfl (by kernel_rfl) (by kernel_rfl) (by kernel_rfl) (fun _ _ _ _ h => h) (by rfl) hS ?_
        apply Exists.intro
        refine ⟨fun w' hw' => ?_, ?_⟩
        · skip
          go_simp
          first | done | rfl | exact ⟨rfl, rfl⟩
        simp only [Act.put, List.setIfInBounds_toArray, List.set_cons_zero, List.set_cons_succ]
        refine wpAnyH_done (by kernel_rfl) ?_ _
        replace hb := hb.trans (hS.mono hb.size)
        replace rX := rX.stay hS
        replace hcd : ∀ (j : Nat) u, csd[j]? = some u → yp.cell? ⟨gd, od + q * 5 + j, none⟩ = some u := fun j u hu => by rw [hS.cell hgd]; exact hcd j u hu
        replace hJd := hJd.keep (S := fun _ => False) (Asd.of_below hS) (fun _ _ _ h => h)
        replace hgd := Nat.lt_of_lt_of_le hgd hS.size
        have cX4 := Rw.cell rX 4
        change _ = some (Value.slice (some ⟨gd, od, none⟩) kids.length dc) at cX4
        have hXl := Rw.lt rX
        have KS : Hid (∀ w', Below yp.heap.size yp w' → Calls Tryd.prog 18 #[.agg csp.toArray, .agg csd.toArray] w' fun e w'' => e = .returned (.bool true) ∧ Below w'.heap.size w' w'') := fun w' h => same_any 9 _ _ _ _ _ kid w' (hJp.keep (S := fun _ => False) (Asd.of_below h) (fun _ _ _ h => h)) (hJd.keep (S := fun _ => False) (Asd.of_below h) (fun _ _ _ h => h)) hzk
        replace hbr := hbr.trans (hS.mono hbr.size)
        clear KG hS
        go_upto_region 11 with fail
        refine wp_region_held (S := fun w' => Below yp.heap.size yp w') (by kernel_rfl) ?_
        have hS : Below yp.heap.size yp { yp with drawn := yp.drawn + 1 } := (Below.refl _ yp).drew
        generalize { yp with drawn := yp.drawn + 1 } = Dq at *
        refine held_val 0 rfl (by kernel_rfl) (by kernel_rfl) (by kernel_rfl) (fun _ _ _ _ h => h) (by rfl) hS ?_
        apply Exists.intro
        refine ⟨fun w' hw' => ?_, ?_⟩
        · skip
          go_simp
          first | done | rfl | exact ⟨rfl, rfl⟩
        simp only [Act.put, List.setIfInBounds_toArray, List.set_cons_zero, List.set_cons_succ]
        refine held_val 1 rfl (by kernel_rfl) (by kernel_rfl) (by kernel_rfl) (fun _ _ _ _ h => h) (by rfl) hS ?_
        apply Exists.intro
        refine ⟨fun w' hw' => ?_, ?_⟩
        · skip
          go_simp
          first | done | rfl | exact ⟨rfl, rfl⟩
        simp only [Act.put, List.setIfInBounds_toArray, List.set_cons_zero, List.set_cons_succ]
        refine held_val 2 rfl (by kernel_rfl) (by kernel_rfl) (by kernel_rfl) (fun _ _ _ _ h => h) (by rfl) hS ?_
        apply Exists.intro
        refine ⟨fun w' hw' => ?_, ?_⟩
        · skip
          go_simp
          first | done | rfl | exact ⟨rfl, rfl⟩
        simp only [Act.put, List.setIfInBounds_toArray, List.set_cons_zero, List.set_cons_succ]
        refine held_val 3 rfl (by kernel_rfl) (by kernel_rfl) (by kernel_rfl) (fun _ _ _ _ h => h) (by rfl) hS ⟨.agg csp.toArray, fun w' hw' => ?_, ?_⟩
        · exact run_load_val _ rfl _ 29 csp (rXp.stay hw') h5p rfl
        simp only [Act.put, List.setIfInBounds_toArray, List.set_cons_zero, List.set_cons_succ]
        refine held_val 4 rfl (by kernel_rfl) (by kernel_rfl) (by kernel_rfl) (fun _ _ _ _ h => h) (by rfl) hS ?_
        apply Exists.intro
        refine ⟨fun w' hw' => ?_, ?_⟩
        · skip
          go_simp
          first | done | rfl | exact ⟨rfl, rfl⟩
        simp only [Act.put, List.setIfInBounds_toArray, List.set_cons_zero, List.set_cons_succ]
        refine held_val 5 rfl (by kernel_rfl) (by kernel_rfl) (by kernel_rfl) (fun _ _ _ _ h => h) (by rfl) hS ?_
        apply Exists.intro
        refine ⟨fun w' hw' => ?_, ?_⟩
        · have e1 : w'.cell? ⟨X, 4, none⟩ = some (.slice (some ⟨gd, od, none⟩) kids.length dc) := by rw [hw'.cell hXl]; exact cX4
          go_simp
          first | done | rfl | exact ⟨rfl, rfl⟩
        simp only [Act.put, List.setIfInBounds_toArray, List.set_cons_zero, List.set_cons_succ]
        refine held_val 6 rfl (by kernel_rfl) (by kernel_rfl) (by kernel_rfl) (fun _ _ _ _ h => h) (by rfl) hS ?_
        apply Exists.intro
        refine ⟨fun w' hw' => ?_, ?_⟩
        · skip
          go_simp
          first | done | rfl | exact ⟨rfl, rfl⟩
        simp only [Act.put, List.setIfInBounds_toArray, List.set_cons_zero, List.set_cons_succ]
        refine held_val 7 rfl (by kernel_rfl) (by kernel_rfl) (by kernel_rfl) (fun _ _ _ _ h => h) (by rfl) hS ?_
        apply Exists.intro
        refine ⟨fun w' hw' => ?_, ?_⟩
        · skip
          go_simp
          first | done | rfl | exact ⟨rfl, rfl⟩
        simp only [Act.put, List.setIfInBounds_toArray, List.set_cons_zero, List.set_cons_succ]
        refine held_val 8 rfl (by kernel_rfl) (by kernel_rfl) (by kernel_rfl) (fun _ _ _ _ h => h) (by rfl) hS ⟨.agg csd.toArray, fun w' hw' => ?_, ?_⟩
        · exact run_load_vals _ rfl gd (od + q * 5) csd h5d (fun j u hu => by rw [hw'.cell hgd]; exact hcd j u hu) rfl
        simp only [Act.put, List.setIfInBounds_toArray, List.set_cons_zero, List.set_cons_succ]
        refine held_call 9 (by kernel_rfl) rfl (by rfl) ?_
        apply Exists.intro
        apply Exists.intro
        refine ⟨?_, ?_⟩
        · go_simp
          first | done | rfl | exact ⟨rfl, rfl⟩
        refine (KS.out _ hS).mono ?_
        rintro e xq ⟨rfl, hcq⟩
        replace hS := hS.trans (hcq.mono hS.size)
        refine ⟨_, rfl, hS, ?_⟩
        simp only [Act.put, List.setIfInBounds_toArray, List.set_cons_zero, List.set_cons_succ]
        refine held_val 10 rfl (by kernel_rfl) (by kernel_rfl) (by kernel_rfl) (fun _ _ _ _ h => h) (by rfl) hS ?_
        apply Exists.intro
        refine ⟨fun w' hw' => ?_, ?_⟩
        · skip
          go_simp
          first | done | rfl | exact ⟨rfl, rfl⟩
        simp only [Act.put, List.setIfInBounds_toArray, List.set_cons_zero, List.set_cons_succ]
        refine held_val 11 rfl (by kernel_rfl) (by kernel_rfl) (by kernel_rfl) (fun _ _ _ _ h => h) (by rfl) hS ?_
        apply Exists.intro
        refine ⟨fun w' hw' => ?_, ?_⟩
        · skip
          go_simp
          first | done | rfl | exact ⟨rfl, rfl⟩
        simp only [Act.put, List.setIfInBounds_toArray, List.set_cons_zero, List.set_cons_succ]
        refine wpAnyH_done (by kernel_rfl) ?_ _
        replace hbr := hbr.trans (hS.mono hbr.size)
        clear KS hS rXp hJp rX
        go_wp2_with fail
        go_roundw
        case rel => exact ⟨q + 1, by omega, by go_num, hbr⟩
        case measure => simp [intOf]; omega
      -- >>walk
     ·
      obtain rfl : q = keys.length := by omega
      replace rX := rX.stay hbr
      have cX3 := Rw.cell rX 3
      change _ = some (Value.slice ka keys.length kc) at cX3
      replace hkv := hkv.keepN (S := fun _ => False) (Asd.of_below hbr) (fun _ _ _ h => h)
      have KG : Hid (Calls Tryd.prog 22 #[.agg (cells5 k n s (.slice ka keys.length kc) (.slice da kids.length dc)).toArray, .string ⟨key.toArray⟩] wr fun e w'' => ∃ (cs : List Value), e = .returned (.tuple #[.agg cs.toArray, .bool (decide (key ∈ keys))]) ∧ cs.length = 5 ∧ (∀ v ∈ cs, v.oneCell' = true) ∧ (decide (key ∈ keys) = false → cs = zero5) ∧ Below wr.heap.size wr w'') := by
        refine (HG.out key wr hbr).mono ?_
        rw [← hgs]
        cases getN (.mk k n s keys kids) key with
        | none =>
          rintro e w'' ⟨rfl, hbx⟩
          exact ⟨zero5, rfl, rfl, one5 0 0 [] rfl rfl, (fun _ => rfl), hbx⟩
        | some kid =>
          rintro e w'' ⟨⟨cs, rfl, hJx⟩, hbx⟩
          exact ⟨cs, rfl, hJx.five.1, hJx.five.2, (fun h => by cases h), hbx⟩
      clear HG hga hdv hgs hzz
      go_wp2_with (refine load_val X 29 _ rX rfl _ rfl rfl rfl ?_)
      refine KG.out.mono ?_
      rintro e w6 ⟨csy, rfl, h5y, hoy, hyz, hb6⟩
      clear KG cX3
      replace rX := rX.stay hb6
      replace hkv := hkv.keepN (S := fun _ => False) (Asd.of_below hb6) (fun _ _ _ h => h)
      replace hb := hb.trans (hb6.mono hb.size)
      clear hb6 hb3 hbr
      have rN := Rw.new w6 29 zero5
      go_upto_region 16 with (refine store_arr w6.heap.size 29 zero5 rN 5 rfl 29 (by kernel_rfl) csy h5y hoy _ _ rfl rfl rfl rfl ?_)
      rw [World.setRow_alloc_new]
      have rY := Rw.new w6 29 csy
      have hbl : Below w6.heap.size w6 (w6.alloc (.cells csy.toArray 29)) := (Below.refl _ _).alloc (Nat.le_refl _) _
      replace rX := rX.stay hbl
      replace hkv := hkv.keepN (S := fun _ => False) (Asd.of_below hbl) (fun _ _ _ h => h)
      replace hb := hb.trans (hbl.mono hb.size)
      clear rN hbl
      generalize w6.alloc (.cells csy.toArray 29) = w7 at *
      generalize w6.heap.size = Y at *
      go_loopw [12, 13] (fun b i wr2 => ∃ q : Nat, q ≤ keys.length ∧ i = .int .i64 (q : Int) ∧ b = .bool (inN keys key q) ∧ Below w7.heap.size w7 wr2) (fun _ i _ => keys.length - (intOf i).toNat)
      case atStart => exact ⟨0, by omega, rfl, by simp [inN], Below.refl _ _⟩
      case round =>
       obtain ⟨q, hq, rfl, rfl, hbr⟩ := hrel
       replace hb := hb.trans (hbr.mono hb.size)
       replace rX := rX.stay hbr
       replace rY := rY.stay hbr
       by_cases hlt : q < keys.length
       ·
        obtain ⟨y, hy⟩ : ∃ s, keys[q]? = some s := ⟨_, List.getElem?_eq_getElem hlt⟩
        obtain ⟨gk, ok, rfl, hgk, hck⟩ := (hkv.keepN (S := fun _ => False) (Asd.of_below hbr) (fun _ _ _ h => h)).text hy
        have hst := inN_step keys key y q hy
        have cX3 := Rw.cell rX 3
        change _ = some (Value.slice (some ⟨gk, ok, none⟩) keys.length kc) at cX3
        have hqi : (q : Int) < (keys.length : Int) := by omega
        have hq0 : ¬ (q : Int) < 0 := by omega
        have HST : Unit → _ := fun _ => hst
        clear hst hy hkv
        cases hin : inN keys key q with
        | true =>
          rw [hin] at HST
          go_wp2_with fail
          go_roundw
          case rel => exact ⟨q + 1, by omega, by go_num, by rw [HST ()]; rfl, hbr⟩
          case measure => simp [intOf]; omega
        | false =>
          rw [hin] at HST
          go_wp2_with fail
          go_roundw
          case rel => exact ⟨q + 1, by omega, by go_num, by rw [HST ()]; simp, hbr⟩
          case measure => simp [intOf]; omega
       ·
        obtain rfl : q = keys.length := by omega
        have hin : inN keys key keys.length = decide (key ∈ keys) := by unfold inN; rw [List.take_length]
        have cX3 := Rw.cell rX 3
        change _ = some (Value.slice ka keys.length kc) at cX3
        have cX0 := Rw.cell rX 0
        change _ = some (Value.int .i64 k) at cX0
        rw [hin]
        cases hd : decide (key ∈ keys) with
        | true =>
          obtain rfl : k = 6 := by
            rcases hk6 with h | h
            · exact h
            · subst h; simp at hd
          clear hd hyz hin
          go_wp2_with fail
          go_ret
          exact ⟨rfl, hb⟩
        | false =>
          obtain rfl := hyz hd
          have K2 := Lib.hid (same_any 1 (fun _ => True) (fun _ => True) 1 zero5 zero5 (.mk 0 0 [] [] []) wr (JAt.leaf _ _ 0 0 0 []) (JAt.leaf _ _ 0 0 0 []) ⟨by simp, by simp, by simp, by simp, by simp⟩)
          clear hd hyz hin
          have b0 := Rw.cell rY 0
          change _ = some (Value.int .i64 0) at b0
          have b1 := Rw.cell rY 1
          change _ = some (Value.int .i64 0) at b1
          have b2 := Rw.cell rY 2
          change _ = some (Value.string ⟨#[]⟩) at b2
          have b3 := Rw.cell rY 3
          change _ = some (Value.slice none 0 0) at b3
          have b4 := Rw.cell rY 4
          change _ = some (Value.slice none 0 0) at b4
          go_wp2_with fail
          refine K2.out.mono ?_
          rintro e w9 ⟨rfl, hb9⟩
          clear K2
          have hbz := hb.trans (hb9.mono hb.size)
          replace rX := rX.stay hb9
          have cX0 := Rw.cell rX 0
          change _ = some (Value.int .i64 k) at cX0
          by_cases h6 : k = 6
          · subst h6
            go_wp2_with fail
            go_ret
            exact ⟨rfl, hbz⟩
          · go_wp2_with fail
            go_ret
            exact ⟨rfl, hbz⟩
end Go.Proofs.YtbkkcojfgdjbhaaDoor

namespace Go.Proofs.YtbkkcojfgdjbhaaDoor.jsonGets
open Go.ChangeShapes Go.WideShapes Go.ChangeAt Go.RowKit Go.Joins

set_option maxRecDepth 100000 in
theorem contract (H : Type) (enc : TypeId × Value → H) (W : World) (base : Nat) (args : Array Value) (ds gs : List (DataW H)) (before : List MemPlace)
    (hval : ∀ (j : Nat) t v, Tryd.f8.params[j]? = some t → args[j]? = some v → Value.okWide Tryd.prog W .any base t v)
    (hW : DataW.Whole enc Tryd.prog Tryd.f8.params.toList Rows.jsonGetsSpec.vars false W args.toList ds gs before) (hL : laidMetH Tryd.prog Rows.jsonGetsRow.laid W) :
    Calls Tryd.prog 8 args W fun e W' => ∃ v, e = .returned v ∧ Rows.jsonGetsSpec.post enc Tryd.prog Tryd.f8 false true false false W args v W' := by
  have hW' := hW
  obtain ⟨p, q, hA0, hV, rfl, hfz, hnd⟩ := hW
  have hA : DataW.TrodAll enc Tryd.prog W 0 (fun _ => true) true Tryd.f8.params.toList args.toList ds p := hA0
  rw [Tryd.params8] at hA hval
  obtain ⟨v0, vs0, d0, ds0, p0, q0, hargs, rfl, rfl, h0, r0⟩ := trodAll_cons hA
  obtain ⟨v1, vs1, d1, ds1, p1, q1, rfl, rfl, rfl, h1, r1⟩ := trodAll_cons r0
  obtain ⟨rfl, rfl, rfl⟩ := trodAll_nil r1
  obtain rfl : args = #[v0, v1] := by cases args; simp_all
  obtain ⟨rfl, rfl⟩ := trodVars_none hV
  obtain ⟨D0, cs0, j0, rfl, hj0, _, kz0⟩ := open_val (hval 0 _ _ rfl rfl) h0
  obtain ⟨s1, rfl, rfl, rfl, ws1⟩ := Go.ChangeMaps.open_string Tryd.underlying9 (hval 1 9 v1 rfl rfl) h1
  clear hA0
  simp only [List.append_nil] at hW'
  refine (show Calls Tryd.prog 8 #[.agg cs0.toArray, .string s1] W _ from (ba_list s1) ▸ jgets_any _ D0 cs0 j0 s1.data.toList W (env_of_laid hL) hj0 kz0).mono fun e W' ⟨he, hg⟩ => ?_
  subst he
  exact ⟨_, rfl, post_new (pv := []) hW' (fun _ _ _ => trodAll_cons_mk (shut_bool Tryd.underlying4 _) trodAll_mk0)
    (fun sp hsp => (trodAll_cons_mk (WideElems.Trod_stays (by kernel_rfl) (by kernel_rfl) (of_decide_eq_true (by kernel_rfl)) h0 (fun x hx => hg.same (hW'.lt x (by simp [hx]))) (fun x hx => hsp x (by simp [hx]))) (trodAll_cons_mk (Go.ChangeMaps.shut_string Tryd.underlying9 ws1) trodAll_mk0))) (fun _ => rfl) hg⟩

theorem reads (os : Go.Os) {H : Type} (enc : TypeId × Value → H) : ∃ places, DataW.whole enc Tryd.prog ((World.laidAll Tryd.prog os Rows.jsonGetsRow.laid).forCall (fun _ _ => 0) ⟨#[], #[.agg #[.int .i64 0, .int .i64 0, .string ⟨#[]⟩, .slice none 0 0, .slice none 0 0], .string ⟨#[]⟩], []⟩).memory Tryd.f8.params.toList Rows.jsonGetsSpec.vars false #[Value.agg #[.int .i64 0, .int .i64 0, .string ⟨#[]⟩, .slice none 0 0, .slice none 0 0], Value.string ⟨#[]⟩].toList 8 = some ([.agg [.lit (.int .i64 0), .lit (.int .i64 0), .lit (.string []), .nil, .nil], .lit (.string [])], [], places) :=
  ⟨[], by kernel_rfl⟩

set_option maxRecDepth 100000 in
theorem lifted (os : Go.Os) (started : os.Started) (H : Type) (enc : TypeId × Value → H) (F : Stop.Interp) :
    ReturnsInHanded {} Tryd.checked os 8 .any ((OpenSpec.ofChange Rows.jsonGetsSpec).preRow enc Tryd.prog Tryd.f8 Rows.jsonGetsRow.domain false Rows.jsonGetsRow.laid) (((OpenSpec.ofChange Rows.jsonGetsSpec).at F).post enc Tryd.prog Tryd.f8 false true false false) := by
  obtain ⟨places, hx⟩ := reads os enc
  refine returnsInHanded_of_row (C := Tryd.checked) (s := OpenSpec.ofChange Rows.jsonGetsSpec) own started (by kernel_rfl) Tryd.func8
    (witness_zip (enc := enc) (C := Tryd.checked) false (World.laidAll Tryd.prog os Rows.jsonGetsRow.laid) #[.agg #[.int .i64 0, .int .i64 0, .string ⟨#[]⟩, .slice none 0 0, .slice none 0 0], .string ⟨#[]⟩] (World.laidAll_os _ _ _) (World.shaped_of_ZipB (by kernel_rfl) (by kernel_rfl)) (by kernel_rfl)
      (OpenSpec.preRow_of_cond 8 hx (by kernel_rfl) (fun k hk => by cases hk) (by kernel_rfl) (door_met os _))) ?_
  intro W base args ds gs before hval hW _ _ _ hL _ _
  exact contract H enc W base args ds gs before hval hW hL

theorem said : Rows.JsonGetsSaid :=
  OpenClaim.holds_of_cond 8 Tryd.f8 rfl rfl rfl rfl rfl rfl rfl ⟨rfl, rfl, rfl, rfl, rfl⟩ rfl rfl rfl rfl rfl (by kernel_rfl) Tryd.func8 (by kernel_rfl)
    (of_decide_eq_true (by kernel_rfl)) (by unfold Func.isWrapper; first | (rw [if_pos (by decide +kernel)]; kernel_rfl) | (rw [if_neg (by decide +kernel)]; exact ⟨rfl, rfl⟩))
    (fun os started H enc _ F => by rw [OpenClaim.pre_eq_preRow]; exact lifted os started H enc F)

theorem plain (f : FuncId) (fn : Func) (hf : Tryd.pinned.checked.prog.funcNamed Rows.jsonGetsRow.func = some f) (hfn : Tryd.pinned.checked.prog.funcs[f]? = some fn) :
    true = Tryd.pinned.checked.prog.looks [] ∧ ∀ (j : Nat) t, fn.params[j]? = some t → Tryd.pinned.checked.prog.wantsStandIn t = false := by
  obtain rfl : f = 8 := Option.some.inj ((show Tryd.prog.funcNamed Rows.jsonGetsRow.func = some 8 by kernel_rfl).symm.trans hf) |>.symm
  obtain rfl : fn = Tryd.f8 := (Option.some.inj (Tryd.func8.symm.trans hfn)).symm
  refine ⟨by kernel_rfl, fun j t ht => ?_⟩
  rw [Tryd.params8] at ht
  have hm : t = 25 ∨ t = 9 := by simpa using Array.mem_of_getElem? ht
  rcases hm with rfl | rfl
  · exact (show Tryd.prog.wantsStandIn 25 = false by kernel_rfl)
  · exact (show Tryd.prog.wantsStandIn 9 = false by kernel_rfl)

theorem card : Rows.JsonGetsCardSaid :=
  Claim7.holds_tied_plain_at .later [] _ _ _ _ said (fun _ h => by cases h) (by kernel_rfl) (fun _ h => by cases h) jsonGets_row_tie rfl ⟨rfl, rfl⟩ (by kernel_rfl) rfl plain (by kernel_rfl)
end Go.Proofs.YtbkkcojfgdjbhaaDoor.jsonGets
