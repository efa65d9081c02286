/- policy.Raised: a field's label. -/
import Derived.Test.YtknhkmlihbgjpaaDoorAFind
namespace Go.Proofs.YtknhkmlihbgjpaaDoor
open Go.ChangeShapes Go.WideShapes Go.RowKit

/-- A slice's place and size. -/
structure Sl where
  a : Option Addr
  n : Nat
  c : Nat
def Sl.v (s : Sl) : Value := .slice s.a s.n s.c
/-- A label whose teams are a number of 32 bits. -/
def U32 (c : Int) : Prop := 0 ≤ c ∧ c < 4294967296
def raisedL (ns : List Nd) (nm : Bs) (l : Int) : Int := match findN ns nm with
  | none => l
  | some x => jL l x.1
def raisedC (ns : List Nd) (nm : Bs) (l c : Int) : Int := match findN ns nm with
  | none => c
  | some x => jC l c x.1 x.2
theorem find_mem {ns : List Nd} {nm : Bs} {x : Int × Int} (h : findN ns nm = some x) : ∃ m ∈ ns, m.l = x.1 ∧ m.c = x.2 := by
  induction ns with
  | nil => cases h
  | cons m ns ih =>
    unfold findN at h
    split at h
    · injection h with h; subst h; exact ⟨m, List.mem_cons_self .., rfl, rfl⟩
    · obtain ⟨m', hm, e⟩ := ih h; exact ⟨m', List.mem_cons_of_mem _ hm, e⟩
theorem Rw.past {w : World} {g : Nat} {t : TypeId} {cs : List Value} (h : Rw w g t cs) (o : Obj) : Rw (w.alloc o) g t cs := h.stay ((Below.refl _ _).alloc (Nat.le_refl _) o)
theorem put2n (w : World) (t1 t2 : TypeId) (c1 c2 : List Value) : Rw ((w.alloc (.cells c1.toArray t1)).alloc (.cells c2.toArray t2)) w.heap.size t1 c1 ∧ Rw ((w.alloc (.cells c1.toArray t1)).alloc (.cells c2.toArray t2)) (w.heap.size + 1) t2 c2 ∧ Below w.heap.size w ((w.alloc (.cells c1.toArray t1)).alloc (.cells c2.toArray t2)) := by
  have h1 := Rw.new w t1 c1
  have h2 := Rw.new (w.alloc (.cells c1.toArray t1)) t2 c2
  rw [show (w.alloc (.cells c1.toArray t1)).heap.size = w.heap.size + 1 by simp] at h2
  exact ⟨Rw.past h1 _, h2, ((Below.refl _ w).alloc (Nat.le_refl _) _).alloc (by simp) _⟩
theorem put3n (w : World) (t1 t2 t3 : TypeId) (c1 c2 c3 : List Value) : Rw (((w.alloc (.cells c1.toArray t1)).alloc (.cells c2.toArray t2)).alloc (.cells c3.toArray t3)) w.heap.size t1 c1 ∧ Rw (((w.alloc (.cells c1.toArray t1)).alloc (.cells c2.toArray t2)).alloc (.cells c3.toArray t3)) (w.heap.size + 1) t2 c2 ∧
    Rw (((w.alloc (.cells c1.toArray t1)).alloc (.cells c2.toArray t2)).alloc (.cells c3.toArray t3)) (w.heap.size + 1 + 1) t3 c3 ∧ Below w.heap.size w (((w.alloc (.cells c1.toArray t1)).alloc (.cells c2.toArray t2)).alloc (.cells c3.toArray t3)) := by
  obtain ⟨h1, h2, h3⟩ := put2n w t1 t2 c1 c2
  have h4 := Rw.new ((w.alloc (.cells c1.toArray t1)).alloc (.cells c2.toArray t2)) t3 c3
  rw [show ((w.alloc (.cells c1.toArray t1)).alloc (.cells c2.toArray t2)).heap.size = w.heap.size + 1 + 1 by simp] at h4
  exact ⟨h1.past _, h2.past _, h4, h3.alloc h3.size _⟩
set_option maxHeartbeats 3200000 in
set_option maxRecDepth 100000 in
theorem raised_any (P : Nat → Prop) (x0 x1 x2 x3 x4 x5 : Sl) (ns : List Nd) (nm : Bs) (l c : Int) (w : World) (h : NdsAt P w x3.v ns) (hl : ns.length ≤ 9223372036854775807) (hu : ∀ m ∈ ns, U32 m.c) (hc : U32 c) :
    Calls Tryd.prog 54 #[.agg #[x0.v, x1.v, x2.v, x3.v, x4.v, x5.v], .string ⟨nm.toArray⟩, .agg #[.int .i64 l, .int .u32 c]] w fun e w' => e = .returned (.agg #[.int .i64 (raisedL ns nm l), .int .u32 (raisedC ns nm l c)]) ∧ Below w.heap.size w w' := by
  have KF := Lib.hid fun w' (hb : Below w.heap.size w w') => find_any P x3.v ns nm w' (h.stay hb) hl
  have HU : Unit → ∀ x, findN ns nm = some x → U32 x.2 := fun _ x hx => by
    obtain ⟨m, hm, _, e⟩ := find_mem hx
    rw [← e]; exact hu m hm
  obtain ⟨RL, hRL⟩ : ∃ x, raisedL ns nm l = x := ⟨_, rfl⟩
  obtain ⟨RC, hRC⟩ : ∃ x, raisedC ns nm l c = x := ⟨_, rfl⟩
  have HR : Unit → raisedL ns nm l = RL ∧ raisedC ns nm l c = RC := fun _ => ⟨hRL, hRC⟩
  rw [hRL, hRC]
  obtain ⟨F, hF⟩ : ∃ F, findN ns nm = F := ⟨_, rfl⟩
  have HF : Unit → findN ns nm = F := fun _ => hF
  simp only [hF] at KF
  clear hRL hRC hF hu h hl
  obtain ⟨a0, n0, c0⟩ := x0
  obtain ⟨a1, n1, c1⟩ := x1
  obtain ⟨a2, n2, c2⟩ := x2
  obtain ⟨a3, n3, c3⟩ := x3
  obtain ⟨a4, n4, c4⟩ := x4
  obtain ⟨a5, n5, c5⟩ := x5
  simp only [Sl.v] at KF ⊢
  go_enter Tryd.func54, Tryd.ntmps54
  go_upto_region 1 with fail
  obtain ⟨rP, rB, rO, hB⟩ := put3n w 50 25 25 [.slice a0 n0 c0, .slice a1 n1 c1, .slice a2 n2 c2, .slice a3 n3 c3, .slice a4 n4 c4, .slice a5 n5 c5] [.int .i64 l, .int .u32 c] [.int .i64 0, .int .u32 0]
  generalize ((w.alloc (.cells #[.slice a0 n0 c0, .slice a1 n1 c1, .slice a2 n2 c2, .slice a3 n3 c3, .slice a4 n4 c4, .slice a5 n5 c5] 50)).alloc (.cells #[.int .i64 l, .int .u32 c] 25)).alloc (.cells #[.int .i64 0, .int .u32 0] 25) = w1 at *
  have p3 := Rw.cell rP 3
  simp only [List.getElem?_cons_zero, List.getElem?_cons_succ] at p3
  go_wp2_with fail
  refine (KF.out _ hB).mono ?_
  rintro e w2 ⟨rfl, hb⟩
  clear KF p3 rP
  replace hB := hB.trans (hb.mono hB.size)
  replace rB := rB.stay hb
  replace rO := rO.stay hb
  clear hb
  cases F with
  | none =>
    have e1 : l = RL ∧ c = RC := by have := HR (); unfold raisedL raisedC at this; rw [HF ()] at this; exact this
    obtain ⟨rfl, rfl⟩ := e1
    simp only [findV]
    have hal : Below w2.heap.size w2 (w2.alloc (.cells #[.int .i64 0, .int .u32 0] 25)) := (Below.refl _ _).alloc (Nat.le_refl _) _
    replace rB := rB.stay hal
    replace rO := rO.stay hal
    replace hB := hB.trans (hal.mono hB.size)
    go_upto_region 2 with fail
    generalize w2.alloc (.cells #[.int .i64 0, .int .u32 0] 25) = w3 at *
    generalize w2.heap.size = R at *
    have u0 := Rw.cell rO 0
    have u1 := Rw.cell rO 1
    have z0 := Rw.frozen rO 0
    have z1 := Rw.frozen rO 1
    have b0 := Rw.cell rB 0
    have b1 := Rw.cell rB 1
    simp only [List.getElem?_cons_zero, List.getElem?_cons_succ] at u0 u1 b0 b1
    go_wp2_with fail
    refine bodyPost_ret (v := .agg #[.int .i64 l, .int .u32 c]) (by simp [results, Tryd.results54, go_sem, u0, u1]) rfl ?_
    exact ⟨rfl, (hB.setCell (p := ⟨w.heap.size + 1 + 1, 0, none⟩) (by simp; omega) _).setCell (p := ⟨w.heap.size + 1 + 1, 1, none⟩) (by simp; omega) _⟩
  | some x =>
    have e1 : jL l x.1 = RL ∧ jC l c x.1 x.2 = RC := by have := HR (); unfold raisedL raisedC at this; rw [HF ()] at this; exact this
    have hx := HU () x (HF ())
    obtain ⟨x1, x2⟩ := x
    simp only at e1 hx
    simp only [findV]
    have hal : Below w2.heap.size w2 (w2.alloc (.cells #[.int .i64 x1, .int .u32 x2] 25)) := (Below.refl _ _).alloc (Nat.le_refl _) _
    have rX : Rw (w2.alloc (.cells #[.int .i64 x1, .int .u32 x2] 25)) w2.heap.size 25 [.int .i64 x1, .int .u32 x2] := Rw.new w2 25 [.int .i64 x1, .int .u32 x2]
    replace rB := rB.stay hal
    replace rO := rO.stay hal
    replace hB := hB.trans (hal.mono hB.size)
    go_upto_region 2 with fail
    generalize w2.alloc (.cells #[.int .i64 x1, .int .u32 x2] 25) = w3 at *
    generalize w2.heap.size = R at *
    have KJ := join_any l c x1 x2 hc.1 hc.2 hx.1 hx.2 w3
    rw [e1.1, e1.2] at KJ
    replace KJ := Lib.hid KJ
    have d0 := Rw.cell rX 0
    have d1 := Rw.cell rX 1
    have b0 := Rw.cell rB 0
    have b1 := Rw.cell rB 1
    simp only [List.getElem?_cons_zero, List.getElem?_cons_succ] at d0 d1 b0 b1
    clear e1 hal
    go_wp2_with fail
    refine KJ.out.mono ?_
    rintro e w4 ⟨rfl, hb⟩
    replace rO := rO.stay hb
    replace hB := hB.trans (hb.mono hB.size)
    clear KJ hb d0 d1 b0 b1
    have u0 := Rw.cell rO 0
    have u1 := Rw.cell rO 1
    have z0 := Rw.frozen rO 0
    have z1 := Rw.frozen rO 1
    simp only [List.getElem?_cons_zero, List.getElem?_cons_succ] at u0 u1
    go_wp2_with fail
    refine bodyPost_ret (v := .agg #[.int .i64 RL, .int .u32 RC]) (by simp [results, Tryd.results54, go_sem, u0, u1]) rfl ?_
    exact ⟨rfl, (hB.setCell (p := ⟨w.heap.size + 1 + 1, 0, none⟩) (by simp; omega) _).setCell (p := ⟨w.heap.size + 1 + 1, 1, none⟩) (by simp; omega) _⟩
end Go.Proofs.YtknhkmlihbgjpaaDoor
