/- policy.Find: the label of the first of a name. -/
import Derived.Test.YtknhkmlihbgjpaaDoorARow
import Derived.Test.YtknhkmlihbgjpaaDoorLG
namespace Go.Proofs.YtknhkmlihbgjpaaDoor
open Go.ChangeShapes Go.WideShapes Go.RowKit

/-- A name with a label. -/
structure Nd where
  n : Bs
  l : Int
  c : Int
def encN (n : Nd) : List Value := [.string ⟨n.n.toArray⟩, .int .i64 n.l, .int .u32 n.c]
def NdsAt (P : Nat → Prop) (w : World) (v : Value) (ns : List Nd) : Prop := RowsAt 3 P w v (ns.map encN)
theorem NdsAt.shape {P : Nat → Prop} {w : World} {v : Value} {ns : List Nd} (h : NdsAt P w v ns) : ∃ a c, v = .slice a ns.length c := by
  have := RowsAt.shape h
  rwa [List.length_map] at this
theorem NdsAt.part {P : Nat → Prop} {w : World} {a : Option Addr} {n c : Nat} {ns : List Nd} (h : NdsAt P w (.slice a n c) ns) {j : Nat} {m : Nd} (hj : ns[j]? = some m) :
    ∃ g o, a = some ⟨g, o, none⟩ ∧ P g ∧ g < w.heap.size ∧ w.cell? ⟨g, o + j * 3, none⟩ = some (.string ⟨m.n.toArray⟩) ∧ w.cell? ⟨g, o + j * 3 + 1, none⟩ = some (.int .i64 m.l) ∧ w.cell? ⟨g, o + j * 3 + 2, none⟩ = some (.int .u32 m.c) := by
  obtain ⟨g, o, e, hp, hg, hc⟩ := RowsAt.part h (j := j) (cs := encN m) (by simp [hj])
  exact ⟨g, o, e, hp, hg, hc 0 _ rfl, hc 1 _ rfl, hc 2 _ rfl⟩
theorem NdsAt.stay {P : Nat → Prop} {w w' : World} {v : Value} {ns : List Nd} (h : NdsAt P w v ns) (q : Below w.heap.size w w') : NdsAt P w' v ns := RowsAt.stay h q
theorem NdsAt.mono {P P' : Nat → Prop} {w : World} {v : Value} {ns : List Nd} (h : NdsAt P w v ns) (hp : ∀ i, P i → i < w.heap.size → P' i) : NdsAt P' w v ns := RowsAt.mono h hp
def findN : List Nd → Bs → Option (Int × Int)
  | [], _ => none
  | m :: l, n => if m.n = n then some (m.l, m.c) else findN l n
theorem findN_at {ns : List Nd} {k : Nat} {m : Nd} (h : ns[k]? = some m) (n : Bs) : findN (ns.drop k) n = if m.n = n then some (m.l, m.c) else findN (ns.drop (k + 1)) n := by
  obtain ⟨h1, h2⟩ := List.getElem?_eq_some_iff.1 h
  rw [List.drop_eq_getElem_cons h1, h2, findN]
/-- What Find returns. -/
def findV : Option (Int × Int) → Value
  | none => .tuple #[.agg #[.int .i64 0, .int .u32 0], .bool false]
  | some x => .tuple #[.agg #[.int .i64 x.1, .int .u32 x.2], .bool true]
set_option maxHeartbeats 3200000 in
set_option maxRecDepth 100000 in
theorem find_any (P : Nat → Prop) (v : Value) (ns : List Nd) (nm : Bs) (w : World) (h : NdsAt P w v ns) (hl : ns.length ≤ 9223372036854775807) :
    Calls Tryd.prog 75 #[v, .string ⟨nm.toArray⟩] w fun e w' => e = .returned (findV (findN ns nm)) ∧ Below w.heap.size w w' := by
  obtain ⟨a, c, rfl⟩ := h.shape
  obtain ⟨n, hn⟩ : ∃ n, ns.length = n := ⟨_, rfl⟩
  rw [hn] at hl h ⊢
  have HN : Unit → ns.length = n := fun _ => hn
  clear hn
  obtain ⟨O, hO⟩ : ∃ O, findN ns nm = O := ⟨_, rfl⟩
  have HO : Unit → findN ns nm = O := fun _ => hO
  rw [hO]
  clear hO
  have hni : (n : Int) ≤ 9223372036854775807 := by omega
  go_enter Tryd.func75, Tryd.ntmps75
  go_upto_region 2 with fail
  have hB0 : Below w.heap.size w (w.alloc (.cells #[.int .i64 0, .int .u32 0] 25)) := (Below.refl w.heap.size w).alloc (Nat.le_refl _) _
  have r0 : Rw (w.alloc (.cells #[.int .i64 0, .int .u32 0] 25)) w.heap.size 25 [.int .i64 0, .int .u32 0] := Rw.new w 25 [.int .i64 0, .int .u32 0]
  generalize w.alloc (.cells #[.int .i64 0, .int .u32 0] 25) = w1 at *
  have hR0 := r0.lt
  generalize hR : w.heap.size = R at r0 hB0 hR0 ⊢
  have HR : Unit → w.heap.size = R := fun _ => hR
  clear hR
  go_loopw [10] (fun iv wr => ∃ k : Nat, k ≤ n ∧ iv = .int .i64 (k : Int) ∧ findN ns nm = findN (ns.drop k) nm ∧ Rw wr R 25 [.int .i64 0, .int .u32 0] ∧ Below R w wr) (fun iv _ => n - (intOf iv).toNat)
  case atStart => exact ⟨0, Nat.zero_le _, rfl, by rw [List.drop_zero], r0, hB0⟩
  case round =>
    clear r0 hB0 hR0
    obtain ⟨k, hk, rfl, hV, r0, hB⟩ := hrel
    have HV : Unit → findN ns nm = findN (ns.drop k) nm := fun _ => hV
    clear hV
    have hR0 := r0.lt
    by_cases hlt : k < n
    · have hki : (k : Int) < (n : Int) := by omega
      obtain ⟨f, hf⟩ : ∃ f, ns[k]? = some f := ⟨_, List.getElem?_eq_getElem (by have := HN (); omega)⟩
      obtain ⟨g, o, rfl, _, hg, c0, c1, c2⟩ := (h.stay (hB.mono (Nat.le_of_eq (HR ())))).part hf
      have hst := findN_at hf nm
      have hsame := same_text f.n nm
      clear hf
      obtain ⟨f1, f2, f3⟩ := f
      simp only at c0 c1 c2 hst hsame
      have rN : Rw (wr.alloc (.cells #[.string ⟨f1.toArray⟩, .int .i64 f2, .int .u32 f3] 82)) wr.heap.size 82 [.string ⟨f1.toArray⟩, .int .i64 f2, .int .u32 f3] := Rw.new wr 82 [.string ⟨f1.toArray⟩, .int .i64 f2, .int .u32 f3]
      have hal : Below wr.heap.size wr (wr.alloc (.cells #[.string ⟨f1.toArray⟩, .int .i64 f2, .int .u32 f3] 82)) := (Below.refl _ _).alloc (Nat.le_refl _) _
      have r1 := r0.stay hal
      have hB2 := hB.trans (hal.mono (Nat.le_of_lt hR0))
      go_upto_region 4 with fail
      generalize wr.alloc (.cells #[.string ⟨f1.toArray⟩, .int .i64 f2, .int .u32 f3] 82) = w2 at *
      generalize wr.heap.size = b at *
      clear r0 hB hal c0 c1 c2
      have u0 := Rw.cell r1 0
      have u1 := Rw.cell r1 1
      have z0 := Rw.frozen r1 0
      have z1 := Rw.frozen r1 1
      have d0 := Rw.cell rN 0
      have d1 := Rw.cell rN 1
      have d2 := Rw.cell rN 2
      simp only [List.getElem?_cons_zero, List.getElem?_cons_succ] at d0 d1 d2 u0 u1
      by_cases he : f1 = nm
      · rw [if_pos he] at hst
        have e : some (f2, f3) = O := (hst.symm.trans (HV ()).symm).trans (HO ())
        subst e
        have hb : (f1 == nm) = true := by simpa using he
        rw [hb] at hsame
        clear hst he
        go_wp2_with fail
        refine bodyPost_ret (v := .tuple #[.agg #[.int .i64 f2, .int .u32 f3], .bool true]) (by simp [results, Tryd.results75, go_sem, u0, u1]) rfl ?_
        exact ⟨rfl, by rw [HR ()]; exact (hB2.setCell (p := ⟨R, 0, none⟩) (Nat.le_refl _) _).setCell (p := ⟨R, 1, none⟩) (Nat.le_refl _) _⟩
      · rw [if_neg he] at hst
        have HV2 : Unit → findN ns nm = findN (ns.drop (k + 1)) nm := fun _ => (HV ()).trans hst
        have hb : (f1 == nm) = false := by simpa using he
        rw [hb] at hsame
        clear hst he
        go_wp2_with fail
        go_roundw
        case rel => exact ⟨k + 1, by omega, by go_num, HV2 (), r1, hB2⟩
        case measure => simp [intOf]; omega
    · have hki : ¬ (k : Int) < (n : Int) := by omega
      have e : (none : Option (Int × Int)) = O := by rw [← HO (), HV (), List.drop_eq_nil_of_le (by have := HN (); omega)]; rfl
      subst e
      have u0 := Rw.cell r0 0
      have u1 := Rw.cell r0 1
      have z0 := Rw.frozen r0 0
      have z1 := Rw.frozen r0 1
      simp only [List.getElem?_cons_zero, List.getElem?_cons_succ] at u0 u1
      go_wp2_with fail
      refine bodyPost_ret (v := .tuple #[.agg #[.int .i64 0, .int .u32 0], .bool false]) (by simp [results, Tryd.results75, go_sem, u0, u1]) rfl ?_
      exact ⟨rfl, by rw [HR ()]; exact (hB.setCell (p := ⟨R, 0, none⟩) (Nat.le_refl _) _).setCell (p := ⟨R, 1, none⟩) (Nat.le_refl _) _⟩
end Go.Proofs.YtknhkmlihbgjpaaDoor
