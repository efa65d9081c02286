/- The document's Check of a policy (written by wip/tools/gencheck.py). -/
import Derived.Test.YtknhkmlihbgjpaaDoorQD
import Derived.Test.YtknhkmlihbgjpaaDoorAR
import Derived.Deep.MidRow
namespace Go.Proofs.YtknhkmlihbgjpaaDoor.Dn
open Go.ChangeShapes Go.WideShapes Go.RowKit

/-- A route: what it says, and the values of its two slices. -/
structure Rt where
  rcv : Bs
  names : List Bs
  nv : Value
  wait : Int
  every : Int
  again : Int
  ms : List M3
  mv : Value
def encR (r : Rt) : List Value := [.string ⟨r.rcv.toArray⟩, r.nv, .int .i64 r.wait, .int .i64 r.every, .int .i64 r.again, r.mv]
structure Ih where
  names : List Bs
  nv : Value
  l : Int
  c : Int
  fs : List M3
  fv : Value
  ms : List M3
  mv : Value
def encI (x : Ih) : List Value := [x.nv, .int .i64 x.l, .int .u32 x.c, x.fv, x.mv]
/-- Names in memory, whose lengths are numbers. -/
def NmOk (w : World) (v : Value) (ss : List Bs) : Prop := StrsAt (fun _ => True) w v ss ∧ ss.length ≤ 9223372036854775807 ∧ ∀ s ∈ ss, s.length ≤ 9223372036854775807
def MsOk (w : World) (v : Value) (ms : List M3) : Prop := RowsAt 3 (fun _ => True) w v (ms.map enc3) ∧ ms.length ≤ 9223372036854775807 ∧ ∀ m ∈ ms, m.1.length ≤ 9223372036854775807 ∧ m.2.2.length ≤ 9223372036854775807
def RtOk (w : World) (r : Rt) : Prop := NmOk w r.nv r.names ∧ MsOk w r.mv r.ms
def IhOk (w : World) (x : Ih) : Prop := NmOk w x.nv x.names ∧ MsOk w x.fv x.fs ∧ MsOk w x.mv x.ms
def NdOk (w : World) (v : Value) (ns : List Nd) : Prop := NdsAt (fun _ => True) w v ns ∧ ns.length ≤ 9223372036854775807 ∧ ∀ m ∈ ns, m.n.length ≤ 9223372036854775807
section
variable {w w' : World} {v : Value}
theorem NmOk.stay {ss : List Bs} (h : NmOk w v ss) (k : Below w.heap.size w w') : NmOk w' v ss := ⟨h.1.stay k, h.2⟩
theorem MsOk.stay {ms : List M3} (h : MsOk w v ms) (k : Below w.heap.size w w') : MsOk w' v ms := ⟨h.1.stay k, h.2⟩
theorem NdOk.stay {ns : List Nd} (h : NdOk w v ns) (k : Below w.heap.size w w') : NdOk w' v ns := ⟨NdsAt.stay h.1 k, h.2⟩
end
def okRt (recv : List Nd) (r : Rt) : Bool := (findN recv r.rcv).isSome && (byD r.names && (decide (0 ≤ r.wait) && (decide (r.wait ≤ 1000) && (decide (1 ≤ r.every) && (decide (r.every ≤ 1000) && (decide (r.every ≤ r.again) && (decide (r.again ≤ 100000) && whenD r.ms)))))))
def okIh (x : Ih) : Bool := byD x.names && (rB x.l && (whenD x.fs && whenD x.ms))
def checkD (s r p ra : List Nd) (rts : List Rt) (ihs : List Ih) : Int :=
  if 12 < s.length ∨ 12 < r.length ∨ 12 < p.length ∨ 12 < ra.length ∨ 12 < rts.length ∨ 12 < ihs.length then 4
  else if (namedD s && (namedD r && (namedD p && namedD ra))) && (rts.all (okRt r) && ihs.all okIh) then 0 else 1
theorem check_bad {s r p ra : List Nd} {rts : List Rt} {ihs : List Ih} (h : ¬ (12 < s.length ∨ 12 < r.length ∨ 12 < p.length ∨ 12 < ra.length ∨ 12 < rts.length ∨ 12 < ihs.length))
    (hb : ((namedD s && (namedD r && (namedD p && namedD ra))) && (rts.all (okRt r) && ihs.all okIh)) = false) : checkD s r p ra rts ihs = 1 := by
  unfold checkD
  rw [if_neg h, hb]
  rfl
theorem check_good {s r p ra : List Nd} {rts : List Rt} {ihs : List Ih} (h : ¬ (12 < s.length ∨ 12 < r.length ∨ 12 < p.length ∨ 12 < ra.length ∨ 12 < rts.length ∨ 12 < ihs.length))
    (hb : ((namedD s && (namedD r && (namedD p && namedD ra))) && (rts.all (okRt r) && ihs.all okIh)) = true) : checkD s r p ra rts ihs = 0 := by
  unfold checkD
  rw [if_neg h, hb]
  rfl
theorem check_long {s r p ra : List Nd} {rts : List Rt} {ihs : List Ih} (h : 12 < s.length ∨ 12 < r.length ∨ 12 < p.length ∨ 12 < ra.length ∨ 12 < rts.length ∨ 12 < ihs.length) : checkD s r p ra rts ihs = 4 := by
  unfold checkD
  rw [if_pos h]
theorem strs_one {P : Nat → Prop} {w : World} {v : Value} {ss : List Bs} (h : StrsAt P w v ss) : ∃ a c, v = .slice a ss.length c := h.shape
section
variable {ops : Array Oper} {rest : List Oper} {o : Oper} {a : Act} {w : World} {Q : Exit → Act → World → Prop}
/-- A whole row is written. -/
theorem store_rowT (t : TypeId) (g : Nat) (old : List Value) (hr : Rw w g t old) (cs : List Value) (hl : old.length = cs.length) (hi : (Tryd.prog.info? t).map (·.size) = some cs.length) (h1 : ∀ v ∈ cs, v.oneCell' = true) (x y : Operand) (hgd : o.guard = none) (ho : o.op = .store t x y)
    (hx : a.eval x = .pointer (some ⟨g, 0, none⟩)) (hy : a.eval y = .agg cs.toArray) (h : wpList Tryd.prog ops Q rest (a.put o.dst undef) (w.setRow g cs.toArray)) : wpList Tryd.prog ops Q (o :: rest) a w :=
  wpList_store_row hgd t x y ho g cs.toArray hx hy t old.toArray hr (by rw [hi]; simp) (by simpa using hl) (by rw [Array.all_eq_true_iff_forall_mem]; intro v hv; exact h1 v (by simpa using hv)) h
end
theorem size_rt : (Tryd.prog.info? 102).map (·.size) = some 6 := by kernel_rfl
theorem size_ih : (Tryd.prog.info? 106).map (·.size) = some 5 := by kernel_rfl
theorem size_lb : (Tryd.prog.info? 25).map (·.size) = some 2 := by kernel_rfl
theorem one_of {v : Value} (h : ∃ a n c, v = .slice a n c) : v.oneCell' = true := by obtain ⟨a, n, c, rfl⟩ := h; rfl
set_option maxHeartbeats 12800000 in
set_option maxRecDepth 100000 in
theorem check_any (v0 v1 v2 v3 v4 v5 : Value) (s r p ra : List Nd) (rts : List Rt) (ihs : List Ih) (w : World) (h0 : NdOk w v0 s) (h1 : NdOk w v1 r) (h2 : NdOk w v2 p) (h3 : NdOk w v3 ra)
    (h4 : RowsAt 6 (fun _ => True) w v4 (rts.map encR)) (h4l : rts.length ≤ 9223372036854775807) (h4o : ∀ x ∈ rts, RtOk w x) (h5 : RowsAt 5 (fun _ => True) w v5 (ihs.map encI)) (h5l : ihs.length ≤ 9223372036854775807) (h5o : ∀ x ∈ ihs, IhOk w x) :
    Calls Tryd.prog 32 #[.agg #[v0, v1, v2, v3, v4, v5]] w fun e w' => e = .returned (.int .i64 (checkD s r p ra rts ihs)) ∧ Below w.heap.size w w' := by
  obtain ⟨a0, c0, rfl⟩ := h0.1.shape
  obtain ⟨a1, c1, rfl⟩ := h1.1.shape
  obtain ⟨a2, c2, rfl⟩ := h2.1.shape
  obtain ⟨a3, c3, rfl⟩ := h3.1.shape
  obtain ⟨a4, c4, rfl⟩ := h4.shape
  obtain ⟨a5, c5, rfl⟩ := h5.shape
  rw [List.length_map] at h4 h5 ⊢
  rw [List.length_map]
  have hi0 : (s.length : Int) ≤ 9223372036854775807 := by have := h0.2.1; omega
  have hi1 : (r.length : Int) ≤ 9223372036854775807 := by have := h1.2.1; omega
  have hi2 : (p.length : Int) ≤ 9223372036854775807 := by have := h2.2.1; omega
  have hi3 : (ra.length : Int) ≤ 9223372036854775807 := by have := h3.2.1; omega
  have hi4 : (rts.length : Int) ≤ 9223372036854775807 := by omega
  have hi5 : (ihs.length : Int) ≤ 9223372036854775807 := by omega
  have K0 := Lib.hid fun w' (hb : Below w.heap.size w w') => named_any _ _ s w' (h0.stay hb).1 h0.2.1 h0.2.2
  have K1 := Lib.hid fun w' (hb : Below w.heap.size w w') => named_any _ _ r w' (h1.stay hb).1 h1.2.1 h1.2.2
  have K2 := Lib.hid fun w' (hb : Below w.heap.size w w') => named_any _ _ p w' (h2.stay hb).1 h2.2.1 h2.2.2
  have K3 := Lib.hid fun w' (hb : Below w.heap.size w w') => named_any _ _ ra w' (h3.stay hb).1 h3.2.1 h3.2.2
  have KF := Lib.hid fun nm w' (hb : Below w.heap.size w w') => rfind_any _ _ r nm w' (NdsAt.stay h1.1 hb) h1.2.1
  have HR := Lib.hid h4
  have HI := Lib.hid h5
  have HRO : Unit → ∀ x ∈ rts, RtOk w x := fun _ => h4o
  have HIO : Unit → ∀ x ∈ ihs, IhOk w x := fun _ => h5o
  obtain ⟨D, hD⟩ : ∃ D, checkD s r p ra rts ihs = D := ⟨_, rfl⟩
  rw [hD]
  have HD : Unit → checkD s r p ra rts ihs = D := fun _ => hD
  obtain ⟨g0, e0⟩ : ∃ g, namedD s = g := ⟨_, rfl⟩
  obtain ⟨g1, e1⟩ : ∃ g, namedD r = g := ⟨_, rfl⟩
  obtain ⟨g2, e2⟩ : ∃ g, namedD p = g := ⟨_, rfl⟩
  obtain ⟨g3, e3⟩ : ∃ g, namedD ra = g := ⟨_, rfl⟩
  rw [e0] at K0
  rw [e1] at K1
  rw [e2] at K2
  rw [e3] at K3
  have HG : Unit → namedD s = g0 ∧ namedD r = g1 ∧ namedD p = g2 ∧ namedD ra = g3 := fun _ => ⟨e0, e1, e2, e3⟩
  have hbx := (Below.refl w.heap.size w).alloc (Nat.le_refl _) (.cells #[.slice a0 s.length c0, .slice a1 r.length c1, .slice a2 p.length c2, .slice a3 ra.length c3, .slice a4 rts.length c4, .slice a5 ihs.length c5] 50)
  have rP : Rw (w.alloc (.cells #[.slice a0 s.length c0, .slice a1 r.length c1, .slice a2 p.length c2, .slice a3 ra.length c3, .slice a4 rts.length c4, .slice a5 ihs.length c5] 50)) w.heap.size 50 [.slice a0 s.length c0, .slice a1 r.length c1, .slice a2 p.length c2, .slice a3 ra.length c3, .slice a4 rts.length c4, .slice a5 ihs.length c5] := Rw.new w 50 [.slice a0 s.length c0, .slice a1 r.length c1, .slice a2 p.length c2, .slice a3 ra.length c3, .slice a4 rts.length c4, .slice a5 ihs.length c5]
  clear h0 h1 h2 h3 h4 h5 h4o h5o hD e0 e1 e2 e3
  go_enter Tryd.func32, Tryd.ntmps32
  go_upto_region 1 with fail
  generalize World.alloc w _ = w1 at *
  obtain ⟨bP, hbP, eP⟩ : ∃ bP, w.heap.size ≤ bP ∧ w.heap.size = bP := ⟨_, Nat.le_refl _, rfl⟩
  rw [eP] at rP
  simp only [eP]
  have FIN : Unit → ∀ {w' : World}, Below w.heap.size w w' → Below bP w w' := fun _ {w'} h => by rw [← eP]; exact h
  have p0 := Rw.cell rP 0
  have p1 := Rw.cell rP 1
  have p2 := Rw.cell rP 2
  have p3 := Rw.cell rP 3
  have p4 := Rw.cell rP 4
  have p5 := Rw.cell rP 5
  by_cases l0 : 12 < s.length
  · have m0 : (12 : Int) < (s.length : Int) := by omega
    obtain rfl : D = 4 := by rw [← HD ()]; exact check_long (by simp [l0])
    go_wp2_with fail
    go_ret
    exact ⟨rfl, by first | exact hbx | (exact FIN () hbx)⟩
  have m0 : ¬ (12 : Int) < (s.length : Int) := by omega
  by_cases l1 : 12 < r.length
  · have m1 : (12 : Int) < (r.length : Int) := by omega
    obtain rfl : D = 4 := by rw [← HD ()]; exact check_long (by simp [l1])
    go_wp2_with fail
    go_ret
    exact ⟨rfl, by first | exact hbx | (exact FIN () hbx)⟩
  have m1 : ¬ (12 : Int) < (r.length : Int) := by omega
  by_cases l2 : 12 < p.length
  · have m2 : (12 : Int) < (p.length : Int) := by omega
    obtain rfl : D = 4 := by rw [← HD ()]; exact check_long (by simp [l2])
    go_wp2_with fail
    go_ret
    exact ⟨rfl, by first | exact hbx | (exact FIN () hbx)⟩
  have m2 : ¬ (12 : Int) < (p.length : Int) := by omega
  by_cases l3 : 12 < ra.length
  · have m3 : (12 : Int) < (ra.length : Int) := by omega
    obtain rfl : D = 4 := by rw [← HD ()]; exact check_long (by simp [l3])
    go_wp2_with fail
    go_ret
    exact ⟨rfl, by first | exact hbx | (exact FIN () hbx)⟩
  have m3 : ¬ (12 : Int) < (ra.length : Int) := by omega
  by_cases l4 : 12 < rts.length
  · have m4 : (12 : Int) < (rts.length : Int) := by omega
    obtain rfl : D = 4 := by rw [← HD ()]; exact check_long (by simp [l4])
    go_wp2_with fail
    go_ret
    exact ⟨rfl, by first | exact hbx | (exact FIN () hbx)⟩
  have m4 : ¬ (12 : Int) < (rts.length : Int) := by omega
  by_cases l5 : 12 < ihs.length
  · have m5 : (12 : Int) < (ihs.length : Int) := by omega
    obtain rfl : D = 4 := by rw [← HD ()]; exact check_long (by simp [l5])
    go_wp2_with fail
    go_ret
    exact ⟨rfl, by first | exact hbx | (exact FIN () hbx)⟩
  have m5 : ¬ (12 : Int) < (ihs.length : Int) := by omega
  have HL : Unit → ¬ (12 < s.length ∨ 12 < r.length ∨ 12 < p.length ∨ 12 < ra.length ∨ 12 < rts.length ∨ 12 < ihs.length) := fun _ => by omega
  go_upto_region 3 with fail
  go_wp2_with fail
  refine (K0.out _ hbx).mono ?_
  rintro e w2 ⟨rfl, hb⟩
  have hB0 := hbx.trans (hb.mono hbx.size)
  replace rP := rP.stay hb
  clear K0 hb
  clear p0 p1 p2 p3 p4 p5
  have p0 := Rw.cell rP 0
  have p1 := Rw.cell rP 1
  have p2 := Rw.cell rP 2
  have p3 := Rw.cell rP 3
  have p4 := Rw.cell rP 4
  have p5 := Rw.cell rP 5
  by_cases z0 : g0 = false
  · subst z0
    obtain rfl : D = 1 := by rw [← HD ()]; exact check_bad (HL ()) (by obtain ⟨q0, q1, q2, q3⟩ := HG (); rw [q0, q1, q2, q3]; simp)
    go_wp2_with fail
    go_ret
    exact ⟨rfl, by first | exact hB0 | (exact FIN () hB0)⟩
  obtain rfl : g0 = true := by simpa using z0
  clear z0
  go_wp2_with fail
  refine (K1.out _ hB0).mono ?_
  rintro e w3 ⟨rfl, hb⟩
  have hB1 := hB0.trans (hb.mono hB0.size)
  replace rP := rP.stay hb
  clear K1 hb
  clear p0 p1 p2 p3 p4 p5
  have p0 := Rw.cell rP 0
  have p1 := Rw.cell rP 1
  have p2 := Rw.cell rP 2
  have p3 := Rw.cell rP 3
  have p4 := Rw.cell rP 4
  have p5 := Rw.cell rP 5
  by_cases z1 : g1 = false
  · subst z1
    obtain rfl : D = 1 := by rw [← HD ()]; exact check_bad (HL ()) (by obtain ⟨q0, q1, q2, q3⟩ := HG (); rw [q0, q1, q2, q3]; simp)
    go_wp2_with fail
    go_ret
    exact ⟨rfl, by first | exact hB1 | (exact FIN () hB1)⟩
  obtain rfl : g1 = true := by simpa using z1
  clear z1
  go_wp2_with fail
  refine (K2.out _ hB1).mono ?_
  rintro e w4 ⟨rfl, hb⟩
  have hB2 := hB1.trans (hb.mono hB1.size)
  replace rP := rP.stay hb
  clear K2 hb
  clear p0 p1 p2 p3 p4 p5
  have p0 := Rw.cell rP 0
  have p1 := Rw.cell rP 1
  have p2 := Rw.cell rP 2
  have p3 := Rw.cell rP 3
  have p4 := Rw.cell rP 4
  have p5 := Rw.cell rP 5
  by_cases z2 : g2 = false
  · subst z2
    obtain rfl : D = 1 := by rw [← HD ()]; exact check_bad (HL ()) (by obtain ⟨q0, q1, q2, q3⟩ := HG (); rw [q0, q1, q2, q3]; simp)
    go_wp2_with fail
    go_ret
    exact ⟨rfl, by first | exact hB2 | (exact FIN () hB2)⟩
  obtain rfl : g2 = true := by simpa using z2
  clear z2
  go_wp2_with fail
  refine (K3.out _ hB2).mono ?_
  rintro e w5 ⟨rfl, hb⟩
  have hB3 := hB2.trans (hb.mono hB2.size)
  replace rP := rP.stay hb
  clear K3 hb
  clear p0 p1 p2 p3 p4 p5
  have p0 := Rw.cell rP 0
  have p1 := Rw.cell rP 1
  have p2 := Rw.cell rP 2
  have p3 := Rw.cell rP 3
  have p4 := Rw.cell rP 4
  have p5 := Rw.cell rP 5
  by_cases z3 : g3 = false
  · subst z3
    obtain rfl : D = 1 := by rw [← HD ()]; exact check_bad (HL ()) (by obtain ⟨q0, q1, q2, q3⟩ := HG (); rw [q0, q1, q2, q3]; simp)
    go_wp2_with fail
    go_ret
    exact ⟨rfl, by first | exact hB3 | (exact FIN () hB3)⟩
  obtain rfl : g3 = true := by simpa using z3
  clear z3
  go_wp2_with fail
  go_loopw [3] (fun iv wr => ∃ i : Nat, i ≤ rts.length ∧ iv = .int .i64 (i : Int) ∧ (rts.take i).all (okRt r) = true ∧ Below w.heap.size w wr ∧ Rw wr bP 50 [.slice a0 s.length c0, .slice a1 r.length c1, .slice a2 p.length c2, .slice a3 ra.length c3, .slice a4 rts.length c4, .slice a5 ihs.length c5]) (fun iv _ => rts.length - (intOf iv).toNat)
  case atStart => exact ⟨0, by omega, rfl, by simp, hB3, rP⟩
  case round =>
    clear rP hB3 hB2 hB1 hB0 p0 p1 p2 p3 p4 p5 hbx
    obtain ⟨i, hi, rfl, hT, hB, rP⟩ := hrel
    have HT : Unit → (rts.take i).all (okRt r) = true := fun _ => hT
    clear hT
    have p1 := Rw.cell rP 1
    have p4 := Rw.cell rP 4
    have p5 := Rw.cell rP 5
    by_cases hlt : i < rts.length
    · have hii : (i : Int) < (rts.length : Int) := by omega
      obtain ⟨x, hx⟩ : ∃ x, rts[i]? = some x := ⟨_, List.getElem?_eq_getElem hlt⟩
      have hok := HRO () x (List.mem_of_getElem? hx)
      obtain ⟨g, o, rfl, _, hg, hc⟩ := (HR.out.stay hB).part (j := i) (cs := encR x) (by rw [List.getElem?_map, hx]; rfl)
      have HIX : Unit → rts[i]? = some x := fun _ => hx
      have KB := Lib.hid fun w' (hb : Below w.heap.size w w') => by_any _ _ x.names w' (hok.1.stay hb).1 hok.1.2.1 hok.1.2.2
      have KW := Lib.hid fun w' (hb : Below w.heap.size w w') => when_any _ _ x.ms w' (hok.2.stay hb).1 hok.2.2.1 hok.2.2.2
      have KX := Lib.hid (KF.out x.rcv)
      have hns := hok.1.1.shape
      have hms := hok.2.1.shape
      have hrs : ∀ v ∈ encR x, v.oneCell' = true := fun v hv => by
        obtain ⟨na, nc, en⟩ := hns
        obtain ⟨ma, mc, em⟩ := hms
        simp only [encR, en, em, List.mem_cons, List.not_mem_nil, or_false] at hv
        rcases hv with rfl | rfl | rfl | rfl | rfl | rfl <;> rfl
      have h0 := hc 0 _ rfl
      have h1 := hc 1 _ rfl
      have h2 := hc 2 _ rfl
      have h3 := hc 3 _ rfl
      have h4 := hc 4 _ rfl
      have h5 := hc 5 _ rfl
      simp only [Nat.add_zero] at h0
      have rng : wr.rangeAt g (o + i * 6) (encR x) := fun j u hu => hc j u hu
      obtain ⟨NB, hNB⟩ : ∃ b, byD x.names = b := ⟨_, rfl⟩
      obtain ⟨WB, hWB⟩ : ∃ b, whenD x.ms = b := ⟨_, rfl⟩
      have HNW : Unit → byD x.names = NB ∧ whenD x.ms = WB := fun _ => ⟨hNB, hWB⟩
      rw [hNB] at KB
      rw [hWB] at KW
      obtain ⟨rcv, names, nv, wait, every, again, ms, mv⟩ := x
      simp only [List.length_map] at *
      obtain ⟨na, nc, rfl⟩ := hns
      obtain ⟨ma, mc, rfl⟩ := hms
      obtain ⟨X, hX⟩ : ∃ X, encR ⟨rcv, names, .slice na names.length nc, wait, every, again, ms, .slice ma ms.length mc⟩ = X := ⟨_, rfl⟩
      have hXl : X.length = 6 := by rw [← hX]; rfl
      have x0 : X[0]? = some (.string ⟨rcv.toArray⟩) := by rw [← hX]; rfl
      have x1 : X[1]? = some (.slice na names.length nc) := by rw [← hX]; rfl
      have x2 : X[2]? = some (.int .i64 wait) := by rw [← hX]; rfl
      have x3 : X[3]? = some (.int .i64 every) := by rw [← hX]; rfl
      have x4 : X[4]? = some (.int .i64 again) := by rw [← hX]; rfl
      have x5 : X[5]? = some (.slice ma ms.length mc) := by rw [← hX]; rfl
      rw [hX] at hrs rng
      clear hX hc h0 h1 h2 h3 h4 h5 hx hok hNB hWB
      generalize (⟨rcv.toArray⟩ : ByteArray) = TR at *
      have rz := Rw.new wr 102 [.string ⟨#[]⟩, .slice none 0 0, .int .i64 0, .int .i64 0, .int .i64 0, .slice none 0 0]
      have rr := Rw.new wr 102 X
      have hb2 := (Below.refl wr.heap.size wr).alloc (Nat.le_refl _) (.cells X.toArray 102)
      go_upto_region 9 with (first | refine wpList_load_mid rfl 102 _ rfl g (o + i * 6) rfl X _ rng Tryd.underlying102 rfl (by rw [size_rt, hXl]) ?_ | refine store_rowT 102 _ _ rz X (by rw [hXl]; rfl) (by rw [size_rt, hXl]) hrs _ _ rfl rfl rfl rfl ?_)
      rw [World.setRow_alloc_new]
      have hB2 := hB.trans (hb2.mono hB.size)
      replace rP := rP.stay hb2
      generalize wr.alloc (.cells X.toArray 102) = w6 at *
      obtain ⟨bR, eR⟩ : ∃ bR, wr.heap.size = bR := ⟨_, rfl⟩
      rw [eR] at rr
      simp only [eR]
      clear rz hb2 p1 p4 p5 rng
      have p1 := Rw.cell rP 1
      have q0 := (Rw.cell rr 0).trans x0
      cases hF : findN r rcv with
      | none =>
        rw [hF] at KX
        simp only [findV] at KX
        have hOK : Unit → okRt r ⟨rcv, names, .slice na names.length nc, wait, every, again, ms, .slice ma ms.length mc⟩ = false := fun _ => by unfold okRt; simp [hF]
        clear hF
        go_wp2_with fail
        refine (KX.out _ hB2).mono ?_
        rintro e w7 ⟨rfl, hb⟩
        have hB3 := hB2.trans (hb.mono hB2.size)
        have lz := Rw.new w7 25 [.int .i64 0, .int .u32 0]
        have hb3 := hB3.alloc hB3.size (.cells [.int .i64 0, .int .u32 0].toArray 25)
        go_upto_region 10 with (refine store_rowT 25 _ _ lz [.int .i64 0, .int .u32 0] rfl size_lb (by simp [Value.oneCell']) _ _ rfl rfl rfl rfl ?_)
        rw [World.setRow_alloc_new]
        generalize World.alloc w7 _ = w8 at *
        obtain rfl : D = 1 := by rw [← HD ()]; exact check_bad (HL ()) (by rw [all_bad (HIX ()) (by exact hOK ())]; simp)
        go_wp2_with fail
        go_ret
        exact ⟨rfl, by first | exact hb3 | (exact FIN () hb3)⟩
      | some lc =>
        rw [hF] at KX
        simp only [findV] at KX
        have HF : Unit → (findN r rcv).isSome = true := fun _ => by rw [hF]; rfl
        clear hF
        obtain ⟨lb, lv⟩ := lc
        go_wp2_with fail
        refine (KX.out _ hB2).mono ?_
        rintro e w7 ⟨rfl, hb⟩
        have hB3 := hB2.trans (hb.mono hB2.size)
        replace rP := rP.stay hb
        replace rr := rr.stay hb
        have lz := Rw.new w7 25 [.int .i64 0, .int .u32 0]
        have hb3 := (Below.refl w7.heap.size w7).alloc (Nat.le_refl _) (.cells [.int .i64 lb, .int .u32 lv].toArray 25)
        go_upto_region 10 with (refine store_rowT 25 _ _ lz [.int .i64 lb, .int .u32 lv] rfl size_lb (by simp [Value.oneCell']) _ _ rfl rfl rfl rfl ?_)
        rw [World.setRow_alloc_new]
        have hB4 := hB3.trans (hb3.mono hB3.size)
        replace rP := rP.stay hb3
        replace rr := rr.stay hb3
        generalize World.alloc w7 _ = w8 at *
        clear hb hb3 lz p1 q0 KX
        have q1 := (Rw.cell rr 1).trans x1
        go_wp2_with fail
        refine (KB.out _ hB4).mono ?_
        rintro e w9 ⟨rfl, hb⟩
        have hB5 := hB4.trans (hb.mono hB4.size)
        replace rP := rP.stay hb
        replace rr := rr.stay hb
        clear hb q1 KB
        have q2 := (Rw.cell rr 2).trans x2
        have q3 := (Rw.cell rr 3).trans x3
        have q4 := (Rw.cell rr 4).trans x4
        have q5 := (Rw.cell rr 5).trans x5
        by_cases zb : NB = false
        · subst zb
          obtain rfl : D = 1 := by rw [← HD ()]; exact check_bad (HL ()) (by rw [all_bad (HIX ()) (by unfold okRt; simp only [(HNW ()).1, Bool.false_and, Bool.and_false])]; simp)
          go_wp2_with fail
          go_ret
          exact ⟨rfl, by first | exact hB5 | (exact FIN () hB5)⟩
        obtain rfl : NB = true := by simpa using zb
        clear zb
        by_cases t0 : wait < 0
        · have u0 : decide (0 ≤ wait) = false := decide_eq_false (by omega)
          have HU : Unit → decide (0 ≤ wait) = false := fun _ => u0
          clear u0
          obtain rfl : D = 1 := by rw [← HD ()]; exact check_bad (HL ()) (by rw [all_bad (HIX ()) (by unfold okRt; simp only [HU (), Bool.false_and, Bool.and_false])]; simp)
          go_wp2_with fail
          go_ret
          exact ⟨rfl, by first | exact hB5 | (exact FIN () hB5)⟩
        by_cases t1 : (1000 : Int) < wait
        · have u1 : decide (wait ≤ 1000) = false := decide_eq_false (by omega)
          have HU : Unit → decide (wait ≤ 1000) = false := fun _ => u1
          clear u1
          obtain rfl : D = 1 := by rw [← HD ()]; exact check_bad (HL ()) (by rw [all_bad (HIX ()) (by unfold okRt; simp only [HU (), Bool.false_and, Bool.and_false])]; simp)
          go_wp2_with fail
          go_ret
          exact ⟨rfl, by first | exact hB5 | (exact FIN () hB5)⟩
        by_cases t2 : every < 1
        · have u2 : decide (1 ≤ every) = false := decide_eq_false (by omega)
          have HU : Unit → decide (1 ≤ every) = false := fun _ => u2
          clear u2
          obtain rfl : D = 1 := by rw [← HD ()]; exact check_bad (HL ()) (by rw [all_bad (HIX ()) (by unfold okRt; simp only [HU (), Bool.false_and, Bool.and_false])]; simp)
          go_wp2_with fail
          go_ret
          exact ⟨rfl, by first | exact hB5 | (exact FIN () hB5)⟩
        by_cases t3 : (1000 : Int) < every
        · have u3 : decide (every ≤ 1000) = false := decide_eq_false (by omega)
          have HU : Unit → decide (every ≤ 1000) = false := fun _ => u3
          clear u3
          obtain rfl : D = 1 := by rw [← HD ()]; exact check_bad (HL ()) (by rw [all_bad (HIX ()) (by unfold okRt; simp only [HU (), Bool.false_and, Bool.and_false])]; simp)
          go_wp2_with fail
          go_ret
          exact ⟨rfl, by first | exact hB5 | (exact FIN () hB5)⟩
        by_cases t4 : again < every
        · have u4 : decide (every ≤ again) = false := decide_eq_false (by omega)
          have HU : Unit → decide (every ≤ again) = false := fun _ => u4
          clear u4
          obtain rfl : D = 1 := by rw [← HD ()]; exact check_bad (HL ()) (by rw [all_bad (HIX ()) (by unfold okRt; simp only [HU (), Bool.false_and, Bool.and_false])]; simp)
          go_wp2_with fail
          go_ret
          exact ⟨rfl, by first | exact hB5 | (exact FIN () hB5)⟩
        by_cases t5 : (100000 : Int) < again
        · have u5 : decide (again ≤ 100000) = false := decide_eq_false (by omega)
          have HU : Unit → decide (again ≤ 100000) = false := fun _ => u5
          clear u5
          obtain rfl : D = 1 := by rw [← HD ()]; exact check_bad (HL ()) (by rw [all_bad (HIX ()) (by unfold okRt; simp only [HU (), Bool.false_and, Bool.and_false])]; simp)
          go_wp2_with fail
          go_ret
          exact ⟨rfl, by first | exact hB5 | (exact FIN () hB5)⟩
        go_wp2_with fail
        refine (KW.out _ hB5).mono ?_
        rintro e wa ⟨rfl, hb⟩
        have hB6 := hB5.trans (hb.mono hB5.size)
        replace rP := rP.stay hb
        by_cases zw : WB = false
        · subst zw
          obtain rfl : D = 1 := by rw [← HD ()]; exact check_bad (HL ()) (by rw [all_bad (HIX ()) (by unfold okRt; simp only [(HNW ()).2, Bool.and_false])]; simp)
          go_wp2_with fail
          go_ret
          exact ⟨rfl, by first | exact hB6 | (exact FIN () hB6)⟩
        obtain rfl : WB = true := by simpa using zw
        have hok : Unit → okRt r ⟨rcv, names, .slice na names.length nc, wait, every, again, ms, .slice ma ms.length mc⟩ = true := fun _ => by
          unfold okRt
          simp only [HF (), (HNW ()).1, (HNW ()).2, Bool.true_and, Bool.and_true, Bool.and_eq_true, decide_eq_true_eq]
          omega
        clear zw
        go_wp2_with fail
        go_roundw
        case rel => exact ⟨i + 1, by omega, by go_num, all_take (HIX ()) (HT ()) (hok ()), hB6, rP⟩
        case measure => simp [intOf]; omega
    · have hii : ¬ (i : Int) < (rts.length : Int) := by omega
      have HRA : Unit → rts.all (okRt r) = true := fun _ => all_take_end hlt (HT ())
      go_wp2_with fail
      go_loopw [7] (fun iv wr => ∃ i : Nat, i ≤ ihs.length ∧ iv = .int .i64 (i : Int) ∧ (ihs.take i).all okIh = true ∧ Below w.heap.size w wr ∧ Rw wr bP 50 [.slice a0 s.length c0, .slice a1 r.length c1, .slice a2 p.length c2, .slice a3 ra.length c3, .slice a4 rts.length c4, .slice a5 ihs.length c5]) (fun iv _ => ihs.length - (intOf iv).toNat)
      case atStart => exact ⟨0, by omega, rfl, by simp, hB, rP⟩
      case round =>
        clear rP hB p1 p4 p5 hii hlt hi
        obtain ⟨i, hi, rfl, hT, hB, rP⟩ := hrel
        have HT2 : Unit → (ihs.take i).all okIh = true := fun _ => hT
        clear hT
        have p5 := Rw.cell rP 5
        by_cases hlt : i < ihs.length
        · have hii : (i : Int) < (ihs.length : Int) := by omega
          obtain ⟨x, hx⟩ : ∃ x, ihs[i]? = some x := ⟨_, List.getElem?_eq_getElem hlt⟩
          have hok := HIO () x (List.mem_of_getElem? hx)
          obtain ⟨g, o, rfl, _, hg, hc⟩ := (HI.out.stay hB).part (j := i) (cs := encI x) (by rw [List.getElem?_map, hx]; rfl)
          have HIX : Unit → ihs[i]? = some x := fun _ => hx
          have KB := Lib.hid fun w' (hb : Below w.heap.size w w') => by_any _ _ x.names w' (hok.1.stay hb).1 hok.1.2.1 hok.1.2.2
          have KU := Lib.hid fun w' (hb : Below w.heap.size w w') => when_any _ _ x.fs w' (hok.2.1.stay hb).1 hok.2.1.2.1 hok.2.1.2.2
          have KW := Lib.hid fun w' (hb : Below w.heap.size w w') => when_any _ _ x.ms w' (hok.2.2.stay hb).1 hok.2.2.2.1 hok.2.2.2.2
          have KR := Lib.hid fun w' => Lb.rright_any x.l x.c w'
          have hns := hok.1.1.shape
          have hfs := hok.2.1.1.shape
          have hms := hok.2.2.1.shape
          have hrs : ∀ v ∈ encI x, v.oneCell' = true := fun v hv => by
            obtain ⟨na, nc, en⟩ := hns
            obtain ⟨fa, fc, ef⟩ := hfs
            obtain ⟨ma, mc, em⟩ := hms
            simp only [encI, en, ef, em, List.mem_cons, List.not_mem_nil, or_false] at hv
            rcases hv with rfl | rfl | rfl | rfl | rfl <;> rfl
          have rng : wr.rangeAt g (o + i * 5) (encI x) := fun j u hu => hc j u hu
          obtain ⟨NB, hNB⟩ : ∃ b, byD x.names = b := ⟨_, rfl⟩
          obtain ⟨LB, hLB⟩ : ∃ b, rB x.l = b := ⟨_, rfl⟩
          obtain ⟨UB, hUB⟩ : ∃ b, whenD x.fs = b := ⟨_, rfl⟩
          obtain ⟨WB, hWB⟩ : ∃ b, whenD x.ms = b := ⟨_, rfl⟩
          have HNW : Unit → byD x.names = NB ∧ rB x.l = LB ∧ whenD x.fs = UB ∧ whenD x.ms = WB := fun _ => ⟨hNB, hLB, hUB, hWB⟩
          rw [hNB] at KB
          rw [hLB] at KR
          rw [hUB] at KU
          rw [hWB] at KW
          obtain ⟨names, nv, l, c, fs, fv, ms, mv⟩ := x
          simp only [List.length_map] at *
          obtain ⟨na, nc, rfl⟩ := hns
          obtain ⟨fa, fc, rfl⟩ := hfs
          obtain ⟨ma, mc, rfl⟩ := hms
          obtain ⟨X, hX⟩ : ∃ X, encI ⟨names, .slice na names.length nc, l, c, fs, .slice fa fs.length fc, ms, .slice ma ms.length mc⟩ = X := ⟨_, rfl⟩
          have hXl : X.length = 5 := by rw [← hX]; rfl
          have x0 : X[0]? = some (.slice na names.length nc) := by rw [← hX]; rfl
          have x1 : X[1]? = some (.int .i64 l) := by rw [← hX]; rfl
          have x2 : X[2]? = some (.int .u32 c) := by rw [← hX]; rfl
          have x3 : X[3]? = some (.slice fa fs.length fc) := by rw [← hX]; rfl
          have x4 : X[4]? = some (.slice ma ms.length mc) := by rw [← hX]; rfl
          rw [hX] at hrs rng
          clear hX hc hx hok hNB hLB hUB hWB
          have rz := Rw.new wr 106 [.slice none 0 0, .int .i64 0, .int .u32 0, .slice none 0 0, .slice none 0 0]
          have rr := Rw.new wr 106 X
          have hb2 := (Below.refl wr.heap.size wr).alloc (Nat.le_refl _) (.cells X.toArray 106)
          go_upto_region 16 with (first | refine wpList_load_mid rfl 106 _ rfl g (o + i * 5) rfl X _ rng Tryd.underlying106 rfl (by rw [size_ih, hXl]) ?_ | refine store_rowT 106 _ _ rz X (by rw [hXl]; rfl) (by rw [size_ih, hXl]) hrs _ _ rfl rfl rfl rfl ?_)
          rw [World.setRow_alloc_new]
          have hB2 := hB.trans (hb2.mono hB.size)
          replace rP := rP.stay hb2
          generalize wr.alloc (.cells X.toArray 106) = w6 at *
          obtain ⟨bR, eR⟩ : ∃ bR, wr.heap.size = bR := ⟨_, rfl⟩
          rw [eR] at rr
          simp only [eR]
          clear rz hb2 p5 rng
          have q0 := (Rw.cell rr 0).trans x0
          go_wp2_with fail
          refine (KB.out _ hB2).mono ?_
          rintro e y0 ⟨rfl, hb⟩
          have hC0 := hB2.trans (hb.mono hB2.size)
          replace rP := rP.stay hb
          replace rr := rr.stay hb
          clear hb KB
          have q1 := (Rw.cell rr 1).trans x1
          have q2 := (Rw.cell rr 2).trans x2
          by_cases z0 : NB = false
          · subst z0
            obtain rfl : D = 1 := by rw [← HD ()]; exact check_bad (HL ()) (by rw [all_bad (HIX ()) (by unfold okIh; simp only [(HNW ()).1, Bool.false_and])]; simp)
            go_wp2_with fail
            go_ret
            exact ⟨rfl, by first | exact hC0 | (exact FIN () hC0)⟩
          obtain rfl : NB = true := by simpa using z0
          clear z0
          go_wp2_with fail
          refine (KR.out _).mono ?_
          rintro e y1 ⟨rfl, hb⟩
          have hC1 := hC0.trans (hb.mono hC0.size)
          replace rP := rP.stay hb
          replace rr := rr.stay hb
          clear hb KR
          have q3 := (Rw.cell rr 3).trans x3
          by_cases z1 : LB = false
          · subst z1
            obtain rfl : D = 1 := by rw [← HD ()]; exact check_bad (HL ()) (by rw [all_bad (HIX ()) (by unfold okIh; simp only [(HNW ()).2.1, Bool.false_and, Bool.and_false])]; simp)
            go_wp2_with fail
            go_ret
            exact ⟨rfl, by first | exact hC1 | (exact FIN () hC1)⟩
          obtain rfl : LB = true := by simpa using z1
          clear z1
          go_wp2_with fail
          refine (KU.out _ hC1).mono ?_
          rintro e y2 ⟨rfl, hb⟩
          have hC2 := hC1.trans (hb.mono hC1.size)
          replace rP := rP.stay hb
          replace rr := rr.stay hb
          clear hb KU
          have q4 := (Rw.cell rr 4).trans x4
          by_cases z2 : UB = false
          · subst z2
            obtain rfl : D = 1 := by rw [← HD ()]; exact check_bad (HL ()) (by rw [all_bad (HIX ()) (by unfold okIh; simp only [(HNW ()).2.2.1, Bool.false_and, Bool.and_false])]; simp)
            go_wp2_with fail
            go_ret
            exact ⟨rfl, by first | exact hC2 | (exact FIN () hC2)⟩
          obtain rfl : UB = true := by simpa using z2
          clear z2
          go_wp2_with fail
          refine (KW.out _ hC2).mono ?_
          rintro e y3 ⟨rfl, hb⟩
          have hC3 := hC2.trans (hb.mono hC2.size)
          replace rP := rP.stay hb
          replace rr := rr.stay hb
          clear hb KW
          by_cases z3 : WB = false
          · subst z3
            obtain rfl : D = 1 := by rw [← HD ()]; exact check_bad (HL ()) (by rw [all_bad (HIX ()) (by unfold okIh; simp only [(HNW ()).2.2.2, Bool.and_false])]; simp)
            go_wp2_with fail
            go_ret
            exact ⟨rfl, by first | exact hC3 | (exact FIN () hC3)⟩
          obtain rfl : WB = true := by simpa using z3
          clear z3
          have hok : Unit → okIh ⟨names, .slice na names.length nc, l, c, fs, .slice fa fs.length fc, ms, .slice ma ms.length mc⟩ = true := fun _ => by
            unfold okIh
            simp only [(HNW ()).1, (HNW ()).2.1, (HNW ()).2.2.1, (HNW ()).2.2.2, Bool.and_self]
          go_wp2_with fail
          go_roundw
          case rel => exact ⟨i + 1, by omega, by go_num, all_take (HIX ()) (HT2 ()) (hok ()), hC3, rP⟩
          case measure => simp [intOf]; omega
        · have hii : ¬ (i : Int) < (ihs.length : Int) := by omega
          obtain rfl : D = 0 := by rw [← HD ()]; exact check_good (HL ()) (by obtain ⟨q0, q1, q2, q3⟩ := HG (); rw [q0, q1, q2, q3, HRA (), all_take_end hlt (HT2 ())]; rfl)
          go_wp2_with fail
          go_ret
          exact ⟨rfl, by first | exact hB | (exact FIN () hB)⟩
end Go.Proofs.YtknhkmlihbgjpaaDoor.Dn
