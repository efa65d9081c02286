/- A way in memory; the least byte of a set. -/
import Derived.Test.YtakkcofmbafneaaPFits
import Derived.Test.YtakkcofmbafneaaPB
namespace Go.Proofs.Ytakkcofmbafneaa
open Go.ChangeShapes Go.WideShapes Go.RowKit

def WayC : Option Bx → List Value
  | none => [.string ⟨([] : Bs).toArray⟩, .bool false]
  | some t => [.string ⟨t.toArray⟩, .bool true]
theorem wayV_cells (o : Option Bx) : wayV o = .agg (WayC o).toArray := by cases o <;> rfl
theorem WayC_len (o : Option Bx) : (WayC o).length = 2 := by cases o <;> rfl
theorem WayC_one (o : Option Bx) : ∀ v ∈ WayC o, v.oneCell' = true := by
  cases o <;> (intro v hv; simp [WayC] at hv; rcases hv with rfl | rfl <;> rfl)
theorem exec_way {o : Oper} {a : Act} {w : World} (b : Option Bx) (g k : Nat) (x : Operand) (ho : o.op = .load 71 x) (hx : a.eval x = .pointer (some ⟨g, k, none⟩)) (hc : Cls w g k (WayC b)) : (execOp a.eval o).run Try.prog w = .ok (.value (wayV b)) w := by
  have := run_load_cells (P := Try.prog) w g k 71 (WayC b) _ hc Try.underlying71 rfl (by rw [WayC_len]; kernel_rfl)
  unfold execOp
  simp only [ho, hx, Instr.loadAt, Instr.sureAddr, Sem.run_bind, Sem.run_pure, Result.andThen_ok, this, wayV_cells]
theorem Rw.cls {w : World} {g : Nat} {t : TypeId} {cs : List Value} (h : Rw w g t cs) : Cls w g 0 cs := fun j v hv => by rw [Nat.zero_add, h.cell]; exact hv
theorem Cls.stay {w w' : World} {g k : Nat} {cs : List Value} (h : Cls w g k cs) (hb : Below w.heap.size w w') : Cls w' g k cs := fun j v hv => (hb.cell (World.block_lt_of_cell? w _ (h j v hv))).trans (h j v hv)
/-- A way is written. -/
theorem store_way {o : Oper} {a : Act} {w : World} {K : Act → World → Prop} {Q : Exit → Act → World → Prop} (g : Nat) (old b : Option Bx) (hr : Rw w g 71 (WayC old)) (x y : Operand) (ho : o.op = .store 71 x y) (hx : a.eval x = .pointer (some ⟨g, 0, none⟩)) (hy : a.eval y = wayV b)
    (h : K (a.put o.dst undef) (w.setRow g (WayC b).toArray)) : o.wp Try.prog a w K Q :=
  store_arrH g 71 _ hr 2 (WayC_len _) 71 (by kernel_rfl) (WayC b) (WayC_len _) (WayC_one _) x y ho hx (hy.trans (wayV_cells b)) h
theorem fst_ex {p : UInt8 → Bool} (h : p ≠ noSet) : ∃ c, FstB p c := by
  have go : ∀ n : Nat, (∃ d : UInt8, d.toNat < n ∧ p d = true) → ∃ c, FstB p c := fun n => by
    induction n with
    | zero => rintro ⟨d, hd, _⟩; omega
    | succ n ih =>
      rintro ⟨d, hd, hp⟩
      by_cases hq : ∃ e : UInt8, e.toNat < n ∧ p e = true
      · exact ih hq
      · refine ⟨d, hp, fun e he => ?_⟩
        rw [UInt8.le_iff_toNat_le]
        refine Nat.le_of_not_lt fun hlt => hq ⟨e, by omega, he⟩
  have hex : ∃ d, p d = true := by
    apply Classical.byContradiction
    intro hn
    refine h (funext fun d => ?_)
    cases hd : p d with
    | true => exact absurd ⟨d, hd⟩ hn
    | false => rfl
  obtain ⟨d, hd⟩ := hex
  exact go 256 ⟨d, d.toNat_lt, hd⟩
theorem fst_one {p : UInt8 → Bool} {c d : UInt8} (hc : FstB p c) (hd : FstB p d) : c = d := UInt8.le_antisymm (hc.2 d hd.1) (hd.2 c hc.1)
theorem first_is (g o : Nat) (p : UInt8 → Bool) (c : UInt8) (hc : FstB p c) (w : World) (h : SetAt w g o p) :
    Calls Try.prog 37 #[.pointer (some ⟨g, o, none⟩)] w fun e w' => e = .returned (.int .u8 (c.toNat : Int)) ∧ w' = w := by
  have hp : p ≠ noSet := fun e => by have := hc.1; rw [e] at this; cases this
  refine (first_any g o p hp w h).mono ?_
  rintro e w' ⟨⟨d, hd, rfl⟩, hw⟩
  rw [fst_one hd hc]
  exact ⟨rfl, hw⟩
theorem set_steps {w : World} {base G cap k : Nat} {S : List Stp} {F : List Value} {s : Stp} {f : Value} (h : StepsAt w base (.slice (some ⟨G, 0, none⟩) S.length cap) S F) (hs : S[k]? = some s) (hf : F[k]? = some f) : SetAt w G (k * 257) s.set := fun i hi => by
  have hk := (List.getElem?_eq_some_iff.1 hs).1
  rw [h.row.cellAt _ (by omega), stepsC_get hs hf (by omega), stepC_set _ _ hi]
theorem SetAt.stay {w w' : World} {g o : Nat} {p : UInt8 → Bool} (h : SetAt w g o p) (hb : Below w.heap.size w w') : SetAt w' g o p := fun i hi => (hb.cell (World.block_lt_of_cell? w _ (h i hi))).trans (h i hi)
/-- A byte's text. -/
theorem byte_string (w : World) (c : UInt8) : (convert 46 9 (.slice (some ⟨w.heap.size, 0, none⟩) 1 1)).run Try.prog (w.alloc (.cells #[.int .u8 (c.toNat : Int)] 5)) = .ok (.string ⟨[c].toArray⟩) (w.alloc (.cells #[.int .u8 (c.toNat : Int)] 5)) :=
  own_string (base := 0) (l := [c]) (World.ownsRow_lit w #[.int .u8 (c.toNat : Int)] 1 (Nat.zero_le _) (by unfold maxLen; omega) rfl)
end Go.Proofs.Ytakkcofmbafneaa
