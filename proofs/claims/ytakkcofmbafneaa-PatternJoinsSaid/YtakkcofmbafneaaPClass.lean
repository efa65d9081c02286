/- The reader: the ends of a class, behind its [, with the turn deferred and without. -/
import Derived.Test.YtakkcofmbafneaaPElem
import Derived.Test.YtakkcofmbafneaaPEq
import Derived.Test.YtakkcofmbafneaaPInvD
import Derived.Laws.ResultCell
namespace Go.Proofs.Ytakkcofmbafneaa
open Go.ChangeShapes Go.WideShapes Go.RowKit

/-- How long what is left is. -/
def restLen (w : World) (R : Nat) : Nat := match w.cell? ⟨R, 0, none⟩ with
  | some (.string s) => s.size
  | _ => 0
theorem Rq.len {w : World} {R : Nat} {l : Bs} {V : Value} (h : Rq w R l V) : restLen w R = l.length := by
  unfold restLen
  rw [h.rest]
  simp [ByteArray.size]
theorem class_row {w : World} {G : Nat} {t : TypeId} {Z : List Value} (hr : Rw w G t Z) (hn : Z.length = 256) : (loadVar 64 ⟨G, 0, none⟩).run Try.prog w = .ok (.agg Z.toArray) w :=
  run_load_cells (P := Try.prog) w G 0 64 Z (.array 256 4) (fun j v hv => by rw [Nat.zero_add, hr.cell]; exact hv) (by kernel_rfl) rfl (by rw [hn]; kernel_rfl)
theorem class_results {a : Array Value} {w : World} {G : Nat} {t : TypeId} {Z : List Value} {ok : Bool} (hr : Rw w G t Z) (hn : Z.length = 256) (h2 : a.getD 2 undef = .pointer (some ⟨G, 0, none⟩)) (h3 : a.getD 3 undef = .bool ok) :
    (results Try.f47 a).run Try.prog w = .ok (.tuple #[.agg Z.toArray, .bool ok]) w := by
  have := class_row hr hn
  rw [results_cell_tmp (p := 2) (u := 3) (ty := 64) rfl, h2, h3]
  simp only [asAddr, Sem.run_pure, Result.andThen_ok, this]
/-- The end, with nothing deferred. -/
theorem fin_plain {a : Act} {w : World} {G : Nat} {t : TypeId} {Z : List Value} {ok : Bool} {R' : Ending → World → Prop} (hr : Rw w G t Z) (hn : Z.length = 256) (h2 : a.tmps.getD 2 undef = .pointer (some ⟨G, 0, none⟩)) (h3 : a.tmps.getD 3 undef = .bool ok) (hd : a.defers = [])
    (h : R' (.returned (.tuple #[.agg Z.toArray, .bool ok])) w) : bodyPostD Try.prog Try.f47 R' .ret a w := by
  show Leaves Try.prog Try.f47 a.tmps R' a.defers .returning w
  rw [hd]
  exact ⟨_, class_results hr hn h2 h3, h⟩
/-- The end, with the turn deferred. -/
theorem fin_turn {a : Act} {w : World} {G : Nat} {t : TypeId} {p : UInt8 → Bool} {ok : Bool} {fv : Fn} {cap : Array Value} {R' : Ending → World → Prop} (hr : Rw w G t (setRow p)) (h2 : a.tmps.getD 2 undef = .pointer (some ⟨G, 0, none⟩)) (h3 : a.tmps.getD 3 undef = .bool ok) (hd : a.defers = [{ target := .fn fv cap, args := #[.pointer (some ⟨G, 0, none⟩)] }])
    (hi : (invoke (.fn fv cap) #[.pointer (some ⟨G, 0, none⟩)]).run Try.prog w = .ok (.enter 48 #[.pointer (some ⟨G, 0, none⟩)]) w)
    (h : ∀ w', Asd (· = G) w w' → R' (.returned (.tuple #[.agg (setRow fun x => !p x).toArray, .bool ok])) w') : bodyPostD Try.prog Try.f47 R' .ret a w := by
  show Leaves Try.prog Try.f47 a.tmps R' a.defers .returning w
  rw [hd]
  refine leaves_cons (f := 48) (args := #[.pointer (some ⟨G, 0, none⟩)]) (by simp) hi ?_
  refine (invert_d .returning G t p w hr).mono ?_
  rintro e u' w' ⟨rfl, rfl, hq, hA⟩
  exact ⟨_, class_results hq (setRow_len _) h2 h3, h w' hA⟩
end Go.Proofs.Ytakkcofmbafneaa
