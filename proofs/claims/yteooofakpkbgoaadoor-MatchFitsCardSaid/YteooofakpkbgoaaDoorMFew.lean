/- The first matchers of some, cut; whether matchers are the same. -/
import Derived.Test.YteooofakpkbgoaaDoorMB
import Derived.Laws.StructEq
namespace Go.Proofs.YteooofakpkbgoaaDoor
open Go.ChangeShapes Go.WideShapes Go.RowKit

/-- The first 15, the first 210 bytes of each value. -/
def fewM (ms : List Mt) : List Mt := (ms.take 15).map fun m => ⟨m.n, m.op, m.v.take 210⟩
theorem few_len (ms : List Mt) : (fewM ms).length ≤ 15 := by unfold fewM; rw [List.length_map, List.length_take]; omega
theorem few_each {ms : List Mt} (h : ∀ m ∈ ms, m.n.length ≤ 9223372036854775807) : ∀ m ∈ fewM ms, m.n.length ≤ 9223372036854775807 ∧ m.v.length ≤ 210 := by
  intro m hm
  unfold fewM at hm
  obtain ⟨x, hx, rfl⟩ := List.mem_map.1 hm
  exact ⟨h x (List.mem_of_mem_take hx), by simp only [List.length_take]; omega⟩
theorem takeN (l : Bs) (m : Nat) (z : Int) (hz : z = (m : Int)) (w : World) : (Instr.slice 9 (.string ⟨l.toArray⟩) none (some (.int .i64 (min (l.length : Int) z))) none).run Tryd.prog w = .ok (.string ⟨(l.take m).toArray⟩) w := by
  subst hz
  have h := cut_upto l (min l.length m) (Nat.min_le_left _ _) (min (l.length : Int) (m : Int)) (by omega) w
  rw [h, Nat.min_comm, ← List.take_take, List.take_length]
set_option maxHeartbeats 6400000 in
set_option maxRecDepth 100000 in
theorem few_any (P : Nat → Prop) (v : Value) (ms : List Mt) (w : World) (h : MtsAt P w v ms) (hl : ms.length ≤ 9223372036854775807) (hml : ∀ m ∈ ms, m.v.length ≤ 9223372036854775807) :
    Calls Tryd.prog 12 #[v] w fun e w' => ∃ v', e = .returned v' ∧ w'.ownsRow w.heap.size 31 3 v' (fewM ms).length ((fewM ms).map encM).flatten ∧ Below w.heap.size w w' := by
  have HE : Unit → ∀ m ∈ ms, m.v.length ≤ 9223372036854775807 := fun _ => hml
  clear hml
  obtain ⟨a, c, rfl⟩ := h.shape
  obtain ⟨n, hn⟩ : ∃ n, ms.length = n := ⟨_, rfl⟩
  rw [hn] at hl h ⊢
  have HN : Unit → ms.length = n := fun _ => hn
  clear hn
  have hni : (n : Int) ≤ 9223372036854775807 := by omega
  obtain ⟨F, hF⟩ : ∃ F, fewM ms = F := ⟨_, rfl⟩
  rw [hF]
  have HF : Unit → fewM ms = F := fun _ => hF
  clear hF
  go_enter Tryd.func12, Tryd.ntmps12
  go_upto_region 3 with fail
  go_loopw [3, 4] (fun u3 u4 wr => ∃ (i : Nat) (O : List Mt), u4 = .int .i64 (i : Int) ∧ i ≤ n ∧ i ≤ 15 ∧ O = (ms.take i).map (fun m => ⟨m.n, m.op, m.v.take 210⟩) ∧ O.length = i ∧ wr.ownsRow w.heap.size 31 3 u3 O.length (O.map encM).flatten ∧ Below w.heap.size w wr) (fun _ u4 _ => 15 - (intOf u4).toNat)
  case atStart => exact ⟨0, [], rfl, Nat.zero_le _, Nat.zero_le _, rfl, rfl, World.ownsRow_nil _ _ _ _, Below.refl _ _⟩
  case round =>
    obtain ⟨i, O, rfl, hin, hi15, hO, hOl, hown, hB⟩ := hrel
    have HOO : Unit → O = (ms.take i).map (fun m => ⟨m.n, m.op, m.v.take 210⟩) := fun _ => hO
    have HOL : Unit → O.length = i := fun _ => hOl
    clear hO
    obtain ⟨aO, cO, rfl, _⟩ := own_slice hown
    have hszr := hB.size
    by_cases hgo : i < n ∧ i < 15
    · obtain ⟨hlt, h15⟩ := hgo
      have hki : (i : Int) < (n : Int) := by omega
      have h15i : (i : Int) < 15 := by omega
      obtain ⟨m, hm⟩ : ∃ m, ms[i]? = some m := ⟨_, List.getElem?_eq_getElem (by have := HN (); omega)⟩
      have hvl := HE () m (List.mem_of_getElem? hm)
      obtain ⟨g, o, rfl, _, hgl, c0, c1, c2⟩ := (h.stay hB).part hm
      have hcut := takeN m.v 210 210 rfl
      have hsz : ((⟨m.v.toArray⟩ : ByteArray).size : Int) = (m.v.length : Int) := by simp [ByteArray.size]
      have hvli : (m.v.length : Int) ≤ 9223372036854775807 := by omega
      have HNX : Unit → (ms.take (i + 1)).map (fun m => (⟨m.n, m.op, m.v.take 210⟩ : Mt)) = O ++ [⟨m.n, m.op, m.v.take 210⟩] := fun _ => by
        rw [List.take_add_one, hm, HOO ()]
        simp
      obtain ⟨M, hM⟩ : ∃ M : Mt, (⟨m.n, m.op, m.v.take 210⟩ : Mt) = M := ⟨_, rfl⟩
      have heM : encM M = [.string ⟨m.n.toArray⟩, .int .i64 m.op, .string ⟨(m.v.take 210).toArray⟩] := by rw [← hM]; rfl
      rw [hM] at HNX
      clear hM
      obtain ⟨mn, mo, mv⟩ := m
      simp only at *
      generalize (⟨(mv.take 210).toArray⟩ : ByteArray) = T210 at *
      generalize (⟨mv.toArray⟩ : ByteArray) = TV at *
      generalize (⟨mn.toArray⟩ : ByteArray) = TN at *
      generalize mv.length = lv at *
      rw [hOl] at hown
      go_upto_region 6 with fail
      have hal := (Below.refl wr.heap.size wr).alloc (Nat.le_refl _) (.cells #[.string TN, .int .i64 mo, .string TV] 31)
      have rM : Rw (wr.alloc (.cells #[.string TN, .int .i64 mo, .string TV] 31)) wr.heap.size 31 [.string TN, .int .i64 mo, .string TV] := Rw.new wr 31 [.string TN, .int .i64 mo, .string TV]
      have hown1 := own_stay2 hown hal
      have hB1 := hB.trans (hal.mono hszr)
      have hnb : ¬ (Value.slice aO i cO).ownBlock = some wr.heap.size := fun e => by have := (hown.lt _ e).2; omega
      generalize wr.alloc (.cells #[.string TN, .int .i64 mo, .string TV] 31) = w1 at *
      have d2 := Rw.cell rM 2
      simp only [List.getElem?_cons_zero, List.getElem?_cons_succ] at d2
      have f2 := Rw.frozen rM 2
      have rM2 := rM.setCell 2 (.string T210)
      simp only [List.set_cons_zero, List.set_cons_succ] at rM2
      have hown2 := own_asdS hown1 (Asd.one w1 wr.heap.size 2 (.string T210)) (fun k e e2 => hnb (e2 ▸ e))
      have hB2 := hB1.setCell (p := ⟨wr.heap.size, 2, none⟩) hszr (.string T210)
      clear rM hown1 hB1 hown hal c0 c1 c2
      go_upto_region 7 with fail
      generalize w1.setCell ⟨wr.heap.size, 2, none⟩ (.string T210) = w2 at *
      generalize wr.heap.size = b at *
      clear d2 f2
      have d0 := Rw.cell rM2 0
      have d1 := Rw.cell rM2 1
      have d2 := Rw.cell rM2 2
      simp only [List.getElem?_cons_zero, List.getElem?_cons_succ] at d0 d1 d2
      have hal := (Below.refl w2.heap.size w2).alloc (Nat.le_refl _) (.cells #[.string TN, .int .i64 mo, .string T210] 31)
      have hown4 := own_stay2 hown2 hal
      have rY : Rw (w2.alloc (.cells #[.string TN, .int .i64 mo, .string T210] 31)) w2.heap.size 31 (encM M) := by rw [heM]; exact Rw.new w2 31 [.string TN, .int .i64 mo, .string T210]
      have hB5 := hB2.alloc hB2.size (.cells #[.string TN, .int .i64 mo, .string T210] 31)
      rw [← HOL ()] at hown4
      clear hown2 hal rM2 hcut
      go_wp2_with (refine wpList_own_mt _ _ rfl rfl w.heap.size _ O M (by first | rfl | (rw [HOL ()]; rfl)) hown4 w2.heap.size rfl rY (by rw [HOL ()]; omega) (by have := hB5.size; omega) ?_)
      intro v' w5 hO' hg5 _
      have hB6 := hB5.grown hg5 hB5.size (fun j e => by rw [HOL ()] at hown4; exact (hown4.lt j e).1)
      obtain ⟨g', c', rfl⟩ := own_succ hO'
      clear hown4 rY hg5 hB5 d0 d1 d2
      go_wp2_with fail
      go_roundw
      case rel => exact ⟨i + 1, O ++ [M], by simp, by omega, by omega, (HNX ()).symm, by rw [List.length_append, HOL ()]; rfl, by rw [List.length_append, mts_snoc, HOL (), heM]; exact hO', hB6⟩
      case measure => simp [intOf]; omega
    · have hFO : O = F := by
        rw [HOO (), ← HF ()]
        unfold fewM
        by_cases hlt : i < n
        · rw [show i = 15 by omega]
        · have := HN ()
          rw [List.take_of_length_le (by omega), List.take_of_length_le (by omega)]
      subst hFO
      have HOW : Unit → _ := fun _ => hown
      clear hown hOl
      by_cases hlt : i < n
      · have hki : (i : Int) < (n : Int) := by omega
        have h15i : ¬ (i : Int) < 15 := by omega
        go_wp2_with fail
        go_ret
        exact ⟨_, rfl, HOW (), hB⟩
      · have hki : ¬ (i : Int) < (n : Int) := by omega
        go_wp2_with fail
        go_ret
        exact ⟨_, rfl, HOW (), hB⟩
theorem neq_mt (x y : Mt) (w : World) : (binOp .neq 31 (.agg #[.string ⟨x.n.toArray⟩, .int .i64 x.op, .string ⟨x.v.toArray⟩]) (.agg #[.string ⟨y.n.toArray⟩, .int .i64 y.op, .string ⟨y.v.toArray⟩])).run Tryd.prog w = .ok (.bool (!(x.n == y.n && x.op == y.op && x.v == y.v))) w := by
  have u3 := Tryd.underlying3
  have u9 := Tryd.underlying9
  have hS : Tryd.prog.underlying 31 = some (.struct (Tryd.prog.fieldsOf 31)) := by kernel_rfl
  have hp : Tryd.prog.stoodInHeld 31 = false := by kernel_rfl
  rw [run_neq_struct, show (10000 : Nat) = 9999 + 1 from rfl, run_equalIn_agg w 9999 _ _ _ hS hp]
  simp only [Program.fieldsOf, Tryd.underlying31]
  go_simp
  by_cases h1 : x.n = y.n <;> by_cases h2 : x.op = y.op <;> by_cases h3 : x.v = y.v <;> simp [h1, h2, h3]
end Go.Proofs.YteooofakpkbgoaaDoor
