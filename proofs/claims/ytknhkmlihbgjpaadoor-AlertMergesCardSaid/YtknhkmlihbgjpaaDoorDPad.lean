/- What follows the bytes, so that the last block is whole; a new Sum. -/
import Derived.Test.YtknhkmlihbgjpaaDoorDAdd
import Derived.Laws.MakeOwn
import Derived.Laws.OwnMore
namespace Go.Proofs.YtknhkmlihbgjpaaDoor.Dg
open Go.ChangeShapes Go.WideShapes Go.RowKit

/-- A Sum of nothing. -/
def zsum : List Value := sumV (List.replicate 8 0) (List.replicate 64 0) 0
theorem info_sum : (Tryd.prog.info? 150).map (fun i => (i.zero, i.size)) = some (some (.agg zsum.toArray), 73) := by kernel_rfl
theorem zero_sum (w : World) : (zeroValue 150).run Tryd.prog w = .ok (.agg zsum.toArray) w := (zero_of_info info_sum).1 w
theorem info_u8 : (Tryd.prog.info? 5).map (fun i => (i.zero, i.size, i.bytes)) = some (some (.int .u8 0), 1, 1) := by kernel_rfl
def zs (c : Nat) : List Nat := List.replicate c 0
theorem zs_len (c : Nat) : (zs c).length = c := by simp [zs]
theorem zs_u (c : Nat) : ∀ x ∈ zs c, U8 x := by intro x hx; rw [List.eq_of_mem_replicate hx]; exact (show 0 < 256 by omega)
set_option maxRecDepth 100000 in
theorem make_u8 (c : Nat) (hc : c ≤ 1000000) (l : Int) (hl : l = (c : Int)) (w : World) :
    (Instr.makeSlice 88 (.int .i64 l) (.int .i64 l)).run Tryd.prog w = .ok (.slice (some ⟨w.heap.size, 0, none⟩) c c) (w.alloc (.cells ((zs c).map v8).toArray 5)) := by
  subst hl
  have h := info_u8
  cases hq : Tryd.prog.info? 5 with
  | none => rw [hq] at h; cases h
  | some i =>
    rw [hq] at h
    simp only [Option.map_some, Option.some.injEq, Prod.mk.injEq] at h
    obtain ⟨hz, hs, hb⟩ := h
    have := run_make w 88 5 i (.int .u8 0) (by kernel_rfl) hq hz .i64 .i64 (c : Int) (c : Int) (by omega) (by omega) (by rw [hb]; omega) (by omega)
    rw [this, hs, Int.toNat_natCast, Nat.mul_one]
    congr 3
    apply Array.ext
    · simp [size_madeCells, zs_len]
    · intro j h1 h2
      simp [madeCells, Value.cells, v8, Nat.mod_one, zs]

set_option maxHeartbeats 800000 in
set_option maxRecDepth 100000 in
theorem new_any (w : World) :
    Calls Tryd.prog 80 #[] w fun e w' => e = .returned (.pointer (some ⟨w.heap.size, 0, none⟩)) ∧ w' = w.alloc (.cells zsum.toArray 150) := by
  have hz := zero_sum
  go_enter Tryd.func80, Tryd.ntmps80
  go_wp2
  go_ret
  exact ⟨rfl, rfl⟩

/-- The part of a slice from place n on. -/
theorem part_from {P : Program} (t e : TypeId) (g o len cap n q m : Nat) (l : Int) (ht : P.underlying t = some (.slice e)) (he : (P.info? e).map (·.size) = some 1) (hn : n < len) (hc : len ≤ cap) (hl : l = (n : Int)) (hq : o + n = q) (hm : len - n = m) (w : World) :
    (Instr.slice t (.slice (some ⟨g, o, none⟩) len cap) (some (.int .i64 l)) none none).run P w = .ok (.slice (some ⟨g, q, none⟩) m (cap - n)) w := by
  subst hl hq hm
  obtain ⟨a, h1, h2⟩ := rest_of (P := P) t e g o len cap n ht he (by omega) hc
  rw [h1, h2 hn]
/-- A word laid over four bytes. -/
def put4L (xs : List Nat) (o x : Nat) : List Nat := (((xs.set o (b0 x)).set (o + 1) (b1 x)).set (o + 2) (b2 x)).set (o + 3) (b3 x)
theorem put4L_len (xs : List Nat) (o x : Nat) : (put4L xs o x).length = xs.length := by simp [put4L]
theorem u8_set {xs : List Nat} (h : ∀ x ∈ xs, U8 x) {y : Nat} (hy : U8 y) (j : Nat) : ∀ x ∈ xs.set j y, U8 x := by
  intro x hx
  rcases List.mem_or_eq_of_mem_set hx with h1 | rfl
  · exact h x h1
  · exact hy
theorem put4L_u {xs : List Nat} (h : ∀ x ∈ xs, U8 x) (o : Nat) {x : Nat} (hx : U32 x) : ∀ y ∈ put4L xs o x, U8 y := by
  unfold U32 at hx
  exact u8_set (u8_set (u8_set (u8_set h (show b0 x < 256 by unfold b0; omega) _) (show b1 x < 256 by unfold b1; omega) _) (show b2 x < 256 by unfold b2; omega) _) (show b3 x < 256 by unfold b3; omega) _
theorem Rw.put4 {w : World} {g : Nat} {t : TypeId} {xs : List Nat} (h : Rw w g t (xs.map v8)) (o x : Nat) : Rw (put4 w g o x) g t ((put4L xs o x).map v8) := by
  unfold put4L
  rw [List.map_set, List.map_set, List.map_set, List.map_set]
  exact Rw.setCell (Rw.setCell (Rw.setCell (Rw.setCell h _ _) _ _) _ _) _ _
theorem below_put4 {N g : Nat} {a w : World} (h : Below N a w) (hg : N ≤ g) (o x : Nat) : Below N a (put4 w g o x) :=
  (((h.setCell (p := ⟨g, o, none⟩) hg _).setCell (p := ⟨g, o + 1, none⟩) hg _).setCell (p := ⟨g, o + 2, none⟩) hg _).setCell (p := ⟨g, o + 3, none⟩) hg _
theorem Rw.put4_other {w : World} {g k : Nat} {t : TypeId} {cs : List Value} (h : Rw w g t cs) (hk : g ≠ k) (o x : Nat) : Rw (Proofs.YtknhkmlihbgjpaaDoor.Dg.put4 w k o x) g t cs :=
  (((h.other hk _ _).other hk _ _).other hk _ _).other hk _ _
theorem putWord_row (g o len cap : Nat) (hl : 4 ≤ len) (x : Nat) (hx : U32 x) (xs : List Nat) (t : TypeId) (ho : o + 4 ≤ xs.length) (w : World) (h : Rw w g t (xs.map v8)) :
    Calls Tryd.prog 98 #[.slice (some ⟨g, o, none⟩) len cap, .int .u32 (x : Int)] w fun e w' => (∃ v, e = .returned v) ∧ w' = put4 w g o x :=
  putWord_any g o len cap hl x hx w _ _ _ _ (h.four o ho) (h.frozen _) (h.frozen _) (h.frozen _) (h.frozen _)

/-- How many bytes stand between the bytes and their number. -/
def tlN (T : Nat) : Nat := 64 - (T + 8) % 64
/-- What follows T bytes. -/
def padL (T : Nat) : List Nat := put4L (put4L ((zs (tlN T + 8)).set 0 128) (tlN T) (T * 8 / 4294967296)) (tlN T + 4) (T * 8 % 4294967296)
theorem padL_len (T : Nat) : (padL T).length = tlN T + 8 := by unfold padL; rw [put4L_len, put4L_len, List.length_set, zs_len]
theorem padL_u (T : Nat) (hT : T < 1152921504606846976) : ∀ x ∈ padL T, U8 x :=
  put4L_u (put4L_u (u8_set (zs_u _) (show 128 < 256 by omega) _) _ (show _ < _ by omega)) _ (U32.mod _)

set_option maxHeartbeats 800000 in
set_option maxRecDepth 100000 in
theorem padding_any (T : Nat) (hT : T < 1152921504606846976) (w : World) :
    Calls Tryd.prog 97 #[.int .i64 (T : Int)] w fun e w' => e = .returned (.slice (some ⟨w.heap.size, 0, none⟩) (padL T).length (padL T).length) ∧ Rw w' w.heap.size 5 ((padL T).map v8) ∧ Below w.heap.size w w' := by
  have Hlen := Lib.hid (padL_len T)
  have Hpad := Lib.hid (show padL T = put4L (put4L ((zs (tlN T + 8)).set 0 128) (tlN T) (T * 8 / 4294967296)) (tlN T + 4) (T * 8 % 4294967296) from rfl)
  obtain ⟨tl, htl⟩ : ∃ tl, tl = tlN T := ⟨_, rfl⟩
  rw [← htl] at Hlen Hpad
  unfold tlN at htl
  have htm : ((T : Int) + 8).tmod 64 = ((64 - tl : Nat) : Int) := by
    rw [show 64 - tl = (T + 8) % 64 by omega]; rfl
  have hx : (64 : Int) - ((64 - tl : Nat) : Int) = (tl : Int) := by omega
  have h1 : 0 < tl := by omega
  have h2 : tl ≤ 64 := by omega
  clear htl
  generalize 64 - tl = r at *
  go_enter Tryd.func97, Tryd.ntmps97
  have hmk := make_u8 (tl + 8) (by omega) ((tl : Int) + 8) (by omega)
  go_upto_region 3 with fail
  clear hmk
  have r0 := Rw.new w 5 ((zs (tl + 8)).map v8)
  have hB := (Below.refl _ w).alloc (Nat.le_refl _) (.cells ((zs (tl + 8)).map v8).toArray 5)
  generalize w.alloc (.cells ((zs (tl + 8)).map v8).toArray 5) = W at *
  have c0 := (r0.cell 0).trans (at8 (x := 0) (by simp [zs]))
  have f0 := r0.frozen 0
  go_upto_region 4 with fail
  clear c0 f0
  replace r0 := r0.setCell 0 (v8 128)
  rw [← List.map_set] at r0
  replace hB := hB.setCell (p := ⟨w.heap.size, 0, none⟩) (Nat.le_refl _) (v8 128)
  change Code.wp _ _ _ _ (W.setCell ⟨w.heap.size, 0, none⟩ (v8 128))
  generalize W.setCell ⟨w.heap.size, 0, none⟩ (v8 128) = W1 at *
  have hs1 := part_from (P := Tryd.prog) 88 5 w.heap.size 0 (tl + 8) (tl + 8) tl tl 8 (tl : Int) (by kernel_rfl) (by kernel_rfl) (by omega) (by omega) rfl (by omega) (by omega)
  have hs2 := part_from (P := Tryd.prog) 88 5 w.heap.size 0 (tl + 8) (tl + 8) (tl + 4) (tl + 4) 4 ((tl : Int) + 4) (by kernel_rfl) (by kernel_rfl) (by omega) (by omega) (by omega) (by omega) (by omega)
  have hlz : ((zs (tl + 8)).set 0 128).length = tl + 8 := by rw [List.length_set, zs_len]
  go_wp2_with fail
  rw [show (T : Int) * 8 / 4294967296 = ((T * 8 / 4294967296 : Nat) : Int) by omega]
  refine (putWord_row w.heap.size tl 8 8 (by omega) (T * 8 / 4294967296) (show _ < _ by omega) _ _ (by omega) _ r0).mono ?_
  rintro e w1 ⟨⟨v1, rfl⟩, rfl⟩
  replace r0 := Rw.put4 r0 tl (T * 8 / 4294967296)
  replace hB := below_put4 hB (Nat.le_refl _) tl (T * 8 / 4294967296)
  generalize put4 W1 w.heap.size tl (T * 8 / 4294967296) = W2 at *
  have hlz2 : (put4L ((zs (tl + 8)).set 0 128) tl (T * 8 / 4294967296)).length = tl + 8 := by rw [put4L_len, hlz]
  go_wp2_with fail
  rw [show (T : Int) * 8 % 4294967296 = ((T * 8 % 4294967296 : Nat) : Int) by omega]
  refine (putWord_row w.heap.size (tl + 4) 4 _ (by omega) (T * 8 % 4294967296) (U32.mod _) _ _ (by omega) _ r0).mono ?_
  rintro e w1 ⟨⟨v2, rfl⟩, rfl⟩
  replace r0 := Rw.put4 r0 (tl + 4) (T * 8 % 4294967296)
  replace hB := below_put4 hB (Nat.le_refl _) (tl + 4) (T * 8 % 4294967296)
  generalize put4 W2 w.heap.size (tl + 4) (T * 8 % 4294967296) = W3 at *
  go_wp2_with fail
  go_ret
  rw [Hlen.out, Hpad.out]
  exact ⟨rfl, r0, hB⟩
end Go.Proofs.YtknhkmlihbgjpaaDoor.Dg
