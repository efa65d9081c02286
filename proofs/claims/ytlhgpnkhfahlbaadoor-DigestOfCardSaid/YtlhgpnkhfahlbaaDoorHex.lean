/- Of: the digest of bytes. Hex: two signs for each byte. -/
import Derived.Test.YtlhgpnkhfahlbaaDoorNow
import Derived.Laws.BytesArg
import Derived.Laws.AppendOwn
namespace Go.Proofs.YtlhgpnkhfahlbaaDoor
open Go.ChangeShapes Go.WideShapes Go.RowKit

/-- The slice v holds the bytes b. -/
def BytesAt (w : World) (v : Value) (b : List Nat) : Prop := ∃ a cap, v = .slice a b.length cap ∧ b.length ≤ cap ∧ (b ≠ [] → ∃ g o, a = some ⟨g, o, none⟩ ∧ Cls w g o (b.map v8))
theorem BytesAt.keep {w w' : World} {v : Value} {b : List Nat} (h : BytesAt w v b) (hb : Below w.heap.size w w') : BytesAt w' v b := by
  obtain ⟨a, cap, e, hc, hk⟩ := h
  refine ⟨a, cap, e, hc, fun hn => ?_⟩
  obtain ⟨g, o, e2, hcl⟩ := hk hn
  exact ⟨g, o, e2, hcl.keep hb⟩
theorem Cls.lt {w : World} {g o : Nat} {b : List Nat} (h : Cls w g o (b.map v8)) (hn : b ≠ []) : g < w.heap.size := by
  cases b with
  | nil => exact absurd rfl hn
  | cons x b => exact World.block_lt_of_cell? w _ (h 0 _ rfl)

set_option maxHeartbeats 800000 in
theorem of_any (v : Value) (b : List Nat) (w : World) (ht : Tabs w) (hv : BytesAt w v b) (ub : ∀ x ∈ b, U8 x) (hl : b.length < 576460752303423488) :
    Calls Tryd.prog 11 #[v] w fun e w' => e = .returned (.agg ((shaN b).map v8).toArray) ∧ Below w.heap.size w w' := by
  obtain ⟨a, cap, rfl, hc, hk⟩ := hv
  go_enter Tryd.func11, Tryd.ntmps11
  go_upto_region 1 with fail
  have r0 := Rw.new w 25 ((zs 32).map v8)
  have hB := (Below.refl _ w).alloc (Nat.le_refl _) (.cells ((zs 32).map v8).toArray 25)
  change Code.wp _ _ _ _ (w.alloc (.cells ((zs 32).map v8).toArray 25))
  generalize w.alloc (.cells ((zs 32).map v8).toArray 25) = W at *
  have hN := r0.lt
  go_wp2_with fail
  refine (new_any _).mono ?_
  rintro e w1 ⟨rfl, rfl⟩
  replace r0 := r0.past (.cells zsum.toArray 55)
  have r1 := Rw.new W 55 zsum
  replace hB := hB.alloc hB.size (.cells zsum.toArray 55)
  generalize W.alloc (.cells zsum.toArray 55) = W1 at *
  generalize W.heap.size = S at *
  have htl := ht.lt
  have ht1 := ht.keep hB
  go_wp2_with fail
  refine (add_bytes S (List.replicate 8 0) (List.replicate 64 0) [] b a cap W1 ht1 (by omega) (by omega) r1 rfl rfl (fun h => absurd rfl h) (rep_u8 64) ub hc (by simp; omega) (fun hn => ?_)).mono ?_
  · obtain ⟨g, o, e, hcl⟩ := hk hn
    exact ⟨g, o, e, by have := hcl.lt hn; omega, hcl.keep hB⟩
  rintro e w2 ⟨rfl, ws', bf', cs, k1, k2, k3, k4⟩
  have hN1 := r0.lt
  replace r0 := rw_below (r0.rowOther (by omega) cs) hN1 k4
  replace hB := (below_setRow hB (g := S) (by omega) cs).trans (k4.mono (by omega))
  have ht2 := ht.keep hB
  rw [List.nil_append] at k1 k2
  have hp : PtrAt w2 (some ⟨S, 0, none⟩) b := .inr ⟨S, ws', bf', rfl, k1, k2.ulen, k2.len, fun _ => k2, k3⟩
  clear k1 k2 k3 k4 r1 hk
  go_wp2_with fail
  refine (now_any _ b _ ht2 hp hl ub).mono ?_
  rintro e w3 ⟨rfl, hb3⟩
  replace r0 := r0.keep hb3
  replace hB := hB.trans (hb3.mono hB.size)
  have hs : ((shaN b).map v8).length = 32 := by rw [List.length_map, shaN_len]
  have hz : ((zs 32).map v8).length = 32 := by rw [List.length_map, zs_len]
  have h1 := one8 (shaN b)
  generalize hcs : (shaN b).map v8 = cs2 at *
  have Hcs : Unit → (shaN b).map v8 = cs2 := fun _ => hcs
  clear hcs ht2 hp hb3
  go_wp2_with (refine store_arr _ _ _ r0 32 hz 25 (by kernel_rfl) cs2 hs h1 _ _ rfl rfl rfl rfl ?_)
  refine ret_arr w.heap.size 25 cs2 (r0.row cs2) 32 hs 5 (by kernel_rfl) (by kernel_rfl) (by rfl) rfl rfl ?_
  exact ⟨by rw [Hcs ()], below_setRow hB (Nat.le_refl _) _⟩

/-- A string of the bytes xs. -/
def bs (xs : List Nat) : ByteArray := ⟨(xs.map UInt8.ofNat).toArray⟩
/-- The sign of a number below 16. -/
def hd (d : Nat) : Nat := if d < 10 then 48 + d else 87 + d
def hexN (b : List Nat) : List Nat := b.flatMap fun x => [hd (x / 16), hd (x % 16)]
theorem hexN_len (b : List Nat) : (hexN b).length = 2 * b.length := by
  induction b with
  | nil => rfl
  | cons x b ih => rw [hexN, List.flatMap_cons, List.length_append]; rw [hexN] at ih; rw [ih]; simp; omega
theorem hexN_snoc (b : List Nat) (x : Nat) : hexN (b ++ [x]) = hexN b ++ [hd (x / 16), hd (x % 16)] := by simp [hexN]
theorem hd_u {d : Nat} (h : d < 16) : U8 (hd d) := by unfold hd U8; split <;> omega
theorem hexN_u {b : List Nat} (h : ∀ x ∈ b, U8 x) : ∀ x ∈ hexN b, U8 x := by
  intro y hy
  obtain ⟨x, hx, hy⟩ := List.mem_flatMap.1 hy
  have := h x hx
  unfold U8 at this
  simp only [List.mem_cons, List.not_mem_nil, or_false] at hy
  rcases hy with rfl | rfl
  · exact hd_u (by omega)
  · exact hd_u (by omega)
theorem digit_tab (d : Nat) (h : d < 16) (h2 : (d : Int).toNat < (⟨#[48, 49, 50, 51, 52, 53, 54, 55, 56, 57, 97, 98, 99, 100, 101, 102]⟩ : ByteArray).size) : (((⟨#[48, 49, 50, 51, 52, 53, 54, 55, 56, 57, 97, 98, 99, 100, 101, 102]⟩ : ByteArray)[(d : Int).toNat]'h2).toNat : Int) = (hd d : Int) := by
  match d, h with
  | 0, _ => rfl
  | 1, _ => rfl
  | 2, _ => rfl
  | 3, _ => rfl
  | 4, _ => rfl
  | 5, _ => rfl
  | 6, _ => rfl
  | 7, _ => rfl
  | 8, _ => rfl
  | 9, _ => rfl
  | 10, _ => rfl
  | 11, _ => rfl
  | 12, _ => rfl
  | 13, _ => rfl
  | 14, _ => rfl
  | 15, _ => rfl
  | n + 16, h => exact absurd h (by omega)
theorem digit_at (k : IntKind) (d : Nat) (h : d < 16) (w : World) : (Instr.index 9 (.string ⟨#[48, 49, 50, 51, 52, 53, 54, 55, 56, 57, 97, 98, 99, 100, 101, 102]⟩) (.int k (d : Int))).run Tryd.prog w = .ok (.int .u8 (hd d : Int)) w := by
  have hs : (⟨#[48, 49, 50, 51, 52, 53, 54, 55, 56, 57, 97, 98, 99, 100, 101, 102]⟩ : ByteArray).size = 16 := rfl
  rw [run_index_string w 9 _ k _ (by kernel_rfl), dif_pos ⟨by omega, by rw [hs]; omega⟩, digit_tab d h]
theorem digit_run {k : IntKind} {d : Nat} {i : Int} (hi : i = (d : Int)) (hd' : d < 16) (w : World) : (Instr.index 9 (.string ⟨#[48, 49, 50, 51, 52, 53, 54, 55, 56, 57, 97, 98, 99, 100, 101, 102]⟩) (.int k i)).run Tryd.prog w = .ok (.int .u8 (hd d : Int)) w := by
  subst hi
  exact digit_at k d hd' w
/-- Signs laid, the first k bytes' of n. -/
def hrow (b : List Nat) (k : Nat) : List Nat := hexN (b.take k) ++ zs (2 * b.length - 2 * k)
theorem hrow_len (b : List Nat) {k : Nat} (hk : k ≤ b.length) : (hrow b k).length = 2 * b.length := by
  unfold hrow; rw [List.length_append, hexN_len, zs_len, List.length_take]; omega
theorem hrow_next {b : List Nat} {k x : Nat} (hx : b[k]? = some x) : splice (hrow b k) (2 * k) [hd (x / 16), hd (x % 16)] = hrow b (k + 1) := by
  have hk : k < b.length := (List.getElem?_eq_some_iff.1 hx).1
  have hl : (hexN (b.take k)).length = 2 * k := by rw [hexN_len, List.length_take]; omega
  unfold hrow splice
  rw [List.take_append_of_le_length (by omega), List.take_of_length_le (by omega), List.drop_append, List.drop_eq_nil_of_le (by simp; omega), List.nil_append, List.take_add_one, hx, Option.toList_some, hexN_snoc, List.append_assoc]
  congr 2
  unfold zs
  rw [List.drop_replicate]
  congr 1
  simp [hl]; omega
/-- A slice with no element, and room for c. -/
theorem make_room (c : Nat) (hc : c ≤ 1000000) (l : Int) (hl : l = (c : Int)) (w : World) :
    (Instr.makeSlice 22 (.int .i64 0) (.int .i64 l)).run Tryd.prog w = .ok (.slice (some ⟨w.heap.size, 0, none⟩) 0 c) (w.alloc (.cells ((zs c).map v8).toArray 5)) := by
  subst hl
  have h := info_u8
  cases hq : Tryd.prog.info? 5 with
  | none => rw [hq] at h; cases h
  | some i =>
    rw [hq] at h
    simp only [Option.map_some, Option.some.injEq, Prod.mk.injEq] at h
    obtain ⟨hz, hs, hb⟩ := h
    have := run_make w 22 5 i (.int .u8 0) (by kernel_rfl) hq hz .i64 .i64 0 (c : Int) (by omega) (by omega) (by rw [hb]; omega) (by omega)
    rw [this, hs, Int.toNat_natCast, Nat.mul_one]
    congr 3
    apply Array.ext
    · simp [size_madeCells, zs_len]
    · intro j h1 h2
      simp [madeCells, Value.cells, v8, Nat.mod_one, zs]
theorem bs_nums (xs : List Nat) : strOfNums (xs.map Int.ofNat) = bs xs := by
  apply ByteArray.ext
  apply Array.ext'
  rw [strOfNums_data]
  simp [bs]
/-- The string of a slice of bytes. -/
theorem string_of {P : Program} (src e dst : TypeId) (hs : P.underlying src = some (.slice e)) (he : P.underlying e = some (.int .u8)) (hd : P.underlying dst = some .string) (g o len cap : Nat) (xs : List Nat) (hl : xs.length = len) (w : World) (hc : Cls w g o (xs.map v8)) :
    (convert src dst (.slice (some ⟨g, o, none⟩) len cap)).run P w = .ok (.string (bs xs)) w := by
  rw [← bs_nums]
  refine run_convert_bytes_arg w src e hs he g o len cap (xs.map Int.ofNat) (by simp [hl]) (fun i hi => ?_) dst hd
  have hx : xs[i]? = some (xs[i]'(by omega)) := List.getElem?_eq_getElem (by omega)
  rw [hc i (v8 xs[i]) (by simp [hx])]
  simp [v8, hx]
/-- Elements are appended within the room, as a step of a region that draws its order. -/
theorem step_append {P : Program} {ops : Array Oper} {o : Oper} {a : Act} {w : World} {K : Act → World → Prop} {Q : Exit → Act → World → Prop} {E : Prop} (hgd : o.guard = none) (d s : Operand) (t e : TypeId)
    (ho : o.op = .call { callee := .builtin .append, args := #[d, s], argTypes := #[t, t] }) (hu : P.underlying t = some (.slice e)) (hsz : (P.info? e).map (·.size) = some 1)
    (g n cap h p m c : Nat) (hd : a.eval d = .slice (some ⟨g, 0, none⟩) n cap) (hs : a.eval s = .slice (some ⟨h, p, none⟩) m c)
    (cur : List Value) (hg : Rw w g e cur) (hcap : cap ≤ cur.length) (news : List Value) (hn : news.length = m) (hsrc : Cls w h p news) (hroom : n + m ≤ cap) (h1 : ∀ v ∈ news, v.oneCell' = true)
    (hk : K (a.put o.dst (.slice (some ⟨g, 0, none⟩) (n + m) cap)) (w.setRow g (splice cur n news).toArray)) :
    if Region.wanted o (yielded ops a.tmps) = true then Oper.wp P o a w K Q else E := by
  have hw : Region.wanted o (yielded ops a.tmps) = true := by simp [Region.wanted, hgd]
  rw [if_pos hw]
  cases hq : P.info? e with
  | none => simp [hq] at hsz
  | some i =>
    have hi : i.size = 1 := by simpa [hq] using hsz
    have hrun := run_append_room (P := P) w t o.type e i hu hq g n cap cur.toArray hg ⟨h, p, none⟩ m c news (by rw [hi, hn, Nat.mul_one]) (fun j v hv => by rw [add_any]; exact hsrc j v hv) h1 hroom (by rw [hi, hn]; simp; omega)
    unfold Oper.wp
    simp only [execOp, ho, resolve, invoke, builtin, List.map_toArray, List.map_cons, List.map_nil, hd, hs]
    simp [hrun, Result.andThen, hi]
    unfold splice at hk
    exact hk
/-- The class of a round's worlds: what was there is there, and number 7 made two signs. -/
def CH (W : World) (A B : Nat) (L : Marks) (w : World) : Prop := Below W.heap.size W w ∧ ∀ v, L 7 = some v → ∃ g, W.heap.size ≤ g ∧ v = .slice (some ⟨g, 0, none⟩) 2 2 ∧ Cls w g 0 ([A, B].map v8)
theorem CH.new {W w : World} {A B : Nat} {L : Marks} (h : CH W A B L w) : CH W A B (upd L 7 (.slice (some ⟨w.heap.size, 0, none⟩) 2 2)) (w.alloc (.cells ([A, B].map v8).toArray 5)) := by
  refine ⟨h.1.alloc h.1.size _, fun v hv => ?_⟩
  simp [upd] at hv
  subst hv
  exact ⟨_, h.1.size, rfl, Rw.cls (Rw.new w _ _) 0 _ (fun j v hv => by rw [Nat.zero_add]; exact hv)⟩

set_option maxHeartbeats 800000 in
theorem hex_any (v : Value) (b : List Nat) (w : World) (hv : BytesAt w v b) (ub : ∀ x ∈ b, U8 x) (hl : b.length ≤ 100000) :
    Calls Tryd.prog 15 #[v] w fun e w' => e = .returned (.string (bs (hexN b))) ∧ Below w.heap.size w w' := by
  obtain ⟨a, cap, rfl, hc, hk⟩ := hv
  have hmk := make_room (2 * b.length) (by omega) (2 * (b.length : Int)) (by omega)
  go_enter Tryd.func15, Tryd.ntmps15
  go_upto_region 2 with fail
  have r0 := Rw.new w 5 ((zs (2 * b.length)).map v8)
  have hB := (Below.refl _ w).alloc (Nat.le_refl _) (.cells ((zs (2 * b.length)).map v8).toArray 5)
  generalize w.alloc (.cells ((zs (2 * b.length)).map v8).toArray 5) = W at *
  clear hmk
  have Hk : Unit → (b ≠ [] → ∃ g o, a = some ⟨g, o, none⟩ ∧ Cls w g o (b.map v8)) := fun _ => hk
  clear hk
  go_upto_region 3 with fail
  go_loopw [3, 12] (fun h i wr => ∃ k : Nat, k ≤ b.length ∧ i = .int .i64 (k : Int) ∧ h = .slice (some ⟨w.heap.size, 0, none⟩) (2 * k) (2 * b.length) ∧ Rw wr w.heap.size 5 ((hrow b k).map v8) ∧ Below w.heap.size w wr) (fun _ i _ => b.length - (intOf i).toNat)
  case atStart => exact ⟨0, by omega, rfl, rfl, r0, hB⟩
  case round =>
    clear r0 hB
    obtain ⟨k, hk, rfl, rfl, q0, qB⟩ := hrel
    by_cases hlt : k < b.length
    · obtain ⟨x, hx⟩ : ∃ x, b[k]? = some x := ⟨_, List.getElem?_eq_getElem hlt⟩
      obtain ⟨g, o, rfl, hcl⟩ := Hk () (by intro e; rw [e] at hlt; simp at hlt)
      have ux : x < 256 := ub x (List.mem_of_getElem? hx)
      have cx : wr.cell? ⟨g, o + k, none⟩ = some (.int .u8 (x : Int)) := by
        have h1 := hcl k (v8 x) (by simp [hx])
        rw [qB.cell (World.block_lt_of_cell? w _ h1)]; exact h1
      go_upto_region 5 with fail
      have d1 := digit_run (k := .u8) (d := x / 16) (i := (x : Int) / 16) (by omega) (by omega)
      have e2 : bits .and .u8 (x : Int) 15 = ((x % 16 : Nat) : Int) := by rw [show (15 : Int) = ((15 : Nat) : Int) from rfl, u8_and_nat x 15 ux (by omega), nat_mask4]
      obtain ⟨y, hy⟩ : ∃ y, y = x % 16 := ⟨_, rfl⟩
      rw [← hy] at e2
      have d2 := digit_run (k := .u8) (d := y) (i := (y : Int)) rfl (by omega)
      have Hx : Unit → b[k]? = some x := fun _ => hx
      have Hy : Unit → y = x % 16 := fun _ => hy
      clear hx hy cx
      refine region_loose (fun L w' => CH wr (hd (x / 16)) (hd y) L w') 7 8 2 #[true, true, true, true, true, true, true, true, false, false] rfl (by kernel_rfl) (by kernel_rfl) (by kernel_rfl) (⟨(Below.refl _ _).drew, fun _ h => by cases h⟩) ?_
      simp only [List.take_succ_cons, List.take_zero]
      repeat
        first
        | (refine loose_val (by decide) rfl ?_
           apply Exists.intro
           refine ⟨fun L' w' hw' => ?_, ?_⟩
           · obtain hhh := hw'
             go_simp
             first | done | rfl | exact ⟨rfl, rfl⟩
           simp only [Act.put, List.setIfInBounds_toArray, List.set_cons_zero, List.set_cons_succ])
        | (refine loose_call (by decide) rfl ?_
           apply Exists.intro
           apply Exists.intro
           refine ⟨fun w' => ?_, ?_⟩
           · go_simp
             first | done | rfl | exact ⟨rfl, rfl⟩
           apply Exists.intro
           refine ⟨fun L' w' hw' => ?_, ?_⟩
           · first
             | fail
           simp only [Act.put, List.setIfInBounds_toArray, List.set_cons_zero, List.set_cons_succ])
        | (refine loose_new (by decide) rfl (fun L' w' hw' => ?_) (fun v => ?_)
           · exact ⟨.slice (some ⟨w'.heap.size, 0, none⟩) 2 2, w'.alloc (.cells ([hd (x / 16), hd y].map v8).toArray 5), by go_simp; rfl, CH.new hw'⟩
           simp only [Act.put, List.setIfInBounds_toArray, List.set_cons_zero, List.set_cons_succ])
      intro w5 hw5
      obtain ⟨hb5, hv⟩ := hw5
      obtain ⟨g2, hg2, rfl, hc2⟩ := hv v (by simp [upd])
      have hlt0 := q0.lt
      replace q0 := q0.keep hb5
      replace qB := qB.trans (hb5.mono qB.size)
      clear hv hb5 d1 d2 e2
      have hrl := hrow_len b hk
      refine wpAny_ready (rs := [8]) (by kernel_rfl) (by simp) ?_
      refine AllReady.cons rfl (fun K hK => ?_) AllReady.nil
      refine step_append rfl (.tmp 16) (.tmp 23) 22 5 rfl (by kernel_rfl) (by kernel_rfl) w.heap.size (2 * k) (2 * b.length) g2 0 2 2 rfl rfl _ q0 (by rw [List.length_map, hrl]; omega) ([hd (x / 16), hd y].map v8) rfl hc2 (by omega) (one8 _) ?_
      refine hK _ _ ?_
      clear hK K
      have q1 : Rw (w5.setRow w.heap.size (splice ((hrow b k).map v8) (2 * k) ([hd (x / 16), hd y].map v8)).toArray) w.heap.size 5 ((hrow b (k + 1)).map v8) := by
        have h1 := q0.row (splice ((hrow b k).map v8) (2 * k) ([hd (x / 16), hd y].map v8))
        rw [← hrow_next (Hx ()), ← Hy (), show (splice (hrow b k) (2 * k) [hd (x / 16), hd y]).map v8 = splice ((hrow b k).map v8) (2 * k) ([hd (x / 16), hd y].map v8) by simp [splice]]
        exact h1
      replace qB := below_setRow qB (g := w.heap.size) (Nat.le_refl _) (splice ((hrow b k).map v8) (2 * k) ([hd (x / 16), hd y].map v8)).toArray
      generalize w5.setRow w.heap.size (splice ((hrow b k).map v8) (2 * k) ([hd (x / 16), hd y].map v8)).toArray = w6 at *
      clear q0 hc2
      refine wpAny_ready (rs := [9]) (by kernel_rfl) (by simp) ?_
      refine AllReady.cons rfl (fun K hK => ?_) AllReady.nil
      go_simp
      refine hK _ _ ?_
      clear hK K
      refine wpAny_done (by kernel_rfl) ?_ _
      go_wp2_with fail
      go_roundw
      case rel => exact ⟨k + 1, by omega, by go_num, by rw [Nat.mul_add], q1, qB⟩
      case measure => simp [intOf]; omega
    · obtain rfl : k = b.length := by omega
      have hrw : hrow b b.length = hexN b := by unfold hrow; rw [List.take_length, Nat.sub_self]; simp [zs]
      rw [hrw] at q0
      have hsc := string_of (P := Tryd.prog) 22 5 9 (by kernel_rfl) (by kernel_rfl) (by kernel_rfl) w.heap.size 0 (2 * b.length) (2 * b.length) (hexN b) (hexN_len b) wr (Rw.cls q0 0 _ (fun j v hv => by rw [Nat.zero_add]; exact hv))
      clear hrw hk hlt
      go_wp2_with fail
      go_ret
      exact ⟨rfl, qB⟩
end Go.Proofs.YtlhgpnkhfahlbaaDoor
