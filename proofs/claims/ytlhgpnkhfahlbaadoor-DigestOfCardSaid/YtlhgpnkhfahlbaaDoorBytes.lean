/- Bytes: the bytes whose signs a text holds, or that there are none. -/
import Derived.Test.YtlhgpnkhfahlbaaDoorLives
import Derived.Laws.StandIn
namespace Go.Proofs.YtlhgpnkhfahlbaaDoor
open Go.ChangeShapes Go.WideShapes Go.RowKit

/-- The numbers of a string's bytes. -/
def sl (s : ByteArray) : List Nat := s.data.toList.map UInt8.toNat
theorem sl_len (s : ByteArray) : (sl s).length = s.size := by rw [sl, List.length_map, Array.length_toList]; rfl
theorem sl_u (s : ByteArray) : ∀ x ∈ sl s, U8 x := by intro x hx; obtain ⟨y, _, rfl⟩ := List.mem_map.1 hx; exact UInt8.toNat_lt y
theorem bs_sl (s : ByteArray) : bs (sl s) = s := by
  apply ByteArray.ext
  apply Array.ext'
  show (s.data.toList.map UInt8.toNat).map UInt8.ofNat = s.data.toList
  rw [List.map_map]
  conv => rhs; rw [← List.map_id s.data.toList]
  apply List.map_congr_left
  intro x _
  simp
theorem sl_bs {xs : List Nat} (h : ∀ x ∈ xs, U8 x) : sl (bs xs) = xs := by
  unfold sl bs
  rw [List.map_map]
  conv => rhs; rw [← List.map_id xs]
  apply List.map_congr_left
  intro x hx
  have := h x hx
  unfold U8 at this
  simp; omega
theorem bs_inj {xs ys : List Nat} (h : ∀ x ∈ xs, U8 x) (k : ∀ x ∈ ys, U8 x) (e : bs xs = bs ys) : xs = ys := by rw [← sl_bs h, e, sl_bs k]
theorem sl_index (s : ByteArray) (k : IntKind) (j x : Nat) (i : Int) (hi : i = (j : Int)) (hx : (sl s)[j]? = some x) (w : World) : (Instr.index 9 (.string s) (.int k i)).run Tryd.prog w = .ok (.int .u8 (x : Int)) w := by
  subst hi
  have hj : j < s.size := by rw [← sl_len]; exact (List.getElem?_eq_some_iff.1 hx).1
  rw [run_index_string w 9 _ k _ (by kernel_rfl), dif_pos ⟨by omega, by omega⟩]
  congr 3
  unfold sl at hx
  rw [List.getElem?_map] at hx
  obtain ⟨y, hy, rfl⟩ := Option.map_eq_some_iff.1 hx
  have hy2 := (List.getElem?_eq_some_iff.1 hy).2
  rw [← hy2]
  rfl

/-- The number of a sign, or -1. -/
def ix (c : Nat) : Int := if 48 ≤ c ∧ c < 58 then (c : Int) - 48 else if 97 ≤ c ∧ c < 103 then (c : Int) - 87 else -1
theorem ix_tab : ∀ c : Fin 256, firstIdx ⟨#[48, 49, 50, 51, 52, 53, 54, 55, 56, 57, 97, 98, 99, 100, 101, 102]⟩ (c.val : Int).toNat.toUInt8 = ix c.val := by decide +kernel
theorem ix_hd {d : Nat} (h : d < 16) : ix (hd d) = (d : Int) := by unfold hd ix; split <;> (split <;> (try split) <;> omega)
theorem hd_ix {c d : Nat} (h : ix c = (d : Int)) : hd d = c ∧ d < 16 := by
  unfold ix at h
  split at h
  · unfold hd; constructor
    · rw [if_pos (by omega)]; omega
    · omega
  · split at h
    · unfold hd; constructor
      · rw [if_neg (by omega)]; omega
      · omega
    · omega
theorem hexN_get {b : List Nat} {k x : Nat} (h : b[k]? = some x) : (hexN b)[2 * k]? = some (hd (x / 16)) ∧ (hexN b)[2 * k + 1]? = some (hd (x % 16)) := by
  induction b generalizing k with
  | nil => simp at h
  | cons y b ih =>
    have e : hexN (y :: b) = hd (y / 16) :: hd (y % 16) :: hexN b := by simp [hexN]
    rw [e]
    cases k with
    | zero => simp at h; subst h; simp
    | succ k =>
      rw [show 2 * (k + 1) = 2 * k + 1 + 1 by omega]
      simp only [List.getElem?_cons_succ]
      exact ih (by simpa using h)
/-- A sign of another kind: there are no bytes. -/
theorem no_bytes {l : List Nat} {k c : Nat} (hc : l[k]? = some c) (hi : ix c < 0) (b : List Nat) (ub : ∀ x ∈ b, U8 x) : hexN b ≠ l := by
  intro e
  subst e
  have hk : k < (hexN b).length := (List.getElem?_eq_some_iff.1 hc).1
  rw [hexN_len] at hk
  obtain ⟨x, hx⟩ : ∃ x, b[k / 2]? = some x := ⟨_, List.getElem?_eq_getElem (by omega)⟩
  have ux : x < 256 := ub x (List.mem_of_getElem? hx)
  obtain ⟨h1, h2⟩ := hexN_get hx
  rcases Nat.mod_two_eq_zero_or_one k with h | h
  · rw [show 2 * (k / 2) = k by omega, hc] at h1
    rw [Option.some.inj h1, ix_hd (by omega)] at hi
    omega
  · rw [show 2 * (k / 2) + 1 = k by omega, hc] at h2
    rw [Option.some.inj h2, ix_hd (by omega)] at hi
    omega

set_option maxHeartbeats 400000 in
theorem lindex_any (c : Nat) (hc : U8 c) (w : World) :
    Calls Tryd.prog 34 #[.string ⟨#[48, 49, 50, 51, 52, 53, 54, 55, 56, 57, 97, 98, 99, 100, 101, 102]⟩, .int .u8 (c : Int)] w fun e w' => e = .returned (.int .i64 (ix c)) ∧ w' = w := by
  have hrun : ∀ w, (callFunc 39 #[.string ⟨#[48, 49, 50, 51, 52, 53, 54, 55, 56, 57, 97, 98, 99, 100, 101, 102]⟩, .int .u8 (c : Int)]).run Tryd.prog w = .ok (.value (.int .i64 (ix c))) w := fun w => by
    rw [run_callFunc_indexByte Tryd.func39 (by kernel_rfl) (by kernel_rfl) (by kernel_rfl) (by kernel_rfl), run_indexByte_string, ix_tab ⟨c, hc⟩]
    rfl
  go_enter Tryd.func34, Tryd.ntmps34
  go_wp2
  go_ret
  exact ⟨rfl, rfl⟩
set_option maxHeartbeats 400000 in
theorem index_any (c : Nat) (hc : U8 c) (w : World) :
    Calls Tryd.prog 26 #[.string ⟨#[48, 49, 50, 51, 52, 53, 54, 55, 56, 57, 97, 98, 99, 100, 101, 102]⟩, .int .u8 (c : Int)] w fun e w' => e = .returned (.int .i64 (ix c)) ∧ w' = w := by
  go_enter Tryd.func26, Tryd.ntmps26
  go_wp2_with fail
  refine (lindex_any c hc _).mono ?_
  rintro e w1 ⟨rfl, rfl⟩
  go_wp2
  go_ret
  exact ⟨rfl, rfl⟩

theorem or_tab : ∀ h l : Fin 16, bits .or .i64 ((h.val : Int) * 16) (l.val : Int) = ((h.val * 16 + l.val : Nat) : Int) := by decide +kernel

/-- What Bytes answers: bytes that have these signs, or that none have. -/
def ReadAs (l : List Nat) (w : World) (v : Value) (er : Int) : Prop := (er = 0 ∧ ∃ b, hexN b = l ∧ (∀ x ∈ b, U8 x) ∧ BytesAt w v b) ∨ (er = 2 ∧ v = .slice none 0 0 ∧ ∀ b, (∀ x ∈ b, U8 x) → hexN b ≠ l)

theorem out_next (out : List Nat) (z : Nat) {n k : Nat} (ho : out.length = k) (hk : k < n) : ((out ++ zs (n - k)).map v8).set k (v8 z) = ((out ++ [z]) ++ zs (n - (k + 1))).map v8 := by
  rw [← List.map_set, List.set_append_right _ _ (by omega), ho, Nat.sub_self]
  unfold zs
  rw [show n - k = (n - (k + 1)) + 1 by omega, List.replicate_succ]
  simp
/-- What holds in the loop: k bytes are read. -/
def ByRel (w : World) (l : List Nat) (n k : Nat) (wr : World) : Prop := ∃ out : List Nat, out.length = k ∧ (∀ x ∈ out, U8 x) ∧ hexN out = l.take (2 * k) ∧ Rw wr w.heap.size 5 ((out ++ zs (n - k)).map v8) ∧ Below w.heap.size w wr

set_option maxHeartbeats 800000 in
theorem bytes_any (s : ByteArray) (hs : s.size ≤ 100000) (w : World) :
    Calls Tryd.prog 13 #[.string s] w fun e w' => ∃ v er, e = .returned (.tuple #[v, .int .i64 er]) ∧ ReadAs (sl s) w' v er ∧ Below w.heap.size w w' := by
  have hsl := sl_len s
  by_cases hodd : s.size % 2 = 0
  · obtain ⟨n, hn⟩ : ∃ n, s.size = 2 * n := ⟨s.size / 2, by omega⟩
    have hm : (s.size : Int).tmod 2 = 0 := by rw [hn]; show (((2 * n) % 2 : Nat) : Int) = 0; omega
    have hq : (s.size : Int).tdiv 2 = (n : Int) := by rw [hn]; show (((2 * n) / 2 : Nat) : Int) = _; omega
    have hmk := make_u8 n (by omega) (n : Int) rfl
    have Hn : Unit → s.size = 2 * n := fun _ => hn
    have hn1 : n ≤ 100000 := by omega
    go_enter Tryd.func13, Tryd.ntmps13
    go_upto_region 4 with fail
    have r0 := Rw.new w 5 ((zs n).map v8)
    have hB := (Below.refl _ w).alloc (Nat.le_refl _) (.cells ((zs n).map v8).toArray 5)
    generalize w.alloc (.cells ((zs n).map v8).toArray 5) = W at *
    clear hmk hm hq hn hodd
    go_upto_region 5 with fail
    go_loopw [18] (fun i wr => ∃ k : Nat, k ≤ n ∧ i = .int .i64 (k : Int) ∧ ByRel w (sl s) n k wr) (fun i _ => n - (intOf i).toNat)
    case atStart => exact ⟨0, by omega, rfl, [], rfl, by simp, by simp [hexN], r0, hB⟩
    case round =>
      clear r0 hB
      obtain ⟨k, hk, rfl, out, ho, uo, he, q0, qB⟩ := hrel
      by_cases hlt : k < n
      · obtain ⟨a, ha⟩ : ∃ a, (sl s)[2 * k]? = some a := ⟨_, List.getElem?_eq_getElem (by rw [hsl, Hn ()]; omega)⟩
        obtain ⟨c, hc⟩ : ∃ c, (sl s)[2 * k + 1]? = some c := ⟨_, List.getElem?_eq_getElem (by rw [hsl, Hn ()]; omega)⟩
        have Ka := Lib.hid (index_any a (sl_u s a (List.mem_of_getElem? ha)))
        have Kc := Lib.hid (index_any c (sl_u s c (List.mem_of_getElem? hc)))
        have ia := sl_index s .i64 (2 * k) a (2 * (k : Int)) (by omega) ha
        have ic := sl_index s .i64 (2 * k + 1) c (2 * (k : Int) + 1) (by omega) hc
        have Ha : Unit → (sl s)[2 * k]? = some a := fun _ => ha
        have Hc : Unit → (sl s)[2 * k + 1]? = some c := fun _ => hc
        have He : Unit → hexN out = (sl s).take (2 * k) := fun _ => he
        have Hs : Unit → (sl s).length = s.size := fun _ => hsl
        clear ha hc he hsl
        go_wp2_with fail
        refine (Ka.out _).mono ?_
        rintro e w1 ⟨rfl, rfl⟩
        go_wp2_with fail
        refine (Kc.out _).mono ?_
        rintro e w2 ⟨rfl, rfl⟩
        clear Ka Kc ia ic
        by_cases h1 : ix a < 0
        · have Hno : Unit → ∀ b, (∀ x ∈ b, U8 x) → hexN b ≠ sl s := fun _ => no_bytes (Ha ()) h1
          go_wp2_with fail
          exact bodyPost_ret (results_tmp2 rfl _ _ _) rfl ⟨_, _, rfl, .inr ⟨rfl, rfl, Hno ()⟩, qB⟩
        · by_cases h2 : ix c < 0
          · have Hno : Unit → ∀ b, (∀ x ∈ b, U8 x) → hexN b ≠ sl s := fun _ => no_bytes (Hc ()) h2
            go_wp2_with fail
            exact bodyPost_ret (results_tmp2 rfl _ _ _) rfl ⟨_, _, rfl, .inr ⟨rfl, rfl, Hno ()⟩, qB⟩
          · obtain ⟨x, hx⟩ : ∃ x : Nat, ix a = (x : Int) := ⟨(ix a).toNat, by omega⟩
            obtain ⟨y, hy⟩ : ∃ y : Nat, ix c = (y : Int) := ⟨(ix c).toNat, by omega⟩
            obtain ⟨hda, hx16⟩ := hd_ix hx
            obtain ⟨hdc, hy16⟩ := hd_ix hy
            have ho2 : bits .or .i64 ((x : Int) * 16) (y : Int) = ((x * 16 + y : Nat) : Int) := or_tab ⟨x, hx16⟩ ⟨y, hy16⟩
            obtain ⟨z, hz⟩ : ∃ z, z = x * 16 + y := ⟨_, rfl⟩
            rw [← hz] at ho2
            have hz256 : z < 256 := by omega
            have hlen : (out ++ zs (n - k)).length = n := by rw [List.length_append, ho, zs_len]; omega
            have ck := (q0.cell k).trans (at8 (x := 0) (by rw [List.getElem?_append_right (by omega), ho, Nat.sub_self]; unfold zs; rw [List.getElem?_replicate, if_pos (by omega)]))
            have fk := q0.frozen k
            have hkn : (k : Int) < (n : Int) := by omega
            have Hrow := q0.setCell k (v8 z)
            rw [out_next out z ho hlt] at Hrow
            have Hhex : Unit → hexN (out ++ [z]) = (sl s).take (2 * (k + 1)) := fun _ => by
              rw [hexN_snoc, show z / 16 = x by omega, show z % 16 = y by omega, hda, hdc, He (), show 2 * (k + 1) = 2 * k + 1 + 1 by omega, List.take_add_one, List.take_add_one, Ha (), Hc ()]
              simp
            have hzz : (z : Int) = (x : Int) * 16 + (y : Int) := by omega
            have Hz : Unit → v8 z = .int .u8 ((x : Int) * 16 + (y : Int)) := fun _ => by rw [v8, hzz]
            rw [hx, hy]
            clear hzz hda hdc h1 h2 hx hy
            go_wp2_with fail
            refine ⟨⟨k + 1, by omega, by go_num, out ++ [z], by simp [ho], fun t ht => ?_, Hhex (), ?_, qB.setCell (p := ⟨w.heap.size, k, none⟩) (Nat.le_refl _) _⟩, by simp [intOf]; omega⟩
            · rcases List.mem_append.1 ht with h | h
              · exact uo t h
              · rw [List.mem_singleton.1 h]; exact hz256
            · rw [← Hz ()]; exact Hrow
      · obtain rfl : k = n := by omega
        go_wp2_with fail
        have hfin : hexN out = sl s := by rw [he, List.take_of_length_le (by rw [hsl, Hn ()]; omega)]
        rw [Nat.sub_self, show out ++ zs 0 = out by simp [zs]] at q0
        have hby := q0.bytes k (by omega)
        rw [ho] at hby
        exact bodyPost_ret (results_tmp2 rfl _ _ _) rfl ⟨_, _, rfl, .inl ⟨rfl, out, hfin, uo, hby⟩, qB⟩
  · have hm : (s.size : Int).tmod 2 = 1 := by show ((s.size % 2 : Nat) : Int) = 1; omega
    go_enter Tryd.func13, Tryd.ntmps13
    go_wp2_with fail
    exact bodyPost_ret (results_tmp2 rfl _ _ _) rfl ⟨_, _, rfl, .inr ⟨rfl, rfl, fun b _ e => by have := hexN_len b; rw [e, hsl] at this; omega⟩, Below.refl _ _⟩
end Go.Proofs.YtlhgpnkhfahlbaaDoor
