/- Arguments that are two slices of bytes, or a slice of slices of bytes: what lies in memory. -/
import Derived.Test.YtidiallphmocdaaDoorFrame
import Derived.Test.YtidiallphmocdaaDoorSKey
import Derived.Deep.Slices
import Derived.OpenShut
namespace Go.Proofs.YtidiallphmocdaaDoor
open Go.ChangeShapes Go.WideShapes Go.ChangeAt Go.RowKit Go.Joins

section
variable {H : Type} {enc : TypeId × Value → H} {w : World}
/-- A cell that reads as a slice of bytes. -/
theorem bytes_trod {fuel : Nat} {v : Value} {y : DataW H × List MemPlace} (hf : DataW.trod enc Tryd.prog w 0 (fun _ => true) true fuel 22 [v] = some y) : ∃ b : List Nat, BytesAt w v b ∧ (∀ x ∈ b, U8 x) ∧ b.length ≤ 9223372036854775807 := by
  obtain ⟨aa, n, cap, e⟩ := slice_form Tryd.underlying22 hf
  obtain rfl : v = .slice aa n cap := by simpa using e
  rcases open_ints Tryd.underlying22 Tryd.underlying5 cells8 hf with ⟨e, _⟩ | ⟨ad, len, cap', zs', e, _, hl, hm, hz, _, hc, hw⟩
  · simp at e
    obtain ⟨rfl, rfl, rfl⟩ := e
    exact ⟨[], ⟨none, 0, rfl, by simp, fun h => absurd rfl h⟩, by simp, by simp⟩
  · simp at e
    obtain ⟨rfl, rfl, rfl⟩ := e
    simp at hz
    have hn : ((zs'.take n).map Int.toNat).length = n := by simp; omega
    refine ⟨(zs'.take n).map Int.toNat, ⟨_, cap, by rw [hn], by rw [hn]; exact hl, fun hne => ?_⟩, fun x hx => ?_, ?_⟩
    · obtain ⟨b, o, sp⟩ := ad
      have h0 : 0 < n := by rcases Nat.eq_zero_or_pos n with h | h; exact absurd (List.eq_nil_of_length_eq_zero (by rw [hn]; exact h)) hne; exact h
      have hsp : sp = none := by have := World.cell?_spot (hc 0 (by omega)); simpa [Addr.add] using this
      subst hsp
      refine ⟨b, o, rfl, fun j v hv => ?_⟩
      rw [List.map_map, List.getElem?_map] at hv
      obtain ⟨z, hz1, rfl⟩ := Option.map_eq_some_iff.1 hv
      rw [List.getElem?_take] at hz1
      split at hz1
      · have hzz : zs'[j]? = some z := hz1
        have hb8 := bounds_u8 (hw z (List.mem_of_getElem? hzz))
        have h2 := hc j (List.getElem?_eq_some_iff.1 hzz).1
        rw [add_any] at h2
        rw [h2]
        simp only [List.getD, hzz, Option.getD_some, Function.comp, v8]
        rw [Int.toNat_of_nonneg hb8.1]
      · cases hz1
    · obtain ⟨z, hz1, rfl⟩ := List.mem_map.1 hx
      have hb8 := bounds_u8 (hw z (List.mem_of_mem_take hz1))
      unfold U8
      omega
    · rw [hn]
      have : maxLen = 9223372036854775807 := rfl
      omega
theorem add_zero_addr (a : Addr) : a.add 0 = a := by cases a; unfold Addr.add; split <;> simp_all
theorem cellsY : Tryd.prog.cellsOf 22 = 1 := by kernel_rfl
theorem cellsP : Tryd.prog.cellsOf 47 = 2 := by kernel_rfl
/-- Two slices of bytes. -/
theorem open_pair {r : Reach} {b0 : Nat} {v : Value} {d : DataW H} {p : List MemPlace} (hv : Value.okWide Tryd.prog w r b0 47 v) (h : DataW.Trod enc Tryd.prog w 0 (fun _ => true) true 47 v d p) :
    ∃ (v0 v1 : Value) (k b : List Nat), v = .agg #[v0, v1] ∧ (BytesAt w v0 k ∧ (∀ x ∈ k, U8 x) ∧ k.length ≤ 9223372036854775807) ∧ (BytesAt w v1 b ∧ (∀ x ∈ b, U8 x) ∧ b.length ≤ 9223372036854775807) := by
  unfold Value.okWide at hv
  rw [Tryd.underlying47] at hv
  obtain ⟨cs, rfl, hsz, _⟩ := hv
  obtain ⟨c0, c1, rfl⟩ := array2 (hsz.trans cellsP)
  obtain ⟨fuel, hf⟩ := h
  obtain ⟨xs, m, _, _, _, hlen, hx⟩ := DataW.trod_array Tryd.underlying47 hf
  have h0 := hx 0 (by omega)
  have h1 := hx 1 (by omega)
  rw [cellsY, List.getElem?_eq_getElem (by omega)] at h0 h1
  simp [Value.cells] at h0 h1
  obtain ⟨k, hk⟩ := bytes_trod h0
  obtain ⟨b, hb⟩ := bytes_trod h1
  exact ⟨c0, c1, k, b, rfl, hk, hb⟩
theorem parts_exist (w : World) (ad : Addr) (t : Nat) (h : ∀ i, i < t → ∃ (u : Value) (b : List Nat), w.cell? (ad.add i) = some u ∧ BytesAt w u b ∧ (∀ x ∈ b, U8 x) ∧ b.length ≤ 9223372036854775807) :
    ∃ ls : List (List Nat), ls.length = t ∧ (∀ (j : Nat) p, ls[j]? = some p → ∃ g o u, some ad = some (⟨g, o, none⟩ : Addr) ∧ w.cell? ⟨g, o + j, none⟩ = some u ∧ BytesAt w u p) ∧ ∀ p ∈ ls, (∀ x ∈ p, U8 x) ∧ p.length ≤ 9223372036854775807 := by
  induction t with
  | zero => exact ⟨[], rfl, fun j x hx => by simp at hx, fun x hx => by simp at hx⟩
  | succ t ih =>
    obtain ⟨ys, hl, hc, hr⟩ := ih fun i hi => h i (by omega)
    obtain ⟨u, b, h1, h2, h3, h4⟩ := h t (by omega)
    refine ⟨ys ++ [b], by simp [hl], fun j x hx => ?_, fun x hx => ?_⟩
    · rcases Nat.lt_or_ge j ys.length with hj | hj
      · rw [List.getElem?_append_left hj] at hx
        exact hc j x hx
      · rw [List.getElem?_append_right hj] at hx
        have hjt : j = t := by
          rcases Nat.lt_or_ge (j - ys.length) 1 with h5 | h5
          · omega
          · rw [List.getElem?_eq_none (by simpa using h5)] at hx; cases hx
        subst hjt
        rw [hl, Nat.sub_self] at hx
        simp at hx
        subst hx
        obtain ⟨bb, off, spot⟩ := ad
        have hspot : spot = none := by obtain ⟨_, _, h0, _⟩ := h 0 (by omega); have := World.cell?_spot h0; simpa [Addr.add] using this
        subst hspot
        rw [add_any] at h1
        exact ⟨bb, off, u, rfl, h1, h2⟩
    · rcases List.mem_append.1 hx with hx | hx
      · exact hr x hx
      · simp at hx; subst hx; exact ⟨h3, h4⟩
/-- A slice of slices of bytes. -/
theorem open_parts {r : Reach} {b0 : Nat} {v : Value} {d : DataW H} {p : List MemPlace} (hv : Value.okWide Tryd.prog w r b0 50 v) (h : DataW.Trod enc Tryd.prog w 0 (fun _ => true) true 50 v d p) :
    ∃ ls : List (List Nat), PartsAt w v ls ∧ (∀ p ∈ ls, (∀ x ∈ p, U8 x) ∧ p.length ≤ 9223372036854775807) ∧ ls.length ≤ 9223372036854775807 := by
  obtain ⟨aa, n, cap, rfl⟩ := okWide_slice Tryd.underlying50 hv
  obtain ⟨fuel, hf⟩ := h
  rcases Go.Deep.open_slice Tryd.underlying50 hf with ⟨e, _⟩ | ⟨ad, len, cap', m, nn, D, Pl, e, _, hl, hm, hmm, _, hc⟩
  · simp [Value.cells] at e
    obtain ⟨rfl, rfl, rfl⟩ := e
    exact ⟨[], ⟨none, 0, rfl, fun j p hp => by simp at hp⟩, by simp, by simp⟩
  · simp [Value.cells] at e
    obtain ⟨rfl, rfl, rfl⟩ := e
    simp at hmm
    obtain ⟨ls, h1, h2, h3⟩ := parts_exist w ad n (fun i hi => by
      obtain ⟨cs', h4, h5⟩ := hc i (by omega)
      rw [cellsY] at h4
      rw [Nat.mul_one] at h4
      obtain ⟨a', l', c', rfl⟩ := slice_form Tryd.underlying22 h5
      obtain ⟨b, hb1, hb2, hb3⟩ := bytes_trod h5
      refine ⟨_, b, ?_, hb1, hb2, hb3⟩
      have := (World.cells?_some h4).2.2 0 (by omega)
      rw [add_zero_addr] at this
      simpa using this)
    refine ⟨ls, ⟨_, cap, by rw [h1], h2⟩, h3, ?_⟩
    have : maxLen = 9223372036854775807 := rfl
    omega
end
end Go.Proofs.YtidiallphmocdaaDoor
