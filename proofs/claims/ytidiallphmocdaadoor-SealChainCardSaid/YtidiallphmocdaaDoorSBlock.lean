/- The 64 bytes of a key: what keyBlock returns. -/
import Derived.Test.YtidiallphmocdaaDoorSPlain
namespace Go.Proofs.YtidiallphmocdaaDoor
open Go.ChangeShapes Go.WideShapes Go.RowKit

theorem splice_front (k : List Nat) : splice ((zs 64).map v8) 0 (k.map v8) = (kpad k).map v8 := by
  unfold splice kpad zs
  rw [List.map_append, List.map_replicate, List.map_replicate, List.take_zero, List.nil_append, Nat.zero_add, List.length_map, List.drop_replicate]
/-- A key of at most 64 bytes whose 64 bytes are those of the key k. -/
def KeyAt (w : World) (N : Nat) (Z : List Value) (k : List Nat) (v : Value) (wx : World) : Prop :=
  ∃ k', BytesAt wx v k' ∧ k'.length ≤ 64 ∧ kbN k = kpad k' ∧ Rw wx N 63 Z ∧ Rw wx (N + 1) 63 Z ∧ Below N w wx

set_option maxHeartbeats 800000 in
theorem keyBlock_any (u : Value) (k : List Nat) (w : World) (ht : Tabs w) (hu : BytesAt w u k) (uk : ∀ x ∈ k, U8 x) (hl : k.length < 576460752303423488) :
    Calls Tryd.prog 48 #[u] w fun e w' => e = .returned (.agg ((kbN k).map v8).toArray) ∧ Below w.heap.size w w' := by
  obtain ⟨a, cap, hue, hc, _⟩ := id hu
  subst hue
  go_enter Tryd.func48, Tryd.ntmps48
  go_upto_if 7 with fail
  have r0 := (Rw.new w 63 ((zs 64).map v8)).past (.cells ((zs 64).map v8).toArray 63)
  have r1 := Rw.new (w.alloc (.cells ((zs 64).map v8).toArray 63)) 63 ((zs 64).map v8)
  have hB := ((Below.refl _ w).alloc (Nat.le_refl _) (.cells ((zs 64).map v8).toArray 63)).alloc (by simp) (.cells ((zs 64).map v8).toArray 63)
  simp only [World.size_alloc] at r1
  change Code.wp _ _ _ _ ((w.alloc (.cells ((zs 64).map v8).toArray 63)).alloc (.cells ((zs 64).map v8).toArray 63))
  generalize (w.alloc (.cells ((zs 64).map v8).toArray 63)).alloc (.cells ((zs 64).map v8).toArray 63) = W at *
  generalize hZ : (zs 64).map v8 = Z at r0 r1
  have HZ : Unit → (zs 64).map v8 = Z := fun _ => hZ
  clear hZ
  replace ht := ht.keep hB
  replace hu := hu.keep hB
  go_cut [0] (fun s0 wx => KeyAt w w.heap.size Z k s0 wx)
  case first =>
    by_cases h64 : 64 < k.length
    · have h64i : (64 : Int) < (k.length : Int) := by omega
      go_wp2_with fail
      refine (of_any _ k _ ht hu uk hl).mono ?_
      rintro e w1 ⟨rfl, hb1⟩
      replace r0 := r0.keep hb1
      replace r1 := r1.keep hb1
      replace hB := hB.trans (hb1.mono hB.size)
      have hsl := shaN_len k
      have Hkb : Unit → kbN k = kpad (shaN k) := fun _ => by unfold kbN; rw [if_pos h64]
      generalize shaN k = S at *
      have hs : (S.map v8).length = 32 := by rw [List.length_map, hsl]
      have h1 := one8 S
      have r2 := Rw.new w1 25 (S.map v8)
      replace r0 := r0.past (.cells (S.map v8).toArray 25)
      replace r1 := r1.past (.cells (S.map v8).toArray 25)
      replace hB := hB.alloc hB.size (.cells (S.map v8).toArray 25)
      clear hb1 hu ht
      have hca := cut_all (P := Tryd.prog) 25 5 32 w1.heap.size (by kernel_rfl) (by kernel_rfl)
      go_wp2_with (refine store_arr w1.heap.size 25 ((zs 32).map v8) (Rw.new w1 25 ((zs 32).map v8)) 32 rfl 25 (by kernel_rfl) _ hs h1 _ _ rfl rfl rfl rfl ?_)
      rw [World.setRow_alloc_new]
      go_meet
      have hby := r2.bytes 32 (by omega)
      rw [hsl] at hby
      exact ⟨S, hby, by omega, Hkb (), r0, r1, hB⟩
    · have h64i : ¬ (64 : Int) < (k.length : Int) := by omega
      go_wp2_with fail
      go_meet
      exact ⟨k, hu, by omega, by unfold kbN; rw [if_neg h64], r0, r1, hB⟩
  case rest =>
    clear r0 r1 hB hu
    obtain ⟨k', hu, h64, hkb, r0, r1, hB⟩ := hcut
    have Hkb : Unit → kbN k = kpad k' := fun _ => hkb
    clear hkb
    obtain ⟨a', cap', rfl, hc', hk'⟩ := hu
    have hca := cut_all (P := Tryd.prog) 63 5 64 (w.heap.size + 1) (by kernel_rfl) (by kernel_rfl)
    have hZl : Z.length = 64 := by rw [← HZ ()]; rfl
    have hcl : (k'.map v8).length = k'.length := List.length_map ..
    have hN := r0.lt
    have hsrc : 0 < (k'.map v8).length → (some (⟨w.heap.size + 1, 0, none⟩ : Addr)) = some ⟨w.heap.size + 1, 0, none⟩ ∧ ∃ ad, a' = some ad ∧ ∀ j v, (k'.map v8)[j]? = some v → wc.cell? (ad.add j) = some v := fun h0 => by
      obtain ⟨g, o, rfl, hcs⟩ := hk' (by intro e; subst e; simp at h0)
      exact ⟨rfl, _, rfl, fun j v hv => by rw [add_any]; exact hcs j v hv⟩
    clear hk'
    go_wp2_with ((with_reducible show wpList _ _ _ _ _ _); (refine wpList_copy_splice rfl (.tmp 11) (.tmp 12) 22 22 rfl 5 (by kernel_rfl) (by kernel_rfl) _ _ _ _ _ _ rfl rfl (w.heap.size + 1) 0 Z 63 r1 (k'.map v8) (by rw [hcl]; exact (Nat.min_eq_left h64).symm) hsrc (by omega) (one8 _) (w.heap.size + 1) wc (Below.refl _ _) (Nat.le_refl _) ?_))
    intro w2 hr2 hb2
    replace hr2 : Rw w2 (w.heap.size + 1) 63 ((kpad k').map v8) := by
      have h : Rw w2 (w.heap.size + 1) 63 (splice Z 0 (k'.map v8)) := hr2
      rw [← HZ (), splice_front k'] at h
      exact h
    replace r0 : Rw w2 w.heap.size 63 Z := by unfold Rw at *; rw [hb2.block _ (by omega)]; exact r0
    replace hB := hB.trans (hb2.mono (by omega))
    have hs : ((kpad k').map v8).length = 64 := by rw [List.length_map, kpad_len h64]
    have h1 := one8 (kpad k')
    have Hcs : Unit → (kbN k).map v8 = (kpad k').map v8 := fun _ => by rw [Hkb ()]
    clear Hkb
    generalize (kpad k').map v8 = cs at *
    clear hb2 hca r1
    go_wp2_with (first
      | (refine load_arr _ _ _ hr2 64 hs 63 5 (by kernel_rfl) (by kernel_rfl) _ rfl rfl rfl ?_)
      | (refine store_arr _ _ _ r0 64 hZl 63 (by kernel_rfl) cs hs h1 _ _ rfl rfl rfl rfl ?_))
    refine ret_arr w.heap.size 63 cs (r0.row cs) 64 hs 5 (by kernel_rfl) (by kernel_rfl) (by rfl) rfl rfl ?_
    exact ⟨by rw [Hcs ()], below_setRow hB (Nat.le_refl _) _⟩
end Go.Proofs.YtidiallphmocdaaDoor
