/- What Of, Header, lives and early return. -/
import Derived.Test.YtidiallphmocdaaDoorSPass
import Derived.Test.YtidiallphmocdaaDoorRHex
namespace Go.Proofs.YtidiallphmocdaaDoor
open Go.ChangeShapes Go.WideShapes Go.RowKit

set_option maxRecDepth 100000 in
set_option maxHeartbeats 1600000 in
theorem seal_any (v u : Value) (k b : List Nat) (w : World) (ht : Tabs w) (hv : BytesAt w v k) (hu : BytesAt w u b) (uk : ∀ x ∈ k, U8 x) (ub : ∀ x ∈ b, U8 x) (hl : k.length ≤ 1000000) (hl2 : b.length ≤ 1000000) :
    Calls Tryd.prog 29 #[v, u] w fun e w' => e = .returned (.agg ((sealN k b).map v8).toArray) ∧ Below w.heap.size w w' := by
  obtain ⟨av, cv, hve, _, _⟩ := id hv
  subst hve
  obtain ⟨au, cu, hue, _, _⟩ := id hu
  subst hue
  go_enter Tryd.func29, Tryd.ntmps29
  go_upto_region 1 with fail
  have r0 := Rw.new w 25 ((zs 32).map v8)
  have hB := (Below.refl _ w).alloc (Nat.le_refl _) (.cells ((zs 32).map v8).toArray 25)
  change Code.wp _ _ _ _ (w.alloc (.cells ((zs 32).map v8).toArray 25))
  generalize w.alloc (.cells ((zs 32).map v8).toArray 25) = W at *
  generalize hZ : (zs 32).map v8 = Z at r0
  have HZ : Unit → Z.length = 32 := fun _ => by rw [← hZ]; rfl
  clear hZ
  have Kk := Lib.hid (keyBlock_any _ k W (ht.keep hB) (hv.keep hB) uk (by omega))
  have Hseal : Unit → sealN k b = passN (kbN k) 92 (passN (kbN k) 54 b) := fun _ => rfl
  have hkl := kbN_len k
  have ukb := kbN_u uk
  generalize kbN k = kb at *
  have h64 : (kb.map v8).length = 64 := by rw [List.length_map, hkl]
  have h1 := one8 kb
  go_wp2_with fail
  refine (Kk.out).mono ?_
  rintro e w1 ⟨rfl, hb1⟩
  clear Kk
  replace r0 := r0.keep hb1
  replace hB := hB.trans (hb1.mono hB.size)
  go_upto_region 2 with (refine store_arr w1.heap.size 63 ((zs 64).map v8) (Rw.new w1 63 ((zs 64).map v8)) 64 rfl 63 (by kernel_rfl) (kb.map v8) h64 h1 _ _ rfl rfl rfl rfl ?_)
  rw [World.setRow_alloc_new]
  have r1 := Rw.new w1 63 (kb.map v8)
  replace r0 := r0.past (.cells (kb.map v8).toArray 63)
  replace hB := hB.alloc hB.size (.cells (kb.map v8).toArray 63)
  generalize w1.alloc (.cells (kb.map v8).toArray 63) = W1 at *
  generalize w1.heap.size = G at *
  have hmf : ∀ (fn : Fn) (first cap : Array Value) (w : World), (Instr.makeFunc fn first cap).run Tryd.prog w = .ok (.func fn first cap) w := fun _ _ _ _ => rfl
  have Kp := Lib.hid (pass_any 54 (by unfold U8; omega) 54 rfl _ b G kb W1 (ht.keep hB) (hu.keep hB) ub hl2 r1 hkl ukb)
  generalize (kb.map v8).toArray = KA
  clear hb1 h64 h1
  go_wp2_with fail
  refine (Kp.out).mono ?_
  rintro e w2 ⟨rfl, hb2⟩
  clear Kp
  replace r0 := r0.keep hb2
  replace r1 := r1.keep hb2
  replace hB := hB.trans (hb2.mono hB.size)
  have hil := passN_len kb 54 b
  have uin := passN_u kb 54 b
  generalize passN kb 54 b = I at *
  have hs : (I.map v8).length = 32 := by rw [List.length_map, hil]
  have h1 := one8 I
  clear hb2
  go_upto_region 4 with (refine store_arr w2.heap.size 25 ((zs 32).map v8) (Rw.new w2 25 ((zs 32).map v8)) 32 rfl 25 (by kernel_rfl) _ hs h1 _ _ rfl rfl rfl rfl ?_)
  rw [World.setRow_alloc_new]
  have r2 := Rw.new w2 25 (I.map v8)
  replace r0 := r0.past (.cells (I.map v8).toArray 25)
  replace r1 := r1.past (.cells (I.map v8).toArray 25)
  replace hB := hB.alloc hB.size (.cells (I.map v8).toArray 25)
  generalize w2.alloc (.cells (I.map v8).toArray 25) = W2 at *
  generalize w2.heap.size = D at *
  generalize (I.map v8).toArray = IA
  have hca := cut_all (P := Tryd.prog) 25 5 32 D (by kernel_rfl) (by kernel_rfl)
  have hby := r2.bytes 32 (by omega)
  rw [hil] at hby
  have Kp := Lib.hid (pass_any 92 (by unfold U8; omega) 92 rfl _ I G kb W2 (ht.keep hB) hby uin (by omega) r1 hkl ukb)
  clear hs h1
  go_wp2_with fail
  refine (Kp.out).mono ?_
  rintro e w3 ⟨rfl, hb3⟩
  clear Kp
  replace r0 := r0.keep hb3
  replace hB := hB.trans (hb3.mono hB.size)
  have hol := passN_len kb 92 I
  have hs : ((passN kb 92 I).map v8).length = 32 := by rw [List.length_map, hol]
  have h1 := one8 (passN kb 92 I)
  have hZl := HZ ()
  have Hcs : Unit → (sealN k b).map v8 = (passN kb 92 I).map v8 := fun _ => by rw [Hseal ()]
  generalize (passN kb 92 I).map v8 = cs at *
  clear hca hby hb3 Hseal r1 r2 hmf
  go_wp2_with (refine store_arr _ _ _ r0 32 hZl 25 (by kernel_rfl) cs hs h1 _ _ rfl rfl rfl rfl ?_)
  refine ret_arr w.heap.size 25 cs (r0.row cs) 32 hs 5 (by kernel_rfl) (by kernel_rfl) (by rfl) rfl rfl ?_
  exact ⟨by rw [Hcs ()], below_setRow hB (Nat.le_refl _) _⟩

/-- sha256= -/
def preL : List Nat := [115, 104, 97, 50, 53, 54, 61]
theorem pre_u : ∀ x ∈ preL, U8 x := by unfold U8; decide
def headN (k b : List Nat) : List Nat := preL ++ hexN (sealN k b)
theorem headN_len (k b : List Nat) : (headN k b).length = 71 := by rw [headN, List.length_append, hexN_len, sealN_len]; rfl
theorem headN_u (k b : List Nat) : ∀ x ∈ headN k b, U8 x := fun x hx => by
  rcases List.mem_append.1 hx with h | h
  · exact pre_u x h
  · exact hexN_u (sealN_u k b) x h

set_option maxRecDepth 100000 in
set_option maxHeartbeats 1600000 in
theorem header_any (v u : Value) (k b : List Nat) (w : World) (ht : Tabs w) (hv : BytesAt w v k) (hu : BytesAt w u b) (uk : ∀ x ∈ k, U8 x) (ub : ∀ x ∈ b, U8 x) (hl : k.length ≤ 1000000) (hl2 : b.length ≤ 1000000) :
    Calls Tryd.prog 31 #[v, u] w fun e w' => e = .returned (.string (bs (headN k b))) ∧ Below w.heap.size w w' := by
  have Ks := Lib.hid (seal_any v u k b w ht hv hu uk ub hl hl2)
  have hsl := sealN_len k b
  have us := sealN_u k b
  have Hh : Unit → bs (headN k b) = (⟨#[115, 104, 97, 50, 53, 54, 61]⟩ : ByteArray) ++ bs (hexN (sealN k b)) := fun _ => by rw [headN, bs_append]; rfl
  generalize sealN k b = S at *
  have hs : (S.map v8).length = 32 := by rw [List.length_map, hsl]
  have h1 := one8 S
  go_enter Tryd.func31, Tryd.ntmps31
  go_wp2_with fail
  refine (Ks.out).mono ?_
  rintro e w1 ⟨rfl, hB⟩
  clear Ks
  go_upto_region 2 with (refine store_arr w1.heap.size 25 ((zs 32).map v8) (Rw.new w1 25 ((zs 32).map v8)) 32 rfl 25 (by kernel_rfl) _ hs h1 _ _ rfl rfl rfl rfl ?_)
  rw [World.setRow_alloc_new]
  have r2 := Rw.new w1 25 (S.map v8)
  replace hB := hB.alloc hB.size (.cells (S.map v8).toArray 25)
  generalize w1.alloc (.cells (S.map v8).toArray 25) = W2 at *
  generalize w1.heap.size = D at *
  generalize (S.map v8).toArray = SA
  have hca := cut_all (P := Tryd.prog) 25 5 32 D (by kernel_rfl) (by kernel_rfl)
  have hby := r2.bytes 32 (by omega)
  rw [hsl] at hby
  have Kx := Lib.hid (hex_any _ S W2 hby us (by omega))
  clear hs h1
  go_wp2_with fail
  refine (Kx.out).mono ?_
  rintro e w2 ⟨rfl, hb2⟩
  replace hB := hB.trans (hb2.mono hB.size)
  clear Kx hby r2 hb2 hca
  have hxl : (bs (hexN S)).size = 64 := by rw [bs_size, hexN_len, hsl]
  generalize bs (hexN S) = hx at *
  have c1 : ∀ w, (Op.stringOp .add (⟨#[115, 104, 97, 50, 53, 54, 61]⟩ : ByteArray) hx).run Tryd.prog w = .ok (.string (bs (headN k b))) w := fun w => by
    rw [run_string_add_sum w _ _ (by rw [hxl]; decide), Hh ()]
  generalize hH : bs (headN k b) = H at *
  have HH : Unit → bs (headN k b) = H := fun _ => hH
  clear Hh hH
  go_wp2_with fail
  go_ret
  exact ⟨by rw [HH ()]; rfl, hB⟩
end Go.Proofs.YtidiallphmocdaaDoor
