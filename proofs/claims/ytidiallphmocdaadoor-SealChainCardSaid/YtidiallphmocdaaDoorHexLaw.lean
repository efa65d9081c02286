/- Bytes as signs: the statement's own function returns true, of whatever bytes and text. -/
import Derived.Test.YtidiallphmocdaaDoorRBytes
import Derived.Deep.DeepCutAuto
namespace Go.Proofs.YtidiallphmocdaaDoor
open Go.ChangeShapes Go.WideShapes Go.RowKit

theorem hexN_inj {b c : List Nat} (ub : ∀ x ∈ b, U8 x) (uc : ∀ x ∈ c, U8 x) (h : hexN b = hexN c) : b = c := by
  have hl : b.length = c.length := by have h1 := hexN_len b; have h2 := hexN_len c; rw [h] at h1; omega
  have h1 := outl_hex ub b.length (Nat.le_refl _)
  have h2 := outl_hex uc c.length (Nat.le_refl _)
  rw [List.take_length] at h1 h2
  rw [← h1, ← h2, h, hl]
/-- Two readings of one text agree. -/
theorem ReadAs.agree {l : List Nat} {w w' : World} {x y : Value} {e f : Int} (h : ReadAs l w x e) (k : ReadAs l w' y f) (hl : l.length ≤ 1000) : e = f ∧ ∃ d, d.length ≤ 1000 ∧ BytesAt w x d ∧ BytesAt w' y d := by
  rcases h with ⟨rfl, b, h1, h2, h3⟩ | ⟨rfl, rfl, h1⟩
  · rcases k with ⟨rfl, c, k1, k2, k3⟩ | ⟨_, _, k1⟩
    · obtain rfl := hexN_inj h2 k2 (h1.trans k1.symm)
      have := hexN_len b
      rw [h1] at this
      exact ⟨rfl, b, by omega, h3, k3⟩
    · exact absurd h1 (k1 b h2)
  · rcases k with ⟨_, c, k1, k2, _⟩ | ⟨rfl, rfl, _⟩
    · exact absurd k1 (h1 c k2)
    · exact ⟨rfl, [], by simp, ⟨none, 0, rfl, by simp, fun h => absurd rfl h⟩, ⟨none, 0, rfl, by simp, fun h => absurd rfl h⟩⟩
theorem ReadAs.stay {l : List Nat} {w w' : World} {v : Value} {er : Int} (h : ReadAs l w v er) (hb : Below w.heap.size w w') : ReadAs l w' v er := by
  rcases h with ⟨h1, b, h2, h3, h4⟩ | h
  · exact .inl ⟨h1, b, h2, h3, h4.keep hb⟩
  · exact .inr h
theorem ReadAs.back {b : List Nat} {w : World} {x : Value} {e : Int} (ub : ∀ x ∈ b, U8 x) (h : ReadAs (hexN b) w x e) : e = 0 ∧ BytesAt w x b := by
  rcases h with ⟨rfl, c, h1, h2, h3⟩ | ⟨_, _, h1⟩
  · obtain rfl := hexN_inj h2 ub h1
    exact ⟨rfl, h3⟩
  · exact absurd rfl (h1 b ub)
/-- The text of bytes. -/
theorem bytes_string {w : World} {v : Value} {d : List Nat} (h : BytesAt w v d) : (convert 22 9 v).run Tryd.prog w = .ok (.string (bs d)) w := by
  obtain ⟨a, cap, rfl, hc, hk⟩ := h
  by_cases hn : d = []
  · subst hn
    cases a with
    | none => exact run_convert_bytes_nil w _ 5 (by kernel_rfl) (by kernel_rfl) _ _ _ (by kernel_rfl)
    | some ad =>
      rw [run_convert_bytes_string w _ _ 5 _ _ _ (by kernel_rfl) (by kernel_rfl) (by kernel_rfl)]
      rw [run_bytesToString w ad _ _ [] (by have := run_loadCells_list (P := Tryd.prog) w ad [] (fun j v hv => by simp at hv); simpa using this)]
      rfl
  · obtain ⟨g, o, rfl, hcl⟩ := hk hn
    exact string_of _ 5 _ (by kernel_rfl) (by kernel_rfl) (by kernel_rfl) g o d.length cap d rfl w hcl

set_option maxHeartbeats 400000 in
theorem early_val (a : Option Addr) (n cap : Nat) (hn : n ≤ 9223372036854775807) (hc : n ≤ cap) (w : World) :
    Calls Tryd.prog 15 #[.slice a n cap] w fun e w' => e = .returned (.slice a (min n 300) cap) ∧ w' = w := by
  go_enter Tryd.func15, Tryd.ntmps15
  go_wp2_with fail
  · go_ret
    exact ⟨by rw [show min n 300 = 300 by omega]; rfl, rfl⟩
  · go_ret
    exact ⟨by rw [show min n 300 = n by omega]; rfl, rfl⟩

set_option maxHeartbeats 800000 in
theorem hexLaw_any (v : Value) (s : ByteArray) (b : List Nat) (w : World) (ht : Tabs w) (hv : BytesAt w v b) (ub : ∀ x ∈ b, U8 x) (hl : b.length ≤ 9223372036854775807) (hs : s.size ≤ 9223372036854775807) :
    Calls Tryd.prog 4 #[v, .string s] w fun e w' => e = .returned (.bool true) ∧ Below w.heap.size w w' := by
  obtain ⟨a, cap, rfl, hc, hk⟩ := hv
  have Hv : Unit → BytesAt w (.slice a (min b.length 300) cap) (b.take 300) := fun _ => by
    refine ⟨a, cap, by simp; omega, by simp; omega, fun hn => ?_⟩
    obtain ⟨g, o, e, hcl⟩ := hk (fun e => hn (by rw [e]; rfl))
    exact ⟨g, o, e, by rw [List.map_take]; exact hcl.take 300⟩
  have ub' : ∀ x ∈ b.take 300, U8 x := fun x hx => ub x (List.mem_of_mem_take hx)
  have hl' : (b.take 300).length ≤ 300 := by simp; omega
  have Ke := Lib.hid (early_val a b.length cap hl hc)
  clear hk ub hl hc
  generalize b.take 300 = c at *
  generalize hmin : min b.length 300 = m at *
  go_enter Tryd.func4, Tryd.ntmps4
  go_wp2_with fail
  refine (lives_any _ ht).mono ?_
  rintro e w1 ⟨rfl, hB⟩
  go_upto_region 3 with fail
  clear hmin
  go_cut [0, 1] (fun s0 s1 wx => s0 = .slice a m cap ∧ ∃ t : ByteArray, s1 = .string t ∧ t.size ≤ 300 ∧ Below w.heap.size w wx)
  case first =>
    by_cases h3 : s.size ≤ 300
    · have h3' : ¬ (300 : Int) < (s.size : Int) := by omega
      have h3'' : (s.size : Int) ≤ 300 := by omega
      try simp only [List.append_eq, List.cons_append, List.nil_append]
      refine region_class (fun w' => Drew w1 w') (by kernel_rfl) (by kernel_rfl) (⟨_, rfl⟩) ?_
      repeat
        first
        | go_big_quiet_skip
        | (go_big_quiet_want
           refine quiet_val ?_
           apply Exists.intro
           refine ⟨fun w' hw' => ?_, ?_⟩
           · obtain hhh := hw'
             go_simp
             first | done | rfl | exact ⟨rfl, rfl⟩
           simp only [Act.put, List.setIfInBounds_toArray, List.set_cons_zero, List.set_cons_succ]
           go_big_quiet_on)
        | (go_big_quiet_want
           refine quiet_call ?_
           apply Exists.intro
           apply Exists.intro
           refine ⟨fun w' => ?_, ?_⟩
           · go_simp
             first | done | rfl | exact ⟨rfl, rfl⟩
           apply Exists.intro
           refine ⟨fun w' hw' => ?_, ?_⟩
           · first
             | (with_reducible refine (Ke.out _).mono ?_); (rintro e w2 ⟨rfl, rfl⟩; exact ⟨rfl, hw'⟩)
           simp only [Act.put, List.setIfInBounds_toArray, List.set_cons_zero, List.set_cons_succ]
           go_big_quiet_on)
      refine wpQuiet_nil ?_
      intro w5 hw5
      go_wp2_with fail
      go_meet
      exact ⟨rfl, s, rfl, h3, hB.trans (hw5.below.mono hB.size)⟩
    · have h3' : (300 : Int) < (s.size : Int) := by omega
      have h3'' : ¬ (s.size : Int) ≤ 300 := by omega
      have h4 : (300 : Int) ≤ (s.size : Int) := by omega
      have h5 : 300 ≤ s.size := by omega
      try simp only [List.append_eq, List.cons_append, List.nil_append]
      refine region_class (fun w' => Drew w1 w') (by kernel_rfl) (by kernel_rfl) (⟨_, rfl⟩) ?_
      repeat
        first
        | go_big_quiet_skip
        | (go_big_quiet_want
           refine quiet_val ?_
           apply Exists.intro
           refine ⟨fun w' hw' => ?_, ?_⟩
           · obtain hhh := hw'
             go_simp
             first | done | rfl | exact ⟨rfl, rfl⟩
           simp only [Act.put, List.setIfInBounds_toArray, List.set_cons_zero, List.set_cons_succ]
           go_big_quiet_on)
        | (go_big_quiet_want
           refine quiet_call ?_
           apply Exists.intro
           apply Exists.intro
           refine ⟨fun w' => ?_, ?_⟩
           · go_simp
             first | done | rfl | exact ⟨rfl, rfl⟩
           apply Exists.intro
           refine ⟨fun w' hw' => ?_, ?_⟩
           · first
             | (with_reducible refine (Ke.out _).mono ?_); (rintro e w2 ⟨rfl, rfl⟩; exact ⟨rfl, hw'⟩)
           simp only [Act.put, List.setIfInBounds_toArray, List.set_cons_zero, List.set_cons_succ]
           go_big_quiet_on)
      refine wpQuiet_nil ?_
      intro w5 hw5
      go_wp2_with fail
      go_meet
      exact ⟨rfl, _, rfl, by rw [ByteArray.size_extract]; omega, hB.trans (hw5.below.mono hB.size)⟩
  case rest =>
    obtain ⟨rfl, t, rfl, ht3, qB⟩ := hcut
    clear hB hs Ke
    go_wp2_with fail
    refine (bytes_any t (by omega) _).mono ?_
    rintro e w2 ⟨x, er, rfl, hr, hb2⟩
    replace qB := qB.trans (hb2.mono qB.size)
    clear hb2
    go_wp2_with fail
    refine (rbytes_any t (by omega) _).mono ?_
    rintro e w3 ⟨y, fr, rfl, kr, hb3⟩
    obtain ⟨rfl, d, hdl, hx, hy⟩ := (hr.stay hb3).agree kr (by rw [sl_len]; omega)
    replace qB := qB.trans (hb3.mono qB.size)
    clear hb3 hr kr
    have hby := (Hv ()).keep qB
    go_wp2_with fail
    refine (hex_any _ c _ hby ub' (by omega)).mono ?_
    rintro e w4 ⟨rfl, hb4⟩
    replace qB := qB.trans (hb4.mono qB.size)
    replace hx := hx.keep hb4
    replace hy := hy.keep hb4
    replace hby := hby.keep hb4
    clear hb4
    go_wp2_with fail
    refine (bytes_any (bs (hexN c)) (by rw [bs_size, hexN_len]; omega) _).mono ?_
    rintro e w5 ⟨z, gr, rfl, zr, hb5⟩
    rw [sl_bs (hexN_u ub')] at zr
    obtain ⟨rfl, hz⟩ := zr.back ub'
    replace qB := qB.trans (hb5.mono qB.size)
    replace hx := hx.keep hb5
    replace hy := hy.keep hb5
    replace hby := hby.keep hb5
    clear hb5 zr
    have hzero : ((er : Int) == er) = true := by simp
    go_wp2_with fail
    refine (hex_any _ c _ hby ub' (by omega)).mono ?_
    rintro e w6 ⟨rfl, hb6⟩
    replace qB := qB.trans (hb6.mono qB.size)
    replace hx := hx.keep hb6
    replace hy := hy.keep hb6
    replace hz := hz.keep hb6
    replace hby := hby.keep hb6
    clear hb6
    go_wp2_with fail
    refine (rhex_any _ c _ hby ub' (by omega)).mono ?_
    rintro e w7 ⟨rfl, hb7⟩
    replace qB := qB.trans (hb7.mono qB.size)
    have sx := bytes_string (hx.keep hb7)
    have sy := bytes_string (hy.keep hb7)
    have sz := bytes_string (hz.keep hb7)
    have sb := bytes_string (hby.keep hb7)
    clear hb7 hx hy hz hby
    generalize bs (hexN c) = T1 at *
    generalize bs d = T2 at *
    generalize bs c = T3 at *
    go_wp2_with fail
    go_ret
    exact ⟨rfl, qB⟩
end Go.Proofs.YtidiallphmocdaaDoor
