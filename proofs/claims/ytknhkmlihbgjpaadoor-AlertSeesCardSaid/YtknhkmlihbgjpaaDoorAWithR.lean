/- The document's With: the walk. -/
import Derived.Test.YtknhkmlihbgjpaaDoorARefN
namespace Go.Proofs.YtknhkmlihbgjpaaDoor
open Go.ChangeShapes Go.WideShapes Go.RowKit

theorem grown_asd {w w' : World} {row : Option Nat} (hg : w.grownBy w' row) : Asd (fun k => row = some k) w w' := ⟨hg.os, hg.tape, hg.output, hg.size, fun k hk hn => hg.block k hk (fun e => hn e.symm)⟩
/-- One field of With's loop: what is out so far, and whether the new one is. -/
def withS (nm val : Bs) (s : List (Bs × Bs) × Bool) (f : Bs × Bs) : List (Bs × Bs) × Bool :=
  let t := if s.2 || aheadB f.1 nm then s else (s.1 ++ [(nm, val)], true)
  (if f.1 = nm then t.1 else t.1 ++ [f], t.2)
def withR (fs : List (Bs × Bs)) (nm val : Bs) : List (Bs × Bs) :=
  let t := fs.foldl (withS nm val) ([], false)
  if t.2 then t.1 else t.1 ++ [(nm, val)]
theorem withS_len (nm val : Bs) (s : List (Bs × Bs) × Bool) (f : Bs × Bs) : (withS nm val s f).1.length ≤ s.1.length + 2 ∧ (s.2 = true → (withS nm val s f).1.length ≤ s.1.length + 1) := by
  unfold withS
  simp only
  cases s.2 <;> cases aheadB f.1 nm <;> by_cases h : f.1 = nm <;> simp [h]
theorem withS_mem (nm val : Bs) (fs : List (Bs × Bs)) (s : List (Bs × Bs) × Bool) (x : Bs × Bs) (h : x ∈ (fs.foldl (withS nm val) s).1) : x ∈ s.1 ∨ x ∈ fs ∨ x = (nm, val) := by
  induction fs generalizing s with
  | nil => exact .inl h
  | cons f fs ih =>
    rw [List.foldl_cons] at h
    rcases ih _ h with h | h | h
    · have : x ∈ s.1 ∨ x = f ∨ x = (nm, val) := by
        unfold withS at h
        simp only at h
        have h2 : x ∈ (if s.2 || aheadB f.1 nm then s else (s.1 ++ [(nm, val)], true)).1 ∨ x = f := by
          split at h
          · exact .inl h
          · rcases List.mem_append.1 h with h | h
            · exact .inl h
            · exact .inr (by simpa using h)
        rcases h2 with h2 | h2
        · split at h2
          · exact .inl h2
          · rcases List.mem_append.1 h2 with h2 | h2
            · exact .inl h2
            · exact .inr (.inr (by simpa using h2))
        · exact .inr (.inl h2)
      rcases this with h | rfl | h
      · exact .inl h
      · exact .inr (.inl (by simp))
      · exact .inr (.inr h)
    · exact .inr (.inl (by simp [h]))
    · exact .inr (.inr h)
theorem with_mem {fs : List (Bs × Bs)} {nm val : Bs} {x : Bs × Bs} (h : x ∈ withR fs nm val) : x ∈ fs ∨ x = (nm, val) := by
  unfold withR at h
  simp only at h
  have : x ∈ (fs.foldl (withS nm val) ([], false)).1 ∨ x = (nm, val) := by
    split at h
    · exact .inl h
    · rcases List.mem_append.1 h with h | h
      · exact .inl h
      · exact .inr (by simpa using h)
  rcases this with h | h
  · rcases withS_mem nm val fs _ x h with h | h | h
    · cases h
    · exact .inl h
    · exact .inr h
  · exact .inr h
theorem foldS_len (nm val : Bs) (fs : List (Bs × Bs)) (s : List (Bs × Bs) × Bool) : (fs.foldl (withS nm val) s).1.length ≤ s.1.length + fs.length + (if s.2 then 0 else 1) ∧ ((fs.foldl (withS nm val) s).2 = false → (fs.foldl (withS nm val) s).1.length ≤ s.1.length + fs.length) := by
  induction fs generalizing s with
  | nil => simp
  | cons f fs ih =>
    rw [List.foldl_cons]
    obtain ⟨h1, h2⟩ := ih (withS nm val s f)
    have h3 : (withS nm val s f).1.length + (if (withS nm val s f).2 then 0 else 1) ≤ s.1.length + 1 + (if s.2 then 0 else 1) ∧ ((withS nm val s f).2 = false → (withS nm val s f).1.length ≤ s.1.length + 1) := by
      clear ih h1 h2
      obtain ⟨O, D⟩ := s
      unfold withS
      simp only
      cases D <;> cases aheadB f.1 nm <;> by_cases h : f.1 = nm <;> simp [h] <;> omega
    have h4 : (fs.foldl (withS nm val) (withS nm val s f)).2 = false → (withS nm val s f).2 = false := by
      intro h
      cases hq : (withS nm val s f).2 with
      | false => rfl
      | true =>
        have : ∀ (l : List (Bs × Bs)) (t : List (Bs × Bs) × Bool), t.2 = true → (l.foldl (withS nm val) t).2 = true := fun l => by
          induction l with
          | nil => intro t ht; exact ht
          | cons g l ihl =>
            intro t ht
            rw [List.foldl_cons]
            exact ihl _ (by unfold withS; simp [ht])
        rw [this fs _ hq] at h
        cases h
    rw [List.length_cons]
    exact ⟨by omega, fun h => by have := h2 h; have := h3.2 (h4 h); omega⟩
theorem with_len (fs : List (Bs × Bs)) (nm val : Bs) : (withR fs nm val).length ≤ fs.length + 1 := by
  obtain ⟨h1, h2⟩ := foldS_len nm val fs ([], false)
  unfold withR
  simp only
  split
  · simp at h1; omega
  · rename_i h
    have := h2 (by simpa using h)
    simp at this ⊢
    omega
theorem take_fld {fs : List (Bs × Bs)} {k : Nat} {f : Bs × Bs} (h : fs[k]? = some f) : fs.take (k + 1) = fs.take k ++ [f] := by rw [List.take_add_one, h]; rfl
set_option maxHeartbeats 12800000 in
set_option maxRecDepth 100000 in
theorem with_any (P : Nat → Prop) (v : Value) (fs : List (Bs × Bs)) (nm val : Bs) (w : World) (h : FldsAt P w v fs) (hl : fs.length ≤ 1000) (hnl : nm.length ≤ 9223372036854775807) (hfl : ∀ f ∈ fs, f.1.length ≤ 9223372036854775807) :
    Calls Tryd.prog 78 #[v, .string ⟨nm.toArray⟩, .string ⟨val.toArray⟩] w fun e w' => ∃ v', e = .returned v' ∧ w'.ownsRow w.heap.size 64 2 v' (withR fs nm val).length ((withR fs nm val).map encF).flatten ∧ Below w.heap.size w w' := by
  have HFL : Unit → ∀ f ∈ fs, f.1.length ≤ 9223372036854775807 := fun _ => hfl
  clear hfl
  obtain ⟨a, c, rfl⟩ := h.shape
  obtain ⟨n, hn⟩ : ∃ n, fs.length = n := ⟨_, rfl⟩
  rw [hn] at hl h ⊢
  have HN : Unit → fs.length = n := fun _ => hn
  clear hn
  have hni : (n : Int) ≤ 1000 := by omega
  obtain ⟨R, hR⟩ : ∃ R, withR fs nm val = R := ⟨_, rfl⟩
  rw [hR]
  have HR : Unit → withR fs nm val = R := fun _ => hR
  clear hR
  have HLEN : Unit → ∀ k, (fs.take k).length ≤ n := fun _ k => by rw [List.length_take]; have := HN (); omega
  go_enter Tryd.func78, Tryd.ntmps78
  go_upto_region 4 with fail
  go_loopw [7, 8, 9] (fun u7 u8 u9 wr => ∃ (k : Nat) (O : List (Bs × Bs)) (D : Bool), u9 = .int .i64 (k : Int) ∧ u8 = .bool D ∧ k ≤ n ∧ (fs.take k).foldl (withS nm val) ([], false) = (O, D) ∧ O.length ≤ 1001 ∧ wr.ownsRow w.heap.size 64 2 u7 O.length (O.map encF).flatten ∧ Below w.heap.size w wr) (fun _ _ u9 _ => n - (intOf u9).toNat)
  case atStart => exact ⟨0, [], false, rfl, rfl, Nat.zero_le _, rfl, Nat.zero_le _, World.ownsRow_nil _ _ _ _, Below.refl _ _⟩
  case round =>
    obtain ⟨k, O, D, rfl, rfl, hk, hF, hOl, hown, hB⟩ := hrel
    have HF : Unit → (fs.take k).foldl (withS nm val) ([], false) = (O, D) := fun _ => hF
    clear hF
    obtain ⟨aO, cO, rfl, _⟩ := own_slice hown
    have hszr := hB.size
    by_cases hlt : k < n
    · have hki : (k : Int) < (n : Int) := by omega
      obtain ⟨f, hf⟩ : ∃ f, fs[k]? = some f := ⟨_, List.getElem?_eq_getElem (by have := HN (); omega)⟩
      obtain ⟨g, o, rfl, _, hgl, c0, c1⟩ := (h.stay hB).part hf
      have KA := Lib.hid fun w => ahead_any f.1 nm w (HFL () f (List.mem_of_getElem? hf)) hnl
      have HNX : Unit → ∀ O' D', withS nm val (O, D) f = (O', D') → (fs.take (k + 1)).foldl (withS nm val) ([], false) = (O', D') := fun _ O' D' e => by rw [take_fld hf, List.foldl_append, HF ()]; exact e
      have HL2 : Unit → ∀ O' D', withS nm val (O, D) f = (O', D') → O'.length ≤ 1001 := fun _ O' D' e => by
        have h1 := foldS_len nm val (fs.take (k + 1)) ([], false)
        rw [HNX () O' D' e] at h1
        have h2 := HLEN () (k + 1)
        have h3 := h1.1
        simp at h3
        omega
      have HS : Unit → withS nm val (O, D) f = (if f.1 = nm then (if D || aheadB f.1 nm then (O, D) else (O ++ [(nm, val)], true)).1 else (if D || aheadB f.1 nm then (O, D) else (O ++ [(nm, val)], true)).1 ++ [f], (if D || aheadB f.1 nm then (O, D) else (O ++ [(nm, val)], true)).2) := fun _ => rfl
      have hsame := same_text f.1 nm
      have hbo := hB.size
      generalize aheadB f.1 nm = ah at *
      generalize withS nm val (O, D) f = WS at *
      obtain ⟨f1, f2⟩ := f
      simp only at *
      have henF : encF (f1, f2) = [.string ⟨f1.toArray⟩, .string ⟨f2.toArray⟩] := rfl
      have henN : encF (nm, val) = [.string ⟨nm.toArray⟩, .string ⟨val.toArray⟩] := rfl
      have hgw : g < w.heap.size := by
        rcases h with ⟨e, _⟩ | ⟨g', o', c', e, _, _, hlt', _⟩
        · have := HN (); rw [List.map_eq_nil_iff] at e; rw [e] at hf; cases hf
        · injection e with e1 _ _
          injection e1 with e1
          injection e1 with e1 _ _
          subst e1; exact hlt'
      clear h
      by_cases he : f1 = nm
      · have hb : (f1 == nm) = true := by simpa using he
        rw [hb] at hsame
        have hbn : (f1 != nm) = false := by rw [bne, hb]; rfl
        cases D with
        | true =>
          have hWS : WS = (O, true) := by rw [HS ()]; simp [he]
          have hNX := HNX () _ _ hWS
          have hL2 := HL2 () _ _ hWS
          have HNY : Unit → (fs.take (k + 1)).foldl (withS nm val) ([], false) = (O, true) := fun _ => hNX
          clear HS HNX HL2 hWS hNX he
          clear KA
          go_wp2_with fail
          go_roundw
          case rel => exact ⟨k + 1, O, true, by go_num, rfl, by omega, HNY (), hL2, hown, hB⟩
          case measure => simp [intOf]; omega
        | false =>
          cases ah with
          | true =>
            have hWS : WS = (O, false) := by rw [HS ()]; simp [he]
            have hNX := HNX () _ _ hWS
            have hL2 := HL2 () _ _ hWS
            have HNY : Unit → (fs.take (k + 1)).foldl (withS nm val) ([], false) = (O, false) := fun _ => hNX
            clear HS HNX HL2 hWS hNX he
            go_wp2_with fail
            refine (KA.out _).mono ?_
            rintro e w2 ⟨rfl, hBA⟩
            clear KA
            have hown1 := own_stay2 hown hBA
            have hB1 := hB.trans (hBA.mono hszr)
            replace c0 := (hBA.cell (p := ⟨g, o + k * 2, none⟩) hgl).trans c0
            replace c1 := (hBA.cell (p := ⟨g, o + k * 2 + 1, none⟩) hgl).trans c1
            have hgl2 : g < w2.heap.size := Nat.lt_of_lt_of_le hgl hBA.size
            clear hown hB hBA
            go_wp2_with fail
            go_roundw
            case rel => exact ⟨k + 1, O, false, by go_num, rfl, by omega, HNY (), hL2, hown1, hB1⟩
            case measure => simp [intOf]; omega
          | false =>
            have hWS : WS = ((O ++ [(nm, val)]), true) := by rw [HS ()]; simp [he]
            have hNX := HNX () _ _ hWS
            have hL2 := HL2 () _ _ hWS
            have HNY : Unit → (fs.take (k + 1)).foldl (withS nm val) ([], false) = ((O ++ [(nm, val)]), true) := fun _ => hNX
            clear HS HNX HL2 hWS hNX he
            go_wp2_with fail
            refine (KA.out _).mono ?_
            rintro e w2 ⟨rfl, hBA⟩
            clear KA
            have hown1 := own_stay2 hown hBA
            have hB1 := hB.trans (hBA.mono hszr)
            replace c0 := (hBA.cell (p := ⟨g, o + k * 2, none⟩) hgl).trans c0
            replace c1 := (hBA.cell (p := ⟨g, o + k * 2 + 1, none⟩) hgl).trans c1
            have hgl2 : g < w2.heap.size := Nat.lt_of_lt_of_le hgl hBA.size
            clear hown hB hBA
            have hal := (Below.refl w2.heap.size w2).alloc (Nat.le_refl _) (.cells #[.string ⟨nm.toArray⟩, .string ⟨val.toArray⟩] 64)
            have hown2 := own_stay2 hown1 hal
            have rY : Rw (w2.alloc (.cells #[.string ⟨nm.toArray⟩, .string ⟨val.toArray⟩] 64)) w2.heap.size 64 (encF (nm, val)) := Rw.new w2 64 (encF (nm, val))
            have hB2 := hB1.alloc hB1.size (.cells #[.string ⟨nm.toArray⟩, .string ⟨val.toArray⟩] 64)
            clear hown1 hal
            go_wp2_with (refine wpList_own_fld _ _ rfl rfl w.heap.size _ O (nm, val) rfl hown2 w2.heap.size rfl rY (by omega) (by have := hB2.size; omega) ?_)
            intro v3 w3 hO3 hg3 _
            have hB3 := hB2.grown hg3 hB2.size (fun j e => (hown2.lt j e).1)
            have hng : ¬ (Value.slice aO O.length cO).ownBlock = some g := fun e => by have := (hown2.lt _ e).1; have := hgw; omega
            replace c0 := cell_asd (grown_asd hg3) hng ((Below.cell (p := ⟨g, o + k * 2, none⟩) ((Below.refl w2.heap.size w2).alloc (Nat.le_refl _) (.cells #[.string ⟨nm.toArray⟩, .string ⟨val.toArray⟩] 64)) hgl2).trans c0)
            replace c1 := cell_asd (grown_asd hg3) hng ((Below.cell (p := ⟨g, o + k * 2 + 1, none⟩) ((Below.refl w2.heap.size w2).alloc (Nat.le_refl _) (.cells #[.string ⟨nm.toArray⟩, .string ⟨val.toArray⟩] 64)) hgl2).trans c1)
            obtain ⟨g3, c3, rfl⟩ := own_succ hO3
            have hO3b : w3.ownsRow w.heap.size 64 2 (.slice (some ⟨g3, 0, none⟩) (O.length + 1) c3) (O ++ [(nm, val)]).length ((O ++ [(nm, val)]).map encF).flatten := by rw [List.length_append, flds_snoc2]; exact hO3
            clear hown2 rY hg3 hB2 hO3 hng
            obtain ⟨Q, hQ⟩ : ∃ Q, O ++ [(nm, val)] = Q := ⟨_, rfl⟩
            have hQl : O.length + 1 = Q.length := by rw [← hQ, List.length_append]; rfl
            have HQL : Unit → _ := fun _ => hQl
            simp only [hQ] at hL2
            rw [hQ] at hO3b
            have HQ : Unit → _ := fun _ => hQ
            rw [hQl] at hO3b
            rw [hQl]
            clear hQ hQl
            go_wp2_with fail
            go_roundw
            case rel => exact ⟨k + 1, Q, true, by go_num, rfl, by omega, by rw [HNY (), ← HQ ()], hL2, hO3b, hB3⟩
            case measure => simp [intOf]; omega
      · have hb : (f1 == nm) = false := by simpa using he
        rw [hb] at hsame
        have hbn : (f1 != nm) = true := by rw [bne, hb]; rfl
        cases D with
        | true =>
          have hWS : WS = (O ++ [(f1, f2)], true) := by rw [HS ()]; simp [he]
          have hNX := HNX () _ _ hWS
          have hL2 := HL2 () _ _ hWS
          have HNY : Unit → (fs.take (k + 1)).foldl (withS nm val) ([], false) = (O ++ [(f1, f2)], true) := fun _ => hNX
          clear HS HNX HL2 hWS hNX he
          clear KA
          have hal := (Below.refl wr.heap.size wr).alloc (Nat.le_refl _) (.cells #[.string ⟨f1.toArray⟩, .string ⟨f2.toArray⟩] 64)
          have hown2 := own_stay2 hown hal
          have rY : Rw (wr.alloc (.cells #[.string ⟨f1.toArray⟩, .string ⟨f2.toArray⟩] 64)) wr.heap.size 64 (encF (f1, f2)) := Rw.new wr 64 (encF (f1, f2))
          have hB2 := hB.alloc hB.size (.cells #[.string ⟨f1.toArray⟩, .string ⟨f2.toArray⟩] 64)
          clear hown hal
          go_wp2_with (refine wpList_own_fld _ _ rfl rfl w.heap.size _ O (f1, f2) rfl hown2 wr.heap.size rfl rY (by rw [List.length_append] at hL2; omega) (by have := hB2.size; omega) ?_)
          intro v5 w5 hO5 hg5 _
          have hB5 := hB2.grown hg5 hB2.size (fun j e => (hown2.lt j e).1)
          obtain ⟨g5, c5, rfl⟩ := own_succ hO5
          clear hown2 rY hg5 hB2
          go_wp2_with fail
          go_roundw
          case rel => exact ⟨k + 1, O ++ [(f1, f2)], true, by go_num, rfl, by omega, HNY (), hL2, by rw [List.length_append, flds_snoc2]; exact hO5, hB5⟩
          case measure => simp [intOf]; omega
        | false =>
          cases ah with
          | true =>
            have hWS : WS = (O ++ [(f1, f2)], false) := by rw [HS ()]; simp [he]
            have hNX := HNX () _ _ hWS
            have hL2 := HL2 () _ _ hWS
            have HNY : Unit → (fs.take (k + 1)).foldl (withS nm val) ([], false) = (O ++ [(f1, f2)], false) := fun _ => hNX
            clear HS HNX HL2 hWS hNX he
            go_wp2_with fail
            refine (KA.out _).mono ?_
            rintro e w2 ⟨rfl, hBA⟩
            clear KA
            have hown1 := own_stay2 hown hBA
            have hB1 := hB.trans (hBA.mono hszr)
            replace c0 := (hBA.cell (p := ⟨g, o + k * 2, none⟩) hgl).trans c0
            replace c1 := (hBA.cell (p := ⟨g, o + k * 2 + 1, none⟩) hgl).trans c1
            have hgl2 : g < w2.heap.size := Nat.lt_of_lt_of_le hgl hBA.size
            clear hown hB hBA
            have hal := (Below.refl w2.heap.size w2).alloc (Nat.le_refl _) (.cells #[.string ⟨f1.toArray⟩, .string ⟨f2.toArray⟩] 64)
            have hown2 := own_stay2 hown1 hal
            have rY : Rw (w2.alloc (.cells #[.string ⟨f1.toArray⟩, .string ⟨f2.toArray⟩] 64)) w2.heap.size 64 (encF (f1, f2)) := Rw.new w2 64 (encF (f1, f2))
            have hB2 := hB1.alloc hB1.size (.cells #[.string ⟨f1.toArray⟩, .string ⟨f2.toArray⟩] 64)
            clear hown1 hal
            go_wp2_with (refine wpList_own_fld _ _ rfl rfl w.heap.size _ O (f1, f2) rfl hown2 w2.heap.size rfl rY (by rw [List.length_append] at hL2; omega) (by have := hB2.size; omega) ?_)
            intro v5 w5 hO5 hg5 _
            have hB5 := hB2.grown hg5 hB2.size (fun j e => (hown2.lt j e).1)
            obtain ⟨g5, c5, rfl⟩ := own_succ hO5
            clear hown2 rY hg5 hB2
            go_wp2_with fail
            go_roundw
            case rel => exact ⟨k + 1, O ++ [(f1, f2)], false, by go_num, rfl, by omega, HNY (), hL2, by rw [List.length_append, flds_snoc2]; exact hO5, hB5⟩
            case measure => simp [intOf]; omega
          | false =>
            have hWS : WS = ((O ++ [(nm, val)]) ++ [(f1, f2)], true) := by rw [HS ()]; simp [he]
            have hNX := HNX () _ _ hWS
            have hL2 := HL2 () _ _ hWS
            have HNY : Unit → (fs.take (k + 1)).foldl (withS nm val) ([], false) = ((O ++ [(nm, val)]) ++ [(f1, f2)], true) := fun _ => hNX
            clear HS HNX HL2 hWS hNX he
            go_wp2_with fail
            refine (KA.out _).mono ?_
            rintro e w2 ⟨rfl, hBA⟩
            clear KA
            have hown1 := own_stay2 hown hBA
            have hB1 := hB.trans (hBA.mono hszr)
            replace c0 := (hBA.cell (p := ⟨g, o + k * 2, none⟩) hgl).trans c0
            replace c1 := (hBA.cell (p := ⟨g, o + k * 2 + 1, none⟩) hgl).trans c1
            have hgl2 : g < w2.heap.size := Nat.lt_of_lt_of_le hgl hBA.size
            clear hown hB hBA
            have hal := (Below.refl w2.heap.size w2).alloc (Nat.le_refl _) (.cells #[.string ⟨nm.toArray⟩, .string ⟨val.toArray⟩] 64)
            have hown2 := own_stay2 hown1 hal
            have rY : Rw (w2.alloc (.cells #[.string ⟨nm.toArray⟩, .string ⟨val.toArray⟩] 64)) w2.heap.size 64 (encF (nm, val)) := Rw.new w2 64 (encF (nm, val))
            have hB2 := hB1.alloc hB1.size (.cells #[.string ⟨nm.toArray⟩, .string ⟨val.toArray⟩] 64)
            clear hown1 hal
            go_wp2_with (refine wpList_own_fld _ _ rfl rfl w.heap.size _ O (nm, val) rfl hown2 w2.heap.size rfl rY (by omega) (by have := hB2.size; omega) ?_)
            intro v3 w3 hO3 hg3 _
            have hB3 := hB2.grown hg3 hB2.size (fun j e => (hown2.lt j e).1)
            have hng : ¬ (Value.slice aO O.length cO).ownBlock = some g := fun e => by have := (hown2.lt _ e).1; have := hgw; omega
            replace c0 := cell_asd (grown_asd hg3) hng ((Below.cell (p := ⟨g, o + k * 2, none⟩) ((Below.refl w2.heap.size w2).alloc (Nat.le_refl _) (.cells #[.string ⟨nm.toArray⟩, .string ⟨val.toArray⟩] 64)) hgl2).trans c0)
            replace c1 := cell_asd (grown_asd hg3) hng ((Below.cell (p := ⟨g, o + k * 2 + 1, none⟩) ((Below.refl w2.heap.size w2).alloc (Nat.le_refl _) (.cells #[.string ⟨nm.toArray⟩, .string ⟨val.toArray⟩] 64)) hgl2).trans c1)
            obtain ⟨g3, c3, rfl⟩ := own_succ hO3
            have hO3b : w3.ownsRow w.heap.size 64 2 (.slice (some ⟨g3, 0, none⟩) (O.length + 1) c3) (O ++ [(nm, val)]).length ((O ++ [(nm, val)]).map encF).flatten := by rw [List.length_append, flds_snoc2]; exact hO3
            clear hown2 rY hg3 hB2 hO3 hng
            obtain ⟨Q, hQ⟩ : ∃ Q, O ++ [(nm, val)] = Q := ⟨_, rfl⟩
            have hQl : O.length + 1 = Q.length := by rw [← hQ, List.length_append]; rfl
            have HQL : Unit → _ := fun _ => hQl
            simp only [hQ] at hL2
            rw [hQ] at hO3b
            have HQ : Unit → _ := fun _ => hQ
            rw [hQl] at hO3b
            rw [hQl]
            clear hQ hQl
            have hal := (Below.refl w3.heap.size w3).alloc (Nat.le_refl _) (.cells #[.string ⟨f1.toArray⟩, .string ⟨f2.toArray⟩] 64)
            have hown2 := own_stay2 hO3b hal
            have rY : Rw (w3.alloc (.cells #[.string ⟨f1.toArray⟩, .string ⟨f2.toArray⟩] 64)) w3.heap.size 64 (encF (f1, f2)) := Rw.new w3 64 (encF (f1, f2))
            have hB2 := hB3.alloc hB3.size (.cells #[.string ⟨f1.toArray⟩, .string ⟨f2.toArray⟩] 64)
            clear hO3b hal
            go_wp2_with (refine wpList_own_fld _ _ rfl rfl w.heap.size _ Q (f1, f2) rfl hown2 w3.heap.size rfl rY (by rw [List.length_append] at hL2; omega) (by have := hB2.size; omega) ?_)
            intro v5 w5 hO5 hg5 _
            have hB5 := hB2.grown hg5 hB2.size (fun j e => (hown2.lt j e).1)
            obtain ⟨g5, c5, rfl⟩ := own_succ hO5
            clear hown2 rY hg5 hB2
            go_wp2_with fail
            go_roundw
            case rel => exact ⟨k + 1, Q ++ [(f1, f2)], true, by go_num, rfl, by omega, by rw [HNY (), ← HQ ()], hL2, by rw [List.length_append, flds_snoc2]; exact hO5, hB5⟩
            case measure => simp [intOf]; omega
    · have hki : ¬ (k : Int) < (n : Int) := by omega
      have hF := HF ()
      rw [List.take_of_length_le (by have := HN (); omega)] at hF
      cases D with
      | true =>
        have e : R = O := by rw [← HR ()]; unfold withR; rw [hF]; rfl
        subst e
        clear hF
        have HOW : Unit → _ := fun _ => hown
        go_wp2_with fail
        go_ret
        exact ⟨_, rfl, HOW (), hB⟩
      | false =>
        have e : R = O ++ [(nm, val)] := by rw [← HR ()]; unfold withR; rw [hF]; rfl
        have HE : Unit → R = O ++ [(nm, val)] := fun _ => e
        clear hF e
        have hal := (Below.refl wr.heap.size wr).alloc (Nat.le_refl _) (.cells #[.string ⟨nm.toArray⟩, .string ⟨val.toArray⟩] 64)
        have hown2 := own_stay2 hown hal
        have rY : Rw (wr.alloc (.cells #[.string ⟨nm.toArray⟩, .string ⟨val.toArray⟩] 64)) wr.heap.size 64 (encF (nm, val)) := Rw.new wr 64 (encF (nm, val))
        have hB2 := hB.alloc hB.size (.cells #[.string ⟨nm.toArray⟩, .string ⟨val.toArray⟩] 64)
        clear hown hal
        go_wp2_with (refine wpList_own_fld _ _ rfl rfl w.heap.size _ O (nm, val) rfl hown2 wr.heap.size rfl rY (by omega) (by have := hB2.size; omega) ?_)
        intro v3 w3 hO3 hg3 _
        have hB3 := hB2.grown hg3 hB2.size (fun j e => (hown2.lt j e).1)
        obtain ⟨g3, c3, rfl⟩ := own_succ hO3
        go_wp2_with fail
        go_ret
        exact ⟨_, rfl, by rw [HE (), List.length_append, flds_snoc2]; exact hO3, hB3⟩
end Go.Proofs.YtknhkmlihbgjpaaDoor
