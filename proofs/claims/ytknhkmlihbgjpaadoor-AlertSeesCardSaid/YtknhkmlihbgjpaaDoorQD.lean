/- QD: several texts in one. -/
import Derived.Test.YtknhkmlihbgjpaaDoorARefN
import Derived.Test.YtknhkmlihbgjpaaDoorQB
import Derived.Test.YtknhkmlihbgjpaaDoorAFind
import Derived.Test.YtknhkmlihbgjpaaDoorLbFlows
/- What the document's matchers lean on in this seat. -/
/- The document's Fine: may a matcher be? -/
namespace Go.Proofs.YtknhkmlihbgjpaaDoor.Dn
open Go.ChangeShapes Go.WideShapes Go.RowKit

def fineD (n : Bs) (o : Int) (v : Bs) : Bool := nameB n && (decide (v.length ≤ 200) && (decide (0 ≤ o ∧ o < 2) || (decide (2 ≤ o ∧ o ≤ 3) && decide (readE v = 0))))
theorem fineD_cases (n : Bs) (o : Int) (v : Bs) : (nameB n = false ∧ fineD n o v = false) ∨ (nameB n = true ∧ o < 0 ∧ fineD n o v = false) ∨ (nameB n = true ∧ 0 ≤ o ∧ 3 < o ∧ fineD n o v = false) ∨ (nameB n = true ∧ 0 ≤ o ∧ o ≤ 3 ∧ 200 < v.length ∧ fineD n o v = false) ∨
    (nameB n = true ∧ 0 ≤ o ∧ o ≤ 3 ∧ v.length ≤ 200 ∧ o < 2 ∧ fineD n o v = true) ∨ (nameB n = true ∧ 0 ≤ o ∧ o ≤ 3 ∧ v.length ≤ 200 ∧ 2 ≤ o ∧ fineD n o v = (readE v == 0)) := by
  unfold fineD
  cases hn : nameB n with
  | false => exact .inl ⟨rfl, rfl⟩
  | true =>
    right
    rw [Bool.true_and]
    by_cases h1 : o < 0
    · exact .inl ⟨rfl, h1, by rw [decide_eq_false (by omega : ¬ (0 ≤ o ∧ o < 2)), decide_eq_false (by omega : ¬ (2 ≤ o ∧ o ≤ 3))]; simp⟩
    · right
      by_cases h2 : 3 < o
      · exact .inl ⟨rfl, by omega, h2, by rw [decide_eq_false (by omega : ¬ (0 ≤ o ∧ o < 2)), decide_eq_false (by omega : ¬ (2 ≤ o ∧ o ≤ 3))]; simp⟩
      · right
        by_cases h3 : 200 < v.length
        · exact .inl ⟨rfl, by omega, by omega, h3, by rw [decide_eq_false (by omega : ¬ v.length ≤ 200)]; rfl⟩
        · right
          rw [decide_eq_true (by omega : v.length ≤ 200)]
          by_cases h4 : o < 2
          · exact .inl ⟨rfl, by omega, by omega, by omega, h4, by rw [decide_eq_true (by omega : 0 ≤ o ∧ o < 2)]; rfl⟩
          · refine .inr ⟨rfl, by omega, by omega, by omega, by omega, ?_⟩
            rw [decide_eq_false (by omega : ¬ (0 ≤ o ∧ o < 2)), decide_eq_true (by omega : 2 ≤ o ∧ o ≤ 3)]
            by_cases h5 : readE v = 0
            · simp [h5]
            · simp [h5]
set_option maxHeartbeats 3200000 in
set_option maxRecDepth 100000 in
theorem dfine_any (n : Bs) (o : Int) (v : Bs) (w : World) (hn : n.length ≤ 9223372036854775807) (hv : v.length ≤ 9223372036854775807) :
    Calls Tryd.prog 79 #[.agg #[.string ⟨n.toArray⟩, .int .i64 o, .string ⟨v.toArray⟩]] w fun e w' => e = .returned (.bool (fineD n o v)) ∧ Below w.heap.size w w' := by
  have hsz : ((⟨v.toArray⟩ : ByteArray).size : Int) = (v.length : Int) := by simp [ByteArray.size]
  have KN := Lib.hid fun w => rname_any n w hn
  have KR := Lib.hid fun w => dread_any v hv w
  have hzc := zero_node
  obtain ⟨Z, eZ⟩ : ∃ Z, nodeC 0 noSet nilS = Z := ⟨_, rfl⟩
  have hlZ := nodeC_len 0 noSet nilS
  rw [eZ] at hzc hlZ
  clear eZ
  have HC := fineD_cases n o v
  generalize fineD n o v = D at *
  unfold ReadQ at KR
  obtain ⟨E, hE⟩ : ∃ E, readE v = E := ⟨_, rfl⟩
  rw [hE] at KR HC
  generalize nameB n = nb at *
  have hvi : (v.length : Int) ≤ 9223372036854775807 := by omega
  have HL : ∀ k : Nat, (k < v.length ↔ (k : Int) < (v.length : Int)) := fun k => by omega
  have hb0 := (Below.refl w.heap.size w).alloc (Nat.le_refl _) (.cells #[.string ⟨n.toArray⟩, .int .i64 o, .string ⟨v.toArray⟩] 124)
  have rM : Rw (w.alloc (.cells #[.string ⟨n.toArray⟩, .int .i64 o, .string ⟨v.toArray⟩] 124)) w.heap.size 124 [.string ⟨n.toArray⟩, .int .i64 o, .string ⟨v.toArray⟩] := Rw.new w 124 [.string ⟨n.toArray⟩, .int .i64 o, .string ⟨v.toArray⟩]
  generalize (⟨n.toArray⟩ : ByteArray) = TN at *
  generalize (⟨v.toArray⟩ : ByteArray) = TV at *
  generalize v.length = lv at *
  go_enter Tryd.func79, Tryd.ntmps79
  go_upto_region 1 with fail
  have A := Asd.of_below (S := fun _ => False) hb0
  generalize w.alloc (.cells #[.string TN, .int .i64 o, .string TV] 124) = w1 at *
  obtain ⟨bM, hbM, eM⟩ : ∃ bM, w.heap.size ≤ bM ∧ w.heap.size = bM := ⟨_, Nat.le_refl _, rfl⟩
  rw [eM] at rM
  simp only [eM]
  have m0 := Rw.cell rM 0
  have m1 := Rw.cell rM 1
  have m2 := Rw.cell rM 2
  clear hb0
  go_wp2_with fail
  refine (KN.out _).mono ?_
  rintro e w2 ⟨rfl, hw2⟩
  obtain rfl : w1 = w2 := hw2.symm
  rcases HC with ⟨rfl, rfl⟩ | ⟨rfl, h1, rfl⟩ | ⟨rfl, h1, h2, rfl⟩ | ⟨rfl, h1, h2, h3, rfl⟩ | ⟨rfl, h1, h2, h3, h4, rfl⟩ | ⟨rfl, h1, h2, h3, h4, hD⟩
  · go_wp2_with fail
    go_ret
    exact ⟨rfl, asd_below A⟩
  · go_wp2_with fail
    go_ret
    exact ⟨rfl, asd_below A⟩
  · have h1' : ¬ o < 0 := by omega
    go_wp2_with fail
    go_ret
    exact ⟨rfl, asd_below A⟩
  · have h1' : ¬ o < 0 := by omega
    have h2' : ¬ 3 < o := by omega
    have h3' : (200 : Int) < (lv : Int) := by omega
    go_wp2_with fail
    go_ret
    exact ⟨rfl, asd_below A⟩
  all_goals
    have h1' : ¬ o < 0 := by omega
    have h2' : ¬ 3 < o := by omega
    have h3' : ¬ (200 : Int) < (lv : Int) := by omega
    go_wp2_with fail
    refine (KR.out _).mono ?_
    rintro e w3 ⟨⟨cs, rfl, hcl, hc1, _⟩, hb⟩
    replace A := A.below hb
    replace rM := rM.stay hb
    have rn0 := Rw.new w3 145 Z
    have hb2 := (Below.refl w3.heap.size w3).alloc (Nat.le_refl _) (.cells cs.toArray 145)
    clear KR KN hb m0 m1 m2
    go_upto_region 4 with (refine store_node _ _ rn0 hlZ cs hcl hc1 _ _ rfl rfl rfl rfl ?_)
    rw [World.setRow_alloc_new]
    replace A := A.below hb2
    replace rM := rM.stay hb2
    generalize w3.alloc (.cells cs.toArray 145) = w4 at *
    have m1 := Rw.cell rM 1
    clear rn0 hb2
  · go_wp2_with fail
    go_ret
    exact ⟨rfl, asd_below A⟩
  · have h4' : ¬ o < 2 := by omega
    go_wp2_with fail
    go_ret
    exact ⟨by first | rfl | (rw [hD]; rfl), by first | exact asd_below A | (rw [← eM]; exact asd_below A)⟩
end Go.Proofs.YtknhkmlihbgjpaaDoor.Dn
/- The document's when (policy): may matchers be? -/
namespace Go.Proofs.YtknhkmlihbgjpaaDoor.Dn
open Go.ChangeShapes Go.WideShapes Go.RowKit

/-- A matcher: its name, what it asks, its value. -/
abbrev M3 := Bs × Int × Bs
def enc3 (m : M3) : List Value := [.string ⟨m.1.toArray⟩, .int .i64 m.2.1, .string ⟨m.2.2.toArray⟩]
theorem enc3_len (ms : List M3) : ∀ cs ∈ ms.map enc3, cs.length = 3 := by
  intro cs h
  obtain ⟨m, _, rfl⟩ := List.mem_map.1 h
  rfl
/-- No byte of a value stands below 32; the matcher may be. -/
def oneW (m : M3) : Bool := m.2.2.all (fun c => !decide (c < 32)) && fineD m.1 m.2.1 m.2.2
def whenD (ms : List M3) : Bool := ms.all oneW && decide (ms.length ≤ 12)
theorem all_bad {α : Type} {l : List α} {p : α → Bool} {k : Nat} {x : α} (h : l[k]? = some x) (hb : p x = false) : l.all p = false := by
  rw [List.all_eq_false]
  exact ⟨x, List.mem_of_getElem? h, by rw [hb]; simp⟩
theorem all_take {α : Type} {l : List α} {p : α → Bool} {k : Nat} {x : α} (h : l[k]? = some x) (ht : (l.take k).all p = true) (hb : p x = true) : (l.take (k + 1)).all p = true := by
  rw [List.take_add_one, h, List.all_append, ht]
  simp [hb]
theorem all_take_end {α : Type} {l : List α} {p : α → Bool} {k : Nat} (hk : ¬ k < l.length) (ht : (l.take k).all p = true) : l.all p = true := by
  rwa [List.take_of_length_le (by omega)] at ht
set_option maxHeartbeats 3200000 in
set_option maxRecDepth 100000 in
theorem when_any (P : Nat → Prop) (v : Value) (ms : List M3) (w : World) (h : RowsAt 3 P w v (ms.map enc3)) (hl : ms.length ≤ 9223372036854775807) (hz : ∀ m ∈ ms, m.1.length ≤ 9223372036854775807 ∧ m.2.2.length ≤ 9223372036854775807) :
    Calls Tryd.prog 62 #[v] w fun e w' => e = .returned (.bool (whenD ms)) ∧ Below w.heap.size w w' := by
  have H := Lib.hid h
  have HZ : Unit → ∀ m ∈ ms, m.1.length ≤ 9223372036854775807 ∧ m.2.2.length ≤ 9223372036854775807 := fun _ => hz
  obtain ⟨a, c, rfl⟩ := h.shape
  rw [List.length_map] at H ⊢
  have hli : (ms.length : Int) ≤ 9223372036854775807 := by omega
  obtain ⟨D, hD⟩ : ∃ D, whenD ms = D := ⟨_, rfl⟩
  rw [hD]
  have HD : Unit → whenD ms = D := fun _ => hD
  clear hD h hz
  go_enter Tryd.func62, Tryd.ntmps62
  go_wp2_with fail
  go_loopw [3] (fun iv wr => ∃ i : Nat, i ≤ ms.length ∧ iv = .int .i64 (i : Int) ∧ (ms.take i).all oneW = true ∧ Below w.heap.size w wr) (fun iv _ => ms.length - (intOf iv).toNat)
  case atStart => exact ⟨0, by omega, rfl, by simp, Below.refl _ _⟩
  case round =>
    obtain ⟨i, hi, rfl, hT, hB⟩ := hrel
    have HT : Unit → (ms.take i).all oneW = true := fun _ => hT
    clear hT
    by_cases hlt : i < ms.length
    · have hii : (i : Int) < (ms.length : Int) := by omega
      obtain ⟨m, hm⟩ : ∃ m, ms[i]? = some m := ⟨_, List.getElem?_eq_getElem hlt⟩
      have hmz := HZ () m (List.mem_of_getElem? hm)
      obtain ⟨g, o, rfl, _, hg, hc⟩ := (H.out.stay hB).part (j := i) (cs := enc3 m) (by rw [List.getElem?_map, hm]; rfl)
      have KF := Lib.hid fun w => dfine_any m.1 m.2.1 m.2.2 w hmz.1 hmz.2
      have HM : Unit → oneW m = (m.2.2.all (fun c => !decide (c < 32)) && fineD m.1 m.2.1 m.2.2) := fun _ => rfl
      have HIX : Unit → ms[i]? = some m := fun _ => hm
      obtain ⟨n, op, x⟩ := m
      simp only at KF hmz
      have c0 := hc 0 _ rfl
      have c1 := hc 1 _ rfl
      have c2 := hc 2 _ rfl
      simp only [Nat.add_zero] at c0
      have hsz : (⟨x.toArray⟩ : ByteArray).size = x.length := by simp [ByteArray.size]
      have hxi : (x.length : Int) ≤ 9223372036854775807 := by omega
      have hsi := fun (k : Nat) b (h : x[k]? = some b) => at_text x k b h (k : Int) rfl
      have HX : Unit → fineD n op x = fineD n op x := fun _ => rfl
      obtain ⟨FD, hFD⟩ : ∃ FD, fineD n op x = FD := ⟨_, rfl⟩
      rw [hFD] at KF
      have HFD : Unit → fineD n op x = FD := fun _ => hFD
      generalize (⟨n.toArray⟩ : ByteArray) = TN at *
      generalize (⟨x.toArray⟩ : ByteArray) = TX at *
      clear hc hm hFD HX
      go_wp2_with fail
      go_loopw [4] (fun kv wx => ∃ k : Nat, k ≤ x.length ∧ kv = .int .i64 (k : Int) ∧ (x.take k).all (fun c => !decide (c < 32)) = true ∧ Below wr.heap.size wr wx) (fun kv _ => x.length - (intOf kv).toNat)
      case atStart => exact ⟨0, by omega, rfl, by simp, Below.refl _ _⟩
      case round =>
        obtain ⟨k, hk, rfl, hTk, hBk⟩ := hrel
        have HTK : Unit → (x.take k).all (fun c => !decide (c < 32)) = true := fun _ => hTk
        clear hTk
        have d0 := (hBk.cell (p := ⟨g, o + i * 3, none⟩) hg).trans c0
        have d1 := (hBk.cell (p := ⟨g, o + i * 3 + 1, none⟩) hg).trans c1
        have d2 := (hBk.cell (p := ⟨g, o + i * 3 + 2, none⟩) hg).trans c2
        have hBx := hB.trans (hBk.mono hB.size)
        by_cases hkl : k < x.length
        · have hki : (k : Int) < (x.length : Int) := by omega
          obtain ⟨b, hb⟩ : ∃ b, x[k]? = some b := ⟨_, List.getElem?_eq_getElem hkl⟩
          have hix := hsi k b hb
          have HB : Unit → x[k]? = some b := fun _ => hb
          have hb256 := b.toNat_lt
          clear hsi hb
          by_cases hlow : b.toNat < 32
          · have hlo : (b.toNat : Int) < 32 := by omega
            have hF : D = false := by
              rw [← HD ()]
              unfold whenD
              rw [all_bad (HIX ()) (by rw [HM (), all_bad (HB ()) (by rw [decide_eq_true (by rw [UInt8.lt_iff_toNat_lt]; exact hlow)]; rfl)]; rfl), Bool.false_and]
            subst hF
            go_wp2_with fail
            go_ret
            exact ⟨rfl, hBx⟩
          · have hlo : ¬ (b.toNat : Int) < 32 := by omega
            have hn : Unit → (x.take (k + 1)).all (fun c => !decide (c < 32)) = true := fun _ => all_take (HB ()) (HTK ()) (by rw [decide_eq_false (by rw [UInt8.lt_iff_toNat_lt]; exact hlow)]; rfl)
            go_wp2_with fail
            go_roundw
            case rel => exact ⟨k + 1, by omega, by go_num, hn (), hBk⟩
            case measure => simp [intOf]; omega
        · have hki : ¬ (k : Int) < (x.length : Int) := by omega
          have hax : Unit → x.all (fun c => !decide (c < 32)) = true := fun _ => all_take_end hkl (HTK ())
          clear hsi
          go_wp2_with fail
          refine (KF.out _).mono ?_
          rintro e w5 ⟨rfl, hb5⟩
          have hB5 := hBx.trans (hb5.mono hBx.size)
          cases FD with
          | false =>
            have hF : D = false := by
              rw [← HD ()]
              unfold whenD
              rw [all_bad (HIX ()) (by rw [HM (), HFD (), Bool.and_false]), Bool.false_and]
            subst hF
            go_wp2_with fail
            go_ret
            exact ⟨rfl, hB5⟩
          | true =>
            have hn : Unit → (ms.take (i + 1)).all oneW = true := fun _ => all_take (HIX ()) (HT ()) (by rw [HM (), HFD (), hax ()]; rfl)
            go_wp2_with fail
            go_roundw
            case rel => exact ⟨i + 1, by omega, by go_num, hn (), hB5⟩
            case measure => simp [intOf]; omega
    · have hii : ¬ (i : Int) < (ms.length : Int) := by omega
      have hF : D = decide (ms.length ≤ 12) := by
        rw [← HD ()]
        unfold whenD
        rw [all_take_end hlt (HT ()), Bool.true_and]
      have hdd : decide ((ms.length : Int) ≤ 12) = decide (ms.length ≤ 12) := decide_eq_decide.2 (by omega)
      rw [← hdd] at hF
      subst hF
      clear hdd
      go_wp2_with fail
      go_ret
      exact ⟨rfl, hB⟩
end Go.Proofs.YtknhkmlihbgjpaaDoor.Dn
/- The document's by and named (policy): may names be? -/
namespace Go.Proofs.YtknhkmlihbgjpaaDoor.Dn
open Go.ChangeShapes Go.WideShapes Go.RowKit

/-- Number i is a name, and none ahead of it is the same. -/
def newI (ss : List Bs) (i : Nat) : Bool := match ss[i]? with
  | none => true
  | some s => !(ss.take i).contains s && nameB s
def byD (ss : List Bs) : Bool := (List.range ss.length).all (newI ss) && decide (ss.length ≤ 8)
theorem new_bad {ss : List Bs} {i : Nat} (hi : i < ss.length) (h : newI ss i = false) : byD ss = false := by
  unfold byD
  rw [show (List.range ss.length).all (newI ss) = false from by rw [List.all_eq_false]; exact ⟨i, List.mem_range.2 hi, by rw [h]; simp⟩, Bool.false_and]
theorem new_good {ss : List Bs} (h : ∀ j, j < ss.length → newI ss j = true) : byD ss = decide (ss.length ≤ 8) := by
  unfold byD
  rw [show (List.range ss.length).all (newI ss) = true from by rw [List.all_eq_true]; exact fun j hj => h j (List.mem_range.1 hj), Bool.true_and]
theorem new_same {ss : List Bs} {i k : Nat} {s : Bs} (hi : ss[i]? = some s) (hk : k < i) (hs : ss[k]? = some s) : newI ss i = false := by
  unfold newI
  rw [hi]
  have : (ss.take i).contains s = true := by
    rw [List.contains_iff_mem]
    exact List.mem_of_getElem? (i := k) (by rw [List.getElem?_take, if_pos hk, hs])
  show (!(ss.take i).contains s && nameB s) = false
  rw [this]
  rfl
theorem new_is {ss : List Bs} {i : Nat} {s : Bs} (hi : ss[i]? = some s) (h : ∀ k t, k < i → ss[k]? = some t → t ≠ s) : newI ss i = nameB s := by
  unfold newI
  rw [hi]
  have : (ss.take i).contains s = false := by
    rw [← Bool.not_eq_true, List.contains_iff_mem]
    intro hm
    obtain ⟨k, hk⟩ := List.getElem?_of_mem hm
    rw [List.getElem?_take] at hk
    split at hk
    · rename_i hki
      exact h k s hki hk rfl
    · cases hk
  show (!(ss.take i).contains s && nameB s) = nameB s
  rw [this]
  rfl
set_option maxHeartbeats 3200000 in
set_option maxRecDepth 100000 in
theorem by_any (P : Nat → Prop) (v : Value) (ss : List Bs) (w : World) (h : StrsAt P w v ss) (hl : ss.length ≤ 9223372036854775807) (hz : ∀ s ∈ ss, s.length ≤ 9223372036854775807) :
    Calls Tryd.prog 61 #[v] w fun e w' => e = .returned (.bool (byD ss)) ∧ Below w.heap.size w w' := by
  have H := Lib.hid h
  have HZ : Unit → ∀ s ∈ ss, s.length ≤ 9223372036854775807 := fun _ => hz
  obtain ⟨a, c, rfl⟩ := h.shape
  have hli : (ss.length : Int) ≤ 9223372036854775807 := by omega
  obtain ⟨D, hD⟩ : ∃ D, byD ss = D := ⟨_, rfl⟩
  rw [hD]
  have HD : Unit → byD ss = D := fun _ => hD
  clear hD h hz
  go_enter Tryd.func61, Tryd.ntmps61
  go_wp2_with fail
  go_loopw [3] (fun iv wr => ∃ i : Nat, i ≤ ss.length ∧ iv = .int .i64 (i : Int) ∧ (∀ j, j < i → newI ss j = true) ∧ Below w.heap.size w wr) (fun iv _ => ss.length - (intOf iv).toNat)
  case atStart => exact ⟨0, by omega, rfl, fun j hj => by omega, Below.refl _ _⟩
  case round =>
    obtain ⟨i, hi, rfl, hT, hB⟩ := hrel
    have HT : Unit → ∀ j, j < i → newI ss j = true := fun _ => hT
    clear hT
    by_cases hlt : i < ss.length
    · have hii : (i : Int) < (ss.length : Int) := by omega
      obtain ⟨s, hs⟩ : ∃ s, ss[i]? = some s := ⟨_, List.getElem?_eq_getElem hlt⟩
      have KN := Lib.hid fun w => rname_any s w (HZ () s (List.mem_of_getElem? hs))
      have HIX : Unit → ss[i]? = some s := fun _ => hs
      have hC := H.out
      obtain ⟨g, o, rfl, _, _⟩ := hC.text hs
      clear hs hC
      obtain ⟨NB, hNB⟩ : ∃ NB, nameB s = NB := ⟨_, rfl⟩
      rw [hNB] at KN
      have HNB : Unit → nameB s = NB := fun _ => hNB
      clear hNB
      go_wp2_with fail
      go_loopw [4] (fun kv wx => ∃ k : Nat, k ≤ i ∧ kv = .int .i64 (k : Int) ∧ (∀ j t, j < k → ss[j]? = some t → t ≠ s) ∧ Below w.heap.size w wx) (fun kv _ => i - (intOf kv).toNat)
      case atStart => exact ⟨0, by omega, rfl, fun j t hj => by omega, hB⟩
      case round =>
        clear hB
        obtain ⟨k, hk, rfl, hTk, hB⟩ := hrel
        have HTK : Unit → ∀ j t, j < k → ss[j]? = some t → t ≠ s := fun _ => hTk
        clear hTk
        obtain ⟨g2, o2, e2, hg, ci⟩ := (H.out.stay hB).text (HIX ())
        injection e2 with e2
        injection e2 with e3 e4
        subst e3 e4
        by_cases hki : k < i
        · have hkii : (k : Int) < (i : Int) := by omega
          have hkl : (k : Int) < (ss.length : Int) := by omega
          obtain ⟨t, ht⟩ : ∃ t, ss[k]? = some t := ⟨_, List.getElem?_eq_getElem (by omega)⟩
          obtain ⟨g2, o2, e2, _, ck⟩ := (H.out.stay hB).text ht
          injection e2 with e2
          injection e2 with e3 e4
          subst e3 e4
          have hsame := same_text t s
          have HK : Unit → ss[k]? = some t := fun _ => ht
          have HEQ : Unit → ((t == s) = true ↔ t = s) := fun _ => beq_iff_eq
          clear ht
          generalize (t == s) = q at *
          generalize (⟨s.toArray⟩ : ByteArray) = TS at *
          generalize (⟨t.toArray⟩ : ByteArray) = TT at *
          go_upto_region 7 with fail
          try simp only [List.append_eq, List.cons_append, List.nil_append]
          refine region_class (fun w' => Below wr.heap.size wr w' ∧ w'.cell? ⟨g, o + i, none⟩ = some (.string TS) ∧ w'.cell? ⟨g, o + k, none⟩ = some (.string TT)) (by kernel_rfl) (by kernel_rfl) (⟨(Below.refl _ _).drew, ci, ck⟩) ?_
          repeat
            first
            | go_big_quiet_skip
            | (go_big_quiet_want
               refine quiet_val ?_
               apply Exists.intro
               refine ⟨fun w' hw' => ?_, ?_⟩
               · obtain ⟨_, e0, e1⟩ := hw'
                 go_simp
                 first | done | rfl | exact ⟨rfl, rfl⟩
               simp only [Act.put, List.setIfInBounds_toArray, List.set_cons_zero, List.set_cons_succ]
               go_big_quiet_on)
            | (go_big_quiet_want
               refine quiet_call ?_
               apply Exists.intro
               apply Exists.intro
               refine ⟨fun w' => ?_, ?_⟩
               · go_simp
                 first | done | rfl | exact ⟨rfl, rfl⟩
               apply Exists.intro
               refine ⟨fun w' hw' => ?_, ?_⟩
               · first
                 | fail
               simp only [Act.put, List.setIfInBounds_toArray, List.set_cons_zero, List.set_cons_succ]
               go_big_quiet_on)
          refine wpQuiet_nil ?_
          intro w5 hw5
          have hb5 := hw5.1
          have hB5 := hB.trans (hb5.mono hB.size)
          clear hw5 ci ck hB hb5
          cases q with
          | true =>
            have hF : D = false := by rw [← HD ()]; exact new_bad hlt (new_same (HIX ()) hki ((HEQ ()).1 rfl ▸ HK ()))
            subst hF
            go_wp2_with fail
            go_ret
            exact ⟨rfl, hB5⟩
          | false =>
            have hn : Unit → ∀ j u, j < k + 1 → ss[j]? = some u → u ≠ s := fun _ j u hj hu => by
              by_cases e : j = k
              · subst e
                rw [HK ()] at hu
                injection hu with hu
                subst hu
                exact fun e => by have := (HEQ ()).2 e; cases this
              · exact HTK () j u (by omega) hu
            go_wp2_with fail
            go_roundw
            case rel => exact ⟨k + 1, by omega, by go_num, hn (), hB5⟩
            case measure => simp [intOf]; omega
        · have hkii : ¬ (k : Int) < (i : Int) := by omega
          have hnew : Unit → newI ss i = nameB s := fun _ => new_is (HIX ()) (fun j t hj => HTK () j t (by omega))
          go_wp2_with fail
          refine (KN.out _).mono ?_
          rintro e w5 ⟨rfl, hw5⟩
          obtain rfl : wr = w5 := hw5.symm
          cases NB with
          | false =>
            have hF : D = false := by rw [← HD ()]; exact new_bad hlt (by rw [hnew (), HNB ()])
            subst hF
            go_wp2_with fail
            go_ret
            exact ⟨rfl, hB⟩
          | true =>
            have hn : Unit → ∀ j, j < i + 1 → newI ss j = true := fun _ j hj => by
              by_cases e : j = i
              · subst e; rw [hnew (), HNB ()]
              · exact HT () j (by omega)
            go_wp2_with fail
            go_roundw
            case rel => exact ⟨i + 1, by omega, by go_num, hn (), hB⟩
            case measure => simp [intOf]; omega
    · have hii : ¬ (i : Int) < (ss.length : Int) := by omega
      have hF : D = decide (ss.length ≤ 8) := by
        rw [← HD ()]
        exact new_good (fun j hj => HT () j (by omega))
      have hdd : decide ((ss.length : Int) ≤ 8) = decide (ss.length ≤ 8) := decide_eq_decide.2 (by omega)
      rw [← hdd] at hF
      subst hF
      clear hdd
      go_wp2_with fail
      go_ret
      exact ⟨rfl, hB⟩
end Go.Proofs.YtknhkmlihbgjpaaDoor.Dn
/- The document's named (policy): may named labels be? -/
namespace Go.Proofs.YtknhkmlihbgjpaaDoor.Dn
open Go.ChangeShapes Go.WideShapes Go.RowKit

/-- Number i has a name, and a label that may be, and none ahead of it has the same name. -/
def newN (ns : List Nd) (i : Nat) : Bool := match ns[i]? with
  | none => true
  | some m => !(ns.take i).any (fun x => x.n == m.n) && (nameB m.n && rB m.l)
def namedD (ns : List Nd) : Bool := (List.range ns.length).all (newN ns)
theorem nnew_bad {ns : List Nd} {i : Nat} (hi : i < ns.length) (h : newN ns i = false) : namedD ns = false := by
  unfold namedD
  rw [List.all_eq_false]
  exact ⟨i, List.mem_range.2 hi, by rw [h]; simp⟩
theorem nnew_good {ns : List Nd} (h : ∀ j, j < ns.length → newN ns j = true) : namedD ns = true := by
  unfold namedD
  rw [List.all_eq_true]
  exact fun j hj => h j (List.mem_range.1 hj)
theorem nnew_same {ns : List Nd} {i k : Nat} {m x : Nd} (hi : ns[i]? = some m) (hk : k < i) (hx : ns[k]? = some x) (e : x.n = m.n) : newN ns i = false := by
  unfold newN
  rw [hi]
  have : (ns.take i).any (fun x => x.n == m.n) = true := by
    rw [List.any_eq_true]
    exact ⟨x, List.mem_of_getElem? (i := k) (by rw [List.getElem?_take, if_pos hk, hx]), by simpa using e⟩
  show (!(ns.take i).any (fun x => x.n == m.n) && _) = false
  rw [this]
  rfl
theorem nnew_is {ns : List Nd} {i : Nat} {m : Nd} (hi : ns[i]? = some m) (h : ∀ k x, k < i → ns[k]? = some x → x.n ≠ m.n) : newN ns i = (nameB m.n && rB m.l) := by
  unfold newN
  rw [hi]
  have : (ns.take i).any (fun x => x.n == m.n) = false := by
    rw [List.any_eq_false]
    intro x hm
    obtain ⟨k, hk⟩ := List.getElem?_of_mem hm
    rw [List.getElem?_take] at hk
    split at hk
    · rename_i hki
      simpa using h k x hki hk
    · cases hk
  show (!(ns.take i).any (fun x => x.n == m.n) && _) = _
  rw [this]
  rfl
set_option maxHeartbeats 3200000 in
set_option maxRecDepth 100000 in
theorem named_any (P : Nat → Prop) (v : Value) (ss : List Nd) (w : World) (h : NdsAt P w v ss) (hl : ss.length ≤ 9223372036854775807) (hz : ∀ s ∈ ss, s.n.length ≤ 9223372036854775807) :
    Calls Tryd.prog 60 #[v] w fun e w' => e = .returned (.bool (namedD ss)) ∧ Below w.heap.size w w' := by
  have H := Lib.hid h
  have HZ : Unit → ∀ s ∈ ss, s.n.length ≤ 9223372036854775807 := fun _ => hz
  obtain ⟨a, c, rfl⟩ := h.shape
  have hli : (ss.length : Int) ≤ 9223372036854775807 := by omega
  obtain ⟨D, hD⟩ : ∃ D, namedD ss = D := ⟨_, rfl⟩
  rw [hD]
  have HD : Unit → namedD ss = D := fun _ => hD
  clear hD h hz
  go_enter Tryd.func60, Tryd.ntmps60
  go_wp2_with fail
  go_loopw [3] (fun iv wr => ∃ i : Nat, i ≤ ss.length ∧ iv = .int .i64 (i : Int) ∧ (∀ j, j < i → newN ss j = true) ∧ Below w.heap.size w wr) (fun iv _ => ss.length - (intOf iv).toNat)
  case atStart => exact ⟨0, by omega, rfl, fun j hj => by omega, Below.refl _ _⟩
  case round =>
    obtain ⟨i, hi, rfl, hT, hB⟩ := hrel
    have HT : Unit → ∀ j, j < i → newN ss j = true := fun _ => hT
    clear hT
    by_cases hlt : i < ss.length
    · have hii : (i : Int) < (ss.length : Int) := by omega
      obtain ⟨s, hs⟩ : ∃ s, ss[i]? = some s := ⟨_, List.getElem?_eq_getElem hlt⟩
      have KN := Lib.hid fun w => rname_any s.n w (HZ () s (List.mem_of_getElem? hs))
      have KR := Lib.hid fun w => Lb.rright_any s.l s.c w
      have HIX : Unit → ss[i]? = some s := fun _ => hs
      have hC := H.out
      obtain ⟨g, o, rfl, _⟩ := hC.part hs
      clear hs hC
      obtain ⟨NB, hNB⟩ : ∃ NB, nameB s.n = NB := ⟨_, rfl⟩
      obtain ⟨RB, hRB⟩ : ∃ RB, rB s.l = RB := ⟨_, rfl⟩
      rw [hNB] at KN
      rw [hRB] at KR
      have HNB : Unit → (nameB s.n && rB s.l) = (NB && RB) := fun _ => by rw [hNB, hRB]
      clear hNB hRB
      go_wp2_with fail
      go_loopw [4] (fun kv wx => ∃ k : Nat, k ≤ i ∧ kv = .int .i64 (k : Int) ∧ (∀ j t, j < k → ss[j]? = some t → t.n ≠ s.n) ∧ Below w.heap.size w wx) (fun kv _ => i - (intOf kv).toNat)
      case atStart => exact ⟨0, by omega, rfl, fun j t hj => by omega, hB⟩
      case round =>
        clear hB
        obtain ⟨k, hk, rfl, hTk, hB⟩ := hrel
        have HTK : Unit → ∀ j t, j < k → ss[j]? = some t → t.n ≠ s.n := fun _ => hTk
        clear hTk
        obtain ⟨g2, o2, e2, _, hg, ci, ci1, ci2⟩ := (H.out.stay hB).part (HIX ())
        injection e2 with e2
        injection e2 with e3 e4
        subst e3 e4
        by_cases hki : k < i
        · have hkii : (k : Int) < (i : Int) := by omega
          have hkl : (k : Int) < (ss.length : Int) := by omega
          obtain ⟨t, ht⟩ : ∃ t, ss[k]? = some t := ⟨_, List.getElem?_eq_getElem (by omega)⟩
          obtain ⟨g2, o2, e2, _, _, ck, _, _⟩ := (H.out.stay hB).part ht
          injection e2 with e2
          injection e2 with e3 e4
          subst e3 e4
          have hsame := same_text t.n s.n
          have HK : Unit → ss[k]? = some t := fun _ => ht
          have HEQ : Unit → ((t.n == s.n) = true ↔ t.n = s.n) := fun _ => beq_iff_eq
          clear ht
          generalize (t.n == s.n) = q at *
          generalize (⟨s.n.toArray⟩ : ByteArray) = TS at *
          generalize (⟨t.n.toArray⟩ : ByteArray) = TT at *
          go_upto_region 7 with fail
          try simp only [List.append_eq, List.cons_append, List.nil_append]
          refine region_class (fun w' => Below wr.heap.size wr w' ∧ w'.cell? ⟨g, o + i * 3, none⟩ = some (.string TS) ∧ w'.cell? ⟨g, o + k * 3, none⟩ = some (.string TT)) (by kernel_rfl) (by kernel_rfl) (⟨(Below.refl _ _).drew, ci, ck⟩) ?_
          repeat
            first
            | go_big_quiet_skip
            | (go_big_quiet_want
               refine quiet_val ?_
               apply Exists.intro
               refine ⟨fun w' hw' => ?_, ?_⟩
               · obtain ⟨_, e0, e1⟩ := hw'
                 go_simp
                 first | done | rfl | exact ⟨rfl, rfl⟩
               simp only [Act.put, List.setIfInBounds_toArray, List.set_cons_zero, List.set_cons_succ]
               go_big_quiet_on)
            | (go_big_quiet_want
               refine quiet_call ?_
               apply Exists.intro
               apply Exists.intro
               refine ⟨fun w' => ?_, ?_⟩
               · go_simp
                 first | done | rfl | exact ⟨rfl, rfl⟩
               apply Exists.intro
               refine ⟨fun w' hw' => ?_, ?_⟩
               · first
                 | fail
               simp only [Act.put, List.setIfInBounds_toArray, List.set_cons_zero, List.set_cons_succ]
               go_big_quiet_on)
          refine wpQuiet_nil ?_
          intro w5 hw5
          have hb5 := hw5.1
          have hB5 := hB.trans (hb5.mono hB.size)
          clear hw5 ci ck hB hb5
          cases q with
          | true =>
            have hF : D = false := by rw [← HD ()]; exact nnew_bad hlt (nnew_same (HIX ()) hki (HK ()) ((HEQ ()).1 rfl))
            subst hF
            go_wp2_with fail
            go_ret
            exact ⟨rfl, hB5⟩
          | false =>
            have hn : Unit → ∀ j u, j < k + 1 → ss[j]? = some u → u.n ≠ s.n := fun _ j u hj hu => by
              by_cases e : j = k
              · subst e
                rw [HK ()] at hu
                injection hu with hu
                subst hu
                exact fun e => by have := (HEQ ()).2 e; cases this
              · exact HTK () j u (by omega) hu
            go_wp2_with fail
            go_roundw
            case rel => exact ⟨k + 1, by omega, by go_num, hn (), hB5⟩
            case measure => simp [intOf]; omega
        · have hkii : ¬ (k : Int) < (i : Int) := by omega
          have hnew : Unit → newN ss i = (nameB s.n && rB s.l) := fun _ => nnew_is (HIX ()) (fun j t hj => HTK () j t (by omega))
          go_wp2_with fail
          refine (KN.out _).mono ?_
          rintro e w5 ⟨rfl, hw5⟩
          obtain rfl : wr = w5 := hw5.symm
          cases NB with
          | false =>
            have hF : D = false := by rw [← HD ()]; exact nnew_bad hlt (by rw [hnew (), HNB ()]; rfl)
            subst hF
            go_wp2_with fail
            go_ret
            exact ⟨rfl, hB⟩
          | true =>
            replace ci1 : wr.cell? ⟨g, o + i * 3 + 1, none⟩ = some (.int .i64 s.l) := ci1
            replace ci2 : wr.cell? ⟨g, o + i * 3 + 1 + 1, none⟩ = some (.int .u32 s.c) := ci2
            go_wp2_with fail
            refine (KR.out _).mono ?_
            rintro e w6 ⟨rfl, hb6⟩
            have hB6 := hB.trans (hb6.mono hB.size)
            cases RB with
            | false =>
              have hF : D = false := by rw [← HD ()]; exact nnew_bad hlt (by rw [hnew (), HNB ()]; rfl)
              subst hF
              go_wp2_with fail
              go_ret
              exact ⟨rfl, hB6⟩
            | true =>
              have hn : Unit → ∀ j, j < i + 1 → newN ss j = true := fun _ j hj => by
                by_cases e : j = i
                · subst e; rw [hnew (), HNB ()]; rfl
                · exact HT () j (by omega)
              go_wp2_with fail
              go_roundw
              case rel => exact ⟨i + 1, by omega, by go_num, hn (), hB6⟩
              case measure => simp [intOf]; omega
    · have hii : ¬ (i : Int) < (ss.length : Int) := by omega
      have hF : D = true := by
        rw [← HD ()]
        exact nnew_good (fun j hj => HT () j (by omega))
      subst hF
      go_wp2_with fail
      go_ret
      exact ⟨rfl, hB⟩
end Go.Proofs.YtknhkmlihbgjpaaDoor.Dn
