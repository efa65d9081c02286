/- Lists of names: the walks of Names and NamesText. -/
import Derived.Test.YtcljijcggnfemaaDoorWNamesP
import Derived.Maps.OwnSet
import Derived.Test.YtcljijcggnfemaaDoorWSame
namespace Go.Proofs.YtcljijcggnfemaaDoor
open Go.ChangeShapes Go.WideShapes Go.RowKit Go.Maps

theorem law_str : Keyed Tryd.prog 9 := string_keyed Tryd.underlying9
theorem zero_unit (w : World) : (zeroValue 41).run Tryd.prog w = .ok (.agg #[]) w := by kernel_rfl
theorem key_str {s : Bs} (h : s.length ≤ 1000000) : keyOf Tryd.prog 9 (.string ⟨s.toArray⟩) = some (.string s) := by
  have := WideMaps.keyOf_string_mk (P := Tryd.prog) Tryd.underlying9 (s := ⟨s.toArray⟩) (by unfold maxLen; simp [ByteArray.size]; omega)
  exact this
/-- What Names hands back. -/
def NamesP (w : World) (o : Option (List Bs)) (e : Ending) (w' : World) : Prop :=
  (match o with
    | none => e = .returned (.tuple #[.slice none 0 0, .int .i64 2])
    | some ss => ∃ v, e = .returned (.tuple #[v, .int .i64 0]) ∧ StrsAt (fun k => w.heap.size ≤ k) w' v ss) ∧ Below w.heap.size w w'
theorem split_cells (l : Bs) : (Lib.splitB ⟨#[44]⟩ 0 (Lib.countB ⟨l.toArray⟩ ⟨#[44]⟩) ⟨l.toArray⟩).map Value.string = (sepL 44 l).map sv := by
  have h1 := Lib.splitB_data ⟨#[44]⟩ 0 (Lib.countB ⟨l.toArray⟩ ⟨#[44]⟩) ⟨l.toArray⟩
  have h2 : Lib.countB ⟨l.toArray⟩ ⟨#[44]⟩ = l.count 44 := Lib.count_one 44 l
  rw [h2] at h1 ⊢
  have h3 : Lib.splitK [44] 0 (l.count 44) l = sepL 44 l := split_sep 44 l
  have h4 : (Lib.splitB ⟨#[44]⟩ 0 (l.count 44) ⟨l.toArray⟩).map (·.data.toList) = sepL 44 l := h1.trans h3
  rw [← h4, List.map_map]
  refine List.map_congr_left fun b _ => ?_
  unfold sv
  simp only [Function.comp]
theorem count_cells (l : Bs) : Lib.countB ⟨l.toArray⟩ ⟨#[44]⟩ + 1 = (sepL 44 l).length := by
  rw [sep_length]
  exact congrArg (· + 1) (Lib.count_one 44 l)
theorem strs_new (w : World) (ss : List Bs) : StrsAt (· = w.heap.size) (w.alloc (.cells (ss.map sv).toArray 9)) (.slice (some ⟨w.heap.size, 0, none⟩) ss.length ss.length) ss := by
  refine .inr ⟨w.heap.size, 0, ss.length, rfl, Nat.le_refl _, rfl, by simp, fun j s hs => ?_⟩
  rw [Rw.cell (Rw.new w 9 (ss.map sv)), Nat.zero_add, List.getElem?_map, hs]; rfl
theorem sep_call (l : Bs) (hl : l.length ≤ 1000000) (m : Int) (w : World) (hm : w.cell? ⟨0, 0, none⟩ = some (.int .i64 m)) :
    Calls Tryd.prog 19 #[.string ⟨l.toArray⟩, .string ⟨#[44]⟩] w fun e w' => e = .returned (.slice (some ⟨w.heap.size, 0, none⟩) (sepL 44 l).length (sepL 44 l).length) ∧ w' = w.alloc (.cells ((sepL 44 l).map sv).toArray 9) := by
  have h := Tryd.strings_Split ⟨l.toArray⟩ ⟨#[44]⟩ m w (by simp [ByteArray.size]; omega) hm (by decide)
  rw [split_cells, count_cells] at h
  exact h
set_option maxHeartbeats 6400000 in
set_option maxRecDepth 100000 in
theorem names_any (l : Bs) (m : Int) (w : World) (hl : l.length ≤ 100000) (hm : w.cell? ⟨0, 0, none⟩ = some (.int .i64 m)) : Calls Tryd.prog 9 #[.string ⟨l.toArray⟩] w (NamesP w (namesN l)) := by
  obtain ⟨o, ho⟩ : ∃ o, namesN l = o := ⟨_, rfl⟩
  rw [ho]
  have HO : Unit → namesN l = o := fun _ => ho
  clear ho
  have hmm := @run_makeMap Tryd.prog
  have hsame : ((⟨l.toArray⟩ : ByteArray).toList == (⟨#[45]⟩ : ByteArray).toList) = (l == [45]) := same_text l [45]
  by_cases h45 : l = [45]
  · subst h45
    obtain rfl := (HO ()).symm.trans rfl
    clear hsame
    go_enter Tryd.func9, Tryd.ntmps9
    go_wp2_with fail
    go_ret2
    exact ⟨⟨_, rfl, .inl ⟨rfl, none, 0, rfl⟩⟩, Below.refl _ _⟩
  · have e45 : (l == [45]) = false := by rw [beq_eq_false_iff_ne]; exact h45
    rw [e45] at hsame
    have K := Lib.hid (sep_call l (by omega) m w hm)
    have hS := strs_new w (sepL 44 l)
    have hB := (Below.refl w.heap.size w).alloc (Nat.le_refl _) (.cells ((sepL 44 l).map sv).toArray 9)
    have hsl : ∀ x ∈ sepL 44 l, x.length ≤ l.length := fun x hx => sep_len hx
    have hn : (sepL 44 l).length ≤ l.length + 1 := by rw [sep_length]; have := List.count_le_length (a := (44 : UInt8)) (l := l); omega
    have HB : Unit → ∀ k x, (sepL 44 l)[k]? = some x → ((sepL 44 l).take k).contains x = true ∨ nameB x = false → o = none := fun _ k x hk h => (HO ()).symm.trans (names_bad h45 hk h)
    have HG : Unit → (∀ k x, (sepL 44 l)[k]? = some x → ((sepL 44 l).take k).contains x = false ∧ nameB x = true) → o = some (sepL 44 l) := fun _ h => (HO ()).symm.trans (names_all h45 h)
    clear HO
    generalize sepL 44 l = ns at *
    obtain ⟨w1, hw1⟩ : ∃ w1, w.alloc (.cells (ns.map sv).toArray 9) = w1 := ⟨_, rfl⟩
    rw [hw1] at K hS hB
    have hlt0 : w.heap.size < w1.heap.size := by rw [← hw1]; simp
    clear hw1
    obtain ⟨n, hN⟩ : ∃ n, ns.length = n := ⟨_, rfl⟩
    rw [hN] at K hS hn
    have HN : Unit → ns.length = n := fun _ => hN
    clear hN
    have hni : (n : Int) ≤ 100001 := by omega
    go_enter Tryd.func9, Tryd.ntmps9
    go_wp2_with fail
    refine K.out.mono ?_
    rintro e w2 ⟨rfl, rfl⟩
    clear K hsame
    go_upto_region 5 with fail
    have hM := World.ownsMap_made (H := Unit) w2 Tryd.prog 9 unitElem
    have hB2 := (Below.refl w2.heap.size w2).alloc (Nat.le_refl _) (.map #[] 0)
    obtain ⟨mb, hmb⟩ : ∃ mb, w2.heap.size = mb := ⟨_, rfl⟩
    rw [hmb] at hM hB2 hlt0
    rw [hmb]
    generalize w2.alloc (.map #[] 0) = w3 at *
    go_upto_region 6 with fail
    go_loopw [17] (fun u wr => ∃ (k : Nat) (D : DataW Unit), k ≤ n ∧ u = .int .i64 (k : Int) ∧ wr.ownsMap Tryd.prog 9 unitElem mb k D ∧ (∀ s, Maps.has D (.string s) = (ns.take k).contains s) ∧ (∀ j x, j < k → ns[j]? = some x → (ns.take j).contains x = false ∧ nameB x = true) ∧ Below mb w2 wr) (fun u _ => n - (intOf u).toNat)
    case atStart => exact ⟨0, _, by omega, rfl, hM, fun s => rfl, fun j x hj => by omega, hB2⟩
    case round =>
      clear hM hB2
      obtain ⟨k, D, hk, rfl, hown, hhas, hall, hB2⟩ := hrel
      have HA : Unit → ∀ j x, j < k → ns[j]? = some x → (ns.take j).contains x = false ∧ nameB x = true := fun _ => hall
      clear hall
      have hsz := hB2.size
      rw [hmb] at hsz
      have hBw : Below w.heap.size w wr := hB.trans (hB2.mono (by omega))
      by_cases hlt : k < n
      · have hki : (k : Int) < (n : Int) := by omega
        obtain ⟨x, hx⟩ : ∃ x, ns[k]? = some x := ⟨_, List.getElem?_eq_getElem (by have := HN (); omega)⟩
        have hxl := hsl x (List.mem_of_getElem? hx)
        obtain ⟨g, o1, ea, hg, hc0⟩ := hS.text hx
        injection ea with ea
        injection ea with eg eo _
        subst eg eo
        have hc : wr.cell? ⟨w.heap.size, 0 + k, none⟩ = some (.string ⟨x.toArray⟩) := (hB2.cell (p := ⟨w.heap.size, 0 + k, none⟩) hlt0).trans hc0
        rw [Nat.zero_add] at hc
        have hkey := key_str (s := x) (by omega)
        have hh := hhas x
        have HH : Unit → ∀ s, Maps.has D (.string s) = (ns.take k).contains s := fun _ => hhas
        clear hhas
        have hnm := Lib.hid (fun w => name_any x w (by omega))
        clear hc0
        have hex : ∃ ct, (ns.take k).contains x = ct := ⟨_, rfl⟩
        obtain ⟨ct, hct⟩ := hex
        rw [hct] at hh
        have HCT : Unit → (ns.take k).contains x = ct := fun _ => hct
        clear hct
        cases ct with
        | true =>
          obtain rfl := HB () k x hx (.inl (HCT ()))
          clear HB HG
          go_wp2_with (at_lookup; refine wpList_lookup_own_unit _ rfl _ _ 40 rfl 9 41 law_str Tryd.underlying40 (zero_unit _) mb k D rfl hown _ _ rfl hkey ?_)
          go_wp2_with fail
          go_ret2
          exact ⟨rfl, hBw.alloc (by omega) _⟩
        | false =>
          cases hnb : nameB x with
          | false =>
            obtain rfl := HB () k x hx (.inr hnb)
            rw [hnb] at hnm
            go_wp2_with (at_lookup; refine wpList_lookup_own_unit _ rfl _ _ 40 rfl 9 41 law_str Tryd.underlying40 (zero_unit _) mb k D rfl hown _ _ rfl hkey ?_)
            go_wp2_with fail
            refine (hnm.out _).mono ?_
            rintro e w4 ⟨rfl, rfl⟩
            go_wp2_with fail
            go_ret2
            exact ⟨rfl, hBw.alloc (by omega) _⟩
          | true =>
            rw [hnb] at hnm
            have hown' := World.ownsMap.alloc hown (.cells #[] 41)
            have hkn : k < maxLen := by unfold maxLen; omega
            go_wp2_with (at_lookup; refine wpList_lookup_own_unit _ rfl _ _ 40 rfl 9 41 law_str Tryd.underlying40 (zero_unit _) mb k D rfl hown _ _ rfl hkey ?_)
            go_wp2_with fail
            refine (hnm.out _).mono ?_
            rintro e w4 ⟨rfl, rfl⟩
            clear hnm
            go_wp2_with (at_mapUpdate; refine wpList_mapUpdate_own _ rfl _ _ _ 40 rfl 9 41 law_str Tryd.underlying40 (unitElem (H := Unit)) mb k D rfl hown' hkn _ _ _ rfl rfl hkey _ [] unitElem_mk ?_)
            intro w5 hown5 hg5
            go_wp2_with fail
            go_roundw
            case rel =>
              refine ⟨k + 1, _, by omega, by simp, hown5, fun s => ?_, fun j y hj hy => by
                by_cases e : j = k
                · subst e; rw [hx] at hy; injection hy with hy; subst hy; exact ⟨HCT (), hnb⟩
                · exact HA () j y (by omega) hy, (hB2.alloc (by omega) _).grown hg5 (by simp; omega) (fun j hj => by cases hj; exact Nat.le_refl _)⟩
              have ht : ns.take (k + 1) = ns.take k ++ [x] := by rw [List.take_add_one, hx]; rfl
              rw [ht]
              by_cases e : s = x
              · subst e
                rw [has_put_same (k := .string s) hown.isMap trivial]; simp
              · rw [has_put_other (by simpa using e), HH () s]
                simp [e]
            case measure => simp [intOf]; omega
      · obtain rfl : n = k := by omega
        obtain rfl := HG () (fun j y hy => HA () j y (by have := HN (); have := (List.getElem?_eq_some_iff.1 hy).1; omega) hy)
        have hS' := (hS.stay ((hB2.mono (by omega) : Below w2.heap.size w2 wr))).mono (P' := fun k => w.heap.size ≤ k) (fun i hi _ => by subst hi; exact Nat.le_refl _)
        go_wp2_with fail
        go_ret2
        exact ⟨⟨_, rfl, hS'⟩, hBw⟩
set_option maxHeartbeats 1600000 in
/-- NamesText. -/
theorem ntext_any (P : Nat → Prop) (v : Value) (ns : List Bs) (w : World) (h : StrsAt P w v ns) (hl : ns.length ≤ 100000) (hs : (ns.map List.length).sum ≤ 800000) :
    Calls Tryd.prog 16 #[v] w fun e w' => e = .returned (.string ⟨(ntextN ns).toArray⟩) ∧ Below w.heap.size w w' := by
  have hjl := join_len [44] ns
  simp only [List.length_cons, List.length_nil] at hjl
  cases ns with
  | nil =>
    rcases h with ⟨_, a, c, rfl⟩ | ⟨g, o, c, rfl, _⟩
    all_goals
      go_enter Tryd.func16, Tryd.ntmps16
      go_wp2_with fail
      go_ret
      exact ⟨rfl, Below.refl _ _⟩
  | cons x xs =>
    have K := Lib.hid (join_call P v [44] (x :: xs) w h (by omega) (by omega))
    have e : ntextN (x :: xs) = joinL [44] (x :: xs) := by unfold ntextN; rw [if_neg (by simp)]
    rw [e]
    obtain ⟨a, c, rfl⟩ := h.shape
    clear hs hjl e h
    generalize (⟨(joinL [44] (x :: xs)).toArray⟩ : ByteArray) = J at *
    generalize hn : (x :: xs).length = n at *
    obtain ⟨n, rfl⟩ : ∃ n', n = n' + 1 := ⟨n - 1, by rw [List.length_cons] at hn; omega⟩
    have hne : (((n + 1 : Nat) : Int) == 0) = false := by rw [beq_eq_false_iff_ne]; omega
    clear hn
    go_enter Tryd.func16, Tryd.ntmps16
    go_wp2_with fail
    refine K.out.mono ?_
    rintro e w1 ⟨rfl, hB⟩
    go_wp2_with fail
    go_ret
    exact ⟨rfl, hB⟩
end Go.Proofs.YtcljijcggnfemaaDoor
