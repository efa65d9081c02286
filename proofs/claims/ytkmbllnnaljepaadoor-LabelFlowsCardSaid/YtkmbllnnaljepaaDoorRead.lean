/- label.readTeams and label.Read: what each call returns, of whatever text. -/
import Derived.Test.YtkmbllnnaljepaaDoorCut
namespace Go.Proofs.YtkmbllnnaljepaaDoor
open Go.ChangeShapes Go.WideShapes Go.RowKit

/-- What stands between the commas. -/
def pcs : List UInt8 → List (List UInt8)
  | [] => [[]]
  | b :: r => if b = 44 then [] :: pcs r else match pcs r with
    | [] => [[b]]
    | p :: ps => (b :: p) :: ps
theorem pcs_ne (l : List UInt8) : pcs l ≠ [] := by
  cases l with
  | nil => simp [pcs]
  | cons b r => simp only [pcs]; split <;> (try split) <;> simp
theorem pcs_none : ∀ (l : List UInt8), Lib.indexByte l 44 = -1 → pcs l = [l]
  | [], _ => rfl
  | b :: r, h => by
    simp only [Lib.indexByte] at h
    split at h
    · cases h
    · split at h
      · next h1 h2 =>
        have hb : b ≠ 44 := by simpa using h1
        have := pcs_none r (by simpa using h2)
        simp [pcs, hb, this]
      · next h1 h2 =>
        have := Lib.indexByte_ge r 44
        simp at h2
        omega
theorem pcs_some : ∀ (l : List UInt8) (i : Nat), Lib.indexByte l 44 = (i : Int) → i < l.length ∧ pcs l = l.take i :: pcs (l.drop (i + 1))
  | [], i, h => by simp [Lib.indexByte] at h
  | b :: r, i, h => by
    simp only [Lib.indexByte] at h
    split at h
    · next h1 =>
      have hb : b = 44 := by simpa using h1
      have hi : i = 0 := by omega
      subst hi
      simp [pcs, hb]
    · split at h
      · omega
      · next h1 h2 =>
        have hb : b ≠ 44 := by simpa using h1
        have hge := Lib.indexByte_ge r 44
        simp at h2
        obtain ⟨j, hj⟩ := Int.eq_ofNat_of_zero_le (show 0 ≤ Lib.indexByte r 44 by omega)
        have hi : i = j + 1 := by omega
        subst hi
        obtain ⟨h3, h4⟩ := pcs_some r j hj
        refine ⟨by simp; omega, ?_⟩
        simp [pcs, hb, h4]

/-- The teams of the words, each above the one before. -/
def rdT : List (List UInt8) → Int → Nat → Option Nat
  | [], _, c => some c
  | p :: ps, last, c => match rt p with
    | none => none
    | some k => if (k : Int) ≤ last then none else rdT ps k (c ||| 2 ^ k)
def rdTs (l : List UInt8) : Option Nat := match l with
  | [] => some 0
  | b :: r => if b = 43 then rdT (pcs r) (-1) 0 else none

def strOf : Value → Nat | .string s => s.size | _ => 0
def boolOf : Value → Nat | .bool true => 1 | _ => 0
/-- What holds between two rounds. -/
def RdRel (R : Option Nat) (n : Nat) (w : World) (c l r m : Value) (wr : World) : Prop :=
  ∃ (cats : Nat) (last : Int) (rs : ByteArray), c = .int .u32 (cats : Int) ∧ cats < 4294967296 ∧ l = .int .i64 last ∧ -1 ≤ last ∧ last < 32 ∧ r = .string rs ∧ rs.size ≤ n ∧ Below w.heap.size w wr ∧
    ((m = .bool true ∧ R = rdT (pcs rs.data.toList) last cats) ∨ (m = .bool false ∧ R = some cats))
/-- What readTeams answers. -/
def tmsRet : Option Nat → Value
  | none => .tuple #[.int .u32 0, .bool false]
  | some c => .tuple #[.int .u32 (c : Int), .bool true]

theorem or_bit (c k : Nat) (hc : c < 4294967296) (hk : k < 32) : bits .or .u32 (c : Int) (2 ^ k % 4294967296) = ((c ||| 2 ^ k : Nat) : Int) := by
  rw [two_pow_mod hk]; exact u32_or_nat c (2 ^ k) hc (two_pow_lt hk)
theorem or_lt (c k : Nat) (hc : c < 4294967296) (hk : k < 32) : c ||| 2 ^ k < 4294967296 :=
  Nat.or_lt_two_pow (n := 32) hc (two_pow_lt hk)

set_option maxHeartbeats 1000000 in
set_option maxRecDepth 100000 in
theorem readTeams_plus (s : ByteArray) (r : List UInt8) (hl : s.data.toList = 43 :: r) (hs : s.size ≤ 1000000) (w : World) (he : Errs w) :
    Calls Tryd.prog 37 #[.string s] w fun e w' => e = .returned (tmsRet (rdT (pcs r) (-1) 0)) ∧ Below w.heap.size w w' := by
  have hsz : s.size = r.length + 1 := by rw [← ByteArray.size_data, ← Array.length_toList, hl]; rfl
  have hem : s.toList.isEmpty = false := by rw [ba_toList, hl]; rfl
  have h1 : ∀ h, s[0]'h = 43 := by
    intro h
    have : s.data.toList[0]'(by rw [hl]; simp) = 43 := by simp [hl]
    exact this
  have hrest : s.extract 1 s.size = ⟨r.toArray⟩ := by rw [ba_drop, hl]; rfl
  clear hl
  have hp : 1 ≤ s.size := by omega
  have Hsz := Lib.hid hsz
  clear hsz
  obtain ⟨R, hR⟩ : ∃ R, R = rdT (pcs r) (-1) 0 := ⟨_, rfl⟩
  rw [← hR]
  have HR := Lib.hid hR
  clear hR
  go_enter Tryd.func37, Tryd.ntmps37
  go_wp2
  go_loopw [4, 5, 6, 7] (fun c l r m wr => RdRel R s.size w c l r m wr) (fun _ _ r m _ => boolOf m * (strOf r + 1))
  case atStart => exact ⟨0, -1, ⟨r.toArray⟩, rfl, by omega, rfl, by omega, by omega, rfl, by show r.length ≤ _; rw [Hsz.out]; omega, Below.refl _ _, .inl ⟨rfl, HR.out⟩⟩
  case round =>
    clear hem h1 hrest
    obtain ⟨cats, last, rs, rfl, hc, rfl, hl1, hl2, rfl, hrs, hB, hm⟩ := hrel
    have heR := he.keep hB
    rcases hm with ⟨rfl, hRr⟩ | ⟨rfl, hRr⟩
    · have HRr := Lib.hid hRr
      clear hRr
      by_cases hix : Lib.indexByte rs.data.toList 44 = -1
      · have hpc := pcs_none _ hix
        rw [hpc] at HRr
        clear hpc
        have Hix := Lib.hid hix
        clear hix
        cases hrt : rt rs.data.toList with
        | none =>
          have HR2 := Lib.hid (show R = none by rw [HRr.out, rdT, hrt])
          have Hrt := Lib.hid hrt
          clear hrt HRr HR
          go_wp2_with fail
          refine (cut_none rs Hix.out _).mono ?_
          rintro e w1 ⟨rfl, rfl⟩
          go_wp2_with fail
          refine (readTeam_none rs (by omega) Hrt.out _ heR).mono ?_
          rintro e w2 ⟨rfl, hb2⟩
          go_wp2
          go_ret2
          exact ⟨by rw [HR2.out]; rfl, hB.trans (hb2.mono hB.size)⟩
        | some k =>
          have hk := (rt_some.1 hrt).1
          have Hrt := Lib.hid hrt
          by_cases hle : (k : Int) ≤ last
          · have HR2 := Lib.hid (show R = none by rw [HRr.out, rdT, hrt]; exact if_pos hle)
            clear hrt HRr HR
            go_wp2_with fail
            refine (cut_none rs Hix.out _).mono ?_
            rintro e w1 ⟨rfl, rfl⟩
            go_wp2_with fail
            refine (readTeam_some rs (by omega) k Hrt.out _).mono ?_
            rintro e w2 ⟨rfl, hb2⟩
            go_wp2
            go_ret2
            exact ⟨by rw [HR2.out]; rfl, hB.trans (hb2.mono hB.size)⟩
          · have HR2 := Lib.hid (show R = some (cats ||| 2 ^ k) by rw [HRr.out, rdT, hrt]; exact if_neg hle)
            have Hor := Lib.hid (or_bit cats k hc hk)
            have Hlt := Lib.hid (or_lt cats k hc hk)
            clear hrt HRr HR
            go_wp2_with fail
            refine (cut_none rs Hix.out _).mono ?_
            rintro e w1 ⟨rfl, rfl⟩
            go_wp2_with fail
            refine (readTeam_some rs (by omega) k Hrt.out _).mono ?_
            rintro e w2 ⟨rfl, hb2⟩
            go_wp2
            go_roundw
            case rel => exact ⟨cats ||| 2 ^ k, k, ⟨#[]⟩, by rw [Hor.out], Hlt.out, rfl, by omega, by omega, rfl, Nat.zero_le _, hB.trans (hb2.mono hB.size), .inr ⟨rfl, HR2.out⟩⟩
            case measure => simp [boolOf]
      · obtain ⟨i, hi⟩ := Int.eq_ofNat_of_zero_le (show 0 ≤ Lib.indexByte rs.data.toList 44 by have := Lib.indexByte_ge rs.data.toList 44; omega)
        obtain ⟨hil, hpc⟩ := pcs_some _ i hi
        have hils : i < rs.size := by simpa using hil
        rw [hpc] at HRr
        have Hix := Lib.hid hi
        clear hpc hi hix hil
        obtain ⟨p, hp1⟩ : ∃ p : ByteArray, p = ⟨(rs.data.toList.take i).toArray⟩ := ⟨_, rfl⟩
        obtain ⟨q, hq1⟩ : ∃ q : ByteArray, q = ⟨(rs.data.toList.drop (i + 1)).toArray⟩ := ⟨_, rfl⟩
        have hp2 : rs.data.toList.take i = p.data.toList := by rw [hp1]
        have hq2 : rs.data.toList.drop (i + 1) = q.data.toList := by rw [hq1]
        have hps : p.size ≤ 1000000 := by
          have : p.size = (rs.data.toList.take i).length := by rw [hp1]; rfl
          rw [this, List.length_take]; omega
        have hqs : q.size < rs.size := by
          have : q.size = (rs.data.toList.drop (i + 1)).length := by rw [hq1]; rfl
          rw [this, List.length_drop]
          have : rs.data.toList.length = rs.size := by simp
          omega
        have Hcut : Hid (∀ W : World, Calls Tryd.prog 40 #[.string rs, .string ⟨#[44]⟩] W fun e w' => e = .returned (.tuple #[.string p, .string q, .bool true]) ∧ ∃ n, w' = W.drewN n) := by
          intro W
          rw [hp1, hq1]
          exact cut_some rs i Hix.out hils (by omega) W
        rw [hp2, hq2] at HRr
        clear hp1 hq1 hp2 hq2 Hix
        cases hrt : rt p.data.toList with
        | none =>
          have HR2 := Lib.hid (show R = none by rw [HRr.out, rdT, hrt])
          have Hrt := Lib.hid hrt
          clear hrt HRr HR
          go_wp2_with fail
          refine (Hcut.out _).mono ?_
          rintro e w1 ⟨rfl, n1, rfl⟩
          go_wp2_with fail
          refine (readTeam_none p hps Hrt.out _ (he.keep (below_drewN hB n1))).mono ?_
          rintro e w2 ⟨rfl, hb2⟩
          go_wp2
          go_ret2
          exact ⟨by rw [HR2.out]; rfl, (below_drewN hB _).trans (hb2.mono hB.size)⟩
        | some k =>
          have hk := (rt_some.1 hrt).1
          have Hrt := Lib.hid hrt
          by_cases hle : (k : Int) ≤ last
          · have HR2 := Lib.hid (show R = none by rw [HRr.out, rdT, hrt]; exact if_pos hle)
            clear hrt HRr HR
            go_wp2_with fail
            refine (Hcut.out _).mono ?_
            rintro e w1 ⟨rfl, n1, rfl⟩
            go_wp2_with fail
            refine (readTeam_some p hps k Hrt.out _).mono ?_
            rintro e w2 ⟨rfl, hb2⟩
            go_wp2
            go_ret2
            exact ⟨by rw [HR2.out]; rfl, (below_drewN hB _).trans (hb2.mono hB.size)⟩
          · have HR2 := Lib.hid (show R = rdT (pcs q.data.toList) k (cats ||| 2 ^ k) by rw [HRr.out, rdT, hrt]; exact if_neg hle)
            have Hor := Lib.hid (or_bit cats k hc hk)
            have Hlt := Lib.hid (or_lt cats k hc hk)
            clear hrt HRr HR
            go_wp2_with fail
            refine (Hcut.out _).mono ?_
            rintro e w1 ⟨rfl, n1, rfl⟩
            go_wp2_with fail
            refine (readTeam_some p hps k Hrt.out _).mono ?_
            rintro e w2 ⟨rfl, hb2⟩
            go_wp2
            go_roundw
            case rel => exact ⟨cats ||| 2 ^ k, k, q, by rw [Hor.out], Hlt.out, rfl, by omega, by omega, rfl, by omega, (below_drewN hB _).trans (hb2.mono hB.size), .inl ⟨rfl, HR2.out⟩⟩
            case measure => simp [boolOf, strOf]; omega
    · subst hRr
      go_wp2
      go_ret2
      exact ⟨rfl, hB⟩

set_option maxHeartbeats 400000 in
theorem readTeams_nil (w : World) :
    Calls Tryd.prog 37 #[.string ⟨#[]⟩] w fun e w' => e = .returned (tmsRet (some 0)) ∧ Below w.heap.size w w' := by
  go_enter Tryd.func37, Tryd.ntmps37
  go_wp2
  go_ret2
  exact ⟨rfl, Below.refl _ _⟩
set_option maxHeartbeats 400000 in
theorem readTeams_other (s : ByteArray) (b : UInt8) (r : List UInt8) (hl : s.data.toList = b :: r) (hb : b ≠ 43) (w : World) :
    Calls Tryd.prog 37 #[.string s] w fun e w' => e = .returned (tmsRet none) ∧ Below w.heap.size w w' := by
  have hp : 0 < s.size := by rw [← ByteArray.size_data, ← Array.length_toList, hl]; simp
  have hem : s.toList.isEmpty = false := by rw [ba_toList, hl]; rfl
  have h1 : ∀ h, s[0]'h = b := by
    intro h
    have : s.data.toList[0]'(by rw [hl]; simp) = b := by simp [hl]
    exact this
  have hne : ((b.toNat : Int) != 43) = true := by
    rw [bne_iff_ne]
    intro e
    exact hb (UInt8.toNat_inj.1 (by simpa using (by omega : b.toNat = 43)))
  clear hl
  go_enter Tryd.func37, Tryd.ntmps37
  go_wp2
  go_ret2
  exact ⟨rfl, Below.refl _ _⟩

/-- What readTeams answers, of whatever text. -/
theorem readTeams_any (s : ByteArray) (hs : s.size ≤ 1000000) (w : World) (he : Errs w) :
    Calls Tryd.prog 37 #[.string s] w fun e w' => e = .returned (tmsRet (rdTs s.data.toList)) ∧ Below w.heap.size w w' := by
  cases hl : s.data.toList with
  | nil =>
    obtain rfl : s = ⟨#[]⟩ := by apply ByteArray.ext; apply Array.ext'; exact hl
    exact readTeams_nil w
  | cons b r =>
    by_cases hb : b = 43
    · subst hb
      have : rdTs (43 :: r) = rdT (pcs r) (-1) 0 := by simp [rdTs]
      rw [this]
      exact readTeams_plus s r hl hs w he
    · have : rdTs (b :: r) = none := by simp [rdTs, hb]
      rw [this]
      exact readTeams_other s b r hl hb w

/-- The label of a text, if it is one's. -/
def rdAll (l : List UInt8) : Option (Nat × Nat) := match l with
  | [] => none
  | b :: r => if 48 ≤ b.toNat ∧ b.toNat < 56 then (rdTs r).map fun c => (b.toNat - 48, c) else none
def labRet : Option (Nat × Nat) → Value
  | none => .tuple #[.agg #[.int .i64 0, .int .u32 0], .int .i64 2]
  | some (l, c) => .tuple #[.agg #[.int .i64 (l : Int), .int .u32 (c : Int)], .int .i64 0]

set_option maxHeartbeats 400000 in
theorem read_nil (w : World) :
    Calls Tryd.prog 25 #[.string ⟨#[]⟩] w fun e w' => e = .returned (labRet none) ∧ Below w.heap.size w w' := by
  go_enter Tryd.func25, Tryd.ntmps25
  go_wp2
  exact bodyPost_ret (v := labRet none) (by simp [results, Tryd.results25, go_sem, labRet]) rfl ⟨rfl, (Below.refl _ _).alloc (Nat.le_refl _) _⟩
set_option maxHeartbeats 400000 in
theorem read_far (s : ByteArray) (b : UInt8) (r : List UInt8) (hl : s.data.toList = b :: r) (hb : b.toNat < 48 ∨ 56 ≤ b.toNat) (w : World) :
    Calls Tryd.prog 25 #[.string s] w fun e w' => e = .returned (labRet none) ∧ Below w.heap.size w w' := by
  have hp : 0 < s.size := by rw [← ByteArray.size_data, ← Array.length_toList, hl]; simp
  have hem : s.toList.isEmpty = false := by rw [ba_toList, hl]; rfl
  have h1 : ∀ h, s[0]'h = b := by
    intro h
    have : s.data.toList[0]'(by rw [hl]; simp) = b := by simp [hl]
    exact this
  clear hl
  rcases hb with hb | hb
  all_goals
    go_enter Tryd.func25, Tryd.ntmps25
    go_wp2
    exact bodyPost_ret (v := labRet none) (by simp [results, Tryd.results25, go_sem, labRet]) rfl ⟨rfl, (Below.refl _ _).alloc (Nat.le_refl _) _⟩
set_option maxHeartbeats 400000 in
theorem read_near (s : ByteArray) (b : UInt8) (r : List UInt8) (hl : s.data.toList = b :: r) (hb : 48 ≤ b.toNat ∧ b.toNat < 56) (hs : s.size ≤ 1000000) (w : World) (he : Errs w) :
    Calls Tryd.prog 25 #[.string s] w fun e w' => e = .returned (labRet (rdAll (b :: r))) ∧ Below w.heap.size w w' := by
  have hp : 0 < s.size := by rw [← ByteArray.size_data, ← Array.length_toList, hl]; simp
  have hem : s.toList.isEmpty = false := by rw [ba_toList, hl]; rfl
  have h1 : ∀ h, s[0]'h = b := by
    intro h
    have : s.data.toList[0]'(by rw [hl]; simp) = b := by simp [hl]
    exact this
  have hrest : s.extract 1 s.size = ⟨r.toArray⟩ := by rw [ba_drop, hl]; rfl
  have hr : r.length ≤ 1000000 := by
    have : s.size = r.length + 1 := by rw [← ByteArray.size_data, ← Array.length_toList, hl]; rfl
    omega
  have he1 := he.keep ((Below.refl _ w).alloc (Nat.le_refl _) (.cells #[.int .i64 0, .int .u32 0] 24))
  have hu := LabU.one w 0 0
  obtain ⟨hb0, hb1⟩ := hb
  have hlo : decide ((b.toNat : Int) < 48) = false := by simp; omega
  have hhi : decide (56 ≤ (b.toNat : Int)) = false := by simp; omega
  clear hl
  have Hc := Lib.hid (readTeams_any ⟨r.toArray⟩ hr (w.alloc (.cells #[.int .i64 0, .int .u32 0] 24)) he1)
  cases hrd : rdTs r with
  | none =>
    have HA := Lib.hid (show rdAll (b :: r) = none by simp [rdAll, hb0, hb1, hrd])
    rw [show (rdTs (⟨r.toArray⟩ : ByteArray).data.toList) = none from hrd] at Hc
    clear hrd
    go_enter Tryd.func25, Tryd.ntmps25
    go_wp2_with fail
    refine Hc.out.mono ?_
    rintro e w1 ⟨rfl, hb⟩
    clear Hc
    simp only [tmsRet]
    obtain ⟨u0, u1, f0, f1⟩ := hu.keep hb
    have hB : Below w.heap.size w w1 := ((Below.refl _ _).alloc (Nat.le_refl _) _).trans (hb.mono (by simp))
    clear hb
    go_wp2
    exact bodyPost_ret (v := labRet none) (by simp [results, Tryd.results25, go_sem, labRet, u0, u1]) rfl ⟨by rw [HA.out], (hB.setCell (p := ⟨w.heap.size, 0, none⟩) (by simp) _).setCell (p := ⟨w.heap.size, 1, none⟩) (by simp) _⟩
  | some c =>
    have HA := Lib.hid (show rdAll (b :: r) = some (b.toNat - 48, c) by simp [rdAll, hb0, hb1, hrd])
    rw [show (rdTs (⟨r.toArray⟩ : ByteArray).data.toList) = some c from hrd] at Hc
    clear hrd
    go_enter Tryd.func25, Tryd.ntmps25
    go_wp2_with fail
    refine Hc.out.mono ?_
    rintro e w1 ⟨rfl, hb⟩
    clear Hc
    simp only [tmsRet]
    obtain ⟨u0, u1, f0, f1⟩ := hu.keep hb
    have hB : Below w.heap.size w w1 := ((Below.refl _ _).alloc (Nat.le_refl _) _).trans (hb.mono (by simp))
    clear hb
    go_wp2
    refine bodyPost_ret (v := labRet (some (b.toNat - 48, c))) (by simp [results, Tryd.results25, go_sem, labRet, u0, u1]; omega) rfl ⟨by rw [HA.out], (hB.setCell (p := ⟨w.heap.size, 0, none⟩) (by simp) _).setCell (p := ⟨w.heap.size, 1, none⟩) (by simp) _⟩

/-- What label.Read answers, of whatever text. -/
theorem read_any (s : ByteArray) (hs : s.size ≤ 1000000) (w : World) (he : Errs w) :
    Calls Tryd.prog 25 #[.string s] w fun e w' => e = .returned (labRet (rdAll s.data.toList)) ∧ Below w.heap.size w w' := by
  cases hl : s.data.toList with
  | nil =>
    obtain rfl : s = ⟨#[]⟩ := by apply ByteArray.ext; apply Array.ext'; exact hl
    exact read_nil w
  | cons b r =>
    by_cases hb : 48 ≤ b.toNat ∧ b.toNat < 56
    · exact read_near s b r hl hb hs w he
    · have : rdAll (b :: r) = none := by simp only [rdAll]; exact if_neg hb
      rw [this]
      exact read_far s b r hl (by omega) w
end Go.Proofs.YtkmbllnnaljepaaDoor
