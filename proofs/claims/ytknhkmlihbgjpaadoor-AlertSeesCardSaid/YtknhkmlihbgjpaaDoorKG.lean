/- KG: several texts in one. -/
import Derived.BigQuiet
import Derived.KernelRfl
import Derived.OrdersHeld
/- A region that draws its order: operations that yield one value in a class of worlds, then operations that make new memory (their values: whatever they are), then operations that wait for all of these: one walk in the order of the text serves every order. -/
namespace Go.Proofs.YtknhkmlihbgjpaaDoor
open Go

abbrev Marks := Nat → Option Value
def upd (L : Marks) (i : Nat) (v : Value) : Marks := fun j => if j = i then some v else L j
theorem upd_comm (L : Marks) {i j : Nat} (h : i ≠ j) (v u : Value) : upd (upd L i v) j u = upd (upd L j u) i v := by
  funext x
  unfold upd
  by_cases h1 : x = j
  · subst h1; simp [Ne.symm h]
  · simp [h1]

section
variable {P : Program} {ops : Array Oper} {C : Marks → World → Prop} {Q : Exit → Act → World → Prop} {md : Region.Mode} {q k : Nat}

/-- One value in every world of whichever class. -/
def YieldsL (P : Program) (ops : Array Oper) (C : Marks → World → Prop) (o : Oper) (v : Value) (a : Act) : Prop :=
  (Region.wanted o (yielded ops a.tmps) = true ∧ ∀ L w, C L w → o.quietAt P a (C L) w v) ∨ (Region.wanted o (yielded ops a.tmps) = false ∧ v = undef)
def looseUpon (P : Program) (C : Marks → World → Prop) (i : Nat) (L : Marks) : Result Next → Prop
  | .ok (.value v) w' => C (upd L i v) w'
  | .ok (.enter f args) w' => Calls P f args w' fun e w'' => ∃ v, e = .returned v ∧ C (upd L i v) w''
  | _ => False
/-- Some value, and a world of the class in which that value is marked. -/
def LooseIn (P : Program) (ops : Array Oper) (C : Marks → World → Prop) (o : Oper) (i : Nat) (a : Act) : Prop :=
  Region.wanted o (yielded ops a.tmps) = true ∧ ∀ L w, C L w → looseUpon P C i L ((execOp a.eval o).run P w)

theorem YieldsL.of_same {o : Oper} {v : Value} {a a' : Act} (hy : YieldsL P ops C o v a) (he : execOp a'.eval o = execOp a.eval o)
    (hw : Region.wanted o (yielded ops a'.tmps) = Region.wanted o (yielded ops a.tmps)) : YieldsL P ops C o v a' := by
  unfold YieldsL Oper.quietAt at *
  rw [he, hw]
  exact hy
theorem LooseIn.of_same {o : Oper} {i : Nat} {a a' : Act} (hy : LooseIn P ops C o i a) (he : execOp a'.eval o = execOp a.eval o)
    (hw : Region.wanted o (yielded ops a'.tmps) = Region.wanted o (yielded ops a.tmps)) : LooseIn P ops C o i a' := by
  unfold LooseIn at *
  rw [he, hw]
  exact hy

def lOp (P : Program) (ops : Array Oper) (C : Marks → World → Prop) (q i : Nat) (K : Act → Marks → Prop) (a : Act) (L : Marks) : Prop :=
  match ops[i]? with
  | none => K a L
  | some o => if q ≤ i then LooseIn P ops C o i a ∧ ∀ v, K (a.put o.dst v) (upd L i v) else ∃ v, YieldsL P ops C o v a ∧ K (a.put o.dst v) L

theorem lOp_mono {i : Nat} {a : Act} {L : Marks} {K K' : Act → Marks → Prop} (h : ∀ a L, K a L → K' a L) (hh : lOp P ops C q i K a L) : lOp P ops C q i K' a L := by
  unfold lOp at *
  cases ho : ops[i]? with
  | none => simp only [ho] at hh ⊢; exact h _ _ hh
  | some o =>
    simp only [ho] at hh ⊢
    split
    · rename_i hq; rw [if_pos hq] at hh; exact ⟨hh.1, fun v => h _ _ (hh.2 v)⟩
    · rename_i hq; rw [if_neg hq] at hh; obtain ⟨v, h1, h2⟩ := hh; exact ⟨v, h1, h _ _ h2⟩

/-- The first k have all come up. -/
def allB (k : Nat) (listed : Array Bool) : Bool := (List.range k).all fun i => listed.getD i true
theorem allB_false {k i : Nat} {listed : Array Bool} (hi : i < k) (h : listed.getD i true = false) : allB k listed = false := by
  rw [Bool.eq_false_iff]
  intro hc
  have := List.all_eq_true.1 hc i (List.mem_range.2 hi)
  rw [h] at this
  cases this

def wpAnyL (P : Program) (md : Region.Mode) (ops : Array Oper) (C : Marks → World → Prop) (Q : Exit → Act → World → Prop) (q k : Nat) : Nat → Array Bool → Act → Marks → Prop
  | 0, listed, a, L => allB k listed = true ∧ ∀ w, C L w → wpAny P md ops Q 0 listed a w
  | fuel + 1, listed, a, L => (allB k listed = true ∧ ∀ w, C L w → wpAny P md ops Q (fuel + 1) listed a w) ∨
      (Region.ready md ops listed ≠ [] ∧ ∀ i ∈ Region.ready md ops listed, lOp P ops C q i (wpAnyL P md ops C Q q k fuel (listed.setIfInBounds i true)) a L)

theorem wpOp_of_lOp {i : Nat} {a : Act} {L : Marks} {K : Act → Marks → Prop} {K' : Act → World → Prop} {w : World} (hC : C L w) (h : ∀ a L w', C L w' → K a L → K' a w') (hh : lOp P ops C q i K a L) : wpOp P ops Q i K' a w := by
  unfold lOp at hh
  unfold wpOp
  cases ho : ops[i]? with
  | none => simp only [ho] at hh ⊢; exact h _ _ _ hC hh
  | some o =>
    simp only [ho] at hh ⊢
    split at hh
    · obtain ⟨⟨hw, hl⟩, hk⟩ := hh
      rw [if_pos hw]
      refine .inl ?_
      have h3 := hl L w hC
      unfold Oper.wp
      generalize (execOp a.eval o).run P w = r at *
      cases r with
      | ok n w' =>
        cases n <;> simp only [looseUpon] at h3 <;> simp only [Oper.upon]
        case value u => exact h _ _ _ h3 (hk u)
        case enter f args => exact h3.mono fun e w'' ⟨v, he, hw''⟩ => by subst he; exact h _ _ _ hw'' (hk v)
      | halt x w' => simp only [looseUpon] at h3
    · obtain ⟨v, hy, hk⟩ := hh
      rcases hy with ⟨hw, hv⟩ | ⟨hw, rfl⟩
      · rw [if_pos hw]
        exact .inl (Oper.wp_of_quiet (C := C L) (K := fun a' => a' = a.put o.dst v) hC (fun a' w' hw' he => by subst he; exact h _ _ _ hw' hk) ⟨v, hv L, rfl⟩)
      · rw [if_neg (by simp [hw])]
        exact h _ _ _ hC hk

theorem wpAny_of_L : ∀ (fuel : Nat) (listed : Array Bool) (a : Act) (L : Marks) (w : World), C L w → wpAnyL P md ops C Q q k fuel listed a L → wpAny P md ops Q fuel listed a w
  | 0, _, _, _, _, hw, h => h.2 _ hw
  | fuel + 1, _, _, _, _, hw, h => by
    rcases h with ⟨_, h⟩ | ⟨h0, h⟩
    · exact h _ hw
    · exact ⟨fun h1 => absurd h1 h0, fun i hi => wpOp_of_lOp hw (fun a' L' w' hw' => wpAny_of_L fuel _ a' L' w' hw') (h i hi)⟩

theorem lOp_put {i j : Nat} {oi oj : Oper} {v : Value} (_hi : ops[i]? = some oi) (hj : ops[j]? = some oj) (hap : oi.apart ops oj = true)
    (hsi : ∀ cs b, oi.op ≠ .select cs b) (hsj : ∀ cs b, oj.op ≠ .select cs b) {K : Act → Marks → Prop} {a : Act} {L : Marks}
    (hy : YieldsL P ops C oi v a) (h : lOp P ops C q j K (a.put oi.dst v) L) :
    lOp P ops C q j (fun a' L' => YieldsL P ops C oi v a' ∧ K (a'.put oi.dst v) L') a L := by
  obtain ⟨h1, h2, h3⟩ := Oper.apart_spec hap
  have keep : ∀ u, YieldsL P ops C oi v (a.put oj.dst u) := fun u => hy.of_same (execOp_put oi hsi a oj.dst u h3) (wanted_put oi a oj.dst u h3)
  unfold lOp at *
  simp only [hj] at *
  split
  · rename_i hq
    rw [if_pos hq] at h
    exact ⟨h.1.of_same (execOp_put oj hsj a oi.dst v h1).symm (wanted_put oj a oi.dst v h1).symm, fun u => ⟨keep u, by rw [← Act.put_comm a v u h2]; exact h.2 u⟩⟩
  · rename_i hq
    rw [if_neg hq] at h
    obtain ⟨u, hu, hk⟩ := h
    exact ⟨u, hu.of_same (execOp_put oj hsj a oi.dst v h1).symm (wanted_put oj a oi.dst v h1).symm, keep u, by rw [← Act.put_comm a v u h2]; exact hk⟩

/-- What has come up waited for what has come up. -/
def Closed (md : Region.Mode) (ops : Array Oper) (listed : Array Bool) : Prop := ∀ j oj, ops[j]? = some oj → listed.getD j false = true → ∀ e ∈ oj.after, Region.binds md e = true → listed.getD e.on false = true
theorem Closed.set {j : Nat} {listed : Array Bool} (h : Closed md ops listed) (hj : j ∈ Region.ready md ops listed) : Closed md ops (listed.setIfInBounds j true) := fun x ox hx hl e he hb => by
  refine getD_set_true ?_
  by_cases hxj : j = x
  · subst hxj
    obtain ⟨_, oj', hoj', hall⟩ := mem_ready.1 hj
    obtain rfl : ox = oj' := by rw [hx] at hoj'; exact Option.some.inj hoj'
    exact hall e he hb
  · rw [getD_set_ne false hxj] at hl
    exact h x ox hx hl e he hb
/-- Number j waits for number i, by way of at most n others. -/
def reachB (md : Region.Mode) (ops : Array Oper) : Nat → Nat → Nat → Bool
  | 0, _, _ => false
  | n + 1, j, i => match ops[j]? with
    | none => false
    | some o => o.after.any fun e => Region.binds md e && (e.on == i || reachB md ops n e.on i)
theorem reach_after {listed : Array Bool} (hc : Closed md ops listed) : ∀ (n j i : Nat) (oj : Oper), ops[j]? = some oj → (∀ e ∈ oj.after, Region.binds md e = true → listed.getD e.on false = true) → reachB md ops n j i = true → listed.getD i false = true
  | 0, _, _, _, _, _, h => by simp [reachB] at h
  | n + 1, j, i, oj, hj, hall, h => by
    simp only [reachB, hj] at h
    obtain ⟨e, he, hb⟩ := Array.any_eq_true'.1 h
    rw [Bool.and_eq_true, Bool.or_eq_true, beq_iff_eq] at hb
    have h1 := hall e he hb.1
    rcases hb.2 with rfl | h2
    · exact h1
    · cases ho : ops[e.on]? with
      | none => cases n <;> simp [reachB, ho] at h2
      | some o => exact reach_after hc n e.on i o ho (fun x hx hb => hc e.on o ho h1 x hx hb) h2
/-- Every operation from number k on waits for every one of the first k. -/
def Waits (md : Region.Mode) (ops : Array Oper) (k : Nat) : Prop := ∀ j oj i, ops[j]? = some oj → k ≤ j → i < k → ∃ n, reachB md ops n j i = true

theorem ready_lt (hW : Waits md ops k) {i j : Nat} {listed : Array Bool} (hc : Closed md ops listed) (hi : i < k) (hr : i ∈ Region.ready md ops listed) (hj : j ∈ Region.ready md ops listed) : j < k := by
  rcases Nat.lt_or_ge j k with h | h
  · exact h
  · obtain ⟨_, oj, hoj, hall⟩ := mem_ready.1 hj
    obtain ⟨n, hn⟩ := hW j oj i hoj h hi
    have h1 := reach_after hc n j i oj hoj hall hn
    have h0 := (mem_ready.1 hr).1
    rcases Nat.lt_or_ge i listed.size with h' | h'
    · simp [h'] at h0 h1; rw [h0] at h1; cases h1
    · simp [Array.getElem?_eq_none h'] at h1

theorem not_waits {i j : Nat} {oj : Oper} {listed : Array Bool} (hr : i ∈ Region.ready md ops listed) (hoj : ops[j]? = some oj) (hj : j ∈ Region.ready md ops listed) : ∀ e ∈ oj.after, Region.binds md e = true → e.on ≠ i := fun e he hb heq => by
  obtain ⟨_, oj', hoj', hall⟩ := mem_ready.1 hj
  obtain rfl : oj = oj' := by rw [hoj] at hoj'; exact Option.some.inj hoj'
  have h1 := hall e he hb
  have h0 := (mem_ready.1 hr).1
  rw [heq] at h1
  rcases Nat.lt_or_ge i listed.size with h' | h'
  · simp [h'] at h0 h1; rw [h0] at h1; cases h1
  · simp [Array.getElem?_eq_none h'] at h1

theorem free_keep {i j : Nat} {oi : Oper} {listed : Array Bool} (hjun : listed.getD j true = false)
    (hfree : ∀ j oj, ops[j]? = some oj → j ≠ i → listed.getD j true = false → (∀ e ∈ oj.after, Region.binds md e = true → e.on ≠ i) → oi.apart ops oj = true) :
    ∀ k ok, ops[k]? = some ok → k ≠ i → (listed.setIfInBounds j true).getD k true = false → (∀ e ∈ ok.after, Region.binds md e = true → e.on ≠ i) → oi.apart ops ok = true := fun k ok hk hki hun hno => by
  refine hfree k ok hk hki ?_ hno
  by_cases hjk : j = k
  · subst hjk; exact hjun
  · rw [getD_set_ne true hjk] at hun; exact hun

theorem wpAnyL_quiet (hW : Waits md ops k) {i : Nat} {oi : Oper} {v : Value} (hi : ops[i]? = some oi) (hiq : i < q) (hik : i < k) (hsel : ∀ (j : Nat) (o : Oper) cs b, ops[j]? = some o → o.op ≠ .select cs b) :
    ∀ (fuel : Nat) (listed : Array Bool) (a : Act) (L : Marks), Closed md ops listed →
      (∀ j oj, ops[j]? = some oj → j ≠ i → listed.getD j true = false → (∀ e ∈ oj.after, Region.binds md e = true → e.on ≠ i) → oi.apart ops oj = true) →
      i ∈ Region.ready md ops listed → YieldsL P ops C oi v a →
      wpAnyL P md ops C Q q k fuel (listed.setIfInBounds i true) (a.put oi.dst v) L → wpAnyL P md ops C Q q k (fuel + 1) listed a L := by
  intro fuel
  induction fuel with
  | zero =>
    intro listed a L hc _ hr hy H
    refine .inr ⟨fun h => (by rw [h] at hr; cases hr), fun j hj => ?_⟩
    by_cases hji : j = i
    · subst hji; unfold lOp; simp only [hi]; rw [if_neg (by omega)]; exact ⟨v, hy, H⟩
    · have hjk := ready_lt hW hc hik hr hj
      have h1 := H.1
      rw [allB_false hjk (by rw [getD_set_ne true (Ne.symm hji)]; exact (mem_ready.1 hj).1)] at h1
      cases h1
  | succ fuel ih =>
    intro listed a L hc hfree hr hy H
    refine .inr ⟨fun h => (by rw [h] at hr; cases hr), fun j hj => ?_⟩
    by_cases hji : j = i
    · subst hji; unfold lOp; simp only [hi]; rw [if_neg (by omega)]; exact ⟨v, hy, H⟩
    · have hjk := ready_lt hW hc hik hr hj
      obtain ⟨hjun, oj, hoj, _⟩ := mem_ready.1 hj
      rcases H with ⟨h1, _⟩ | ⟨_, H⟩
      · rw [allB_false hjk (by rw [getD_set_ne true (Ne.symm hji)]; exact hjun)] at h1
        cases h1
      · have h1 := H j (ready_mono hj hji)
        have h2 := lOp_put hi hoj (hfree j oj hoj hji hjun (not_waits hr hoj hj)) (fun cs b => hsel i oi cs b hi) (fun cs b => hsel j oj cs b hoj) hy h1
        refine lOp_mono (fun a' L' h3 => ih (listed.setIfInBounds j true) a' L' (hc.set hj) (free_keep hjun hfree) (ready_mono hr (Ne.symm hji)) h3.1 ?_) h2
        rw [Array.setIfInBounds_comm _ _ hji]
        exact h3.2

theorem wpAnyL_loose (hW : Waits md ops k) {i : Nat} {oi : Oper} (hi : ops[i]? = some oi) (hiq : q ≤ i) (hik : i < k) (hsel : ∀ (j : Nat) (o : Oper) cs b, ops[j]? = some o → o.op ≠ .select cs b) :
    ∀ (fuel : Nat) (listed : Array Bool) (a : Act) (L : Marks), Closed md ops listed → (∀ j, j < q → listed.getD j true = true) →
      (∀ j oj, ops[j]? = some oj → j ≠ i → listed.getD j true = false → (∀ e ∈ oj.after, Region.binds md e = true → e.on ≠ i) → oi.apart ops oj = true) →
      i ∈ Region.ready md ops listed → LooseIn P ops C oi i a →
      (∀ v, wpAnyL P md ops C Q q k fuel (listed.setIfInBounds i true) (a.put oi.dst v) (upd L i v)) → wpAnyL P md ops C Q q k (fuel + 1) listed a L := by
  intro fuel
  induction fuel with
  | zero =>
    intro listed a L hc _ _ hr hy H
    refine .inr ⟨fun h => (by rw [h] at hr; cases hr), fun j hj => ?_⟩
    by_cases hji : j = i
    · subst hji; unfold lOp; simp only [hi]; rw [if_pos hiq]; exact ⟨hy, H⟩
    · have hjk := ready_lt hW hc hik hr hj
      have h1 := (H undef).1
      rw [allB_false hjk (by rw [getD_set_ne true (Ne.symm hji)]; exact (mem_ready.1 hj).1)] at h1
      cases h1
  | succ fuel ih =>
    intro listed a L hc hq hfree hr hy H
    refine .inr ⟨fun h => (by rw [h] at hr; cases hr), fun j hj => ?_⟩
    by_cases hji : j = i
    · subst hji; unfold lOp; simp only [hi]; rw [if_pos hiq]; exact ⟨hy, H⟩
    · have hjk := ready_lt hW hc hik hr hj
      obtain ⟨hjun, oj, hoj, _⟩ := mem_ready.1 hj
      have hqj : q ≤ j := by
        rcases Nat.lt_or_ge j q with h | h
        · rw [hq j h] at hjun; cases hjun
        · exact h
      obtain ⟨h1, h2, h3⟩ := Oper.apart_spec (hfree j oj hoj hji hjun (not_waits hr hoj hj))
      have hsi := fun cs b => hsel i oi cs b hi
      have hsj := fun cs b => hsel j oj cs b hoj
      have H' : ∀ v, LooseIn P ops C oj j a ∧ ∀ u, wpAnyL P md ops C Q q k fuel ((listed.setIfInBounds i true).setIfInBounds j true) ((a.put oi.dst v).put oj.dst u) (upd (upd L i v) j u) := fun v => by
        rcases H v with ⟨h4, _⟩ | ⟨_, h4⟩
        · rw [allB_false hjk (by rw [getD_set_ne true (Ne.symm hji)]; exact hjun)] at h4
          cases h4
        · have h5 := h4 j (ready_mono hj hji)
          unfold lOp at h5
          simp only [hoj] at h5
          rw [if_pos hqj] at h5
          exact ⟨h5.1.of_same (execOp_put oj hsj a oi.dst v h1).symm (wanted_put oj a oi.dst v h1).symm, h5.2⟩
      unfold lOp
      simp only [hoj]
      rw [if_pos hqj]
      refine ⟨(H' undef).1, fun u => ih (listed.setIfInBounds j true) (a.put oj.dst u) (upd L j u) (hc.set hj) (fun x hx => ?_) (free_keep hjun hfree) (ready_mono hr (Ne.symm hji)) (hy.of_same (execOp_put oi hsi a oj.dst u h3) (wanted_put oi a oj.dst u h3)) fun v => ?_⟩
      · rw [getD_set_ne true (by omega)]; exact hq x hx
      · rw [Array.setIfInBounds_comm _ _ hji, ← Act.put_comm a v u h2, ← upd_comm L (Ne.symm hji) v u]
        exact (H' v).2 u

/-- The walk in the order of the text. -/
def wpLoose (P : Program) (ops : Array Oper) (C : Marks → World → Prop) (q : Nat) (E : Act → Marks → Prop) : List Oper → Nat → Act → Marks → Prop
  | [], _, a, L => E a L
  | o :: rest, i, a, L => if q ≤ i then LooseIn P ops C o i a ∧ ∀ v, wpLoose P ops C q E rest (i + 1) (a.put o.dst v) (upd L i v) else ∃ v, YieldsL P ops C o v a ∧ wpLoose P ops C q E rest (i + 1) (a.put o.dst v) L
def lexTo (md : Region.Mode) (ops : Array Oper) : Nat → Nat → Array Bool → Bool
  | 0, _, _ => true
  | n + 1, p, listed => (Region.ready md ops listed).contains p && Region.free md ops listed p && lexTo md ops n (p + 1) (listed.setIfInBounds p true)
def setFrom : Nat → Nat → Array Bool → Array Bool
  | 0, _, listed => listed
  | n + 1, p, listed => setFrom n (p + 1) (listed.setIfInBounds p true)

theorem wpAnyL_lex (hW : Waits md ops k) (hs : Region.noSelect ops = true) (r : Nat) : ∀ (l : List Oper) (p : Nat) (listed : Array Bool) (a : Act) (L : Marks), (∀ j, j < l.length → l[j]? = ops[p + j]?) → p + l.length = k → k ≤ listed.size → Closed md ops listed →
    (∀ j, j < p → listed.getD j true = true) → lexTo md ops l.length p listed = true → wpLoose P ops C q (fun a' L' => ∀ w, C L' w → wpAny P md ops Q r (setFrom l.length p listed) a' w) l p a L → wpAnyL P md ops C Q q k (l.length + r) listed a L
  | [], p, listed, a, L, _, hk, hsz, _, hp, _, h => by
    have hall : allB k listed = true := List.all_eq_true.2 fun i hi => hp i (by have := List.mem_range.1 hi; simp at hk; omega)
    simp only [List.length_nil, Nat.zero_add]
    cases r with
    | zero => exact ⟨hall, h⟩
    | succ r => exact .inl ⟨hall, h⟩
  | o :: l, p, listed, a, L, hl, hk, hsz, hc, hp, hB, h => by
    have h0 : ops[p]? = some o := by simpa using (hl 0 (by simp)).symm
    simp only [List.length_cons, lexTo, Bool.and_eq_true] at hB
    obtain ⟨⟨hr, hf⟩, hB'⟩ := hB
    simp only [List.length_cons] at hk
    have hl' : ∀ j, j < l.length → l[j]? = ops[p + 1 + j]? := fun j hj => by have := hl (j + 1) (by simp; omega); simpa [Nat.add_assoc, Nat.add_comm 1 j] using this
    have hp' : ∀ j, j < p + 1 → (listed.setIfInBounds p true).getD j true = true := fun j hj => by
      by_cases hjp : p = j
      · subst hjp; simp [show p < listed.size by omega]
      · rw [getD_set_ne true hjp]; exact hp j (by omega)
    have hlen : (o :: l).length + r = (l.length + r) + 1 := by simp only [List.length_cons]; omega
    rw [hlen]
    unfold wpLoose at h
    split at h
    · rename_i hq
      exact wpAnyL_loose hW h0 hq (by omega) (Region.noSelect_spec hs) _ listed a L hc (fun j hj => hp j (by omega)) (Region.free_spec h0 hf) (by simpa using hr) h.1
        (fun v => wpAnyL_lex hW hs r l (p + 1) _ _ _ hl' (by omega) (by simpa using hsz) (hc.set (by simpa using hr)) hp' hB' (h.2 v))
    · rename_i hq
      obtain ⟨v, hy, hK⟩ := h
      exact wpAnyL_quiet hW h0 (by omega) (by omega) (Region.noSelect_spec hs) _ listed a L hc (Region.free_spec h0 hf) (by simpa using hr) hy
        (wpAnyL_lex hW hs r l (p + 1) _ _ _ hl' (by omega) (by simpa using hsz) (hc.set (by simpa using hr)) hp' hB' hK)

def waitsB (md : Region.Mode) (ops : Array Oper) (k : Nat) : Bool :=
  (List.range ops.size).all fun j => decide (j < k) || (List.range k).all fun i => reachB md ops 4 j i || reachB md ops 9 j i
theorem waitsB_spec (h : waitsB md ops k = true) : Waits md ops k := fun j oj i hj hkj hik => by
  have h1 := List.all_eq_true.1 h j (List.mem_range.2 (Array.getElem?_eq_some_iff.1 hj).1)
  simp only [Bool.or_eq_true, decide_eq_true_iff] at h1
  rcases h1 with h1 | h1
  · omega
  · have h2 := List.all_eq_true.1 h1 i (List.mem_range.2 hik)
    rw [Bool.or_eq_true] at h2
    rcases h2 with h2 | h2
    · exact ⟨_, h2⟩
    · exact ⟨_, h2⟩

theorem none_listed (n j : Nat) : (Array.replicate n false).getD j false = false := by
  rcases Nat.lt_or_ge j n with h | h <;> simp [h]
/-- **One walk of the text's order**: the first q operations yield one value each, those up to k make what is new, the rest waits for them. -/
theorem region_loose {id : Nat} {a : Act} {w : World} {l : List Oper} (C : Marks → World → Prop) (q k r : Nat) (done : Array Bool) (hr : k + r = l.length) (hd : setFrom k 0 (Array.replicate l.length false) = done) (hm : P.follows .mixedOrders = true)
    (hB : (Region.noSelect l.toArray && (waitsB .any l.toArray k && (decide (k ≤ l.length) && lexTo .any l.toArray k 0 (Array.replicate l.length false)))) = true) (hC : C (fun _ => none) w.drew)
    (h : wpLoose P l.toArray C q (fun a' L' => ∀ w', C L' w' → wpAny P .any l.toArray Q r done a' w') (l.take k) 0 a (fun _ => none)) : (Code.region id l.toArray true).wp P Q a w := by
  subst hd
  obtain rfl : r = l.length - k := by omega
  simp only [Bool.and_eq_true, decide_eq_true_iff] at hB
  obtain ⟨h1, h2, h3, h4⟩ := hB
  have hlen : (l.take k).length = k := by simp; omega
  refine wp_region_any hm ?_
  have := wpAnyL_lex (Q := Q) (C := C) (q := q) (waitsB_spec h2) h1 (l.length - k) (l.take k) 0 (Array.replicate l.length false) a (fun _ => none) (fun j hj => by simp at hj; simp [show j < k by omega]) (by omega) (by simp; omega) (fun j oj _ hl => by rw [none_listed] at hl; cases hl) (fun j hj => by omega) (by rw [hlen]; exact h4) (by rw [hlen]; exact h)
  rw [hlen, show k + (l.length - k) = l.length by omega] at this
  have := wpAny_of_L _ _ _ _ _ hC this
  simpa using this
end

section
variable {P : Program} {ops : Array Oper} {C : Marks → World → Prop} {q i : Nat} {a : Act} {L : Marks} {o : Oper} {rest : List Oper} {E : Act → Marks → Prop}
theorem loose_val (hq : i < q) (hg : o.guard = none) (h : ∃ v, (∀ L w, C L w → (execOp a.eval o).run P w = .ok (.value v) w) ∧ wpLoose P ops C q E rest (i + 1) (a.put o.dst v) L) : wpLoose P ops C q E (o :: rest) i a L := by
  obtain ⟨v, h1, h2⟩ := h
  unfold wpLoose
  rw [if_neg (by omega)]
  exact ⟨v, .inl ⟨by simp [Region.wanted, hg], fun L w hw => by unfold Oper.quietAt; rw [h1 L w hw]; exact ⟨rfl, rfl⟩⟩, h2⟩
theorem loose_call (hq : i < q) (hg : o.guard = none) (h : ∃ f args, (∀ w, (execOp a.eval o).run P w = .ok (.enter f args) w) ∧ ∃ v, (∀ L w, C L w → Calls P f args w fun e w' => e = .returned v ∧ C L w') ∧ wpLoose P ops C q E rest (i + 1) (a.put o.dst v) L) : wpLoose P ops C q E (o :: rest) i a L := by
  obtain ⟨f, args, hr, v, h1, h2⟩ := h
  unfold wpLoose
  rw [if_neg (by omega)]
  exact ⟨v, .inl ⟨by simp [Region.wanted, hg], fun L w hw => by unfold Oper.quietAt; rw [hr w]; exact ⟨rfl, h1 L w hw⟩⟩, h2⟩
theorem loose_new (hq : q ≤ i) (hg : o.guard = none) (h1 : ∀ L w, C L w → ∃ v w', (execOp a.eval o).run P w = .ok (.value v) w' ∧ C (upd L i v) w') (h2 : ∀ v, wpLoose P ops C q E rest (i + 1) (a.put o.dst v) (upd L i v)) : wpLoose P ops C q E (o :: rest) i a L := by
  unfold wpLoose
  rw [if_pos hq]
  exact ⟨⟨by simp [Region.wanted, hg], fun L w hw => by obtain ⟨v, w', hr, hc⟩ := h1 L w hw; rw [hr]; exact hc⟩, h2⟩
end
end Go.Proofs.YtknhkmlihbgjpaaDoor
/- A region that draws its order, in which only operations that look are free: they may be taken first, in every world of a class; the others come up one by one. -/
namespace Go.Proofs.YtknhkmlihbgjpaaDoor
open Go

theorem at_drop {l : List Oper} {i : Nat} {o : Oper} {tl : List Oper} (h : l.drop i = o :: tl) : l.toArray[i]? = some o := by
  rw [List.getElem?_toArray, ← List.head?_drop, h]; rfl
section
variable {P : Program} {md : Region.Mode} {l tl : List Oper} {Q : Exit → Act → World → Prop} {S : World → Prop} {fuel : Nat} {listed : Array Bool} {a : Act} {w : World}
/-- A narrower class from here on. -/
theorem held_mono {ops : Array Oper} {S1 : World → Prop} (hm : ∀ w, S1 w → S w) : ∀ {fuel : Nat} {listed : Array Bool} {a : Act} {w : World}, wpAnyH P md ops Q S1 fuel listed a w → wpAnyH P md ops Q S fuel listed a w
  | 0, _, _, _, h => h
  | _ + 1, _, _, _, h => ⟨h.1, fun i hi => wpOp_mono (fun _ _ h' => ⟨hm _ h'.1, held_mono hm h'.2⟩) (h.2 i hi)⟩
/-- One that looks, and is wanted. -/
theorem held_val (i : Nat) {o : Oper} (hi : l.drop i = o :: tl) (hs : Region.noSelect l.toArray = true) (hf : Region.free md l.toArray listed i = true) (hr : (Region.ready md l.toArray listed).contains i = true)
    (hQ : ∀ c v a w, Q (.panic c) (a.put o.dst v) w → Q (.panic c) a w) (hw : Region.wanted o (yielded l.toArray a.tmps) = true) (hS : S w)
    (h : ∃ v, (∀ w, S w → (execOp a.eval o).run P w = .ok (.value v) w) ∧ wpAnyH P md l.toArray Q S fuel (listed.setIfInBounds i true) (a.put o.dst v) w) : wpAnyH P md l.toArray Q S (fuel + 1) listed a w := by
  obtain ⟨v, h1, h2⟩ := h
  exact wpAnyH_take (at_drop hi) hs hf hr (fun c a w => hQ c v a w) (.inl ⟨hw, h1⟩) hS h2
/-- One that isn't wanted. -/
theorem held_skip (i : Nat) {o : Oper} (hi : l.drop i = o :: tl) (hs : Region.noSelect l.toArray = true) (hf : Region.free md l.toArray listed i = true) (hr : (Region.ready md l.toArray listed).contains i = true)
    (hQ : ∀ c v a w, Q (.panic c) (a.put o.dst v) w → Q (.panic c) a w) (hw : Region.wanted o (yielded l.toArray a.tmps) = false) (hS : S w)
    (h : wpAnyH P md l.toArray Q S fuel (listed.setIfInBounds i true) (a.put o.dst undef) w) : wpAnyH P md l.toArray Q S (fuel + 1) listed a w :=
  wpAnyH_take (at_drop hi) hs hf hr (fun c a w => hQ c undef a w) (.inr ⟨hw, rfl⟩) hS h
/-- The only one that may come up now. -/
theorem held_one (i : Nat) {o : Oper} (hr : Region.ready md l.toArray listed = [i]) (hi : l.drop i = o :: tl) (hw : Region.wanted o (yielded l.toArray a.tmps) = true)
    (h : o.wp P a w (fun a' w' => S w' ∧ wpAnyH P md l.toArray Q S fuel (listed.setIfInBounds i true) a' w') Q) : wpAnyH P md l.toArray Q S (fuel + 1) listed a w := by
  refine wpAnyH_all hr (by simp) fun j hj => ?_
  obtain rfl := List.mem_singleton.1 hj
  unfold wpOp
  simp only [at_drop hi, hw, if_true]
  exact .inl h
/-- The same, one that looks. -/
theorem held_now (i : Nat) {o : Oper} (hr : Region.ready md l.toArray listed = [i]) (hi : l.drop i = o :: tl) (hw : Region.wanted o (yielded l.toArray a.tmps) = true) (hS : S w)
    (h : ∃ v, (execOp a.eval o).run P w = .ok (.value v) w ∧ wpAnyH P md l.toArray Q S fuel (listed.setIfInBounds i true) (a.put o.dst v) w) : wpAnyH P md l.toArray Q S (fuel + 1) listed a w := by
  obtain ⟨v, h1, h2⟩ := h
  refine held_one i hr hi hw ?_
  unfold Oper.wp
  rw [h1]
  exact ⟨hS, h2⟩
/-- The same, a call. -/
theorem held_call (i : Nat) {o : Oper} (hr : Region.ready md l.toArray listed = [i]) (hi : l.drop i = o :: tl) (hw : Region.wanted o (yielded l.toArray a.tmps) = true)
    (h : ∃ f args, (execOp a.eval o).run P w = .ok (.enter f args) w ∧ Calls P f args w fun e w' => ∃ v, e = .returned v ∧ S w' ∧ wpAnyH P md l.toArray Q S fuel (listed.setIfInBounds i true) (a.put o.dst v) w') : wpAnyH P md l.toArray Q S (fuel + 1) listed a w := by
  obtain ⟨f, args, h1, h2⟩ := h
  refine held_one i hr hi hw ?_
  unfold Oper.wp
  rw [h1]
  simp only [Oper.upon]
  exact h2.mono fun e w' ⟨v, he, h3⟩ => by subst he; exact h3
theorem held_two (i j : Nat) {o o2 : Oper} {tl2 : List Oper} (hr : Region.ready md l.toArray listed = [i, j]) (hi : l.drop i = o :: tl) (hj : l.drop j = o2 :: tl2) (hw : Region.wanted o (yielded l.toArray a.tmps) = true) (hw2 : Region.wanted o2 (yielded l.toArray a.tmps) = true)
    (h : o.wp P a w (fun a' w' => S w' ∧ wpAnyH P md l.toArray Q S fuel (listed.setIfInBounds i true) a' w') Q) (h2 : o2.wp P a w (fun a' w' => S w' ∧ wpAnyH P md l.toArray Q S fuel (listed.setIfInBounds j true) a' w') Q) : wpAnyH P md l.toArray Q S (fuel + 1) listed a w := by
  refine wpAnyH_all hr (by simp) fun k hk => ?_
  simp at hk
  rcases hk with rfl | rfl
  · unfold wpOp
    simp only [at_drop hi, hw, if_true]
    exact .inl h
  · unfold wpOp
    simp only [at_drop hj, hw2, if_true]
    exact .inl h2
end
end Go.Proofs.YtknhkmlihbgjpaaDoor
