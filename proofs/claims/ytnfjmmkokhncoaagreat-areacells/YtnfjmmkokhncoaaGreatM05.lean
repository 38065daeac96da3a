-- M05
import Derived.Test.YtnfjmmkokhncoaaGreatProg
import Derived.Deep.QuietTactic
import Derived.BigQuiet
import Derived.Below
import Derived.Test.YtnfjmmkokhncoaaGreatM04
import Derived.OrdersHeld
section
namespace Go.Proofs.YtnfjmmkokhncoaaGreat
open Go.RowKit

section
variable {P : Program} {md : Region.Mode} {ops : Array Oper} {S : Array Bool → World → Prop}

/-- What an operation may come to: this value, in a world of the class. -/
def dUpon (C : World → Prop) (v : Value) : Result Next → Prop
  | .ok (.value u) w' => u = v ∧ C w'
  | .ok .skip w' => v = undef ∧ C w'
  | _ => False
/-- Whenever it may come up, it has this value. -/
def DYields (P : Program) (md : Region.Mode) (ops : Array Oper) (S : Array Bool → World → Prop) (i : Nat) (o : Oper) (v : Value) (a : Act) : Prop :=
  Region.wanted o (yielded ops a.tmps) = true ∧ ∀ listed w, i ∈ Region.ready md ops listed → S listed w → dUpon (S (listed.setIfInBounds i true)) v ((execOp a.eval o).run P w)
def wpAnyD (P : Program) (md : Region.Mode) (ops : Array Oper) (S : Array Bool → World → Prop) (Q : Array Bool → Act → Prop) : Nat → Array Bool → Act → Prop
  | 0, listed, a => Region.ready md ops listed = [] ∧ Q listed a
  | f + 1, listed, a => Region.ready md ops listed ≠ [] ∧ ∀ i ∈ Region.ready md ops listed, ∃ o v, ops[i]? = some o ∧ DYields P md ops S i o v a ∧ wpAnyD P md ops S Q f (listed.setIfInBounds i true) (a.put o.dst v)

theorem wpAny_of_det {Q : Array Bool → Act → Prop} {Q' : Exit → Act → World → Prop} (hQ : ∀ l a w, S l w → Q l a → Q' .normal a w) :
    ∀ (f : Nat) (listed : Array Bool) (a : Act) (w : World), S listed w → wpAnyD P md ops S Q f listed a → wpAny P md ops Q' f listed a w
  | 0, _, _, _, hS, h => ⟨h.1, hQ _ _ _ hS h.2⟩
  | f + 1, listed, a, w, hS, h => by
    refine ⟨fun h0 => absurd h0 h.1, fun i hi => ?_⟩
    obtain ⟨o, v, ho, ⟨hw, hy⟩, hr⟩ := h.2 i hi
    have h1 := hy listed w hi hS
    unfold wpOp
    simp only [ho, hw, if_true]
    refine Or.inl ?_
    unfold Oper.wp
    generalize (execOp a.eval o).run P w = r at *
    cases r with
    | ok n w' =>
      cases n <;> simp only [dUpon] at h1 <;> simp only [Oper.upon]
      case value u => rw [h1.1]; exact wpAny_of_det hQ f _ _ _ h1.2 hr
      case skip => rw [← h1.1]; exact wpAny_of_det hQ f _ _ _ h1.2 hr
    | halt x w' => simp only [dUpon] at h1

theorem DYields.of_same {i : Nat} {o : Oper} {v : Value} {a a' : Act} (hy : DYields P md ops S i o v a) (he : execOp a'.eval o = execOp a.eval o)
    (hw : Region.wanted o (yielded ops a'.tmps) = Region.wanted o (yielded ops a.tmps)) : DYields P md ops S i o v a' := by
  unfold DYields at *
  rw [he, hw]
  exact hy

/-- One that may come up may be taken first. -/
theorem wpAnyD_first {Q : Array Bool → Act → Prop} {i : Nat} {oi : Oper} {v : Value} (hi : ops[i]? = some oi) (hsel : ∀ (j : Nat) (o : Oper) cs b, ops[j]? = some o → o.op ≠ .select cs b) :
    ∀ (f : Nat) (listed : Array Bool) (a : Act),
      (∀ j oj, ops[j]? = some oj → j ≠ i → listed.getD j true = false → (∀ e ∈ oj.after, Region.binds md e = true → e.on ≠ i) → oi.apart ops oj = true) →
      i ∈ Region.ready md ops listed → DYields P md ops S i oi v a →
      wpAnyD P md ops S Q f (listed.setIfInBounds i true) (a.put oi.dst v) → wpAnyD P md ops S Q (f + 1) listed a := by
  intro f
  induction f with
  | zero =>
    intro listed a _ hr hy H
    refine ⟨fun h => (by rw [h] at hr; cases hr), fun j hj => ?_⟩
    by_cases hji : j = i
    · subst hji; exact ⟨oi, v, hi, hy, H⟩
    · have h1 := ready_mono hj hji
      rw [H.1] at h1
      cases h1
  | succ f ih =>
    intro listed a hfree hr hy H
    refine ⟨fun h => (by rw [h] at hr; cases hr), fun j hj => ?_⟩
    by_cases hji : j = i
    · subst hji; exact ⟨oi, v, hi, hy, H⟩
    · obtain ⟨oj, u, hoj, hyj, hn⟩ := H.2 j (ready_mono hj hji)
      obtain ⟨hjun, oj', hoj', hall⟩ := mem_ready.1 hj
      obtain rfl : oj' = oj := by rw [hoj] at hoj'; exact (Option.some.inj hoj').symm
      have hnot : ∀ e ∈ oj'.after, Region.binds md e = true → e.on ≠ i := fun e he hb heq => by
        have h1 := hall e he hb
        have h0 := (mem_ready.1 hr).1
        rw [heq] at h1
        rcases Nat.lt_or_ge i listed.size with h' | h'
        · simp [h'] at h0 h1; rw [h0] at h1; cases h1
        · simp [Array.getElem?_eq_none h'] at h1
      obtain ⟨a1, a2, a3⟩ := Oper.apart_spec (hfree j oj' hoj hji hjun hnot)
      have hsi : ∀ cs b, oi.op ≠ .select cs b := fun cs b => hsel i oi cs b hi
      have hsj : ∀ cs b, oj'.op ≠ .select cs b := fun cs b => hsel j oj' cs b hoj
      have hyj' : DYields P md ops S j oj' u a := hyj.of_same (execOp_put oj' hsj a oi.dst v a1).symm (wanted_put oj' a oi.dst v a1).symm
      have hyi' : DYields P md ops S i oi v (a.put oj'.dst u) := hy.of_same (execOp_put oi hsi a oj'.dst u a3) (wanted_put oi a oj'.dst u a3)
      refine ⟨oj', u, hoj, hyj', ih _ _ (fun k ok hk hki hun hno => ?_) (ready_mono hr (Ne.symm hji)) hyi' ?_⟩
      · refine hfree k ok hk hki ?_ hno
        by_cases hjk : j = k
        · subst hjk; exact hjun
        · rw [getD_set_ne true hjk] at hun; exact hun
      · rw [Array.setIfInBounds_comm _ _ hji, ← Act.put_comm a v u a2]
        exact hn

/-- The walk in one order. -/
def wpD (P : Program) (md : Region.Mode) (L : List Oper) (S : Array Bool → World → Prop) (Q : Act → Prop) : List Nat → Act → Prop
  | [], a => Q a
  | k :: r, a => ∃ o v, L[k]? = some o ∧ DYields P md L.toArray S k o v a ∧ wpD P md L S Q r (a.put o.dst v)
def turnD (md : Region.Mode) (ops : Array Oper) (s : Nat) : List Nat → Array Bool → Bool
  | [], listed => (Region.ready md ops listed).isEmpty && listed.getD s false
  | k :: r, listed => (Region.ready md ops listed).contains k && Region.free md ops listed k && turnD md ops s r (listed.setIfInBounds k true)
theorem wpAnyD_turn {Q : Act → Prop} {s : Nat} {L : List Oper} (hs : Region.noSelect L.toArray = true) : ∀ (js : List Nat) (listed : Array Bool) (a : Act), turnD md L.toArray s js listed = true → wpD P md L S Q js a →
    wpAnyD P md L.toArray S (fun l a => l.getD s false = true ∧ Q a) js.length listed a
  | [], listed, a, hB, h => by
    simp only [turnD, Bool.and_eq_true] at hB
    exact ⟨by simpa using hB.1, hB.2, h⟩
  | k :: r, listed, a, hB, h => by
    simp only [turnD, Bool.and_eq_true] at hB
    obtain ⟨⟨hr, hf⟩, hB'⟩ := hB
    obtain ⟨o, v, ho, hy, hn⟩ := h
    have ho : L.toArray[k]? = some o := by simpa using ho
    exact wpAnyD_first ho (Region.noSelect_spec hs) r.length listed a (Region.free_spec ho hf) (by simpa using hr) hy (wpAnyD_turn hs r _ _ hB' hn)

/-- What stands behind what has come up. -/
def ClosedD (md : Region.Mode) (ops : Array Oper) (listed : Array Bool) : Prop := ∀ j o, ops[j]? = some o → listed.getD j false = true → ∀ e ∈ o.after, Region.binds md e = true → listed.getD e.on false = true
def ancB (md : Region.Mode) (ops : Array Oper) : Nat → Nat → Nat → Bool
  | 0, _, _ => false
  | f + 1, k, j => match ops[k]? with
    | none => false
    | some o => o.after.any fun e => Region.binds md e && (e.on == j || ancB md ops f e.on j)
theorem anc_ready {listed : Array Bool} (hc : ClosedD md ops listed) : ∀ (f k j : Nat), (∀ o, ops[k]? = some o → ∀ e ∈ o.after, Region.binds md e = true → listed.getD e.on false = true) → ancB md ops f k j = true → listed.getD j false = true
  | 0, _, _, _, h => by cases h
  | f + 1, k, j, hk, h => by
    unfold ancB at h
    cases ho : ops[k]? with
    | none => rw [ho] at h; cases h
    | some o =>
      rw [ho] at h
      obtain ⟨e, he, hb⟩ := Array.any_eq_true'.1 h
      simp only [Bool.and_eq_true, Bool.or_eq_true, beq_iff_eq] at hb
      obtain ⟨hb1, hb2⟩ := hb
      have h1 := hk o ho e he hb1
      rcases hb2 with hb2 | hb2
      · rw [← hb2]; exact h1
      · exact anc_ready hc f e.on j (fun o' ho' => hc e.on o' ho' h1) hb2
theorem anc_listed {listed : Array Bool} (hc : ClosedD md ops listed) {f k j : Nat} (hk : listed.getD k false = true) (h : ancB md ops f k j = true) : listed.getD j false = true :=
  anc_ready hc f k j (fun o ho => hc k o ho hk) h
theorem ready_no {listed : Array Bool} {k : Nat} (h : k ∈ Region.ready md ops listed) : listed.getD k false = false ∧ k < listed.size := by
  have h0 := (mem_ready.1 h).1
  rcases Nat.lt_or_ge k listed.size with h' | h'
  · refine ⟨?_, h'⟩
    simp [h'] at h0 ⊢; exact h0
  · simp [Array.getElem?_eq_none h'] at h0
theorem getD_set_is {listed : Array Bool} {k : Nat} (h : k < listed.size) : (listed.setIfInBounds k true).getD k false = true := by simp [h]
theorem ClosedD.set {listed : Array Bool} {k : Nat} (hc : ClosedD md ops listed) (h : k ∈ Region.ready md ops listed) : ClosedD md ops (listed.setIfInBounds k true) := by
  intro j o ho hj e he hb
  by_cases hjk : k = j
  · subst hjk
    obtain ⟨_, o', ho', hall⟩ := mem_ready.1 h
    obtain rfl : o' = o := by rw [ho] at ho'; exact (Option.some.inj ho').symm
    exact getD_set_true (hall e he hb)
  · rw [getD_set_ne false hjk] at hj
    exact getD_set_true (hc j o ho hj e he hb)

/-- Two stores, s1 and s2: the worlds ahead of both, between them, behind both. -/
def twoS (md : Region.Mode) (ops : Array Oper) (s1 s2 : Nat) (D0 D1 D2 : World → Prop) (listed : Array Bool) (w : World) : Prop :=
  ClosedD md ops listed ∧ (if listed.getD s2 false = true then D2 w else if listed.getD s1 false = true then D1 w else D0 w)
variable {s1 s2 : Nat} {D0 D1 D2 : World → Prop}
theorem two_early {k : Nat} {o : Oper} {v : Value} {a : Act} (f : Nat) (h1 : ancB md ops f s1 k = true) (h2 : ancB md ops f s2 k = true) (n1 : (k == s1) = false) (n2 : (k == s2) = false) (hw : Region.wanted o (yielded ops a.tmps) = true)
    (h : ∀ w, D0 w → (execOp a.eval o).run P w = .ok (.value v) w) : DYields P md ops (twoS md ops s1 s2 D0 D1 D2) k o v a := by
  refine ⟨hw, fun listed w hr ⟨hc, hS⟩ => ?_⟩
  obtain ⟨hno, _⟩ := ready_no hr
  have e1 : listed.getD s1 false = false := by
    cases hx : listed.getD s1 false with
    | false => rfl
    | true => rw [anc_listed hc hx h1] at hno; cases hno
  have e2 : listed.getD s2 false = false := by
    cases hx : listed.getD s2 false with
    | false => rfl
    | true => rw [anc_listed hc hx h2] at hno; cases hno
  rw [e1, e2] at hS
  rw [h w hS]
  refine ⟨rfl, hc.set hr, ?_⟩
  rw [getD_set_ne false (by simpa using n2), getD_set_ne false (by simpa using n1), e1, e2]
  exact hS
theorem two_mid {k : Nat} {o : Oper} {v : Value} {a : Act} (f : Nat) (h2 : ancB md ops f s2 k = true) (n1 : (k == s1) = false) (n2 : (k == s2) = false) (hw : Region.wanted o (yielded ops a.tmps) = true)
    (h : ∀ w, D0 w ∨ D1 w → (execOp a.eval o).run P w = .ok (.value v) w) : DYields P md ops (twoS md ops s1 s2 D0 D1 D2) k o v a := by
  refine ⟨hw, fun listed w hr ⟨hc, hS⟩ => ?_⟩
  obtain ⟨hno, _⟩ := ready_no hr
  have e2 : listed.getD s2 false = false := by
    cases hx : listed.getD s2 false with
    | false => rfl
    | true => rw [anc_listed hc hx h2] at hno; cases hno
  rw [e2] at hS
  simp only [Bool.false_eq_true, if_false] at hS
  have hD : D0 w ∨ D1 w := by
    split at hS
    · exact Or.inr hS
    · exact Or.inl hS
  rw [h w hD]
  refine ⟨rfl, hc.set hr, ?_⟩
  rw [getD_set_ne false (by simpa using n2), getD_set_ne false (by simpa using n1), e2]
  simpa using hS
theorem two_one {o : Oper} {a : Act} (f : Nat) (h2 : ancB md ops f s2 s1 = true) (n1 : (s1 == s2) = false) (hw : Region.wanted o (yielded ops a.tmps) = true)
    (h : ∀ w, D0 w → ∃ w', (execOp a.eval o).run P w = .ok .skip w' ∧ D1 w') : DYields P md ops (twoS md ops s1 s2 D0 D1 D2) s1 o undef a := by
  refine ⟨hw, fun listed w hr ⟨hc, hS⟩ => ?_⟩
  obtain ⟨hno, hlt⟩ := ready_no hr
  have e2 : listed.getD s2 false = false := by
    cases hx : listed.getD s2 false with
    | false => rfl
    | true => rw [anc_listed hc hx h2] at hno; cases hno
  rw [e2, hno] at hS
  obtain ⟨w', hw', hd⟩ := h w hS
  rw [hw']
  refine ⟨rfl, hc.set hr, ?_⟩
  rw [getD_set_ne false (by simpa using n1), e2, getD_set_is hlt]
  exact hd
theorem two_two {o : Oper} {a : Act} (f : Nat) (h1 : ancB md ops f s2 s1 = true) (hw : Region.wanted o (yielded ops a.tmps) = true)
    (h : ∀ w, D1 w → ∃ w', (execOp a.eval o).run P w = .ok .skip w' ∧ D2 w') : DYields P md ops (twoS md ops s1 s2 D0 D1 D2) s2 o undef a := by
  refine ⟨hw, fun listed w hr ⟨hc, hS⟩ => ?_⟩
  obtain ⟨hno, hlt⟩ := ready_no hr
  have e1 : listed.getD s1 false = true := anc_ready hc f s2 s1 (fun o ho e he hb => by
    obtain ⟨_, o', ho', hall⟩ := mem_ready.1 hr
    obtain rfl : o' = o := by rw [ho] at ho'; exact (Option.some.inj ho').symm
    exact hall e he hb) h1
  rw [hno, e1] at hS
  obtain ⟨w', hw', hd⟩ := h w hS
  rw [hw']
  refine ⟨rfl, hc.set hr, ?_⟩
  rw [getD_set_is hlt]
  exact hd
/-- The whole region. -/
theorem region_two {id : Nat} {L : List Oper} {Q : Exit → Act → World → Prop} {a : Act} {w : World} (s1 s2 : Nat) (D0 D1 D2 : World → Prop) (js : List Nat) (hm : P.follows .mixedOrders = true) (hs : Region.noSelect L.toArray = true) (hl : js.length = L.length)
    (hB : turnD .any L.toArray s2 js (Array.replicate L.length false) = true) (hD : D0 w.drew)
    (h : wpD P .any L (twoS .any L.toArray s1 s2 D0 D1 D2) (fun a' => ∀ w', D2 w' → Q .normal a' w') js a) : (Code.region id L.toArray true).wp P Q a w := by
  refine wp_region_any hm ?_
  have h1 := wpAnyD_turn (s := s2) hs js _ a hB h
  rw [hl] at h1
  refine wpAny_of_det (S := twoS .any L.toArray s1 s2 D0 D1 D2) (Q := fun l a => l.getD s2 false = true ∧ ∀ w', D2 w' → Q .normal a w') (fun l a w hS hQ => ?_) _ _ _ _ ?_ (by simpa using h1)
  · obtain ⟨_, hS⟩ := hS
    rw [hQ.1] at hS
    exact hQ.2 _ hS
  · refine ⟨fun j o _ hj => ?_, ?_⟩
    · simp [Array.getElem?_replicate] at hj
      split at hj <;> simp at hj
    · have hno : ∀ s, (Array.replicate L.length false).getD s false = false := fun s => by
        simp only [Array.getD_eq_getD_getElem?, Array.getElem?_replicate]
        split <;> rfl
      simp only [List.size_toArray, hno, Bool.false_eq_true, if_false]
      exact hD
end
end Go.Proofs.YtnfjmmkokhncoaaGreat
end

section
namespace Go.Proofs.YtnfjmmkokhncoaaGreat
open Go.RowKit

section
variable {P : Program} {md : Region.Mode} {ops : Array Oper} {Q : Exit → Act → World → Prop} {s : Nat} {D : World → Prop}

/-- Whatever order is picked from here on; until s has come up, the worlds are of the class. -/
def wpAnyJ (P : Program) (md : Region.Mode) (ops : Array Oper) (Q : Exit → Act → World → Prop) (s : Nat) (D : World → Prop) : Nat → Array Bool → Act → World → Prop
  | 0, l, a, w => Region.ready md ops l = [] ∧ Q .normal a w
  | f + 1, l, a, w => (Region.ready md ops l = [] → Q .normal a w) ∧ ∀ i ∈ Region.ready md ops l, wpOp P ops Q i (fun a' w' => ((l.setIfInBounds i true).getD s false = false → D w') ∧ wpAnyJ P md ops Q s D f (l.setIfInBounds i true) a' w') a w
theorem wpAny_of_J : ∀ (f : Nat) (l : Array Bool) (a : Act) (w : World), wpAnyJ P md ops Q s D f l a w → wpAny P md ops Q f l a w
  | 0, _, _, _, h => h
  | f + 1, _, _, _, h => ⟨h.1, fun i hi => wpOp_mono (fun a' w' h' => wpAny_of_J f _ a' w' h'.2) (h.2 i hi)⟩
/-- One that may come up, and has one value in the worlds that it may come up in, may be taken first. -/
theorem wpAnyJ_first {E : World → Prop} {i : Nat} {oi : Oper} {v : Value} (hi : ops[i]? = some oi) (his : i ≠ s) (hsel : ∀ (j : Nat) (o : Oper) cs b, ops[j]? = some o → o.op ≠ .select cs b)
    (hQ : ∀ c a w, Q (.panic c) (a.put oi.dst v) w → Q (.panic c) a w) (hE : ∀ l w, ClosedD md ops l → i ∈ Region.ready md ops l → (l.getD s false = false → D w) → E w) :
    ∀ (f : Nat) (l : Array Bool) (a : Act) (w : World), ClosedD md ops l → (l.getD s false = false → D w) →
      (∀ j oj, ops[j]? = some oj → j ≠ i → l.getD j true = false → (∀ e ∈ oj.after, Region.binds md e = true → e.on ≠ i) → oi.apart ops oj = true) →
      i ∈ Region.ready md ops l → YieldsIf P ops E oi v a →
      wpAnyJ P md ops Q s D f (l.setIfInBounds i true) (a.put oi.dst v) w → wpAnyJ P md ops Q s D (f + 1) l a w := by
  intro f
  induction f with
  | zero =>
    intro l a w hc hD _ hr hy H
    refine ⟨fun h => (by rw [h] at hr; cases hr), fun j hj => ?_⟩
    by_cases hji : j = i
    · subst hji
      exact hy.wpOp hi (hE l w hc hr hD) ⟨fun h => hD (by rw [getD_set_ne false his] at h; exact h), H⟩
    · have := ready_mono hj hji
      rw [H.1] at this
      cases this
  | succ f ih =>
    intro l a w hc hD hfree hr hy H
    refine ⟨fun h => (by rw [h] at hr; cases hr), fun j hj => ?_⟩
    by_cases hji : j = i
    · subst hji
      exact hy.wpOp hi (hE l w hc hr hD) ⟨fun h => hD (by rw [getD_set_ne false his] at h; exact h), H⟩
    · have h1 := H.2 j (ready_mono hj hji)
      obtain ⟨hjun, oj, hoj, hall⟩ := mem_ready.1 hj
      have hnot : ∀ e ∈ oj.after, Region.binds md e = true → e.on ≠ i := fun e he hb heq => by
        have h1 := hall e he hb
        have h0 := (ready_no hr).1
        rw [heq, h0] at h1
        cases h1
      have h2 := wpOp_putIf hoj (hfree j oj hoj hji hjun hnot) (fun cs b => hsel i oi cs b hi) (fun cs b => hsel j oj cs b hoj) hQ hy h1
      refine wpOp_mono (fun a' w' h3 => ?_) h2
      obtain ⟨hy', hD', H'⟩ := h3
      have hD2 : (l.setIfInBounds j true).getD s false = false → D w' := fun h => hD' (by rw [Array.setIfInBounds_comm _ _ (Ne.symm hji), getD_set_ne false his]; exact h)
      refine ⟨hD2, ih _ a' w' (hc.set hj) hD2 (fun k ok hk hki hun hno => ?_) (ready_mono hr (Ne.symm hji)) hy' ?_⟩
      · refine hfree k ok hk hki ?_ hno
        by_cases hjk : j = k
        · subst hjk; exact hjun
        · rw [getD_set_ne true hjk] at hun; exact hun
      · rw [Array.setIfInBounds_comm _ _ hji]
        exact H'

/-- The sequence's walk. Kinds: 0 alone may come up, ahead of s; 1 the same in every world; 2 the same in every world of the class; 3 alone may come up, s or behind it. -/
def wpSq (P : Program) (L : List Oper) (Q : Exit → Act → World → Prop) (D : World → Prop) : List (Nat × Nat) → Act → World → Prop
  | [], a, w => Q .normal a w
  | (k, 0) :: r, a, w => ∃ o, L[k]? = some o ∧ Region.wanted o (yielded L.toArray a.tmps) = true ∧ ∀ K : Act → World → Prop, (∀ a w, D w → wpSq P L Q D r a w → K a w) → Oper.wp P o a w K Q
  | (k, 1) :: r, a, w => ∃ o v, L[k]? = some o ∧ Region.wanted o (yielded L.toArray a.tmps) = true ∧ (∀ w, (execOp a.eval o).run P w = .ok (.value v) w) ∧ wpSq P L Q D r (a.put o.dst v) w
  | (k, 2) :: r, a, w => ∃ o v, L[k]? = some o ∧ Region.wanted o (yielded L.toArray a.tmps) = true ∧ (∀ w, D w → (execOp a.eval o).run P w = .ok (.value v) w) ∧ wpSq P L Q D r (a.put o.dst v) w
  | (k, _) :: r, a, w => ∃ o, L[k]? = some o ∧ Region.wanted o (yielded L.toArray a.tmps) = true ∧ ∀ K : Act → World → Prop, (∀ a w, wpSq P L Q D r a w → K a w) → Oper.wp P o a w K Q
def kindB (md : Region.Mode) (L : List Oper) (s m k : Nat) (o : Oper) : Nat → Bool
  | 0 => oneB md L m k && !(k == s) && !m.testBit s
  | 1 => freeB md L m k o && !(k == s)
  | 2 => freeB md L m k o && !(k == s) && ancB md L.toArray L.length s k
  | _ => oneB md L m k && (k == s || m.testBit s)
def sqB (md : Region.Mode) (L : List Oper) (s : Nat) : List (Nat × Nat) → Nat → Bool
  | [], m => allFrom (fun j _ => m.testBit j) 0 L
  | (k, p) :: r, m => (match L[k]? with | none => false | some o => !m.testBit k && upB md m o && kindB md L s m k o p) && sqB md L s r (m ||| 2 ^ k)
theorem one_ready {L : List Oper} {n m k j : Nat} {l : Array Bool} (hM : Marks n l m) (hn : L.length = n) (h : oneB md L m k = true) (hj : j ∈ Region.ready md L.toArray l) : j = k := by
  apply Classical.byContradiction
  intro hne
  obtain ⟨_, oj, hoj, _⟩ := mem_ready.1 hj
  have hj' : L[j]? = some oj := by simpa using hoj
  obtain ⟨g1, g2⟩ := ready_up hM hn hj' hj
  have := allFrom_at h hj'
  rw [Nat.zero_add] at this
  simp [hne, g1, g2] at this
theorem free_of {L : List Oper} {n m k : Nat} {l : Array Bool} {o : Oper} (hM : Marks n l m) (hn : L.length = n) (h : freeB md L m k o = true) (j : Nat) (oj : Oper) (hj : L.toArray[j]? = some oj) (hne : j ≠ k) (hun : l.getD j true = false) (hno : ∀ e ∈ oj.after, Region.binds md e = true → e.on ≠ k) : o.apart L.toArray oj = true := by
  have hj' : L[j]? = some oj := by simpa using hj
  have hjn : j < n := by rw [← hn]; exact (List.getElem?_eq_some_iff.1 hj').1
  have := allFrom_at h hj'
  rw [Nat.zero_add] at this
  simp only [Bool.or_eq_true, beq_iff_eq] at this
  rcases this with ((hh | hh) | hh) | hh
  · exact absurd hh hne
  · rw [hM.getT hjn, hh] at hun; cases hun
  · obtain ⟨e, he, hb⟩ := Array.any_eq_true'.1 hh
    simp only [Bool.and_eq_true, beq_iff_eq] at hb
    exact absurd hb.2 (hno e he hb.1)
  · exact hh
theorem wpAnyJ_seq {L : List Oper} {n : Nat} (hn : L.length = n) (hs : Region.noSelect L.toArray = true) (hQ : ∀ c a d v w, Q (.panic c) (a.put d v) w → Q (.panic c) a w) :
    ∀ (js : List (Nat × Nat)) (m : Nat) (l : Array Bool) (a : Act) (w : World), Marks n l m → ClosedD md L.toArray l → (l.getD s false = false → D w) → sqB md L s js m = true → wpSq P L Q D js a w → wpAnyJ P md L.toArray Q s D js.length l a w
  | [], m, l, a, w, hM, _, _, hB, h => by
    refine ⟨?_, h⟩
    apply List.eq_nil_iff_forall_not_mem.2
    intro j hj
    obtain ⟨_, oj, hoj, _⟩ := mem_ready.1 hj
    have hj' : L[j]? = some oj := by simpa using hoj
    have h1 := (ready_up hM hn hj' hj).1
    have h2 := allFrom_at hB hj'
    rw [Nat.zero_add, h1] at h2
    cases h2
  | (k, p) :: r, m, l, a, w, hM, hc, hD, hB, h => by
    simp only [sqB, Bool.and_eq_true] at hB
    obtain ⟨hst, hB'⟩ := hB
    cases ho : L[k]? with
    | none => rw [ho] at hst; cases hst
    | some o =>
      rw [ho] at hst
      simp only [Bool.and_eq_true, Bool.not_eq_true'] at hst
      obtain ⟨⟨h1, h2⟩, h3⟩ := hst
      have hk : k < n := by rw [← hn]; exact (List.getElem?_eq_some_iff.1 ho).1
      have h0 : L.toArray[k]? = some o := by simpa using ho
      have hrd := up_ready (md := md) hM hn ho h1 h2
      match p, h, h3 with
      | 0, h, g3 =>
        simp only [kindB, Bool.and_eq_true, Bool.not_eq_true'] at g3
        obtain ⟨o', ho', hw, hr⟩ := h
        obtain rfl : o' = o := by rw [ho] at ho'; exact (Option.some.inj ho').symm
        refine ⟨fun hh => (by rw [hh] at hrd; cases hrd), fun j hj => ?_⟩
        obtain rfl := one_ready hM hn g3.1.1 hj
        refine wpOp_step h0 (fun K hK => ?_)
        rw [if_pos hw]
        exact hr K (fun a' w' hd hh => hK a' w' ⟨fun _ => hd, wpAnyJ_seq hn hs hQ r (m ||| 2 ^ j) _ a' w' (hM.set hk) (hc.set hj) (fun _ => hd) hB' hh⟩)
      | 1, h, g3 =>
        simp only [kindB, Bool.and_eq_true, Bool.not_eq_true'] at g3
        obtain ⟨o', v, ho', hw, hv, hr⟩ := h
        obtain rfl : o' = o := by rw [ho] at ho'; exact (Option.some.inj ho').symm
        have hks : k ≠ s := by simpa using g3.2
        have hD' : (l.setIfInBounds k true).getD s false = false → D w := fun hh => hD (by rw [getD_set_ne false hks] at hh; exact hh)
        exact wpAnyJ_first (E := fun _ => True) h0 hks (Region.noSelect_spec hs) (fun c a w h => hQ c a _ _ w h) (fun _ _ _ _ _ => trivial) r.length l a w hc hD (free_of hM hn g3.1) hrd (Or.inl ⟨hw, fun w _ => hv w⟩) (wpAnyJ_seq hn hs hQ r (m ||| 2 ^ k) _ _ w (hM.set hk) (hc.set hrd) hD' hB' hr)
      | 2, h, g3 =>
        simp only [kindB, Bool.and_eq_true, Bool.not_eq_true'] at g3
        obtain ⟨o', v, ho', hw, hv, hr⟩ := h
        obtain rfl : o' = o := by rw [ho] at ho'; exact (Option.some.inj ho').symm
        have hks : k ≠ s := by simpa using g3.1.2
        have hD' : (l.setIfInBounds k true).getD s false = false → D w := fun hh => hD (by rw [getD_set_ne false hks] at hh; exact hh)
        refine wpAnyJ_first (E := D) h0 hks (Region.noSelect_spec hs) (fun c a w h => hQ c a _ _ w h) (fun l w hcl hrl hd => hd ?_) r.length l a w hc hD (free_of hM hn g3.1.1) hrd (Or.inl ⟨hw, hv⟩) (wpAnyJ_seq hn hs hQ r (m ||| 2 ^ k) _ _ w (hM.set hk) (hc.set hrd) hD' hB' hr)
        cases hx : l.getD s false with
        | false => rfl
        | true => have := (ready_no hrl).1; rw [anc_listed hcl hx g3.2] at this; cases this
      | p + 3, h, g3 =>
        simp only [kindB, Bool.and_eq_true, Bool.or_eq_true, beq_iff_eq] at g3
        obtain ⟨o', ho', hw, hr⟩ := h
        obtain rfl : o' = o := by rw [ho] at ho'; exact (Option.some.inj ho').symm
        refine ⟨fun hh => (by rw [hh] at hrd; cases hrd), fun j hj => ?_⟩
        obtain rfl := one_ready hM hn g3.1 hj
        have hsl : (l.setIfInBounds j true).getD s false = true := by
          rcases g3.2 with e | e
          · subst e; exact getD_set_is (ready_no hj).2
          · exact getD_set_true (by rw [hM.getF]; exact e)
        refine wpOp_step h0 (fun K hK => ?_)
        rw [if_pos hw]
        exact hr K (fun a' w' hh => hK a' w' ⟨fun e => (by rw [hsl] at e; cases e), wpAnyJ_seq hn hs hQ r (m ||| 2 ^ j) _ a' w' (hM.set hk) (hc.set hj) (fun e => (by rw [hsl] at e; cases e)) hB' hh⟩)
theorem closed_none (n : Nat) : ClosedD md ops (Array.replicate n false) := fun j o _ hj => by
  have : (Array.replicate n false).getD j false = false := by
    simp only [Array.getD_eq_getD_getElem?, Array.getElem?_replicate]
    split <;> rfl
  rw [this] at hj; cases hj
/-- The whole region. -/
theorem region_sq {id : Nat} {L : List Oper} {a : Act} {w : World} (s : Nat) (D : World → Prop) (js : List (Nat × Nat)) (hm : P.follows .mixedOrders = true) (hs : Region.noSelect L.toArray = true) (hl : js.length = L.length) (hQ : ∀ c a d v w, Q (.panic c) (a.put d v) w → Q (.panic c) a w)
    (hB : sqB .any L s js 0 = true) (hD : D w.drew) (h : wpSq P L Q D js a w.drew) : (Code.region id L.toArray true).wp P Q a w := by
  refine wp_region_any hm (wpAny_of_J (s := s) (D := D) _ _ _ _ ?_)
  have := wpAnyJ_seq (md := .any) (s := s) (D := D) (P := P) (Q := Q) rfl hs hQ js 0 (Array.replicate L.length false) a w.drew (marks_none L.length) (closed_none _) (fun _ => hD) hB h
  rw [hl] at this
  simpa using this
end
end Go.Proofs.YtnfjmmkokhncoaaGreat
end
