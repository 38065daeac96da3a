/- Regions that draw their order and store twice: each operation has one value whatever the order; the first store comes behind what it stands on, the second behind all. One walk serves every order. -/
import Derived.Test.YtgciceogggldhaaProg
import Derived.Deep.QuietTactic
import Derived.BigQuiet
import Derived.Below
namespace Go.Proofs.Ytgciceogggldhaa
open Go.RowKit

section
variable {P : Program} {md : Region.Mode} {ops : Array Oper} {S : Array Bool → World → Prop}

/-- What an operation may come to: this value, in a world of the class. -/
def dUpon (C : World → Prop) (v : Value) : Result Next → Prop
  | .ok (.value u) w' => u = v ∧ C w'
  | .ok .skip w' => v = undef ∧ C w'
  | _ => False
/-- Whenever it may come up, it has this value. -/
def DYields (P : Program) (md : Region.Mode) (ops : Array Oper) (S : Array Bool → World → Prop) (i : Nat) (o : Oper) (v : Value) (a : Act) : Prop :=
  Region.wanted o (yielded ops a.tmps) = true ∧ ∀ listed w, i ∈ Region.ready md ops listed → S listed w → dUpon (S (listed.setIfInBounds i true)) v ((execOp a.eval o).run P w)
def wpAnyD (P : Program) (md : Region.Mode) (ops : Array Oper) (S : Array Bool → World → Prop) (Q : Array Bool → Act → Prop) : Nat → Array Bool → Act → Prop
  | 0, listed, a => Region.ready md ops listed = [] ∧ Q listed a
  | f + 1, listed, a => Region.ready md ops listed ≠ [] ∧ ∀ i ∈ Region.ready md ops listed, ∃ o v, ops[i]? = some o ∧ DYields P md ops S i o v a ∧ wpAnyD P md ops S Q f (listed.setIfInBounds i true) (a.put o.dst v)

theorem wpAny_of_det {Q : Array Bool → Act → Prop} {Q' : Exit → Act → World → Prop} (hQ : ∀ l a w, S l w → Q l a → Q' .normal a w) :
    ∀ (f : Nat) (listed : Array Bool) (a : Act) (w : World), S listed w → wpAnyD P md ops S Q f listed a → wpAny P md ops Q' f listed a w
  | 0, _, _, _, hS, h => ⟨h.1, hQ _ _ _ hS h.2⟩
  | f + 1, listed, a, w, hS, h => by
    refine ⟨fun h0 => absurd h0 h.1, fun i hi => ?_⟩
    obtain ⟨o, v, ho, ⟨hw, hy⟩, hr⟩ := h.2 i hi
    have h1 := hy listed w hi hS
    unfold wpOp
    simp only [ho, hw, if_true]
    refine Or.inl ?_
    unfold Oper.wp
    generalize (execOp a.eval o).run P w = r at *
    cases r with
    | ok n w' =>
      cases n <;> simp only [dUpon] at h1 <;> simp only [Oper.upon]
      case value u => rw [h1.1]; exact wpAny_of_det hQ f _ _ _ h1.2 hr
      case skip => rw [← h1.1]; exact wpAny_of_det hQ f _ _ _ h1.2 hr
    | halt x w' => simp only [dUpon] at h1

theorem DYields.of_same {i : Nat} {o : Oper} {v : Value} {a a' : Act} (hy : DYields P md ops S i o v a) (he : execOp a'.eval o = execOp a.eval o)
    (hw : Region.wanted o (yielded ops a'.tmps) = Region.wanted o (yielded ops a.tmps)) : DYields P md ops S i o v a' := by
  unfold DYields at *
  rw [he, hw]
  exact hy

/-- One that may come up may be taken first. -/
theorem wpAnyD_first {Q : Array Bool → Act → Prop} {i : Nat} {oi : Oper} {v : Value} (hi : ops[i]? = some oi) (hsel : ∀ (j : Nat) (o : Oper) cs b, ops[j]? = some o → o.op ≠ .select cs b) :
    ∀ (f : Nat) (listed : Array Bool) (a : Act),
      (∀ j oj, ops[j]? = some oj → j ≠ i → listed.getD j true = false → (∀ e ∈ oj.after, Region.binds md e = true → e.on ≠ i) → oi.apart ops oj = true) →
      i ∈ Region.ready md ops listed → DYields P md ops S i oi v a →
      wpAnyD P md ops S Q f (listed.setIfInBounds i true) (a.put oi.dst v) → wpAnyD P md ops S Q (f + 1) listed a := by
  intro f
  induction f with
  | zero =>
    intro listed a _ hr hy H
    refine ⟨fun h => (by rw [h] at hr; cases hr), fun j hj => ?_⟩
    by_cases hji : j = i
    · subst hji; exact ⟨oi, v, hi, hy, H⟩
    · have h1 := ready_mono hj hji
      rw [H.1] at h1
      cases h1
  | succ f ih =>
    intro listed a hfree hr hy H
    refine ⟨fun h => (by rw [h] at hr; cases hr), fun j hj => ?_⟩
    by_cases hji : j = i
    · subst hji; exact ⟨oi, v, hi, hy, H⟩
    · obtain ⟨oj, u, hoj, hyj, hn⟩ := H.2 j (ready_mono hj hji)
      obtain ⟨hjun, oj', hoj', hall⟩ := mem_ready.1 hj
      obtain rfl : oj' = oj := by rw [hoj] at hoj'; exact (Option.some.inj hoj').symm
      have hnot : ∀ e ∈ oj'.after, Region.binds md e = true → e.on ≠ i := fun e he hb heq => by
        have h1 := hall e he hb
        have h0 := (mem_ready.1 hr).1
        rw [heq] at h1
        rcases Nat.lt_or_ge i listed.size with h' | h'
        · simp [h'] at h0 h1; rw [h0] at h1; cases h1
        · simp [Array.getElem?_eq_none h'] at h1
      obtain ⟨a1, a2, a3⟩ := Oper.apart_spec (hfree j oj' hoj hji hjun hnot)
      have hsi : ∀ cs b, oi.op ≠ .select cs b := fun cs b => hsel i oi cs b hi
      have hsj : ∀ cs b, oj'.op ≠ .select cs b := fun cs b => hsel j oj' cs b hoj
      have hyj' : DYields P md ops S j oj' u a := hyj.of_same (execOp_put oj' hsj a oi.dst v a1).symm (wanted_put oj' a oi.dst v a1).symm
      have hyi' : DYields P md ops S i oi v (a.put oj'.dst u) := hy.of_same (execOp_put oi hsi a oj'.dst u a3) (wanted_put oi a oj'.dst u a3)
      refine ⟨oj', u, hoj, hyj', ih _ _ (fun k ok hk hki hun hno => ?_) (ready_mono hr (Ne.symm hji)) hyi' ?_⟩
      · refine hfree k ok hk hki ?_ hno
        by_cases hjk : j = k
        · subst hjk; exact hjun
        · rw [getD_set_ne true hjk] at hun; exact hun
      · rw [Array.setIfInBounds_comm _ _ hji, ← Act.put_comm a v u a2]
        exact hn

/-- The walk in one order. -/
def wpD (P : Program) (md : Region.Mode) (L : List Oper) (S : Array Bool → World → Prop) (Q : Act → Prop) : List Nat → Act → Prop
  | [], a => Q a
  | k :: r, a => ∃ o v, L[k]? = some o ∧ DYields P md L.toArray S k o v a ∧ wpD P md L S Q r (a.put o.dst v)
def turnD (md : Region.Mode) (ops : Array Oper) (s : Nat) : List Nat → Array Bool → Bool
  | [], listed => (Region.ready md ops listed).isEmpty && listed.getD s false
  | k :: r, listed => (Region.ready md ops listed).contains k && Region.free md ops listed k && turnD md ops s r (listed.setIfInBounds k true)
theorem wpAnyD_turn {Q : Act → Prop} {s : Nat} {L : List Oper} (hs : Region.noSelect L.toArray = true) : ∀ (js : List Nat) (listed : Array Bool) (a : Act), turnD md L.toArray s js listed = true → wpD P md L S Q js a →
    wpAnyD P md L.toArray S (fun l a => l.getD s false = true ∧ Q a) js.length listed a
  | [], listed, a, hB, h => by
    simp only [turnD, Bool.and_eq_true] at hB
    exact ⟨by simpa using hB.1, hB.2, h⟩
  | k :: r, listed, a, hB, h => by
    simp only [turnD, Bool.and_eq_true] at hB
    obtain ⟨⟨hr, hf⟩, hB'⟩ := hB
    obtain ⟨o, v, ho, hy, hn⟩ := h
    have ho : L.toArray[k]? = some o := by simpa using ho
    exact wpAnyD_first ho (Region.noSelect_spec hs) r.length listed a (Region.free_spec ho hf) (by simpa using hr) hy (wpAnyD_turn hs r _ _ hB' hn)

/-- What stands behind what has come up. -/
def ClosedD (md : Region.Mode) (ops : Array Oper) (listed : Array Bool) : Prop := ∀ j o, ops[j]? = some o → listed.getD j false = true → ∀ e ∈ o.after, Region.binds md e = true → listed.getD e.on false = true
def ancB (md : Region.Mode) (ops : Array Oper) : Nat → Nat → Nat → Bool
  | 0, _, _ => false
  | f + 1, k, j => match ops[k]? with
    | none => false
    | some o => o.after.any fun e => Region.binds md e && (e.on == j || ancB md ops f e.on j)
theorem anc_ready {listed : Array Bool} (hc : ClosedD md ops listed) : ∀ (f k j : Nat), (∀ o, ops[k]? = some o → ∀ e ∈ o.after, Region.binds md e = true → listed.getD e.on false = true) → ancB md ops f k j = true → listed.getD j false = true
  | 0, _, _, _, h => by cases h
  | f + 1, k, j, hk, h => by
    unfold ancB at h
    cases ho : ops[k]? with
    | none => rw [ho] at h; cases h
    | some o =>
      rw [ho] at h
      obtain ⟨e, he, hb⟩ := Array.any_eq_true'.1 h
      simp only [Bool.and_eq_true, Bool.or_eq_true, beq_iff_eq] at hb
      obtain ⟨hb1, hb2⟩ := hb
      have h1 := hk o ho e he hb1
      rcases hb2 with hb2 | hb2
      · rw [← hb2]; exact h1
      · exact anc_ready hc f e.on j (fun o' ho' => hc e.on o' ho' h1) hb2
theorem anc_listed {listed : Array Bool} (hc : ClosedD md ops listed) {f k j : Nat} (hk : listed.getD k false = true) (h : ancB md ops f k j = true) : listed.getD j false = true :=
  anc_ready hc f k j (fun o ho => hc k o ho hk) h
theorem ready_no {listed : Array Bool} {k : Nat} (h : k ∈ Region.ready md ops listed) : listed.getD k false = false ∧ k < listed.size := by
  have h0 := (mem_ready.1 h).1
  rcases Nat.lt_or_ge k listed.size with h' | h'
  · refine ⟨?_, h'⟩
    simp [h'] at h0 ⊢; exact h0
  · simp [Array.getElem?_eq_none h'] at h0
theorem getD_set_is {listed : Array Bool} {k : Nat} (h : k < listed.size) : (listed.setIfInBounds k true).getD k false = true := by simp [h]
theorem ClosedD.set {listed : Array Bool} {k : Nat} (hc : ClosedD md ops listed) (h : k ∈ Region.ready md ops listed) : ClosedD md ops (listed.setIfInBounds k true) := by
  intro j o ho hj e he hb
  by_cases hjk : k = j
  · subst hjk
    obtain ⟨_, o', ho', hall⟩ := mem_ready.1 h
    obtain rfl : o' = o := by rw [ho] at ho'; exact (Option.some.inj ho').symm
    exact getD_set_true (hall e he hb)
  · rw [getD_set_ne false hjk] at hj
    exact getD_set_true (hc j o ho hj e he hb)

/-- Two stores, s1 and s2: the worlds ahead of both, between them, behind both. -/
def twoS (md : Region.Mode) (ops : Array Oper) (s1 s2 : Nat) (D0 D1 D2 : World → Prop) (listed : Array Bool) (w : World) : Prop :=
  ClosedD md ops listed ∧ (if listed.getD s2 false = true then D2 w else if listed.getD s1 false = true then D1 w else D0 w)
variable {s1 s2 : Nat} {D0 D1 D2 : World → Prop}
theorem two_early {k : Nat} {o : Oper} {v : Value} {a : Act} (f : Nat) (h1 : ancB md ops f s1 k = true) (h2 : ancB md ops f s2 k = true) (n1 : (k == s1) = false) (n2 : (k == s2) = false) (hw : Region.wanted o (yielded ops a.tmps) = true)
    (h : ∀ w, D0 w → (execOp a.eval o).run P w = .ok (.value v) w) : DYields P md ops (twoS md ops s1 s2 D0 D1 D2) k o v a := by
  refine ⟨hw, fun listed w hr ⟨hc, hS⟩ => ?_⟩
  obtain ⟨hno, _⟩ := ready_no hr
  have e1 : listed.getD s1 false = false := by
    cases hx : listed.getD s1 false with
    | false => rfl
    | true => rw [anc_listed hc hx h1] at hno; cases hno
  have e2 : listed.getD s2 false = false := by
    cases hx : listed.getD s2 false with
    | false => rfl
    | true => rw [anc_listed hc hx h2] at hno; cases hno
  rw [e1, e2] at hS
  rw [h w hS]
  refine ⟨rfl, hc.set hr, ?_⟩
  rw [getD_set_ne false (by simpa using n2), getD_set_ne false (by simpa using n1), e1, e2]
  exact hS
theorem two_mid {k : Nat} {o : Oper} {v : Value} {a : Act} (f : Nat) (h2 : ancB md ops f s2 k = true) (n1 : (k == s1) = false) (n2 : (k == s2) = false) (hw : Region.wanted o (yielded ops a.tmps) = true)
    (h : ∀ w, D0 w ∨ D1 w → (execOp a.eval o).run P w = .ok (.value v) w) : DYields P md ops (twoS md ops s1 s2 D0 D1 D2) k o v a := by
  refine ⟨hw, fun listed w hr ⟨hc, hS⟩ => ?_⟩
  obtain ⟨hno, _⟩ := ready_no hr
  have e2 : listed.getD s2 false = false := by
    cases hx : listed.getD s2 false with
    | false => rfl
    | true => rw [anc_listed hc hx h2] at hno; cases hno
  rw [e2] at hS
  simp only [Bool.false_eq_true, if_false] at hS
  have hD : D0 w ∨ D1 w := by
    split at hS
    · exact Or.inr hS
    · exact Or.inl hS
  rw [h w hD]
  refine ⟨rfl, hc.set hr, ?_⟩
  rw [getD_set_ne false (by simpa using n2), getD_set_ne false (by simpa using n1), e2]
  simpa using hS
theorem two_one {o : Oper} {a : Act} (f : Nat) (h2 : ancB md ops f s2 s1 = true) (n1 : (s1 == s2) = false) (hw : Region.wanted o (yielded ops a.tmps) = true)
    (h : ∀ w, D0 w → ∃ w', (execOp a.eval o).run P w = .ok .skip w' ∧ D1 w') : DYields P md ops (twoS md ops s1 s2 D0 D1 D2) s1 o undef a := by
  refine ⟨hw, fun listed w hr ⟨hc, hS⟩ => ?_⟩
  obtain ⟨hno, hlt⟩ := ready_no hr
  have e2 : listed.getD s2 false = false := by
    cases hx : listed.getD s2 false with
    | false => rfl
    | true => rw [anc_listed hc hx h2] at hno; cases hno
  rw [e2, hno] at hS
  obtain ⟨w', hw', hd⟩ := h w hS
  rw [hw']
  refine ⟨rfl, hc.set hr, ?_⟩
  rw [getD_set_ne false (by simpa using n1), e2, getD_set_is hlt]
  exact hd
theorem two_two {o : Oper} {a : Act} (f : Nat) (h1 : ancB md ops f s2 s1 = true) (hw : Region.wanted o (yielded ops a.tmps) = true)
    (h : ∀ w, D1 w → ∃ w', (execOp a.eval o).run P w = .ok .skip w' ∧ D2 w') : DYields P md ops (twoS md ops s1 s2 D0 D1 D2) s2 o undef a := by
  refine ⟨hw, fun listed w hr ⟨hc, hS⟩ => ?_⟩
  obtain ⟨hno, hlt⟩ := ready_no hr
  have e1 : listed.getD s1 false = true := anc_ready hc f s2 s1 (fun o ho e he hb => by
    obtain ⟨_, o', ho', hall⟩ := mem_ready.1 hr
    obtain rfl : o' = o := by rw [ho] at ho'; exact (Option.some.inj ho').symm
    exact hall e he hb) h1
  rw [hno, e1] at hS
  obtain ⟨w', hw', hd⟩ := h w hS
  rw [hw']
  refine ⟨rfl, hc.set hr, ?_⟩
  rw [getD_set_is hlt]
  exact hd
/-- The whole region. -/
theorem region_two {id : Nat} {L : List Oper} {Q : Exit → Act → World → Prop} {a : Act} {w : World} (s1 s2 : Nat) (D0 D1 D2 : World → Prop) (js : List Nat) (hm : P.follows .mixedOrders = true) (hs : Region.noSelect L.toArray = true) (hl : js.length = L.length)
    (hB : turnD .any L.toArray s2 js (Array.replicate L.length false) = true) (hD : D0 w.drew)
    (h : wpD P .any L (twoS .any L.toArray s1 s2 D0 D1 D2) (fun a' => ∀ w', D2 w' → Q .normal a' w') js a) : (Code.region id L.toArray true).wp P Q a w := by
  refine wp_region_any hm ?_
  have h1 := wpAnyD_turn (s := s2) hs js _ a hB h
  rw [hl] at h1
  refine wpAny_of_det (S := twoS .any L.toArray s1 s2 D0 D1 D2) (Q := fun l a => l.getD s2 false = true ∧ ∀ w', D2 w' → Q .normal a w') (fun l a w hS hQ => ?_) _ _ _ _ ?_ (by simpa using h1)
  · obtain ⟨_, hS⟩ := hS
    rw [hQ.1] at hS
    exact hQ.2 _ hS
  · refine ⟨fun j o _ hj => ?_, ?_⟩
    · simp [Array.getElem?_replicate] at hj
      split at hj <;> simp at hj
    · have hno : ∀ s, (Array.replicate L.length false).getD s false = false := fun s => by
        simp only [Array.getD_eq_getD_getElem?, Array.getElem?_replicate]
        split <;> rfl
      simp only [List.size_toArray, hno, Bool.false_eq_true, if_false]
      exact hD
end
end Go.Proofs.Ytgciceogggldhaa
