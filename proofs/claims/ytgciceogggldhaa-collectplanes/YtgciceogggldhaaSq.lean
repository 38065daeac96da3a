/- Regions that draw their order, whose loads see one class of worlds until one operation s (an append, a store) has come: one sequence serves every order. -/
import Derived.Test.YtgciceogggldhaaSeq
import Derived.Test.YtgciceogggldhaaDet
import Derived.OrdersHeld
namespace Go.Proofs.Ytgciceogggldhaa
open Go.RowKit

section
variable {P : Program} {md : Region.Mode} {ops : Array Oper} {Q : Exit → Act → World → Prop} {s : Nat} {D : World → Prop}

/-- Whatever order is picked from here on; until s has come up, the worlds are of the class. -/
def wpAnyJ (P : Program) (md : Region.Mode) (ops : Array Oper) (Q : Exit → Act → World → Prop) (s : Nat) (D : World → Prop) : Nat → Array Bool → Act → World → Prop
  | 0, l, a, w => Region.ready md ops l = [] ∧ Q .normal a w
  | f + 1, l, a, w => (Region.ready md ops l = [] → Q .normal a w) ∧ ∀ i ∈ Region.ready md ops l, wpOp P ops Q i (fun a' w' => ((l.setIfInBounds i true).getD s false = false → D w') ∧ wpAnyJ P md ops Q s D f (l.setIfInBounds i true) a' w') a w
theorem wpAny_of_J : ∀ (f : Nat) (l : Array Bool) (a : Act) (w : World), wpAnyJ P md ops Q s D f l a w → wpAny P md ops Q f l a w
  | 0, _, _, _, h => h
  | f + 1, _, _, _, h => ⟨h.1, fun i hi => wpOp_mono (fun a' w' h' => wpAny_of_J f _ a' w' h'.2) (h.2 i hi)⟩
/-- One that may come up, and has one value in the worlds that it may come up in, may be taken first. -/
theorem wpAnyJ_first {E : World → Prop} {i : Nat} {oi : Oper} {v : Value} (hi : ops[i]? = some oi) (his : i ≠ s) (hsel : ∀ (j : Nat) (o : Oper) cs b, ops[j]? = some o → o.op ≠ .select cs b)
    (hQ : ∀ c a w, Q (.panic c) (a.put oi.dst v) w → Q (.panic c) a w) (hE : ∀ l w, ClosedD md ops l → i ∈ Region.ready md ops l → (l.getD s false = false → D w) → E w) :
    ∀ (f : Nat) (l : Array Bool) (a : Act) (w : World), ClosedD md ops l → (l.getD s false = false → D w) →
      (∀ j oj, ops[j]? = some oj → j ≠ i → l.getD j true = false → (∀ e ∈ oj.after, Region.binds md e = true → e.on ≠ i) → oi.apart ops oj = true) →
      i ∈ Region.ready md ops l → YieldsIf P ops E oi v a →
      wpAnyJ P md ops Q s D f (l.setIfInBounds i true) (a.put oi.dst v) w → wpAnyJ P md ops Q s D (f + 1) l a w := by
  intro f
  induction f with
  | zero =>
    intro l a w hc hD _ hr hy H
    refine ⟨fun h => (by rw [h] at hr; cases hr), fun j hj => ?_⟩
    by_cases hji : j = i
    · subst hji
      exact hy.wpOp hi (hE l w hc hr hD) ⟨fun h => hD (by rw [getD_set_ne false his] at h; exact h), H⟩
    · have := ready_mono hj hji
      rw [H.1] at this
      cases this
  | succ f ih =>
    intro l a w hc hD hfree hr hy H
    refine ⟨fun h => (by rw [h] at hr; cases hr), fun j hj => ?_⟩
    by_cases hji : j = i
    · subst hji
      exact hy.wpOp hi (hE l w hc hr hD) ⟨fun h => hD (by rw [getD_set_ne false his] at h; exact h), H⟩
    · have h1 := H.2 j (ready_mono hj hji)
      obtain ⟨hjun, oj, hoj, hall⟩ := mem_ready.1 hj
      have hnot : ∀ e ∈ oj.after, Region.binds md e = true → e.on ≠ i := fun e he hb heq => by
        have h1 := hall e he hb
        have h0 := (ready_no hr).1
        rw [heq, h0] at h1
        cases h1
      have h2 := wpOp_putIf hoj (hfree j oj hoj hji hjun hnot) (fun cs b => hsel i oi cs b hi) (fun cs b => hsel j oj cs b hoj) hQ hy h1
      refine wpOp_mono (fun a' w' h3 => ?_) h2
      obtain ⟨hy', hD', H'⟩ := h3
      have hD2 : (l.setIfInBounds j true).getD s false = false → D w' := fun h => hD' (by rw [Array.setIfInBounds_comm _ _ (Ne.symm hji), getD_set_ne false his]; exact h)
      refine ⟨hD2, ih _ a' w' (hc.set hj) hD2 (fun k ok hk hki hun hno => ?_) (ready_mono hr (Ne.symm hji)) hy' ?_⟩
      · refine hfree k ok hk hki ?_ hno
        by_cases hjk : j = k
        · subst hjk; exact hjun
        · rw [getD_set_ne true hjk] at hun; exact hun
      · rw [Array.setIfInBounds_comm _ _ hji]
        exact H'

/-- The sequence's walk. Kinds: 0 alone may come up, ahead of s; 1 the same in every world; 2 the same in every world of the class; 3 alone may come up, s or behind it. -/
def wpSq (P : Program) (L : List Oper) (Q : Exit → Act → World → Prop) (D : World → Prop) : List (Nat × Nat) → Act → World → Prop
  | [], a, w => Q .normal a w
  | (k, 0) :: r, a, w => ∃ o, L[k]? = some o ∧ Region.wanted o (yielded L.toArray a.tmps) = true ∧ ∀ K : Act → World → Prop, (∀ a w, D w → wpSq P L Q D r a w → K a w) → Oper.wp P o a w K Q
  | (k, 1) :: r, a, w => ∃ o v, L[k]? = some o ∧ Region.wanted o (yielded L.toArray a.tmps) = true ∧ (∀ w, (execOp a.eval o).run P w = .ok (.value v) w) ∧ wpSq P L Q D r (a.put o.dst v) w
  | (k, 2) :: r, a, w => ∃ o v, L[k]? = some o ∧ Region.wanted o (yielded L.toArray a.tmps) = true ∧ (∀ w, D w → (execOp a.eval o).run P w = .ok (.value v) w) ∧ wpSq P L Q D r (a.put o.dst v) w
  | (k, _) :: r, a, w => ∃ o, L[k]? = some o ∧ Region.wanted o (yielded L.toArray a.tmps) = true ∧ ∀ K : Act → World → Prop, (∀ a w, wpSq P L Q D r a w → K a w) → Oper.wp P o a w K Q
def kindB (md : Region.Mode) (L : List Oper) (s m k : Nat) (o : Oper) : Nat → Bool
  | 0 => oneB md L m k && !(k == s) && !m.testBit s
  | 1 => freeB md L m k o && !(k == s)
  | 2 => freeB md L m k o && !(k == s) && ancB md L.toArray L.length s k
  | _ => oneB md L m k && (k == s || m.testBit s)
def sqB (md : Region.Mode) (L : List Oper) (s : Nat) : List (Nat × Nat) → Nat → Bool
  | [], m => allFrom (fun j _ => m.testBit j) 0 L
  | (k, p) :: r, m => (match L[k]? with | none => false | some o => !m.testBit k && upB md m o && kindB md L s m k o p) && sqB md L s r (m ||| 2 ^ k)
theorem one_ready {L : List Oper} {n m k j : Nat} {l : Array Bool} (hM : Marks n l m) (hn : L.length = n) (h : oneB md L m k = true) (hj : j ∈ Region.ready md L.toArray l) : j = k := by
  apply Classical.byContradiction
  intro hne
  obtain ⟨_, oj, hoj, _⟩ := mem_ready.1 hj
  have hj' : L[j]? = some oj := by simpa using hoj
  obtain ⟨g1, g2⟩ := ready_up hM hn hj' hj
  have := allFrom_at h hj'
  rw [Nat.zero_add] at this
  simp [hne, g1, g2] at this
theorem free_of {L : List Oper} {n m k : Nat} {l : Array Bool} {o : Oper} (hM : Marks n l m) (hn : L.length = n) (h : freeB md L m k o = true) (j : Nat) (oj : Oper) (hj : L.toArray[j]? = some oj) (hne : j ≠ k) (hun : l.getD j true = false) (hno : ∀ e ∈ oj.after, Region.binds md e = true → e.on ≠ k) : o.apart L.toArray oj = true := by
  have hj' : L[j]? = some oj := by simpa using hj
  have hjn : j < n := by rw [← hn]; exact (List.getElem?_eq_some_iff.1 hj').1
  have := allFrom_at h hj'
  rw [Nat.zero_add] at this
  simp only [Bool.or_eq_true, beq_iff_eq] at this
  rcases this with ((hh | hh) | hh) | hh
  · exact absurd hh hne
  · rw [hM.getT hjn, hh] at hun; cases hun
  · obtain ⟨e, he, hb⟩ := Array.any_eq_true'.1 hh
    simp only [Bool.and_eq_true, beq_iff_eq] at hb
    exact absurd hb.2 (hno e he hb.1)
  · exact hh
theorem wpAnyJ_seq {L : List Oper} {n : Nat} (hn : L.length = n) (hs : Region.noSelect L.toArray = true) (hQ : ∀ c a d v w, Q (.panic c) (a.put d v) w → Q (.panic c) a w) :
    ∀ (js : List (Nat × Nat)) (m : Nat) (l : Array Bool) (a : Act) (w : World), Marks n l m → ClosedD md L.toArray l → (l.getD s false = false → D w) → sqB md L s js m = true → wpSq P L Q D js a w → wpAnyJ P md L.toArray Q s D js.length l a w
  | [], m, l, a, w, hM, _, _, hB, h => by
    refine ⟨?_, h⟩
    apply List.eq_nil_iff_forall_not_mem.2
    intro j hj
    obtain ⟨_, oj, hoj, _⟩ := mem_ready.1 hj
    have hj' : L[j]? = some oj := by simpa using hoj
    have h1 := (ready_up hM hn hj' hj).1
    have h2 := allFrom_at hB hj'
    rw [Nat.zero_add, h1] at h2
    cases h2
  | (k, p) :: r, m, l, a, w, hM, hc, hD, hB, h => by
    simp only [sqB, Bool.and_eq_true] at hB
    obtain ⟨hst, hB'⟩ := hB
    cases ho : L[k]? with
    | none => rw [ho] at hst; cases hst
    | some o =>
      rw [ho] at hst
      simp only [Bool.and_eq_true, Bool.not_eq_true'] at hst
      obtain ⟨⟨h1, h2⟩, h3⟩ := hst
      have hk : k < n := by rw [← hn]; exact (List.getElem?_eq_some_iff.1 ho).1
      have h0 : L.toArray[k]? = some o := by simpa using ho
      have hrd := up_ready (md := md) hM hn ho h1 h2
      match p, h, h3 with
      | 0, h, g3 =>
        simp only [kindB, Bool.and_eq_true, Bool.not_eq_true'] at g3
        obtain ⟨o', ho', hw, hr⟩ := h
        obtain rfl : o' = o := by rw [ho] at ho'; exact (Option.some.inj ho').symm
        refine ⟨fun hh => (by rw [hh] at hrd; cases hrd), fun j hj => ?_⟩
        obtain rfl := one_ready hM hn g3.1.1 hj
        refine wpOp_step h0 (fun K hK => ?_)
        rw [if_pos hw]
        exact hr K (fun a' w' hd hh => hK a' w' ⟨fun _ => hd, wpAnyJ_seq hn hs hQ r (m ||| 2 ^ j) _ a' w' (hM.set hk) (hc.set hj) (fun _ => hd) hB' hh⟩)
      | 1, h, g3 =>
        simp only [kindB, Bool.and_eq_true, Bool.not_eq_true'] at g3
        obtain ⟨o', v, ho', hw, hv, hr⟩ := h
        obtain rfl : o' = o := by rw [ho] at ho'; exact (Option.some.inj ho').symm
        have hks : k ≠ s := by simpa using g3.2
        have hD' : (l.setIfInBounds k true).getD s false = false → D w := fun hh => hD (by rw [getD_set_ne false hks] at hh; exact hh)
        exact wpAnyJ_first (E := fun _ => True) h0 hks (Region.noSelect_spec hs) (fun c a w h => hQ c a _ _ w h) (fun _ _ _ _ _ => trivial) r.length l a w hc hD (free_of hM hn g3.1) hrd (Or.inl ⟨hw, fun w _ => hv w⟩) (wpAnyJ_seq hn hs hQ r (m ||| 2 ^ k) _ _ w (hM.set hk) (hc.set hrd) hD' hB' hr)
      | 2, h, g3 =>
        simp only [kindB, Bool.and_eq_true, Bool.not_eq_true'] at g3
        obtain ⟨o', v, ho', hw, hv, hr⟩ := h
        obtain rfl : o' = o := by rw [ho] at ho'; exact (Option.some.inj ho').symm
        have hks : k ≠ s := by simpa using g3.1.2
        have hD' : (l.setIfInBounds k true).getD s false = false → D w := fun hh => hD (by rw [getD_set_ne false hks] at hh; exact hh)
        refine wpAnyJ_first (E := D) h0 hks (Region.noSelect_spec hs) (fun c a w h => hQ c a _ _ w h) (fun l w hcl hrl hd => hd ?_) r.length l a w hc hD (free_of hM hn g3.1.1) hrd (Or.inl ⟨hw, hv⟩) (wpAnyJ_seq hn hs hQ r (m ||| 2 ^ k) _ _ w (hM.set hk) (hc.set hrd) hD' hB' hr)
        cases hx : l.getD s false with
        | false => rfl
        | true => have := (ready_no hrl).1; rw [anc_listed hcl hx g3.2] at this; cases this
      | p + 3, h, g3 =>
        simp only [kindB, Bool.and_eq_true, Bool.or_eq_true, beq_iff_eq] at g3
        obtain ⟨o', ho', hw, hr⟩ := h
        obtain rfl : o' = o := by rw [ho] at ho'; exact (Option.some.inj ho').symm
        refine ⟨fun hh => (by rw [hh] at hrd; cases hrd), fun j hj => ?_⟩
        obtain rfl := one_ready hM hn g3.1 hj
        have hsl : (l.setIfInBounds j true).getD s false = true := by
          rcases g3.2 with e | e
          · subst e; exact getD_set_is (ready_no hj).2
          · exact getD_set_true (by rw [hM.getF]; exact e)
        refine wpOp_step h0 (fun K hK => ?_)
        rw [if_pos hw]
        exact hr K (fun a' w' hh => hK a' w' ⟨fun e => (by rw [hsl] at e; cases e), wpAnyJ_seq hn hs hQ r (m ||| 2 ^ j) _ a' w' (hM.set hk) (hc.set hj) (fun e => (by rw [hsl] at e; cases e)) hB' hh⟩)
theorem closed_none (n : Nat) : ClosedD md ops (Array.replicate n false) := fun j o _ hj => by
  have : (Array.replicate n false).getD j false = false := by
    simp only [Array.getD_eq_getD_getElem?, Array.getElem?_replicate]
    split <;> rfl
  rw [this] at hj; cases hj
/-- The whole region. -/
theorem region_sq {id : Nat} {L : List Oper} {a : Act} {w : World} (s : Nat) (D : World → Prop) (js : List (Nat × Nat)) (hm : P.follows .mixedOrders = true) (hs : Region.noSelect L.toArray = true) (hl : js.length = L.length) (hQ : ∀ c a d v w, Q (.panic c) (a.put d v) w → Q (.panic c) a w)
    (hB : sqB .any L s js 0 = true) (hD : D w.drew) (h : wpSq P L Q D js a w.drew) : (Code.region id L.toArray true).wp P Q a w := by
  refine wp_region_any hm (wpAny_of_J (s := s) (D := D) _ _ _ _ ?_)
  have := wpAnyJ_seq (md := .any) (s := s) (D := D) (P := P) (Q := Q) rfl hs hQ js 0 (Array.replicate L.length false) a w.drew (marks_none L.length) (closed_none _) (fun _ => hD) hB h
  rw [hl] at this
  simpa using this
end
end Go.Proofs.Ytgciceogggldhaa
