/- As Sq, with one kind more: a pair (4, 4) of operations that come up alone together, ahead of s, and come to the same in both orders. -/
import Derived.Test.YtnfjmmkokhncoaaGreatM05
namespace Go.Proofs.YtnfjmmkokhncoaaGreat
open Go.RowKit

section
variable {P : Program} {md : Region.Mode} {ops : Array Oper} {Q : Exit → Act → World → Prop} {s : Nat} {D : World → Prop}

def twoB (md : Region.Mode) (L : List Oper) (m k j : Nat) : Bool := allFrom (fun i o => i == k || i == j || m.testBit i || !upB md m o) 0 L
theorem two_ready {L : List Oper} {n m k j i : Nat} {l : Array Bool} (hM : Marks n l m) (hn : L.length = n) (h : twoB md L m k j = true) (hi : i ∈ Region.ready md L.toArray l) : i = k ∨ i = j := by
  apply Classical.byContradiction
  intro hne
  have n1 : i ≠ k := fun e => hne (Or.inl e)
  have n2 : i ≠ j := fun e => hne (Or.inr e)
  obtain ⟨_, oj, hoj, _⟩ := mem_ready.1 hi
  have hj' : L[i]? = some oj := by simpa using hoj
  obtain ⟨g1, g2⟩ := ready_up hM hn hj' hi
  have := allFrom_at h hj'
  rw [Nat.zero_add] at this
  simp [n1, n2, g1, g2] at this
def pairB (md : Region.Mode) (L : List Oper) (s m k j : Nat) : Bool := match L[k]?, L[j]? with
  | some ok, some oj => !m.testBit k && !m.testBit j && !(k == j) && upB md m ok && upB md m oj && twoB md L m k j && oneB md L (m ||| 2 ^ k) j && oneB md L (m ||| 2 ^ j) k && (!m.testBit s && !(k == s) && !(j == s))
  | _, _ => false
def wpPr (P : Program) (L : List Oper) (Q : Exit → Act → World → Prop) (D : World → Prop) (k j : Nat) (R : Act → World → Prop) (a : Act) (w : World) : Prop :=
  ∃ ok oj, L[k]? = some ok ∧ L[j]? = some oj ∧ Region.wanted ok (yielded L.toArray a.tmps) = true ∧ Region.wanted oj (yielded L.toArray a.tmps) = true ∧ ∀ K : Act → World → Prop, (∀ a w, D w → R a w → K a w) →
    Oper.wp P ok a w (fun a1 w1 => D w1 ∧ Region.wanted oj (yielded L.toArray a1.tmps) = true ∧ Oper.wp P oj a1 w1 K Q) Q ∧ Oper.wp P oj a w (fun a1 w1 => D w1 ∧ Region.wanted ok (yielded L.toArray a1.tmps) = true ∧ Oper.wp P ok a1 w1 K Q) Q
/-- The pair, then what follows. -/
theorem anyJ_pair {L : List Oper} {n m k j f : Nat} {l : Array Bool} {R : Act → World → Prop} {a : Act} {w : World} (hn : L.length = n) (hM : Marks n l m) (hB : pairB md L s m k j = true)
    (hend : ∀ a2 w2, D w2 → R a2 w2 → wpAnyJ P md L.toArray Q s D f ((l.setIfInBounds k true).setIfInBounds j true) a2 w2) (h : wpPr P L Q D k j R a w) : wpAnyJ P md L.toArray Q s D (f + 1 + 1) l a w := by
  unfold pairB at hB
  obtain ⟨ok, oj, hok, hoj, hwk, hwj, hp⟩ := h
  simp only [hok, hoj, Bool.and_eq_true, Bool.not_eq_true', beq_eq_false_iff_ne] at hB
  obtain ⟨⟨⟨⟨⟨⟨⟨⟨hk1, hj1⟩, hkj⟩, hk2⟩, hj2⟩, htw⟩, hone1⟩, hone2⟩, hs1⟩ := hB
  have hkj' : k ≠ j := by simpa using hkj
  have hk : k < n := by rw [← hn]; exact (List.getElem?_eq_some_iff.1 hok).1
  have hj : j < n := by rw [← hn]; exact (List.getElem?_eq_some_iff.1 hoj).1
  have h0k : L.toArray[k]? = some ok := by simpa using hok
  have h0j : L.toArray[j]? = some oj := by simpa using hoj
  have hrk := up_ready (md := md) hM hn hok hk1 hk2
  have hrj := up_ready (md := md) hM hn hoj hj1 hj2
  obtain ⟨p1, p2⟩ := hp (fun a2 w2 => D w2 ∧ R a2 w2) (fun _ _ h1 h2 => ⟨h1, h2⟩)
  have hcm : (l.setIfInBounds j true).setIfInBounds k true = (l.setIfInBounds k true).setIfInBounds j true := Array.setIfInBounds_comm _ _ (Ne.symm hkj')
  refine ⟨fun hh => (by rw [hh] at hrk; cases hrk), fun i hi => ?_⟩
  rcases two_ready hM hn htw hi with rfl | rfl
  · refine wpOp_step h0k (fun K hK => ?_)
    rw [if_pos hwk]
    refine Oper.wp_mono ?_ p1
    rintro a1 w1 ⟨hd1, hw1, h1⟩
    refine hK a1 w1 ⟨fun _ => hd1, fun hh => ?_, fun i' hi' => ?_⟩
    · have := ready_mono hrj (Ne.symm hkj')
      rw [hh] at this; cases this
    · obtain rfl := one_ready (hM.set hk) hn hone1 hi'
      refine wpOp_step h0j (fun K2 hK2 => ?_)
      rw [if_pos hw1]
      exact Oper.wp_mono (fun a2 w2 h2 => hK2 a2 w2 ⟨fun _ => h2.1, hend a2 w2 h2.1 h2.2⟩) h1
  · refine wpOp_step h0j (fun K hK => ?_)
    rw [if_pos hwj]
    refine Oper.wp_mono ?_ p2
    rintro a1 w1 ⟨hd1, hw1, h1⟩
    refine hK a1 w1 ⟨fun _ => hd1, fun hh => ?_, fun i' hi' => ?_⟩
    · have := ready_mono hrk hkj'
      rw [hh] at this; cases this
    · obtain rfl := one_ready (hM.set hj) hn hone2 hi'
      refine wpOp_step h0k (fun K2 hK2 => ?_)
      rw [if_pos hw1]
      exact Oper.wp_mono (fun a2 w2 h2 => hK2 a2 w2 ⟨fun _ => h2.1, by rw [hcm]; exact hend a2 w2 h2.1 h2.2⟩) h1
def wpSt (P : Program) (L : List Oper) (Q : Exit → Act → World → Prop) (D : World → Prop) (T : Act → World → Prop) : List (Nat × Nat) → Act → World → Prop
  | [], a, w => T a w
  | (k, 0) :: r, a, w => ∃ o, L[k]? = some o ∧ Region.wanted o (yielded L.toArray a.tmps) = true ∧ ∀ K : Act → World → Prop, (∀ a w, D w → wpSt P L Q D T r a w → K a w) → Oper.wp P o a w K Q
  | (k, 1) :: r, a, w => ∃ o v, L[k]? = some o ∧ Region.wanted o (yielded L.toArray a.tmps) = true ∧ (∀ w, (execOp a.eval o).run P w = .ok (.value v) w) ∧ wpSt P L Q D T r (a.put o.dst v) w
  | (k, 2) :: r, a, w => ∃ o v, L[k]? = some o ∧ Region.wanted o (yielded L.toArray a.tmps) = true ∧ (∀ w, D w → (execOp a.eval o).run P w = .ok (.value v) w) ∧ wpSt P L Q D T r (a.put o.dst v) w
  | (k, _) :: r, a, w => ∃ o, L[k]? = some o ∧ Region.wanted o (yielded L.toArray a.tmps) = true ∧ ∀ K : Act → World → Prop, (∀ a w, wpSt P L Q D T r a w → K a w) → Oper.wp P o a w K Q
def mkT (js : List (Nat × Nat)) (m : Nat) : Nat := js.foldl (fun m x => m ||| 2 ^ x.1) m
def sqT (md : Region.Mode) (L : List Oper) (s : Nat) : List (Nat × Nat) → Nat → Bool
  | [], _ => true
  | (k, p) :: r, m => (match L[k]? with | none => false | some o => !m.testBit k && upB md m o && kindB md L s m k o p) && sqT md L s r (m ||| 2 ^ k)
theorem wpAnyJ_seqT {L : List Oper} {n f : Nat} {T : Act → World → Prop} (hn : L.length = n) (hs : Region.noSelect L.toArray = true) (hQ : ∀ c a d v w, Q (.panic c) (a.put d v) w → Q (.panic c) a w) :
    ∀ (js : List (Nat × Nat)) (m : Nat) (l : Array Bool) (a : Act) (w : World), Marks n l m → ClosedD md L.toArray l → (l.getD s false = false → D w) → sqT md L s js m = true →
      (∀ l' a w, Marks n l' (mkT js m) → ClosedD md L.toArray l' → (l'.getD s false = false → D w) → T a w → wpAnyJ P md L.toArray Q s D f l' a w) → wpSt P L Q D T js a w → wpAnyJ P md L.toArray Q s D (f + js.length) l a w
  | [], m, l, a, w, hM, hc, hD, _, hT, h => hT l a w hM hc hD h
  | (k, p) :: r, m, l, a, w, hM, hc, hD, hB, hT, h => by
    simp only [sqT, Bool.and_eq_true] at hB
    obtain ⟨hst, hB'⟩ := hB
    cases ho : L[k]? with
    | none => rw [ho] at hst; cases hst
    | some o =>
      rw [ho] at hst
      simp only [Bool.and_eq_true, Bool.not_eq_true'] at hst
      obtain ⟨⟨h1, h2⟩, h3⟩ := hst
      have hk : k < n := by rw [← hn]; exact (List.getElem?_eq_some_iff.1 ho).1
      have h0 : L.toArray[k]? = some o := by simpa using ho
      have hrd := up_ready (md := md) hM hn ho h1 h2
      match p, h, h3 with
      | 0, h, g3 =>
        simp only [kindB, Bool.and_eq_true, Bool.not_eq_true'] at g3
        obtain ⟨o', ho', hw, hr⟩ := h
        obtain rfl : o' = o := by rw [ho] at ho'; exact (Option.some.inj ho').symm
        refine ⟨fun hh => (by rw [hh] at hrd; cases hrd), fun j hj => ?_⟩
        obtain rfl := one_ready hM hn g3.1.1 hj
        refine wpOp_step h0 (fun K hK => ?_)
        rw [if_pos hw]
        exact hr K (fun a' w' hd hh => hK a' w' ⟨fun _ => hd, wpAnyJ_seqT hn hs hQ r (m ||| 2 ^ j) _ a' w' (hM.set hk) (hc.set hj) (fun _ => hd) hB' hT hh⟩)
      | 1, h, g3 =>
        simp only [kindB, Bool.and_eq_true, Bool.not_eq_true'] at g3
        obtain ⟨o', v, ho', hw, hv, hr⟩ := h
        obtain rfl : o' = o := by rw [ho] at ho'; exact (Option.some.inj ho').symm
        have hks : k ≠ s := by simpa using g3.2
        have hD' : (l.setIfInBounds k true).getD s false = false → D w := fun hh => hD (by rw [getD_set_ne false hks] at hh; exact hh)
        exact wpAnyJ_first (E := fun _ => True) h0 hks (Region.noSelect_spec hs) (fun c a w h => hQ c a _ _ w h) (fun _ _ _ _ _ => trivial) (f + r.length) l a w hc hD (free_of hM hn g3.1) hrd (Or.inl ⟨hw, fun w _ => hv w⟩) (wpAnyJ_seqT hn hs hQ r (m ||| 2 ^ k) _ _ w (hM.set hk) (hc.set hrd) hD' hB' hT hr)
      | 2, h, g3 =>
        simp only [kindB, Bool.and_eq_true, Bool.not_eq_true'] at g3
        obtain ⟨o', v, ho', hw, hv, hr⟩ := h
        obtain rfl : o' = o := by rw [ho] at ho'; exact (Option.some.inj ho').symm
        have hks : k ≠ s := by simpa using g3.1.2
        have hD' : (l.setIfInBounds k true).getD s false = false → D w := fun hh => hD (by rw [getD_set_ne false hks] at hh; exact hh)
        refine wpAnyJ_first (E := D) h0 hks (Region.noSelect_spec hs) (fun c a w h => hQ c a _ _ w h) (fun l w hcl hrl hd => hd ?_) (f + r.length) l a w hc hD (free_of hM hn g3.1.1) hrd (Or.inl ⟨hw, hv⟩) (wpAnyJ_seqT hn hs hQ r (m ||| 2 ^ k) _ _ w (hM.set hk) (hc.set hrd) hD' hB' hT hr)
        cases hx : l.getD s false with
        | false => rfl
        | true => have := (ready_no hrl).1; rw [anc_listed hcl hx g3.2] at this; cases this
      | p + 3, h, g3 =>
        simp only [kindB, Bool.and_eq_true, Bool.or_eq_true, beq_iff_eq] at g3
        obtain ⟨o', ho', hw, hr⟩ := h
        obtain rfl : o' = o := by rw [ho] at ho'; exact (Option.some.inj ho').symm
        refine ⟨fun hh => (by rw [hh] at hrd; cases hrd), fun j hj => ?_⟩
        obtain rfl := one_ready hM hn g3.1 hj
        have hsl : (l.setIfInBounds j true).getD s false = true := by
          rcases g3.2 with e | e
          · subst e; exact getD_set_is (ready_no hj).2
          · exact getD_set_true (by rw [hM.getF]; exact e)
        refine wpOp_step h0 (fun K hK => ?_)
        rw [if_pos hw]
        exact hr K (fun a' w' hh => hK a' w' ⟨fun e => (by rw [hsl] at e; cases e), wpAnyJ_seqT hn hs hQ r (m ||| 2 ^ j) _ a' w' (hM.set hk) (hc.set hj) (fun e => (by rw [hsl] at e; cases e)) hB' hT hh⟩)
/-- The whole region: a sequence, a pair, a sequence. -/
theorem region_sp {id : Nat} {L : List Oper} {a : Act} {w : World} (s : Nat) (D : World → Prop) (js : List (Nat × Nat)) (k j : Nat) (js' : List (Nat × Nat)) (hm : P.follows .mixedOrders = true) (hs : Region.noSelect L.toArray = true) (hl : js'.length + 1 + 1 + js.length = L.length) (hQ : ∀ c a d v w, Q (.panic c) (a.put d v) w → Q (.panic c) a w)
    (hB : (sqT .any L s js 0 && pairB .any L s (mkT js 0) k j && sqB .any L s js' (mkT js 0 ||| 2 ^ k ||| 2 ^ j)) = true) (hD : D w.drew) (h : wpSt P L Q D (wpPr P L Q D k j (wpSq P L Q D js')) js a w.drew) : (Code.region id L.toArray true).wp P Q a w := by
  simp only [Bool.and_eq_true] at hB
  obtain ⟨⟨h1, h2⟩, h3⟩ := hB
  refine wp_region_any hm (wpAny_of_J (s := s) (D := D) _ _ _ _ ?_)
  have := wpAnyJ_seqT (md := .any) (s := s) (D := D) (P := P) (Q := Q) (f := js'.length + 1 + 1) rfl hs hQ js 0 (Array.replicate L.length false) a w.drew (marks_none L.length) (closed_none _) (fun _ => hD) h1 (fun l' a' w' hM hc hd hT => anyJ_pair rfl hM h2 (fun a2 w2 hd2 hr => by
    have h2' := h2
    unfold pairB at h2'
    split at h2'
    · rename_i ok oj hok hoj
      simp only [Bool.and_eq_true, Bool.not_eq_true', beq_eq_false_iff_ne] at h2'
      obtain ⟨⟨⟨⟨⟨⟨⟨⟨hk1, hj1⟩, hkj⟩, hk2⟩, hj2⟩, _⟩, _⟩, _⟩, _⟩ := h2'
      have hkj' : k ≠ j := by simpa using hkj
      have hk : k < L.length := (List.getElem?_eq_some_iff.1 hok).1
      have hj : j < L.length := (List.getElem?_eq_some_iff.1 hoj).1
      have hrk := up_ready (md := .any) hM rfl hok hk1 hk2
      have hrj := up_ready (md := .any) hM rfl hoj hj1 hj2
      exact wpAnyJ_seq rfl hs hQ js' _ _ a2 w2 ((hM.set hk).set hj) ((hc.set hrk).set (ready_mono hrj (Ne.symm hkj'))) (fun _ => hd2) h3 hr
    · cases h2') hT) h
  rw [hl] at this
  simpa using this
end
end Go.Proofs.YtnfjmmkokhncoaaGreat
