/- Regions that draw their order, whose operations come in one sequence: each yields the same in every world, or alone may come up. One closed check for the whole sequence. -/
import Derived.Test.YtgciceogggldhaaProg
import Derived.Deep.QuietTactic
import Derived.BigQuiet
import Derived.Below
namespace Go.Proofs.Ytgciceogggldhaa
open Go.RowKit

/-- Which operations have come up, as a number's bits. -/
structure Marks (n : Nat) (listed : Array Bool) (m : Nat) : Prop where
  size : listed.size = n
  get : ∀ j (h : j < listed.size), listed[j] = m.testBit j
  high : ∀ j, n ≤ j → m.testBit j = false
theorem Marks.getT {n m j : Nat} {listed : Array Bool} (h : Marks n listed m) (hj : j < n) : listed.getD j true = m.testBit j := by
  have hj' : j < listed.size := by rw [h.size]; exact hj
  rw [← h.get j hj']
  simp [hj']
theorem Marks.getF {n m j : Nat} {listed : Array Bool} (h : Marks n listed m) : listed.getD j false = m.testBit j := by
  by_cases hj : j < n
  · have hj' : j < listed.size := by rw [h.size]; exact hj
    rw [← h.get j hj']
    simp [hj']
  · rw [h.high j (by omega)]
    simp [Array.getElem?_eq_none (show listed.size ≤ j by rw [h.size]; omega)]
theorem marks_none (n : Nat) : Marks n (Array.replicate n false) 0 := ⟨by simp, fun j h => by simp, fun j _ => by simp⟩
theorem Marks.set {n m k : Nat} {listed : Array Bool} (h : Marks n listed m) (hk : k < n) : Marks n (listed.setIfInBounds k true) (m ||| 2 ^ k) := by
  refine ⟨by simp [h.size], fun j hj => ?_, fun j hj => ?_⟩
  · have hj' : j < listed.size := by simpa using hj
    rw [Nat.testBit_or, Nat.testBit_two_pow, Array.getElem_setIfInBounds hj']
    by_cases e : k = j
    · simp [e]
    · simp [e, h.get j hj']
  · rw [Nat.testBit_or, Nat.testBit_two_pow, h.high j hj]
    simp; omega
/-- The marks, written out. -/
def marksArr (n m : Nat) : Array Bool := ((List.range n).map fun j => m.testBit j).toArray
theorem Marks.eq {n m : Nat} {listed : Array Bool} (h : Marks n listed m) : listed = marksArr n m := by
  apply Array.ext
  · simp [marksArr, h.size]
  · intro j h1 h2
    rw [h.get j h1]
    simp [marksArr]

def allFrom (f : Nat → Oper → Bool) : Nat → List Oper → Bool
  | _, [] => true
  | j, o :: r => f j o && allFrom f (j + 1) r
theorem allFrom_at {f : Nat → Oper → Bool} : ∀ {L : List Oper} {k : Nat}, allFrom f k L = true → ∀ {j : Nat} {o : Oper}, L[j]? = some o → f (k + j) o = true
  | [], _, _, _, _, h => by simp at h
  | x :: r, k, ha, j, o, h => by
    simp only [allFrom, Bool.and_eq_true] at ha
    cases j with
    | zero => simp at h; subst h; exact ha.1
    | succ j =>
      have := allFrom_at ha.2 (j := j) (o := o) (by simpa using h)
      rwa [Nat.add_right_comm, Nat.add_assoc] at this
def upB (md : Region.Mode) (m : Nat) (o : Oper) : Bool := o.after.all fun e => !Region.binds md e || m.testBit e.on
def freeB (md : Region.Mode) (L : List Oper) (m k : Nat) (ok : Oper) : Bool := allFrom (fun j o => j == k || m.testBit j || o.after.any (fun e => Region.binds md e && e.on == k) || ok.apart L.toArray o) 0 L
def oneB (md : Region.Mode) (L : List Oper) (m k : Nat) : Bool := allFrom (fun j o => j == k || m.testBit j || !upB md m o) 0 L
def stepB (md : Region.Mode) (L : List Oper) (m k : Nat) (p : Bool) : Bool :=
  match L[k]? with
  | none => false
  | some o => !m.testBit k && upB md m o && (if p then freeB md L m k o else oneB md L m k)
def seqB (md : Region.Mode) (L : List Oper) : List (Nat × Bool) → Nat → Bool
  | [], _ => true
  | (k, p) :: r, m => stepB md L m k p && seqB md L r (m ||| 2 ^ k)
def endM : List (Nat × Bool) → Nat → Nat
  | [], m => m
  | (k, _) :: r, m => endM r (m ||| 2 ^ k)
/-- The sequence's walk. -/
def wpSeq (P : Program) (L : List Oper) (Q : Exit → Act → World → Prop) (Z : Act → World → Prop) : List (Nat × Bool) → Act → World → Prop
  | [], a, w => Z a w
  | (k, true) :: r, a, w => ∃ o v, L[k]? = some o ∧ Region.wanted o (yielded L.toArray a.tmps) = true ∧ (∀ w, (execOp a.eval o).run P w = .ok (.value v) w) ∧ wpSeq P L Q Z r (a.put o.dst v) w
  | (k, false) :: r, a, w => ∃ o, L[k]? = some o ∧ Region.wanted o (yielded L.toArray a.tmps) = true ∧ ∀ K : Act → World → Prop, (∀ a w, wpSeq P L Q Z r a w → K a w) → Oper.wp P o a w K Q

theorem up_ready {md : Region.Mode} {L : List Oper} {n m k : Nat} {o : Oper} {listed : Array Bool} (hM : Marks n listed m) (hn : L.length = n) (ho : L[k]? = some o) (h1 : m.testBit k = false) (h2 : upB md m o = true) : k ∈ Region.ready md L.toArray listed := by
  have hk : k < n := by rw [← hn]; exact (List.getElem?_eq_some_iff.1 ho).1
  refine mem_ready.2 ⟨by rw [hM.getT hk]; exact h1, o, by simpa using ho, fun e he hb => ?_⟩
  rw [hM.getF]
  have := Array.all_eq_true_iff_forall_mem.1 h2 e he
  simpa [hb] using this
theorem ready_up {md : Region.Mode} {L : List Oper} {n m k : Nat} {o : Oper} {listed : Array Bool} (hM : Marks n listed m) (hn : L.length = n) (ho : L[k]? = some o) (h : k ∈ Region.ready md L.toArray listed) : m.testBit k = false ∧ upB md m o = true := by
  have hk : k < n := by rw [← hn]; exact (List.getElem?_eq_some_iff.1 ho).1
  obtain ⟨h1, o', ho', h2⟩ := mem_ready.1 h
  obtain rfl : o' = o := by
    have : L[k]? = some o' := by simpa using ho'
    rw [ho] at this
    exact (Option.some.inj this).symm
  refine ⟨by rw [← hM.getT hk]; exact h1, Array.all_eq_true_iff_forall_mem.2 (fun e he => ?_)⟩
  cases hb : Region.binds md e
  · rfl
  · have := h2 e he hb
    rw [hM.getF] at this
    simp [this]

/-- One walk of the sequence serves every order. -/
theorem wpAny_seq {P : Program} {md : Region.Mode} {L : List Oper} {Q : Exit → Act → World → Prop} {n fuel : Nat} (hn : L.length = n) (hs : Region.noSelect L.toArray = true) (hQ : ∀ c a d v w, Q (.panic c) (a.put d v) w → Q (.panic c) a w) :
    ∀ (js : List (Nat × Bool)) (m : Nat) (listed : Array Bool) (a : Act) (w : World), Marks n listed m → seqB md L js m = true →
      wpSeq P L Q (wpAny P md L.toArray Q fuel (marksArr n (endM js m))) js a w → wpAny P md L.toArray Q (fuel + js.length) listed a w
  | [], m, listed, a, w, hM, _, h => by rw [hM.eq]; exact h
  | (k, true) :: r, m, listed, a, w, hM, hB, h => by
    simp only [seqB, Bool.and_eq_true] at hB
    obtain ⟨o, v, ho, hw, hv, hr⟩ := h
    have hst := hB.1
    unfold stepB at hst
    simp only [ho, Bool.and_eq_true, Bool.not_eq_true', if_true] at hst
    obtain ⟨⟨h1, h2⟩, h3⟩ := hst
    have hk : k < n := by rw [← hn]; exact (List.getElem?_eq_some_iff.1 ho).1
    refine wpAny_first (i := k) (oi := o) (v := v) (by simpa using ho) (Region.noSelect_spec hs) (fun c a w h => hQ c a _ _ w h) (fuel + r.length) listed a w ?_ (up_ready hM hn ho h1 h2) (Or.inl ⟨hw, hv⟩) (wpAny_seq hn hs hQ r (m ||| 2 ^ k) _ _ w (hM.set hk) hB.2 hr)
    intro j oj hj hne hun hno
    have hj' : L[j]? = some oj := by simpa using hj
    have hjn : j < n := by rw [← hn]; exact (List.getElem?_eq_some_iff.1 hj').1
    have := allFrom_at h3 hj'
    rw [Nat.zero_add] at this
    simp only [Bool.or_eq_true, beq_iff_eq] at this
    rcases this with ((hh | hh) | hh) | hh
    · exact absurd hh hne
    · rw [hM.getT hjn, hh] at hun; cases hun
    · obtain ⟨e, he, hb⟩ := Array.any_eq_true'.1 hh
      simp only [Bool.and_eq_true, beq_iff_eq] at hb
      exact absurd hb.2 (hno e he hb.1)
    · exact hh
  | (k, false) :: r, m, listed, a, w, hM, hB, h => by
    simp only [seqB, Bool.and_eq_true] at hB
    obtain ⟨o, ho, hw, hr⟩ := h
    have hst := hB.1
    unfold stepB at hst
    simp only [ho, Bool.and_eq_true, Bool.not_eq_true', Bool.false_eq_true, if_false] at hst
    obtain ⟨⟨h1, h2⟩, h3⟩ := hst
    have hk : k < n := by rw [← hn]; exact (List.getElem?_eq_some_iff.1 ho).1
    have hrd := up_ready (md := md) hM hn ho h1 h2
    show wpAny P md L.toArray Q (fuel + r.length + 1) listed a w
    refine ⟨fun h0 => (by rw [h0] at hrd; cases hrd), fun j hj => ?_⟩
    have hjk : j = k := by
      apply Classical.byContradiction
      intro hne
      obtain ⟨_, oj, hoj, _⟩ := mem_ready.1 hj
      have hj' : L[j]? = some oj := by simpa using hoj
      obtain ⟨g1, g2⟩ := ready_up hM hn hj' hj
      have := allFrom_at h3 hj'
      rw [Nat.zero_add] at this
      simp [hne, g1, g2] at this
    subst hjk
    refine wpOp_step (by simpa using ho) (fun K hK => ?_)
    rw [if_pos hw]
    exact hr K (fun a' w' hh => hK a' w' (wpAny_seq hn hs hQ r (m ||| 2 ^ j) _ a' w' (hM.set hk) hB.2 hh))
theorem marks_arr {n m : Nat} (h : m < 2 ^ n) : Marks n (marksArr n m) m := by
  refine ⟨by simp [marksArr], fun j hj => by simp [marksArr], fun j hj => Nat.testBit_lt_two_pow (Nat.lt_of_lt_of_le h (Nat.pow_le_pow_right (by omega) hj))⟩
/-- The operations js are left, and come in this turn. -/
def turnM (md : Region.Mode) (L : List Oper) : List Nat → Nat → Bool
  | [], m => allFrom (fun j _ => m.testBit j) 0 L
  | k :: r, m => stepB md L m k true && turnM md L r (m ||| 2 ^ k)
theorem wpAnyQ_marks {P : Program} {md : Region.Mode} {L : List Oper} {C : World → Prop} {Q : Act → Prop} {n : Nat} (hn : L.length = n) (hs : Region.noSelect L.toArray = true) :
    ∀ (js : List Nat) (l : List Oper) (m : Nat) (listed : Array Bool) (a : Act), Marks n listed m → js.map (fun j => L[j]?) = l.map some → turnM md L js m = true → wpQuiet P L.toArray C Q l a → wpAnyQ P md L.toArray C Q l.length listed a
  | [], [], m, listed, a, hM, _, hB, h => by
    refine ⟨?_, h⟩
    apply List.eq_nil_iff_forall_not_mem.2
    intro j hj
    obtain ⟨_, oj, hoj, _⟩ := mem_ready.1 hj
    have hj' : L[j]? = some oj := by simpa using hoj
    have h1 := (ready_up hM hn hj' hj).1
    have h2 := allFrom_at hB hj'
    rw [Nat.zero_add, h1] at h2
    cases h2
  | [], _ :: _, _, _, _, _, he, _, _ => by simp at he
  | _ :: _, [], _, _, _, _, he, _, _ => by simp at he
  | k :: js, o :: l, m, listed, a, hM, he, hB, h => by
    simp only [List.map_cons, List.cons.injEq] at he
    obtain ⟨ho, he⟩ := he
    simp only [turnM, Bool.and_eq_true] at hB
    have hst := hB.1
    unfold stepB at hst
    simp only [ho, Bool.and_eq_true, Bool.not_eq_true', if_true] at hst
    obtain ⟨⟨h1, h2⟩, h3⟩ := hst
    have hk : k < n := by rw [← hn]; exact (List.getElem?_eq_some_iff.1 ho).1
    have h0 : L.toArray[k]? = some o := by simpa using ho
    have hq : qOp P L.toArray C k (wpQuiet P L.toArray C Q l) a := by unfold qOp; simp only [h0]; exact h
    obtain ⟨v, hy, hK⟩ := yieldsIn_of_qOp h0 hq
    refine wpAnyQ_first h0 (Region.noSelect_spec hs) l.length listed a ?_ (up_ready hM hn ho h1 h2) hy (wpAnyQ_marks hn hs js l (m ||| 2 ^ k) _ _ (hM.set hk) he hB.2 hK)
    intro j oj hj hne hun hno
    have hj' : L[j]? = some oj := by simpa using hj
    have hjn : j < n := by rw [← hn]; exact (List.getElem?_eq_some_iff.1 hj').1
    have := allFrom_at h3 hj'
    rw [Nat.zero_add] at this
    simp only [Bool.or_eq_true, beq_iff_eq] at this
    rcases this with ((hh | hh) | hh) | hh
    · exact absurd hh hne
    · rw [hM.getT hjn, hh] at hun; cases hun
    · obtain ⟨e, he, hb⟩ := Array.any_eq_true'.1 hh
      simp only [Bool.and_eq_true, beq_iff_eq] at hb
      exact absurd hb.2 (hno e he hb.1)
    · exact hh
/-- What is left keeps to a class of worlds. -/
theorem rest_marks {P : Program} {md : Region.Mode} {Q : Exit → Act → World → Prop} {a : Act} {w : World} {L : List Oper} {fuel n : Nat} {listed : Array Bool} (C : World → Prop) (m : Nat) (js : List Nat) (l : List Oper) (hM : Marks n listed m) (hn : L.length = n) (hs : Region.noSelect L.toArray = true) (hl : js.map (fun j => L[j]?) = l.map some)
    (hf : l.length = fuel) (hB : turnM md L js m = true) (hC : C w) (h : wpQuiet P L.toArray C (fun a' => ∀ w', C w' → Q .normal a' w') l a) : wpAny P md L.toArray Q fuel listed a w := by
  subst hf
  exact wpAny_of_quiet (Q := fun a' => ∀ w', C w' → Q .normal a' w') (fun _ w' hw' h => h w' hw') _ _ _ _ hC (wpAnyQ_marks hn hs js l m listed a hM hl hB h)
theorem rest_from {P : Program} {md : Region.Mode} {Q : Exit → Act → World → Prop} {a : Act} {w : World} {L : List Oper} {fuel n : Nat} {listed : Array Bool} (C : World → Prop) (m k : Nat) (js : List Nat) (hM : Marks n listed m) (hn : L.length = n) (hs : Region.noSelect L.toArray = true) (hl : js.map (fun j => L[j]?) = (L.drop k).map some)
    (hf : (L.drop k).length = fuel) (hB : turnM md L js m = true) (hC : C w) (h : wpQuiet P L.toArray C (fun a' => ∀ w', C w' → Q .normal a' w') (L.drop k) a) : wpAny P md L.toArray Q fuel listed a w := rest_marks C m js (L.drop k) hM hn hs hl hf hB hC h
end Go.Proofs.Ytgciceogggldhaa
