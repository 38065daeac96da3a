-- M04
import Derived.Test.YtaapkngpnlnjeaaGreatM03
import Derived.OrdersHeld
import Derived.Deep.RegionWith
section
namespace Go.Proofs.YtaapkngpnlnjeaaGreat
open Go.RowKit

section
variable {P : Program} {md : Region.Mode} {ops : Array Oper} {Q : Exit → Act → World → Prop} {s : Nat} {D : World → Prop}

/-- Whatever order is picked from here on; until s has come up, the worlds are of the class. -/
def wpAnyJ (P : Program) (md : Region.Mode) (ops : Array Oper) (Q : Exit → Act → World → Prop) (s : Nat) (D : World → Prop) : Nat → Array Bool → Act → World → Prop
  | 0, l, a, w => Region.ready md ops l = [] ∧ Q .normal a w
  | f + 1, l, a, w => (Region.ready md ops l = [] → Q .normal a w) ∧ ∀ i ∈ Region.ready md ops l, wpOp P ops Q i (fun a' w' => ((l.setIfInBounds i true).getD s false = false → D w') ∧ wpAnyJ P md ops Q s D f (l.setIfInBounds i true) a' w') a w
theorem wpAny_of_J : ∀ (f : Nat) (l : Array Bool) (a : Act) (w : World), wpAnyJ P md ops Q s D f l a w → wpAny P md ops Q f l a w
  | 0, _, _, _, h => h
  | f + 1, _, _, _, h => ⟨h.1, fun i hi => wpOp_mono (fun a' w' h' => wpAny_of_J f _ a' w' h'.2) (h.2 i hi)⟩
/-- One that may come up, and has one value in the worlds that it may come up in, may be taken first. -/
theorem wpAnyJ_first {E : World → Prop} {i : Nat} {oi : Oper} {v : Value} (hi : ops[i]? = some oi) (his : i ≠ s) (hsel : ∀ (j : Nat) (o : Oper) cs b, ops[j]? = some o → o.op ≠ .select cs b)
    (hQ : ∀ c a w, Q (.panic c) (a.put oi.dst v) w → Q (.panic c) a w) (hE : ∀ l w, ClosedD md ops l → i ∈ Region.ready md ops l → (l.getD s false = false → D w) → E w) :
    ∀ (f : Nat) (l : Array Bool) (a : Act) (w : World), ClosedD md ops l → (l.getD s false = false → D w) →
      (∀ j oj, ops[j]? = some oj → j ≠ i → l.getD j true = false → (∀ e ∈ oj.after, Region.binds md e = true → e.on ≠ i) → oi.apart ops oj = true) →
      i ∈ Region.ready md ops l → YieldsIf P ops E oi v a →
      wpAnyJ P md ops Q s D f (l.setIfInBounds i true) (a.put oi.dst v) w → wpAnyJ P md ops Q s D (f + 1) l a w := by
  intro f
  induction f with
  | zero =>
    intro l a w hc hD _ hr hy H
    refine ⟨fun h => (by rw [h] at hr; cases hr), fun j hj => ?_⟩
    by_cases hji : j = i
    · subst hji
      exact hy.wpOp hi (hE l w hc hr hD) ⟨fun h => hD (by rw [getD_set_ne false his] at h; exact h), H⟩
    · have := ready_mono hj hji
      rw [H.1] at this
      cases this
  | succ f ih =>
    intro l a w hc hD hfree hr hy H
    refine ⟨fun h => (by rw [h] at hr; cases hr), fun j hj => ?_⟩
    by_cases hji : j = i
    · subst hji
      exact hy.wpOp hi (hE l w hc hr hD) ⟨fun h => hD (by rw [getD_set_ne false his] at h; exact h), H⟩
    · have h1 := H.2 j (ready_mono hj hji)
      obtain ⟨hjun, oj, hoj, hall⟩ := mem_ready.1 hj
      have hnot : ∀ e ∈ oj.after, Region.binds md e = true → e.on ≠ i := fun e he hb heq => by
        have h1 := hall e he hb
        have h0 := (ready_no hr).1
        rw [heq, h0] at h1
        cases h1
      have h2 := wpOp_putIf hoj (hfree j oj hoj hji hjun hnot) (fun cs b => hsel i oi cs b hi) (fun cs b => hsel j oj cs b hoj) hQ hy h1
      refine wpOp_mono (fun a' w' h3 => ?_) h2
      obtain ⟨hy', hD', H'⟩ := h3
      have hD2 : (l.setIfInBounds j true).getD s false = false → D w' := fun h => hD' (by rw [Array.setIfInBounds_comm _ _ (Ne.symm hji), getD_set_ne false his]; exact h)
      refine ⟨hD2, ih _ a' w' (hc.set hj) hD2 (fun k ok hk hki hun hno => ?_) (ready_mono hr (Ne.symm hji)) hy' ?_⟩
      · refine hfree k ok hk hki ?_ hno
        by_cases hjk : j = k
        · subst hjk; exact hjun
        · rw [getD_set_ne true hjk] at hun; exact hun
      · rw [Array.setIfInBounds_comm _ _ hji]
        exact H'

/-- The sequence's walk. Kinds: 0 alone may come up, ahead of s; 1 the same in every world; 2 the same in every world of the class; 3 alone may come up, s or behind it. -/
def wpSq (P : Program) (L : List Oper) (Q : Exit → Act → World → Prop) (D : World → Prop) : List (Nat × Nat) → Act → World → Prop
  | [], a, w => Q .normal a w
  | (k, 0) :: r, a, w => ∃ o, L[k]? = some o ∧ Region.wanted o (yielded L.toArray a.tmps) = true ∧ ∀ K : Act → World → Prop, (∀ a w, D w → wpSq P L Q D r a w → K a w) → Oper.wp P o a w K Q
  | (k, 1) :: r, a, w => ∃ o v, L[k]? = some o ∧ Region.wanted o (yielded L.toArray a.tmps) = true ∧ (∀ w, (execOp a.eval o).run P w = .ok (.value v) w) ∧ wpSq P L Q D r (a.put o.dst v) w
  | (k, 2) :: r, a, w => ∃ o v, L[k]? = some o ∧ Region.wanted o (yielded L.toArray a.tmps) = true ∧ (∀ w, D w → (execOp a.eval o).run P w = .ok (.value v) w) ∧ wpSq P L Q D r (a.put o.dst v) w
  | (k, _) :: r, a, w => ∃ o, L[k]? = some o ∧ Region.wanted o (yielded L.toArray a.tmps) = true ∧ ∀ K : Act → World → Prop, (∀ a w, wpSq P L Q D r a w → K a w) → Oper.wp P o a w K Q
def kindB (md : Region.Mode) (L : List Oper) (s m k : Nat) (o : Oper) : Nat → Bool
  | 0 => oneB md L m k && !(k == s) && !m.testBit s
  | 1 => freeB md L m k o && !(k == s)
  | 2 => freeB md L m k o && !(k == s) && ancB md L.toArray L.length s k
  | _ => oneB md L m k && (k == s || m.testBit s)
def sqB (md : Region.Mode) (L : List Oper) (s : Nat) : List (Nat × Nat) → Nat → Bool
  | [], m => allFrom (fun j _ => m.testBit j) 0 L
  | (k, p) :: r, m => (match L[k]? with | none => false | some o => !m.testBit k && upB md m o && kindB md L s m k o p) && sqB md L s r (m ||| 2 ^ k)
theorem one_ready {L : List Oper} {n m k j : Nat} {l : Array Bool} (hM : Marks n l m) (hn : L.length = n) (h : oneB md L m k = true) (hj : j ∈ Region.ready md L.toArray l) : j = k := by
  apply Classical.byContradiction
  intro hne
  obtain ⟨_, oj, hoj, _⟩ := mem_ready.1 hj
  have hj' : L[j]? = some oj := by simpa using hoj
  obtain ⟨g1, g2⟩ := ready_up hM hn hj' hj
  have := allFrom_at h hj'
  rw [Nat.zero_add] at this
  simp [hne, g1, g2] at this
theorem free_of {L : List Oper} {n m k : Nat} {l : Array Bool} {o : Oper} (hM : Marks n l m) (hn : L.length = n) (h : freeB md L m k o = true) (j : Nat) (oj : Oper) (hj : L.toArray[j]? = some oj) (hne : j ≠ k) (hun : l.getD j true = false) (hno : ∀ e ∈ oj.after, Region.binds md e = true → e.on ≠ k) : o.apart L.toArray oj = true := by
  have hj' : L[j]? = some oj := by simpa using hj
  have hjn : j < n := by rw [← hn]; exact (List.getElem?_eq_some_iff.1 hj').1
  have := allFrom_at h hj'
  rw [Nat.zero_add] at this
  simp only [Bool.or_eq_true, beq_iff_eq] at this
  rcases this with ((hh | hh) | hh) | hh
  · exact absurd hh hne
  · rw [hM.getT hjn, hh] at hun; cases hun
  · obtain ⟨e, he, hb⟩ := Array.any_eq_true'.1 hh
    simp only [Bool.and_eq_true, beq_iff_eq] at hb
    exact absurd hb.2 (hno e he hb.1)
  · exact hh
theorem wpAnyJ_seq {L : List Oper} {n : Nat} (hn : L.length = n) (hs : Region.noSelect L.toArray = true) (hQ : ∀ c a d v w, Q (.panic c) (a.put d v) w → Q (.panic c) a w) :
    ∀ (js : List (Nat × Nat)) (m : Nat) (l : Array Bool) (a : Act) (w : World), Marks n l m → ClosedD md L.toArray l → (l.getD s false = false → D w) → sqB md L s js m = true → wpSq P L Q D js a w → wpAnyJ P md L.toArray Q s D js.length l a w
  | [], m, l, a, w, hM, _, _, hB, h => by
    refine ⟨?_, h⟩
    apply List.eq_nil_iff_forall_not_mem.2
    intro j hj
    obtain ⟨_, oj, hoj, _⟩ := mem_ready.1 hj
    have hj' : L[j]? = some oj := by simpa using hoj
    have h1 := (ready_up hM hn hj' hj).1
    have h2 := allFrom_at hB hj'
    rw [Nat.zero_add, h1] at h2
    cases h2
  | (k, p) :: r, m, l, a, w, hM, hc, hD, hB, h => by
    simp only [sqB, Bool.and_eq_true] at hB
    obtain ⟨hst, hB'⟩ := hB
    cases ho : L[k]? with
    | none => rw [ho] at hst; cases hst
    | some o =>
      rw [ho] at hst
      simp only [Bool.and_eq_true, Bool.not_eq_true'] at hst
      obtain ⟨⟨h1, h2⟩, h3⟩ := hst
      have hk : k < n := by rw [← hn]; exact (List.getElem?_eq_some_iff.1 ho).1
      have h0 : L.toArray[k]? = some o := by simpa using ho
      have hrd := up_ready (md := md) hM hn ho h1 h2
      match p, h, h3 with
      | 0, h, g3 =>
        simp only [kindB, Bool.and_eq_true, Bool.not_eq_true'] at g3
        obtain ⟨o', ho', hw, hr⟩ := h
        obtain rfl : o' = o := by rw [ho] at ho'; exact (Option.some.inj ho').symm
        refine ⟨fun hh => (by rw [hh] at hrd; cases hrd), fun j hj => ?_⟩
        obtain rfl := one_ready hM hn g3.1.1 hj
        refine wpOp_step h0 (fun K hK => ?_)
        rw [if_pos hw]
        exact hr K (fun a' w' hd hh => hK a' w' ⟨fun _ => hd, wpAnyJ_seq hn hs hQ r (m ||| 2 ^ j) _ a' w' (hM.set hk) (hc.set hj) (fun _ => hd) hB' hh⟩)
      | 1, h, g3 =>
        simp only [kindB, Bool.and_eq_true, Bool.not_eq_true'] at g3
        obtain ⟨o', v, ho', hw, hv, hr⟩ := h
        obtain rfl : o' = o := by rw [ho] at ho'; exact (Option.some.inj ho').symm
        have hks : k ≠ s := by simpa using g3.2
        have hD' : (l.setIfInBounds k true).getD s false = false → D w := fun hh => hD (by rw [getD_set_ne false hks] at hh; exact hh)
        exact wpAnyJ_first (E := fun _ => True) h0 hks (Region.noSelect_spec hs) (fun c a w h => hQ c a _ _ w h) (fun _ _ _ _ _ => trivial) r.length l a w hc hD (free_of hM hn g3.1) hrd (Or.inl ⟨hw, fun w _ => hv w⟩) (wpAnyJ_seq hn hs hQ r (m ||| 2 ^ k) _ _ w (hM.set hk) (hc.set hrd) hD' hB' hr)
      | 2, h, g3 =>
        simp only [kindB, Bool.and_eq_true, Bool.not_eq_true'] at g3
        obtain ⟨o', v, ho', hw, hv, hr⟩ := h
        obtain rfl : o' = o := by rw [ho] at ho'; exact (Option.some.inj ho').symm
        have hks : k ≠ s := by simpa using g3.1.2
        have hD' : (l.setIfInBounds k true).getD s false = false → D w := fun hh => hD (by rw [getD_set_ne false hks] at hh; exact hh)
        refine wpAnyJ_first (E := D) h0 hks (Region.noSelect_spec hs) (fun c a w h => hQ c a _ _ w h) (fun l w hcl hrl hd => hd ?_) r.length l a w hc hD (free_of hM hn g3.1.1) hrd (Or.inl ⟨hw, hv⟩) (wpAnyJ_seq hn hs hQ r (m ||| 2 ^ k) _ _ w (hM.set hk) (hc.set hrd) hD' hB' hr)
        cases hx : l.getD s false with
        | false => rfl
        | true => have := (ready_no hrl).1; rw [anc_listed hcl hx g3.2] at this; cases this
      | p + 3, h, g3 =>
        simp only [kindB, Bool.and_eq_true, Bool.or_eq_true, beq_iff_eq] at g3
        obtain ⟨o', ho', hw, hr⟩ := h
        obtain rfl : o' = o := by rw [ho] at ho'; exact (Option.some.inj ho').symm
        refine ⟨fun hh => (by rw [hh] at hrd; cases hrd), fun j hj => ?_⟩
        obtain rfl := one_ready hM hn g3.1 hj
        have hsl : (l.setIfInBounds j true).getD s false = true := by
          rcases g3.2 with e | e
          · subst e; exact getD_set_is (ready_no hj).2
          · exact getD_set_true (by rw [hM.getF]; exact e)
        refine wpOp_step h0 (fun K hK => ?_)
        rw [if_pos hw]
        exact hr K (fun a' w' hh => hK a' w' ⟨fun e => (by rw [hsl] at e; cases e), wpAnyJ_seq hn hs hQ r (m ||| 2 ^ j) _ a' w' (hM.set hk) (hc.set hj) (fun e => (by rw [hsl] at e; cases e)) hB' hh⟩)
theorem closed_none (n : Nat) : ClosedD md ops (Array.replicate n false) := fun j o _ hj => by
  have : (Array.replicate n false).getD j false = false := by
    simp only [Array.getD_eq_getD_getElem?, Array.getElem?_replicate]
    split <;> rfl
  rw [this] at hj; cases hj
/-- The whole region. -/
theorem region_sq {id : Nat} {L : List Oper} {a : Act} {w : World} (s : Nat) (D : World → Prop) (js : List (Nat × Nat)) (hm : P.follows .mixedOrders = true) (hs : Region.noSelect L.toArray = true) (hl : js.length = L.length) (hQ : ∀ c a d v w, Q (.panic c) (a.put d v) w → Q (.panic c) a w)
    (hB : sqB .any L s js 0 = true) (hD : D w.drew) (h : wpSq P L Q D js a w.drew) : (Code.region id L.toArray true).wp P Q a w := by
  refine wp_region_any hm (wpAny_of_J (s := s) (D := D) _ _ _ _ ?_)
  have := wpAnyJ_seq (md := .any) (s := s) (D := D) (P := P) (Q := Q) rfl hs hQ js 0 (Array.replicate L.length false) a w.drew (marks_none L.length) (closed_none _) (fun _ => hD) hB h
  rw [hl] at this
  simpa using this
end
end Go.Proofs.YtaapkngpnlnjeaaGreat
end

section
namespace Go.Proofs.YtaapkngpnlnjeaaGreat
open Go.RowKit Go.Maps
set_option maxRecDepth 100000

/-- But for these blocks all is as it was. -/
structure Frm (F : List Nat) (w w' : World) : Prop where
  os : w'.os = w.os
  tape : w'.tape = w.tape
  output : w'.output = w.output
  size : w.heap.size ≤ w'.heap.size
  block : ∀ b, b < w.heap.size → b ∉ F → w'.heap[b]? = w.heap[b]?
theorem Frm.refl (F : List Nat) (w : World) : Frm F w w := ⟨rfl, rfl, rfl, Nat.le_refl _, fun _ _ _ => rfl⟩
theorem Frm.of_below {F : List Nat} {w w' : World} (h : Below w.heap.size w w') : Frm F w w' := ⟨h.os, h.tape, h.output, h.size, fun b hb _ => h.block b hb⟩
theorem Frm.trans {F F' : List Nat} {w w' w'' : World} (h : Frm F w w') (h' : Frm F' w' w'') (hF : ∀ b, b ∈ F' → b ∈ F ∨ w.heap.size ≤ b) : Frm F w w'' :=
  ⟨h'.os.trans h.os, h'.tape.trans h.tape, h'.output.trans h.output, Nat.le_trans h.size h'.size, fun b hb hn => (h'.block b (Nat.lt_of_lt_of_le hb h.size) (fun hm => by rcases hF b hm with e | e; exact hn e; omega)).trans (h.block b hb hn)⟩
theorem Frm.below {F : List Nat} {w w' : World} {B : Nat} (h : Frm F w w') (hF : ∀ b, b ∈ F → B ≤ b) (hB : B ≤ w.heap.size) : Below B w w' :=
  ⟨h.os, h.tape, h.output, h.size, fun b hb => h.block b (by omega) (fun hm => by have := hF b hm; omega)⟩
theorem Frm.of_grown {F : List Nat} {w w' : World} {r : Option Nat} (h : w.grownBy w' r) (hr : ∀ b, r = some b → b ∈ F) : Frm F w w' :=
  ⟨h.os, h.tape, h.output, h.size, fun b hb hn => h.block b hb (fun e => hn (hr b e.symm))⟩
theorem Frm.of_set {F : List Nat} (w : World) {p : Addr} (hp : p.block ∈ F) (v : Value) : Frm F w (w.setCell p v) :=
  ⟨rfl, rfl, rfl, by simp, fun b _ hn => Below.heap_setCell _ _ _ _ (fun e => hn (e ▸ hp))⟩

/-- An error's number as a value. -/
def errV (n : Nat) : Value := if n = 0 then .nilIface else .iface 57 (.int .i64 (n : Int))

theorem St.drew {w : World} {sb g tb cap most : Nat} {N : List Nd} (h : St w sb g tb cap most N) : St w.drew sb g tb cap most N := ⟨h.blk, h.row, h.tab.blk rfl, h.wf, h.room, h.most_le, h.ne⟩
theorem Tryz.infoSq : (Tryz.prog.info? 107).map (fun i => (i.zero, i.size, i.bytes)) = some (some (.agg #[.int .u32 0, .int .u32 0, .int .u32 0, .int .u32 0, .int .i64 0, .int .u64 0]), 6, 32) := by kernel_rfl
theorem infoSq : ∃ i, Tryz.prog.info? 107 = some i ∧ i.zero = some (.agg #[.int .u32 0, .int .u32 0, .int .u32 0, .int .u32 0, .int .i64 0, .int .u64 0]) ∧ i.size = 6 ∧ i.bytes = 32 := by
  obtain ⟨i, hi, h⟩ := Option.map_eq_some_iff.1 Tryz.infoSq
  simp only [Prod.mk.injEq] at h
  exact ⟨i, hi, h.1, h.2.1, h.2.2⟩
/-- Behind the append and the store into s.squares. -/
theorem st_added {w W : World} {sb g tb cap most : Nat} {N : List Nd} (h : St w sb g tb cap most N) {n : Nd} {g' cap' : Nat} (hown : W.ownsRow 0 107 6 (.slice (some ⟨g', 0, none⟩) (N.length + 1) cap') (N.length + 1) (ndVs N ++ ndV n))
    (hg : w.grownBy W (some g)) (hat : g' = g ∨ w.heap.size ≤ g') {W' : World} (hW : W.setCell ⟨sb, 1, none⟩ (.slice (some ⟨g', 0, none⟩) (N.length + 1) cap') = W') :
    W'.heap[sb]? = some (.cells #[.int .i64 (most : Int), .slice (some ⟨g', 0, none⟩) (N ++ [n]).length cap', .map (some tb)] 111 (0, 0)) ∧ W'.ownsRow 0 107 6 (.slice (some ⟨g', 0, none⟩) (N ++ [n]).length cap') (N ++ [n]).length (ndVs (N ++ [n])) ∧ KMap W' tb N ∧ Frm [sb, g, tb] w W' ∧ sb ≠ g' := by
  obtain ⟨l1, l2, l3⟩ := h.lt
  obtain ⟨n1, n2⟩ := h.ne_tab
  have n3 : sb ≠ g' := by rcases hat with e | e; rw [e]; exact h.ne; omega
  have hb : W.heap[sb]? = w.heap[sb]? := hg.block sb l1 (by have := h.ne; simpa using this)
  have ht : W.heap[tb]? = w.heap[tb]? := hg.block tb l3 (by simpa using Ne.symm n2)
  have he : ndVs (N ++ [n]) = ndVs N ++ ndV n := by unfold ndVs; simp
  have hl : (N ++ [n]).length = N.length + 1 := by simp
  subst hW
  refine ⟨?_, ?_, h.tab.blk ?_, ?_, n3⟩
  · rw [hl]
    simp only [World.setCell, Array.getElem?_modify, hb, h.blk]
    simp
  · rw [he, hl]
    refine ⟨hown.1, ?_⟩
    rcases hown.2 with ⟨hv, _⟩ | ⟨g2, cp, cur, hv, h0, hgg, hr⟩
    · cases hv
    · cases hv
      exact Or.inr ⟨g', cap', cur, rfl, h0, by rw [Below.heap_setCell _ _ _ _ (by simpa using Ne.symm n3)]; exact hgg, hr⟩
  · rw [Below.heap_setCell _ _ _ _ (by simpa using Ne.symm n1)]; exact ht
  · exact (Frm.of_grown (F := [sb, g, tb]) hg (fun b e => by cases e; simp)).trans (Frm.of_set (F := [sb, g, tb]) W (by simp) _) (fun b hb => Or.inl hb)
/-- And behind the table's new entry. -/
theorem st_entered {w W W' : World} {sb g g' tb cap' most : Nat} {N : List Nd} {n : Nd} (hb : W.heap[sb]? = some (.cells #[.int .i64 (most : Int), .slice (some ⟨g', 0, none⟩) (N ++ [n]).length cap', .map (some tb)] 111 (0, 0)))
    (hr : W.ownsRow 0 107 6 (.slice (some ⟨g', 0, none⟩) (N ++ [n]).length cap') (N ++ [n]).length (ndVs (N ++ [n]))) (hf : Frm [sb, g, tb] w W) (hne : sb ≠ g') (hk : KMap W' tb (N ++ [n])) (hg : W.grownBy W' (some tb)) (hw : Wf (N ++ [n])) (hm : (N ++ [n]).length ≤ most) (hm2 : most ≤ 1048576) (hkW : KMap W tb N) :
    St W' sb g' tb cap' most (N ++ [n]) ∧ Frm [sb, g, tb] w W' := by
  have n1 : sb ≠ tb := fun e => by
    obtain ⟨D, ⟨es, cl, h1, _⟩, _⟩ := hkW
    subst e; rw [hb] at h1; cases h1
  have n2 : g' ≠ tb := fun e => by
    obtain ⟨D, ⟨es, cl, h1, _⟩, _⟩ := hkW
    subst e
    rcases hr.2 with ⟨hv, _⟩ | ⟨g2, cp, cur, hv, _, hgg, _⟩
    · cases hv
    · cases hv; rw [hgg] at h1; cases h1
  have l1 : sb < W.heap.size := (Array.getElem?_eq_some_iff.1 hb).1
  refine ⟨⟨?_, ⟨hr.1, ?_⟩, hk, hw, hm, hm2, hne⟩, hf.trans (Frm.of_grown (F := [sb, g, tb]) hg (fun b e => by cases e; simp)) (fun b hb => Or.inl hb)⟩
  · rw [hg.block sb l1 (by simpa using n1)]; exact hb
  · rcases hr.2 with ⟨hv, _⟩ | ⟨g2, cp, cur, hv, h0, hgg, hrr⟩
    · cases hv
    · cases hv
      have l2 : g' < W.heap.size := (Array.getElem?_eq_some_iff.1 hgg).1
      exact Or.inr ⟨g', cap', cur, rfl, h0, by rw [hg.block g' l2 (by simpa using n2)]; exact hgg, hrr⟩
/-- 's.table[k] = x' at the operation. -/
theorem wp_enter (w : World) {o : Oper} {a : Act} {K : Act → World → Prop} {Q : Exit → Act → World → Prop} (m x v : Operand) (hop : o.op = Op.mapUpdate 109 m x v) (b : Nat) (N : List Nd) (n : Nd) (hm : a.eval m = .map (some b)) (hx : a.eval x = kv n.k) (hv : a.eval v = .int .u32 (N.length : Int))
    (h : KMap w b N) (hl : 2 ≤ N.length) (hk : InK n.k) (hf : findZ N n.k = none) (hle : N.length ≤ 1048576) (hK : ∀ w', KMap w' b (N ++ [n]) → w.grownBy w' (some b) → K (a.put o.dst undef) w') : Oper.wp Tryz.prog o a w K Q := by
  obtain ⟨w', hrun, r1, r2⟩ := h.put hl n hk hf hle
  unfold Oper.wp
  simp [execOp, hop, hm, hx, hv, hrun, Result.andThen]
  exact hK w' r1 r2

set_option maxHeartbeats 2000000 in
theorem make_add {w : World} {sb g tb cap most : Nat} {N : List Nd} (h : St w sb g tb cap most N) (k : K4) (hk : InK k) (hf : FitZ N k) (hn : findZ N k = none) (hl : N.length < most) :
    Calls Tryz.prog 95 #[.pointer (some ⟨sb, 0, none⟩), .agg #[.int .u32 (k.1 : Int), .int .u32 (k.2.1 : Int), .int .u32 (k.2.2.1 : Int), .int .u32 (k.2.2.2 : Int)]] w fun e w' => ∃ g' cap', e = .returned (.tuple #[.int .u32 (N.length : Int), .nilIface]) ∧ St w' sb g' tb cap' most (N ++ [newNd N k]) ∧ Frm [sb, g, tb] w w' ∧ (g' = g ∨ w.heap.size ≤ g') := by
  have HS := Lib.hid h
  have HK := Lib.hid hk
  have HF := Lib.hid hf
  have HN := Lib.hid hn
  have HLT := Lib.hid hl
  clear h hk hf hn hl
  obtain ⟨i0, hi, hz0, hz1, hz2⟩ := infoSq
  have HI := Lib.hid hi
  have HZ0 := Lib.hid hz0
  have HZ1 := Lib.hid hz1
  have HZ2 := Lib.hid hz2
  clear hi hz0 hz1 hz2
  go_enter Tryz.func95, Tryz.ntmps95
  go_wp2_with fail
  have HB := Lib.hid (bel1 w (.cells #[.int .u32 (k.1 : Int), .int .u32 (k.2.1 : Int), .int .u32 (k.2.2.1 : Int), .int .u32 (k.2.2.2 : Int)] 105))
  have HS1 := Lib.hid (HS.out.later HB.out)
  have HK1 := Lib.hid (k_new w k)
  generalize w.alloc (.cells #[.int .u32 (k.1 : Int), .int .u32 (k.2.1 : Int), .int .u32 (k.2.2.1 : Int), .int .u32 (k.2.2.2 : Int)] 105) = W1 at *
  refine (fit_any HS1.out k HK.out).mono ?_
  rintro e W2 ⟨rfl, hb⟩
  have HB2 := Lib.hid (HB.out.trans (hb.mono HB.out.size))
  have HS2 := Lib.hid (HS1.out.later hb)
  have HK2 := Lib.hid (HK1.out.later hb)
  clear hb HS1 HK1 HB
  have hfit : decide (FitZ N k) = true := by simpa using HF.out
  have hlk := HS2.out.tab.lookQ k HK.out HN.out
  obtain ⟨c0, c1, c2, c3⟩ := HS2.out.cells
  obtain ⟨u0, u1, u2, u3, _⟩ := HK2.out.cells
  go_wp2_with fail
  go_quiet (fail)
  go_wp2_with fail
  refine (room_any (HS2.out.drewN _)).mono ?_
  rintro e W3 ⟨rfl, q, hW3⟩
  have HS3 : Hid (St W3 sb g tb cap most N) := by show St W3 sb g tb cap most N; rw [hW3]; exact (HS2.out.drewN _).drewN q
  have HK3 : Hid (KAt W3 w.heap.size k) := by show KAt W3 w.heap.size k; rw [hW3]; exact HK2.out
  have HB3 : Hid (Below w.heap.size w W3) := by show Below w.heap.size w W3; rw [hW3]; exact ⟨HB2.out.os, HB2.out.tape, HB2.out.output, HB2.out.size, HB2.out.block⟩
  have hrm : decide ((most : Int) - (N.length : Int) < 1) = false := by have := HLT.out; simp; omega
  have hwl : IntKind.u32.wrap (N.length : Int) = (N.length : Int) := IntWalk.u32_in _ (by have := HLT.out; have := HS2.out.most_le; omega)
  clear hlk c0 c1 c2 c3 u0 u1 u2 u3 hW3 HS2 HK2 HB2 hfit
  obtain ⟨c0, c1, c2, c3⟩ := HS3.out.cells
  go_wp2_with fail
  clear c0 c1 c2 c3 hrm hwl
  have HLV : Hid (IntKind.i64.wrap (lvZ N k.1 + 1) = (((newNd N k).lv : Nat) : Int)) := by
    have h1 := HF.out.1
    have h2 := HF.out.2.1
    show _ = _
    rw [IntWalk.i64_in _ (by omega)]
    simp only [newNd]; omega
  refine region_sq 16 (fun W => St W sb g tb cap most N ∧ KAt W w.heap.size k ∧ Below w.heap.size w W) [(0, 1), (1, 1), (2, 1), (3, 1), (6, 1), (7, 1), (11, 1), (4, 2), (5, 2), (8, 2), (12, 2), (9, 0), (10, 1), (13, 0), (14, 1), (15, 0), (16, 3), (17, 1), (18, 1), (19, 3)] (by kernel_rfl) (by kernel_rfl) rfl (by intro c a d v w h; cases d <;> exact h) (by kernel_rfl) ⟨HS3.out.drew, HK3.out, HB3.out.drew⟩ ?_
  have HS4 := Lib.hid HS3.out.drew
  have HK4 : Hid (KAt W3.drew w.heap.size k) := HK3.out
  have HB4 := Lib.hid HB3.out.drew
  clear HS3 HK3 HB3
  generalize W3.drew = W4 at *
  refine ⟨_, ?_, rfl, by rfl, ?_, ?_⟩
  rotate_left
  · intro W; go_simp; first | done | rfl
  conv => arg 6; simp only [Act.put, List.setIfInBounds_toArray, List.set_cons_zero, List.set_cons_succ]
  refine ⟨_, ?_, rfl, by rfl, ?_, ?_⟩
  rotate_left
  · intro W; go_simp; first | done | rfl
  conv => arg 6; simp only [Act.put, List.setIfInBounds_toArray, List.set_cons_zero, List.set_cons_succ]
  refine ⟨_, ?_, rfl, by rfl, ?_, ?_⟩
  rotate_left
  · intro W; go_simp; first | done | rfl
  conv => arg 6; simp only [Act.put, List.setIfInBounds_toArray, List.set_cons_zero, List.set_cons_succ]
  refine ⟨_, ?_, rfl, by rfl, ?_, ?_⟩
  rotate_left
  · intro W; go_simp; first | done | rfl
  conv => arg 6; simp only [Act.put, List.setIfInBounds_toArray, List.set_cons_zero, List.set_cons_succ]
  refine ⟨_, ?_, rfl, by rfl, ?_, ?_⟩
  rotate_left
  · intro W; go_simp; first | done | rfl
  conv => arg 6; simp only [Act.put, List.setIfInBounds_toArray, List.set_cons_zero, List.set_cons_succ]
  refine ⟨_, ?_, rfl, by rfl, ?_, ?_⟩
  rotate_left
  · intro W; go_simp; first | done | rfl
  conv => arg 6; simp only [Act.put, List.setIfInBounds_toArray, List.set_cons_zero, List.set_cons_succ]
  refine ⟨_, ?_, rfl, by rfl, ?_, ?_⟩
  rotate_left
  · intro W; go_simp; first | done | rfl
  conv => arg 6; simp only [Act.put, List.setIfInBounds_toArray, List.set_cons_zero, List.set_cons_succ]
  refine ⟨_, ?_, rfl, by rfl, ?_, ?_⟩
  rotate_left
  · rintro W ⟨hS, hK, hB⟩
    obtain ⟨c0, c1, c2, c3⟩ := hS.cells
    obtain ⟨u0, u1, u2, u3, _⟩ := hK.cells
    go_simp; first | done | rfl
  conv => arg 6; simp only [Act.put, List.setIfInBounds_toArray, List.set_cons_zero, List.set_cons_succ]
  refine ⟨_, ?_, rfl, by rfl, ?_, ?_⟩
  rotate_left
  · rintro W ⟨hS, hK, hB⟩
    obtain ⟨c0, c1, c2, c3⟩ := hS.cells
    obtain ⟨u0, u1, u2, u3, _⟩ := hK.cells
    go_simp; first | done | rfl
  conv => arg 6; simp only [Act.put, List.setIfInBounds_toArray, List.set_cons_zero, List.set_cons_succ]
  refine ⟨_, ?_, rfl, by rfl, ?_, ?_⟩
  rotate_left
  · rintro W ⟨hS, hK, hB⟩
    obtain ⟨c0, c1, c2, c3⟩ := hS.cells
    obtain ⟨u0, u1, u2, u3, _⟩ := hK.cells
    go_simp; first | done | rfl
  conv => arg 6; simp only [Act.put, List.setIfInBounds_toArray, List.set_cons_zero, List.set_cons_succ]
  refine ⟨_, ?_, rfl, by rfl, ?_, ?_⟩
  rotate_left
  · rintro W ⟨hS, hK, hB⟩
    obtain ⟨c0, c1, c2, c3⟩ := hS.cells
    obtain ⟨u0, u1, u2, u3, _⟩ := hK.cells
    go_simp; first | done | rfl
  conv => arg 6; simp only [Act.put, List.setIfInBounds_toArray, List.set_cons_zero, List.set_cons_succ]
  refine ⟨_, rfl, by rfl, fun K hK => ?_⟩
  go_simp
  refine (level_any HS4.out k.1 HK.out.1).mono ?_
  rintro e W5 ⟨rfl, rfl⟩
  refine hK _ _ ⟨HS4.out, HK4.out, HB4.out⟩ ?_
  clear hK K
  conv => arg 6; simp only [Act.put, List.setIfInBounds_toArray, List.set_cons_zero, List.set_cons_succ]
  refine ⟨_, ?_, rfl, by rfl, ?_, ?_⟩
  rotate_left
  · intro W; have hlv := HLV.out; go_simp; first | done | rfl
  conv => arg 6; simp only [Act.put, List.setIfInBounds_toArray, List.set_cons_zero, List.set_cons_succ]
  refine ⟨_, rfl, by rfl, fun K hK => ?_⟩
  go_simp
  refine (living_any HS4.out k HK.out).mono ?_
  rintro e W5 ⟨rfl, hb⟩
  have HS5 := Lib.hid (HS4.out.later hb)
  have HK5 := Lib.hid (HK4.out.later hb)
  have HB5 := Lib.hid (HB4.out.trans (hb.mono HB4.out.size))
  refine hK _ _ ⟨HS5.out, HK5.out, HB5.out⟩ ?_
  clear hK K hb HS4 HK4 HB4
  conv => arg 6; simp only [Act.put, List.setIfInBounds_toArray, List.set_cons_zero, List.set_cons_succ]
  refine ⟨_, ?_, rfl, by rfl, ?_, ?_⟩
  rotate_left
  · intro W; go_simp; first | done | rfl
  conv => arg 6; simp only [Act.put, List.setIfInBounds_toArray, List.set_cons_zero, List.set_cons_succ]
  refine ⟨_, rfl, by rfl, fun K hK => ?_⟩
  go_simp
  have hb := bel1 W5 (.cells #[.int .u32 (k.1 : Int), .int .u32 (k.2.1 : Int), .int .u32 (k.2.2.1 : Int), .int .u32 (k.2.2.2 : Int), .int .i64 (((newNd N k).lv : Nat) : Int), .int .u64 ((livZ N k : Nat) : Int)] 107)
  have HS6 := Lib.hid (HS5.out.later hb)
  have HK6 := Lib.hid (HK5.out.later hb)
  have HB6 := Lib.hid (HB5.out.trans (hb.mono HB5.out.size))
  have HNW : Hid ((W5.alloc (.cells #[.int .u32 (k.1 : Int), .int .u32 (k.2.1 : Int), .int .u32 (k.2.2.1 : Int), .int .u32 (k.2.2.2 : Int), .int .i64 (((newNd N k).lv : Nat) : Int), .int .u64 ((livZ N k : Nat) : Int)] 107)).heap[W5.heap.size]? = some (.cells #[.int .u32 (k.1 : Int), .int .u32 (k.2.1 : Int), .int .u32 (k.2.2.1 : Int), .int .u32 (k.2.2.2 : Int), .int .i64 (((newNd N k).lv : Nat) : Int), .int .u64 ((livZ N k : Nat) : Int)] 107)) := heap_alloc_new W5 _
  refine hK _ _ ⟨HS6.out, HK6.out, HB6.out⟩ ?_
  clear hK K hb HS5 HK5 HB5
  generalize W5.alloc (.cells #[.int .u32 (k.1 : Int), .int .u32 (k.2.1 : Int), .int .u32 (k.2.2.1 : Int), .int .u32 (k.2.2.2 : Int), .int .i64 (((newNd N k).lv : Nat) : Int), .int .u64 ((livZ N k : Nat) : Int)] 107) = W6 at *
  generalize W5.heap.size = nb at *
  conv => arg 6; simp only [Act.put, List.setIfInBounds_toArray, List.set_cons_zero, List.set_cons_succ]
  refine ⟨_, rfl, by rfl, fun K hK => ?_⟩
  refine wp_append_lies _ _ _ 108 (by rfl) 0 107 i0 (.agg #[.int .u32 0, .int .u32 0, .int .u32 0, .int .u32 0, .int .i64 0, .int .u64 0]) 6 32 Tryz.underlying108 HI.out HZ0.out HZ1.out HZ2.out rfl (by decide) _ _ _ (by rfl) HS6.out.row ⟨nb, 0, none⟩ 1 1 (ndV (newNd N k)) (by rfl) rfl (World.news_of_block HNW.out) (by intro u hu; simp [ndV] at hu; rcases hu with rfl | rfl | rfl | rfl | rfl | rfl <;> rfl) (by decide) (by have := HS6.out.room; have := HS6.out.most_le; unfold maxLen; omega) (by have := HS6.out.room; have := HS6.out.most_le; omega) (Nat.zero_le _) _ rfl ?_
  intro g' cap' W7 hown hgrow hat hlt
  refine hK _ _ ?_
  have HOWN := Lib.hid hown
  have HGR := Lib.hid hgrow
  have HAT : Hid (g' = g ∨ W6.heap.size ≤ g') := by
    rcases hat with e | e
    · exact Or.inl (by simpa [Value.ownBlock] using e.symm)
    · exact Or.inr (by omega)
  clear hK K hown hgrow hat hlt HNW
  conv => arg 6; simp only [Act.put, List.setIfInBounds_toArray, List.set_cons_zero, List.set_cons_succ]
  refine ⟨_, ?_, rfl, by rfl, ?_, ?_⟩
  rotate_left
  · intro W; go_simp; first | done | rfl
  conv => arg 6; simp only [Act.put, List.setIfInBounds_toArray, List.set_cons_zero, List.set_cons_succ]
  refine ⟨_, ?_, rfl, by rfl, ?_, ?_⟩
  rotate_left
  · intro W; go_simp; first | done | rfl
  conv => arg 6; simp only [Act.put, List.setIfInBounds_toArray, List.set_cons_zero, List.set_cons_succ]
  refine ⟨_, rfl, by rfl, fun K hK => ?_⟩
  obtain ⟨l1, l2, l3⟩ := HS6.out.lt
  have hsg : some sb ≠ (Value.slice (some ⟨g, 0, none⟩) N.length cap).ownBlock := by have := HS6.out.ne; simpa [Value.ownBlock] using this
  obtain ⟨c0, c1, c2, c3⟩ := HS6.out.cells
  have s1 := (HGR.out.cell_far ⟨sb, 1, none⟩ l1 hsg).trans c1
  have s2 := (HGR.out.frozen_far ⟨sb, 1, none⟩ l1 hsg).trans c3
  clear c0 c1 c2 c3
  go_simp
  have HAD := Lib.hid (st_added HS6.out HOWN.out HGR.out HAT.out rfl)
  refine hK _ _ ?_
  clear hK K s1 s2 hsg l1 l2 l3
  generalize W7.setCell ⟨sb, 1, none⟩ (.slice (some ⟨g', 0, none⟩) (N.length + 1) cap') = W8 at *
  conv => arg 6; simp only [Act.put, List.setIfInBounds_toArray, List.set_cons_zero, List.set_cons_succ]
  unfold wpSq
  have HW8 := Lib.hid HAD.out.1
  have HFR := Lib.hid HAD.out.2.2.2.1
  have hb8 := HAD.out.1
  obtain ⟨l1, l2, l3⟩ := HS6.out.lt
  have HK8 : Hid (KAt W8 w.heap.size k) := by
    show KAt W8 w.heap.size k
    unfold KAt
    rw [HFR.out.block w.heap.size HK6.out.lt ?_]
    · exact HK6.out
    · have hne := HK6.out
      unfold KAt at hne
      intro hm
      simp only [List.mem_cons, List.not_mem_nil, or_false] at hm
      obtain ⟨D, ⟨es, cl, t1, _⟩, _⟩ := HS6.out.tab
      rcases hm with e | e | e
      · rw [e, HS6.out.blk] at hne; cases hne
      · rcases HS6.out.row.2 with ⟨hv, _⟩ | ⟨g2, cp, cur, hv, _, hgg, _⟩
        · cases hv
        · cases hv; rw [e, hgg] at hne; cases hne
      · rw [e, t1] at hne; cases hne
  have d2 : W8.cell? ⟨sb, 2, none⟩ = some (.map (some tb)) := by rw [Lib.cell_of_heap hb8]; rfl
  clear hb8 l1 l2 l3
  go_wp2_with fail
  refine region_sq 6 (fun W => W = W8.drew) [(0, 1), (1, 1), (2, 1), (5, 1), (3, 2), (4, 2), (6, 3)] (by kernel_rfl) (by kernel_rfl) rfl (by intro c a d v w h; cases d <;> exact h) (by kernel_rfl) rfl ?_
  refine ⟨_, ?_, rfl, by rfl, ?_, ?_⟩
  rotate_left
  · intro W; go_simp; first | done | rfl
  conv => arg 6; simp only [Act.put, List.setIfInBounds_toArray, List.set_cons_zero, List.set_cons_succ]
  refine ⟨_, ?_, rfl, by rfl, ?_, ?_⟩
  rotate_left
  · intro W; go_simp; first | done | rfl
  conv => arg 6; simp only [Act.put, List.setIfInBounds_toArray, List.set_cons_zero, List.set_cons_succ]
  refine ⟨_, ?_, rfl, by rfl, ?_, ?_⟩
  rotate_left
  · intro W; go_simp; first | done | rfl
  conv => arg 6; simp only [Act.put, List.setIfInBounds_toArray, List.set_cons_zero, List.set_cons_succ]
  refine ⟨_, ?_, rfl, by rfl, ?_, ?_⟩
  rotate_left
  · intro W; go_simp; first | done | rfl
  conv => arg 6; simp only [Act.put, List.setIfInBounds_toArray, List.set_cons_zero, List.set_cons_succ]
  refine ⟨_, ?_, rfl, by rfl, ?_, ?_⟩
  rotate_left
  · rintro W rfl
    have d2' : W8.drew.cell? ⟨sb, 2, none⟩ = some (.map (some tb)) := d2
    obtain ⟨u0, u1, u2, u3, _⟩ := KAt.cells (w := W8.drew) HK8.out
    go_simp; first | done | rfl
  conv => arg 6; simp only [Act.put, List.setIfInBounds_toArray, List.set_cons_zero, List.set_cons_succ]
  refine ⟨_, ?_, rfl, by rfl, ?_, ?_⟩
  rotate_left
  · rintro W rfl
    have d2' : W8.drew.cell? ⟨sb, 2, none⟩ = some (.map (some tb)) := d2
    obtain ⟨u0, u1, u2, u3, _⟩ := KAt.cells (w := W8.drew) HK8.out
    go_simp; first | done | rfl
  conv => arg 6; simp only [Act.put, List.setIfInBounds_toArray, List.set_cons_zero, List.set_cons_succ]
  refine ⟨_, rfl, by rfl, fun K hK => ?_⟩
  refine wp_enter _ _ _ _ rfl tb N (newNd N k) (by rfl) (by rfl) (by rfl) (KMap.blk (w := W8) HAD.out.2.2.1 rfl) HS6.out.wf.two HK.out HN.out (by have := HS6.out.room; have := HS6.out.most_le; omega) ?_
  intro W9 hk9 hg9
  have HE9 := Lib.hid (st_entered (w := W6) (W := W8.drew) (g := g) HAD.out.1 HAD.out.2.1 ⟨HFR.out.os, HFR.out.tape, HFR.out.output, HFR.out.size, HFR.out.block⟩ HAD.out.2.2.2.2 hk9 hg9 (wf_add HS6.out.wf HF.out HN.out) (by have := HLT.out; simp; omega) HS6.out.most_le (KMap.blk (w := W8) HAD.out.2.2.1 rfl))
  refine hK _ _ ?_
  clear hK K hk9 hg9
  conv => arg 6; simp only [Act.put, List.setIfInBounds_toArray, List.set_cons_zero, List.set_cons_succ]
  unfold wpSq
  go_wp2_with fail
  go_ret2
  refine ⟨g', cap', rfl, HE9.out.1, (Frm.of_below HB6.out).trans HE9.out.2 (fun b hb => Or.inl hb), ?_⟩
  rcases HAT.out with e | e
  · exact Or.inl e
  · exact Or.inr (Nat.le_trans HB6.out.size e)
end Go.Proofs.YtaapkngpnlnjeaaGreat
end

section
namespace Go.Proofs.YtaapkngpnlnjeaaGreat
open Go.RowKit Go.Maps
set_option maxRecDepth 100000

set_option maxHeartbeats 2000000 in
theorem make_bad {w : World} {sb g tb cap most : Nat} {N : List Nd} (h : St w sb g tb cap most N) (k : K4) (hk : InK k) (hf : ¬ FitZ N k) :
    Calls Tryz.prog 95 #[.pointer (some ⟨sb, 0, none⟩), .agg #[.int .u32 (k.1 : Int), .int .u32 (k.2.1 : Int), .int .u32 (k.2.2.1 : Int), .int .u32 (k.2.2.2 : Int)]] w fun e w' => e = .returned (.tuple #[.int .u32 0, .iface 57 (.int .i64 1)]) ∧ Below w.heap.size w w' := by
  have HS := Lib.hid h
  have HK := Lib.hid hk
  have HF := Lib.hid hf
  clear h hk hf
  go_enter Tryz.func95, Tryz.ntmps95
  go_wp2_with fail
  have HB := Lib.hid (bel1 w (.cells #[.int .u32 (k.1 : Int), .int .u32 (k.2.1 : Int), .int .u32 (k.2.2.1 : Int), .int .u32 (k.2.2.2 : Int)] 105))
  have HS1 := Lib.hid (HS.out.later HB.out)
  generalize w.alloc (.cells #[.int .u32 (k.1 : Int), .int .u32 (k.2.1 : Int), .int .u32 (k.2.2.1 : Int), .int .u32 (k.2.2.2 : Int)] 105) = W1 at *
  refine (fit_any HS1.out k HK.out).mono ?_
  rintro e W2 ⟨rfl, hb⟩
  have HB2 := Lib.hid (HB.out.trans (hb.mono HB.out.size))
  clear hb HS1 HB
  have hfit : decide (FitZ N k) = false := by simpa using HF.out
  go_wp2_with fail
  go_ret2
  exact ⟨rfl, HB2.out⟩
set_option maxHeartbeats 2000000 in
theorem make_there {w : World} {sb g tb cap most : Nat} {N : List Nd} (h : St w sb g tb cap most N) (k : K4) (hk : InK k) (hf : FitZ N k) {i : Nat} (hn : findZ N k = some i) :
    Calls Tryz.prog 95 #[.pointer (some ⟨sb, 0, none⟩), .agg #[.int .u32 (k.1 : Int), .int .u32 (k.2.1 : Int), .int .u32 (k.2.2.1 : Int), .int .u32 (k.2.2.2 : Int)]] w fun e w' => e = .returned (.tuple #[.int .u32 (i : Int), .nilIface]) ∧ Below w.heap.size w w' := by
  have HS := Lib.hid h
  have HK := Lib.hid hk
  have HF := Lib.hid hf
  have HN := Lib.hid hn
  clear h hk hf hn
  go_enter Tryz.func95, Tryz.ntmps95
  go_wp2_with fail
  have HB := Lib.hid (bel1 w (.cells #[.int .u32 (k.1 : Int), .int .u32 (k.2.1 : Int), .int .u32 (k.2.2.1 : Int), .int .u32 (k.2.2.2 : Int)] 105))
  have HS1 := Lib.hid (HS.out.later HB.out)
  have HK1 := Lib.hid (k_new w k)
  generalize w.alloc (.cells #[.int .u32 (k.1 : Int), .int .u32 (k.2.1 : Int), .int .u32 (k.2.2.1 : Int), .int .u32 (k.2.2.2 : Int)] 105) = W1 at *
  refine (fit_any HS1.out k HK.out).mono ?_
  rintro e W2 ⟨rfl, hb⟩
  have HB2 := Lib.hid (HB.out.trans (hb.mono HB.out.size))
  have HS2 := Lib.hid (HS1.out.later hb)
  have HK2 := Lib.hid (HK1.out.later hb)
  clear hb HS1 HK1 HB
  have hfit : decide (FitZ N k) = true := by simpa using HF.out
  have hlk := HS2.out.tab.lookS k HK.out HN.out
  obtain ⟨c0, c1, c2, c3⟩ := HS2.out.cells
  obtain ⟨u0, u1, u2, u3, _⟩ := HK2.out.cells
  go_wp2_with fail
  go_quiet (fail)
  go_wp2_with fail
  go_ret2
  exact ⟨rfl, HB2.out.os, HB2.out.tape, HB2.out.output, HB2.out.size, HB2.out.block⟩
set_option maxHeartbeats 2000000 in
theorem make_full {w : World} {sb g tb cap most : Nat} {N : List Nd} (h : St w sb g tb cap most N) (k : K4) (hk : InK k) (hf : FitZ N k) (hn : findZ N k = none) (hl : most ≤ N.length) :
    Calls Tryz.prog 95 #[.pointer (some ⟨sb, 0, none⟩), .agg #[.int .u32 (k.1 : Int), .int .u32 (k.2.1 : Int), .int .u32 (k.2.2.1 : Int), .int .u32 (k.2.2.2 : Int)]] w fun e w' => e = .returned (.tuple #[.int .u32 0, .iface 57 (.int .i64 7)]) ∧ Below w.heap.size w w' := by
  have HS := Lib.hid h
  have HK := Lib.hid hk
  have HF := Lib.hid hf
  have HN := Lib.hid hn
  have HLT := Lib.hid hl
  clear h hk hf hn hl
  go_enter Tryz.func95, Tryz.ntmps95
  go_wp2_with fail
  have HB := Lib.hid (bel1 w (.cells #[.int .u32 (k.1 : Int), .int .u32 (k.2.1 : Int), .int .u32 (k.2.2.1 : Int), .int .u32 (k.2.2.2 : Int)] 105))
  have HS1 := Lib.hid (HS.out.later HB.out)
  have HK1 := Lib.hid (k_new w k)
  generalize w.alloc (.cells #[.int .u32 (k.1 : Int), .int .u32 (k.2.1 : Int), .int .u32 (k.2.2.1 : Int), .int .u32 (k.2.2.2 : Int)] 105) = W1 at *
  refine (fit_any HS1.out k HK.out).mono ?_
  rintro e W2 ⟨rfl, hb⟩
  have HB2 := Lib.hid (HB.out.trans (hb.mono HB.out.size))
  have HS2 := Lib.hid (HS1.out.later hb)
  have HK2 := Lib.hid (HK1.out.later hb)
  clear hb HS1 HK1 HB
  have hfit : decide (FitZ N k) = true := by simpa using HF.out
  have hlk := HS2.out.tab.lookQ k HK.out HN.out
  obtain ⟨c0, c1, c2, c3⟩ := HS2.out.cells
  obtain ⟨u0, u1, u2, u3, _⟩ := HK2.out.cells
  go_wp2_with fail
  go_quiet (fail)
  go_wp2_with fail
  refine (room_any (HS2.out.drewN _)).mono ?_
  rintro e W3 ⟨rfl, q, rfl⟩
  have hrm : decide ((most : Int) - (N.length : Int) < 1) = true := by have := HLT.out; simp; omega
  go_wp2_with fail
  go_ret2
  exact ⟨rfl, HB2.out.os, HB2.out.tape, HB2.out.output, HB2.out.size, HB2.out.block⟩
/-- Make. -/
theorem make_any {w : World} {sb g tb cap most : Nat} {N : List Nd} (h : St w sb g tb cap most N) (k : K4) (hk : InK k) :
    Calls Tryz.prog 95 #[.pointer (some ⟨sb, 0, none⟩), .agg #[.int .u32 (k.1 : Int), .int .u32 (k.2.1 : Int), .int .u32 (k.2.2.1 : Int), .int .u32 (k.2.2.2 : Int)]] w fun e w' => ∃ g' cap', e = .returned (.tuple #[.int .u32 ((mkZ N most k).2.1 : Int), errV (mkZ N most k).2.2]) ∧ St w' sb g' tb cap' most (mkZ N most k).1 ∧ Frm [sb, g, tb] w w' ∧ (g' = g ∨ w.heap.size ≤ g') := by
  by_cases hf : FitZ N k
  · cases hn : findZ N k with
    | some i =>
      rw [mk_there hf hn]
      refine (make_there h k hk hf hn).mono ?_
      rintro e w' ⟨rfl, hb⟩
      exact ⟨g, cap, rfl, h.later hb, Frm.of_below hb, Or.inl rfl⟩
    | none =>
      rcases Nat.lt_or_ge N.length most with hl | hl
      · rw [mk_add hf hn hl]
        exact make_add h k hk hf hn hl
      · rw [mk_full hf hn hl]
        refine (make_full h k hk hf hn hl).mono ?_
        rintro e w' ⟨rfl, hb⟩
        exact ⟨g, cap, rfl, h.later hb, Frm.of_below hb, Or.inl rfl⟩
  · rw [mk_bad hf]
    refine (make_bad h k hk hf).mono ?_
    rintro e w' ⟨rfl, hb⟩
    exact ⟨g, cap, rfl, h.later hb, Frm.of_below hb, Or.inl rfl⟩
/-- Of no store. -/
theorem fit_nil (k : K4) (hk : InK k) (w : World) : Calls Tryz.prog 125 #[.pointer none, .agg #[.int .u32 (k.1 : Int), .int .u32 (k.2.1 : Int), .int .u32 (k.2.2.1 : Int), .int .u32 (k.2.2.2 : Int)]] w fun e w' => e = .returned (.bool false) ∧ Below w.heap.size w w' := by
  have HK := Lib.hid hk
  clear hk
  go_enter Tryz.func125, Tryz.ntmps125
  go_wp2_with fail
  refine (level_nil k.1 HK.out.1 _).mono ?_
  rintro e w' ⟨rfl, rfl⟩
  go_wp2
  go_ret
  exact ⟨rfl, bel1 _ _⟩
theorem make_nil (k : K4) (hk : InK k) (w : World) : Calls Tryz.prog 95 #[.pointer none, .agg #[.int .u32 (k.1 : Int), .int .u32 (k.2.1 : Int), .int .u32 (k.2.2.1 : Int), .int .u32 (k.2.2.2 : Int)]] w fun e w' => e = .returned (.tuple #[.int .u32 0, .iface 57 (.int .i64 1)]) ∧ Below w.heap.size w w' := by
  have HK := Lib.hid hk
  clear hk
  go_enter Tryz.func95, Tryz.ntmps95
  go_wp2_with fail
  have HB := Lib.hid (bel1 w (.cells #[.int .u32 (k.1 : Int), .int .u32 (k.2.1 : Int), .int .u32 (k.2.2.1 : Int), .int .u32 (k.2.2.2 : Int)] 105))
  generalize w.alloc (.cells #[.int .u32 (k.1 : Int), .int .u32 (k.2.1 : Int), .int .u32 (k.2.2.1 : Int), .int .u32 (k.2.2.2 : Int)] 105) = W1 at *
  refine (fit_nil k HK.out _).mono ?_
  rintro e W2 ⟨rfl, hb⟩
  have HB2 := Lib.hid (HB.out.trans (hb.mono HB.out.size))
  go_wp2
  go_ret2
  exact ⟨rfl, HB2.out⟩
theorem empty_nil (level : Int) (w : World) : Calls Tryz.prog 64 #[.pointer none, .int .i64 level] w fun e w' => e = .returned (.tuple #[.int .u32 0, .iface 57 (.int .i64 1)]) ∧ w = w' := by
  go_enter Tryz.func64, Tryz.ntmps64
  go_wp2_with fail
  refine (is_nil 0 _ (by omega)).mono ?_
  rintro e w' ⟨rfl, rfl⟩
  go_wp2
  go_ret2
  exact ⟨rfl, rfl⟩
end Go.Proofs.YtaapkngpnlnjeaaGreat
end
