/- Package store: Back: contract. -/
import Derived.Test.YtchbdkadoamikaaEm6
import Derived.Deep.DeepCutAuto
import Derived.Deep.CutBlock
import Derived.Deep.CutRange
namespace Go.Proofs.Ytchbdkadoamikaa
open Go.RowKit Go.Maps
set_option maxRecDepth 100000

theorem find_take {N : List Nd} (hw : Wf N) {m : Nat} (hm : 2 ≤ m) (k : K4) (i : Nat) : findZ (N.take m) k = some i ↔ findZ N k = some i ∧ i < m := by
  constructor
  · intro h
    obtain ⟨h2, n, hn, hk⟩ := find_some h
    have hi : i < m := by have := (List.getElem?_eq_some_iff.1 hn).1; rw [List.length_take] at this; omega
    rw [List.getElem?_take_of_lt hi] at hn
    subst hk
    exact ⟨find_at hw h2 hn, hi⟩
  · rintro ⟨h, hi⟩
    obtain ⟨h2, n, hn, hk⟩ := find_some h
    subst hk
    exact find_at (wf_take hw hm) h2 (by rw [List.getElem?_take_of_lt hi]; exact hn)
theorem owns_size {w : World} {b n : Nat} {D : DataW Unit} (h : w.ownsMap Try.prog 46 (plainElem Try.prog 33) b n D) : w.ownsMap Try.prog 46 (plainElem Try.prog 33) b (Maps.size D) D := by
  obtain ⟨es, clock, hb, F, _, rfl⟩ := h
  exact ⟨es, clock, hb, F, by simp [Maps.size, length_sorted], rfl⟩
/-- The table, j of the squares from m on struck. -/
def KDel (w : World) (b : Nat) (N : List Nd) (m j : Nat) : Prop :=
  ∃ D : DataW Unit, w.ownsMap Try.prog 46 (plainElem Try.prog 33) b N.length D ∧ Maps.size D + 2 + j = N.length ∧
    (∀ k i, InK k → findZ N k = some i → (i < m ∨ m + j ≤ i) → Maps.has D (klk k) = true ∧ D.atKey (klk k) (.lit (.int .u32 0)) = .lit (.int .u32 (i : Int))) ∧
    (∀ k i, InK k → findZ N k = some i → m ≤ i → i < m + j → Maps.has D (klk k) = false) ∧ ∀ k, InK k → findZ N k = none → Maps.has D (klk k) = false
theorem KMap.del {w : World} {b : Nat} {N : List Nd} (h : KMap w b N) (m : Nat) : KDel w b N m 0 := by
  obtain ⟨D, h1, h2, h3, h4⟩ := h
  exact ⟨D, h1, by omega, fun k i hk hf _ => h3 k i hk hf, fun k i _ _ h5 h6 => by omega, h4⟩
theorem KDel.lt {w : World} {b : Nat} {N : List Nd} {m j : Nat} (h : KDel w b N m j) : b < w.heap.size := by
  obtain ⟨D, h, _⟩ := h
  exact h.lt
theorem KDel.blk {w w' : World} {b : Nat} {N : List Nd} {m j : Nat} (h : KDel w b N m j) (hb : w'.heap[b]? = w.heap[b]?) : KDel w' b N m j := by
  obtain ⟨D, ⟨es, clock, h1, h2⟩, r⟩ := h
  exact ⟨D, ⟨es, clock, hb.trans h1, h2⟩, r⟩
theorem KDel.step {w : World} {b : Nat} {N : List Nd} {m j : Nat} (h : KDel w b N m j) (hw : Wf N) (hm : 2 ≤ m) {n : Nd} (hn : N[m + j]? = some n) (hk : InK n.k) (ty : TypeId) :
    ∃ w', (Builtin.delete_ #[62, 46] ty #[.map (some b), kv n.k]).run Try.prog w = .ok (.tuple #[]) w' ∧ KDel w' b N m (j + 1) ∧ w.grownBy w' (some b) := by
  obtain ⟨D, ho, hs, h1, h2, h3⟩ := h
  obtain ⟨w', r1, r2, r3⟩ := ho.drop Try.keyedK Try.underlying62 (keyK n.k hk) ty
  have hf := find_at hw (by omega) hn
  obtain ⟨g1, _⟩ := h1 n.k (m + j) hk hf (Or.inr (Nat.le_refl _))
  have hsz := Maps.size_del (k := klk n.k) (ho.tidy Try.keyedK)
  rw [g1] at hsz
  refine ⟨w', r1, ⟨_, r2, by simp at hsz; omega, fun k i hki hfi hi => ?_, fun k i hki hfi ha hb => ?_, fun k hki hfi => ?_⟩, r3.grown⟩
  · have e : k ≠ n.k := fun e => by subst e; rw [hf] at hfi; cases hfi; omega
    have hne : klk k ≠ klk n.k := fun hh => e (klk_inj hki hk hh)
    rw [Maps.has_del_other hne, Maps.atKey_del_other hne]
    exact h1 k i hki hfi (by omega)
  · by_cases e : k = n.k
    · subst e; exact Maps.has_del_same
    · have hne : klk k ≠ klk n.k := fun hh => e (klk_inj hki hk hh)
      rw [Maps.has_del_other hne]
      refine h2 k i hki hfi ha ?_
      have : i ≠ m + j := fun e2 => by
        subst e2
        obtain ⟨_, n', hn', hk'⟩ := find_some hfi
        rw [hn] at hn'
        cases hn'
        exact e hk'.symm
      omega
  · by_cases e : k = n.k
    · subst e; rw [hf] at hfi; cases hfi
    · have hne : klk k ≠ klk n.k := fun hh => e (klk_inj hki hk hh)
      rw [Maps.has_del_other hne]
      exact h3 k hki hfi
theorem KDel.done {w : World} {b : Nat} {N : List Nd} {m j : Nat} (h : KDel w b N m j) (hw : Wf N) (hm : 2 ≤ m) (hj : m + j = N.length) : KMap w b (N.take m) := by
  obtain ⟨D, ho, hs, h1, h2, h3⟩ := h
  have hl : (N.take m).length = m := by rw [List.length_take]; omega
  refine ⟨D, (owns_size ho).mono (by rw [hl]; omega), by rw [hl]; omega, fun k i hki hi => ?_, fun k hki hi => ?_⟩
  · obtain ⟨hi1, hi2⟩ := (find_take hw hm k i).1 hi
    exact h1 k i hki hi1 (Or.inl hi2)
  · cases hf : findZ N k with
    | none => exact h3 k hki hf
    | some i =>
      rcases Nat.lt_or_ge i m with h4 | h4
      · rw [(find_take hw hm k i).2 ⟨hf, h4⟩] at hi; cases hi
      · have : i < N.length := by obtain ⟨_, n, hn, _⟩ := find_some hf; exact (List.getElem?_eq_some_iff.1 hn).1
        exact h2 k i hki hf h4 (by omega)

/-- 's.squares[m:]'. -/
theorem cut_from (g n cap m : Nat) (hm : m ≤ n) (hn : n ≤ cap) : ∃ A C, (∀ W : World, (Instr.slice 61 (.slice (some ⟨g, 0, none⟩) n cap) (some (.int .i64 (m : Int))) none none).run Try.prog W = .ok (.slice A (n - m) C) W) ∧ (m < n → A = some ⟨g, m * 6, none⟩) := by
  refine ⟨if cap = m then some ⟨g, 0, none⟩ else some ⟨g, m * 6, none⟩, cap - m, fun W => ?_, fun hl => by rw [if_neg (by omega)]⟩
  rw [run_slice_l (P := Try.prog) (w := W) 61 _ _ _ Try.underlying61 .i64 (m : Int) (by omega) (by omega), show Try.prog.elem 61 = 60 by kernel_rfl, Try.sizeOf60]
  simp [Result.andThen, sliced, Addr.add_lit]
/-- 'delete(s.table, gone.kids)' at the operation. -/
theorem wp_del (w : World) {o : Oper} {a : Act} {K : Act → World → Prop} {Q : Exit → Act → World → Prop} (x y : Operand) (hop : o.op = .call { callee := .builtin .delete, args := #[x, y], argTypes := #[62, 46] }) (b m j : Nat) (N : List Nd) (n : Nd) (hx : a.eval x = .map (some b)) (hy : a.eval y = kv n.k)
    (h : KDel w b N m j) (hw : Wf N) (hm : 2 ≤ m) (hn : N[m + j]? = some n) (hk : InK n.k) (hK : ∀ w', KDel w' b N m (j + 1) → w.grownBy w' (some b) → K (a.put o.dst (.tuple #[])) w') : Oper.wp Try.prog o a w K Q := by
  obtain ⟨w', hrun, r1, r2⟩ := h.step hw hm hn hk o.type
  unfold Oper.wp execOp
  simp only [hop, resolve, invoke, builtin, Sem.run_bind, Sem.run_pure, Result.andThen_ok, List.map_toArray, List.map_cons, List.map_nil, hx, hy, hrun]
  exact hK w' r1 r2
theorem ndVs_take (N : List Nd) (m : Nat) : ndVs (N.take m) = (ndVs N).take (m * 6) := by
  induction N generalizing m with
  | nil => simp [ndVs]
  | cons c r ih =>
    cases m with
    | zero => simp [ndVs]
    | succ m =>
      have e : (ndV c).length = 6 := rfl
      simp only [ndVs, List.take_succ_cons, List.flatMap_cons] at ih ⊢
      rw [ih m, List.take_append, e, show (m + 1) * 6 - 6 = m * 6 by omega, List.take_of_length_le (l := ndV c) (by rw [e]; omega)]
/-- The loop's state: j squares struck. -/
structure Bs (w : World) (sb g tb cap most : Nat) (N : List Nd) (m j : Nat) (W : World) : Prop where
  blk : W.heap[sb]? = some (.cells #[.int .i64 (most : Int), .slice (some ⟨g, 0, none⟩) N.length cap, .map (some tb)] 64 (0, 0))
  row : W.heap[g]? = w.heap[g]?
  tab : KDel W tb N m j
  frm : Frm [sb, g, tb] w W
end Go.Proofs.Ytchbdkadoamikaa
