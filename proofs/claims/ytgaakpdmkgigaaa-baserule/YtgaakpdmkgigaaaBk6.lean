/- Package store: Back: contract. -/
import Derived.Test.YtgaakpdmkgigaaaEm6
import Derived.Deep.DeepCutAuto
import Derived.Deep.CutBlock
import Derived.Deep.CutRange
namespace Go.Proofs.Ytgaakpdmkgigaaa
open Go.RowKit Go.Maps
set_option maxRecDepth 100000

theorem find_take {N : List Nd} (hw : Wf N) {m : Nat} (hm : 2 ≤ m) (k : K4) (i : Nat) : findZ (N.take m) k = some i ↔ findZ N k = some i ∧ i < m := by
  constructor
  · intro h
    obtain ⟨h2, n, hn, hk⟩ := find_some h
    have hi : i < m := by have := (List.getElem?_eq_some_iff.1 hn).1; rw [List.length_take] at this; omega
    rw [List.getElem?_take_of_lt hi] at hn
    subst hk
    exact ⟨find_at hw h2 hn, hi⟩
  · rintro ⟨h, hi⟩
    obtain ⟨h2, n, hn, hk⟩ := find_some h
    subst hk
    exact find_at (wf_take hw hm) h2 (by rw [List.getElem?_take_of_lt hi]; exact hn)
theorem owns_size {w : World} {b n : Nat} {D : DataW Unit} (h : w.ownsMap Try.prog 49 (plainElem Try.prog 42) b n D) : w.ownsMap Try.prog 49 (plainElem Try.prog 42) b (Maps.size D) D := by
  obtain ⟨es, clock, hb, F, _, rfl⟩ := h
  exact ⟨es, clock, hb, F, by simp [Maps.size, length_sorted], rfl⟩
/-- The table, j of the squares from m on struck. -/
def KDel (w : World) (b : Nat) (N : List Nd) (m j : Nat) : Prop :=
  ∃ D : DataW Unit, w.ownsMap Try.prog 49 (plainElem Try.prog 42) b N.length D ∧ Maps.size D + 2 + j = N.length ∧
    (∀ k i, InK k → findZ N k = some i → (i < m ∨ m + j ≤ i) → Maps.has D (klk k) = true ∧ D.atKey (klk k) (.lit (.int .u32 0)) = .lit (.int .u32 (i : Int))) ∧
    (∀ k i, InK k → findZ N k = some i → m ≤ i → i < m + j → Maps.has D (klk k) = false) ∧ ∀ k, InK k → findZ N k = none → Maps.has D (klk k) = false
theorem KMap.del {w : World} {b : Nat} {N : List Nd} (h : KMap w b N) (m : Nat) : KDel w b N m 0 := by
  obtain ⟨D, h1, h2, h3, h4⟩ := h
  exact ⟨D, h1, by omega, fun k i hk hf _ => h3 k i hk hf, fun k i _ _ h5 h6 => by omega, h4⟩
theorem KDel.lt {w : World} {b : Nat} {N : List Nd} {m j : Nat} (h : KDel w b N m j) : b < w.heap.size := by
  obtain ⟨D, h, _⟩ := h
  exact h.lt
theorem KDel.blk {w w' : World} {b : Nat} {N : List Nd} {m j : Nat} (h : KDel w b N m j) (hb : w'.heap[b]? = w.heap[b]?) : KDel w' b N m j := by
  obtain ⟨D, ⟨es, clock, h1, h2⟩, r⟩ := h
  exact ⟨D, ⟨es, clock, hb.trans h1, h2⟩, r⟩
theorem KDel.step {w : World} {b : Nat} {N : List Nd} {m j : Nat} (h : KDel w b N m j) (hw : Wf N) (hm : 2 ≤ m) {n : Nd} (hn : N[m + j]? = some n) (hk : InK n.k) (ty : TypeId) :
    ∃ w', (Builtin.delete_ #[66, 49] ty #[.map (some b), kv n.k]).run Try.prog w = .ok (.tuple #[]) w' ∧ KDel w' b N m (j + 1) ∧ w.grownBy w' (some b) := by
  obtain ⟨D, ho, hs, h1, h2, h3⟩ := h
  obtain ⟨w', r1, r2, r3⟩ := ho.drop Try.keyedK Try.underlying66 (keyK n.k hk) ty
  have hf := find_at hw (by omega) hn
  obtain ⟨g1, _⟩ := h1 n.k (m + j) hk hf (Or.inr (Nat.le_refl _))
  have hsz := Maps.size_del (k := klk n.k) (ho.tidy Try.keyedK)
  rw [g1] at hsz
  refine ⟨w', r1, ⟨_, r2, by simp at hsz; omega, fun k i hki hfi hi => ?_, fun k i hki hfi ha hb => ?_, fun k hki hfi => ?_⟩, r3.grown⟩
  · have e : k ≠ n.k := fun e => by subst e; rw [hf] at hfi; cases hfi; omega
    have hne : klk k ≠ klk n.k := fun hh => e (klk_inj hki hk hh)
    rw [Maps.has_del_other hne, Maps.atKey_del_other hne]
    exact h1 k i hki hfi (by omega)
  · by_cases e : k = n.k
    · subst e; exact Maps.has_del_same
    · have hne : klk k ≠ klk n.k := fun hh => e (klk_inj hki hk hh)
      rw [Maps.has_del_other hne]
      refine h2 k i hki hfi ha ?_
      have : i ≠ m + j := fun e2 => by
        subst e2
        obtain ⟨_, n', hn', hk'⟩ := find_some hfi
        rw [hn] at hn'
        cases hn'
        exact e hk'.symm
      omega
  · by_cases e : k = n.k
    · subst e; rw [hf] at hfi; cases hfi
    · have hne : klk k ≠ klk n.k := fun hh => e (klk_inj hki hk hh)
      rw [Maps.has_del_other hne]
      exact h3 k hki hfi
theorem KDel.done {w : World} {b : Nat} {N : List Nd} {m j : Nat} (h : KDel w b N m j) (hw : Wf N) (hm : 2 ≤ m) (hj : m + j = N.length) : KMap w b (N.take m) := by
  obtain ⟨D, ho, hs, h1, h2, h3⟩ := h
  have hl : (N.take m).length = m := by rw [List.length_take]; omega
  refine ⟨D, (owns_size ho).mono (by rw [hl]; omega), by rw [hl]; omega, fun k i hki hi => ?_, fun k hki hi => ?_⟩
  · obtain ⟨hi1, hi2⟩ := (find_take hw hm k i).1 hi
    exact h1 k i hki hi1 (Or.inl hi2)
  · cases hf : findZ N k with
    | none => exact h3 k hki hf
    | some i =>
      rcases Nat.lt_or_ge i m with h4 | h4
      · rw [(find_take hw hm k i).2 ⟨hf, h4⟩] at hi; cases hi
      · have : i < N.length := by obtain ⟨_, n, hn, _⟩ := find_some hf; exact (List.getElem?_eq_some_iff.1 hn).1
        exact h2 k i hki hf h4 (by omega)

set_option maxHeartbeats 2000000 in
theorem back_no {w : World} {sb g tb cap most : Nat} {N : List Nd} (h : St w sb g tb cap most N) (m : Int) (hm : m < 2 ∨ (N.length : Int) < m) :
    Calls Try.prog 25 #[.pointer (some ⟨sb, 0, none⟩), .int .i64 m] w fun e w' => e = .returned (.tuple #[]) ∧ w = w' := by
  have HS := Lib.hid h
  by_cases h2 : m < 2
  · have g0 : decide (m < 2) = true := by simpa using h2
    clear h
    go_enter Try.func25, Try.ntmps25
    go_wp2
    refine bodyPost_ret (v := _) (by simp [results, Try.results25, go_sem]; rfl) rfl ?_
    exact ⟨rfl, rfl⟩
  · have g0 : decide (m < 2) = false := by simpa using h2
    have g1 : decide ((N.length : Int) < m) = true := by simp; omega
    clear h
    go_enter Try.func25, Try.ntmps25
    go_wp2_with fail
    refine (mark_any HS.out).mono ?_
    rintro e w' ⟨rfl, rfl⟩
    go_wp2
    refine bodyPost_ret (v := _) (by simp [results, Try.results25, go_sem]; rfl) rfl ?_
    exact ⟨rfl, rfl⟩
/-- 's.squares[m:]'. -/
theorem cut_from (g n cap m : Nat) (hm : m ≤ n) (hn : n ≤ cap) : ∃ A C, (∀ W : World, (Instr.slice 65 (.slice (some ⟨g, 0, none⟩) n cap) (some (.int .i64 (m : Int))) none none).run Try.prog W = .ok (.slice A (n - m) C) W) ∧ (m < n → A = some ⟨g, m * 6, none⟩) := by
  refine ⟨if cap = m then some ⟨g, 0, none⟩ else some ⟨g, m * 6, none⟩, cap - m, fun W => ?_, fun hl => by rw [if_neg (by omega)]⟩
  rw [run_slice_l (P := Try.prog) (w := W) 65 _ _ _ Try.underlying65 .i64 (m : Int) (by omega) (by omega), show Try.prog.elem 65 = 64 by kernel_rfl, Try.sizeOf64]
  simp [Result.andThen, sliced, Addr.add_lit]
/-- 'delete(s.table, gone.kids)' at the operation. -/
theorem wp_del (w : World) {o : Oper} {a : Act} {K : Act → World → Prop} {Q : Exit → Act → World → Prop} (x y : Operand) (hop : o.op = .call { callee := .builtin .delete, args := #[x, y], argTypes := #[66, 49] }) (b m j : Nat) (N : List Nd) (n : Nd) (hx : a.eval x = .map (some b)) (hy : a.eval y = kv n.k)
    (h : KDel w b N m j) (hw : Wf N) (hm : 2 ≤ m) (hn : N[m + j]? = some n) (hk : InK n.k) (hK : ∀ w', KDel w' b N m (j + 1) → w.grownBy w' (some b) → K (a.put o.dst (.tuple #[])) w') : Oper.wp Try.prog o a w K Q := by
  obtain ⟨w', hrun, r1, r2⟩ := h.step hw hm hn hk o.type
  unfold Oper.wp execOp
  simp only [hop, resolve, invoke, builtin, Sem.run_bind, Sem.run_pure, Result.andThen_ok, List.map_toArray, List.map_cons, List.map_nil, hx, hy, hrun]
  exact hK w' r1 r2
theorem ndVs_take (N : List Nd) (m : Nat) : ndVs (N.take m) = (ndVs N).take (m * 6) := by
  induction N generalizing m with
  | nil => simp [ndVs]
  | cons c r ih =>
    cases m with
    | zero => simp [ndVs]
    | succ m =>
      have e : (ndV c).length = 6 := rfl
      simp only [ndVs, List.take_succ_cons, List.flatMap_cons] at ih ⊢
      rw [ih m, List.take_append, e, show (m + 1) * 6 - 6 = m * 6 by omega, List.take_of_length_le (l := ndV c) (by rw [e]; omega)]
/-- The loop's state: j squares struck. -/
structure Bs (w : World) (sb g tb cap most : Nat) (N : List Nd) (m j : Nat) (W : World) : Prop where
  blk : W.heap[sb]? = some (.cells #[.int .i64 (most : Int), .slice (some ⟨g, 0, none⟩) N.length cap, .map (some tb)] 68 (0, 0))
  row : W.heap[g]? = w.heap[g]?
  tab : KDel W tb N m j
  frm : Frm [sb, g, tb] w W
set_option maxHeartbeats 2000000 in
theorem back_yes {w : World} {sb g tb cap most : Nat} {N : List Nd} (h : St w sb g tb cap most N) (m : Nat) (h2 : 2 ≤ m) (hm : m ≤ N.length) :
    Calls Try.prog 25 #[.pointer (some ⟨sb, 0, none⟩), .int .i64 (m : Int)] w fun e w' => e = .returned (.tuple #[]) ∧ St w' sb g tb cap most (N.take m) ∧ Frm [sb, g, tb] w w' := by
  have HS := Lib.hid h
  have g0 : decide ((m : Int) < 2) = false := by simp; omega
  have g1 : decide (N.length < m) = false := by simp; omega
  have hcap : N.length ≤ cap := by
    rcases h.row.2 with ⟨hv, _⟩ | ⟨g', cp, cur, hv, _, _, hc, _⟩
    · cases hv
    · cases hv; exact hc
  obtain ⟨c0, c1, c2, c3⟩ := h.cells
  obtain ⟨A, C, hsl, hA⟩ := cut_from g N.length cap m hm hcap
  have HA := Lib.hid hA
  have HCAP := Lib.hid hcap
  clear h hA hcap
  go_enter Try.func25, Try.ntmps25
  go_wp2_with fail
  refine (mark_any HS.out).mono ?_
  rintro e w' ⟨rfl, rfl⟩
  go_wp2_with fail
  have HBS : Hid (Bs w sb g tb cap most N m 0 w) := ⟨HS.out.blk, rfl, HS.out.tab.del m, Frm.refl _ _⟩
  clear hsl c0 c1 c2 c3 g0 g1
  go_loopg [5, 21] (N.length - m) (fun q p i wr => ∃ j : Nat, q = N.length - m - j ∧ j ≤ N.length - m ∧ i = .int .i64 (j : Int) ∧ Bs w sb g tb cap most N m j wr)
  case atStart => exact ⟨0, rfl, Nat.zero_le _, rfl, HBS.out⟩
  case round =>
    obtain ⟨j, hq, hj, rfl, hbs⟩ := hrel
    have HQ := Lib.hid hq
    have HB := Lib.hid hbs
    clear hq hbs HBS
    by_cases hlt : j < N.length - m
    · obtain ⟨n, hn⟩ : ∃ n, N[m + j]? = some n := ⟨N[m + j]'(by omega), List.getElem?_eq_getElem _⟩
      obtain rfl := HA.out (by omega)
      have hgj : decide (j < N.length - m) = true := by simpa using hlt
      have hij : (j : Int) < ((N.length - m : Nat) : Int) := by omega
      have hwj : IntKind.i64.wrap ((j : Int) + 1) = (j : Int) + 1 := IntWalk.i64_in _ (by have := HS.out.room; have := HS.out.most_le; omega)
      have HIK : Hid (InK n.k) := by
        have h1 := HS.out.wf.k_lt hn
        have h2 := HS.out.room
        have h3 := HS.out.most_le
        exact ⟨by omega, by omega, by omega, by omega⟩
      have hcl : ∀ i, wr.cell? ⟨g, i, none⟩ = w.cell? ⟨g, i, none⟩ := fun i => by
        rcases HS.out.row.2 with ⟨hv, _⟩ | ⟨g', cp, cur, hv, _, hgg, _⟩
        · cases hv
        · cases hv
          rw [Lib.cell_of_heap hgg, Lib.cell_of_heap (HB.out.row.trans hgg)]
      obtain ⟨s0, s1, s2, s3, s4, s5⟩ := HS.out.sq hn
      have e0 : wr.cell? ⟨g, m * 6 + j * 6, none⟩ = some (.int .u32 (n.k.1 : Int)) := by rw [hcl, ← Nat.add_mul]; exact s0
      have e1 : wr.cell? ⟨g, m * 6 + j * 6 + 1, none⟩ = some (.int .u32 (n.k.2.1 : Int)) := by rw [hcl, ← Nat.add_mul]; exact s1
      have e2 : wr.cell? ⟨g, m * 6 + j * 6 + 2, none⟩ = some (.int .u32 (n.k.2.2.1 : Int)) := by rw [hcl, ← Nat.add_mul]; exact s2
      have e3 : wr.cell? ⟨g, m * 6 + j * 6 + 3, none⟩ = some (.int .u32 (n.k.2.2.2 : Int)) := by rw [hcl, ← Nat.add_mul]; exact s3
      have e4 : wr.cell? ⟨g, m * 6 + j * 6 + 4, none⟩ = some (.int .i64 (n.lv : Int)) := by rw [hcl, ← Nat.add_mul]; exact s4
      have e5 : wr.cell? ⟨g, m * 6 + j * 6 + 5, none⟩ = some (.int .u64 (n.ct : Int)) := by rw [hcl, ← Nat.add_mul]; exact s5
      have HN := Lib.hid hn
      clear hn s0 s1 s2 s3 s4 s5 hcl
      go_wp2_with fail
      have hbl := bel1 wr (.cells #[.int .u32 (n.k.1 : Int), .int .u32 (n.k.2.1 : Int), .int .u32 (n.k.2.2.1 : Int), .int .u32 (n.k.2.2.2 : Int), .int .i64 (n.lv : Int), .int .u64 (n.ct : Int)] 64)
      have hnw : (wr.alloc (.cells #[.int .u32 (n.k.1 : Int), .int .u32 (n.k.2.1 : Int), .int .u32 (n.k.2.2.1 : Int), .int .u32 (n.k.2.2.2 : Int), .int .i64 (n.lv : Int), .int .u64 (n.ct : Int)] 64)).heap[wr.heap.size]? = some (.cells #[.int .u32 (n.k.1 : Int), .int .u32 (n.k.2.1 : Int), .int .u32 (n.k.2.2.1 : Int), .int .u32 (n.k.2.2.2 : Int), .int .i64 (n.lv : Int), .int .u64 (n.ct : Int)] 64) := heap_alloc_new wr _
      have HL : Hid (sb < wr.heap.size ∧ g < wr.heap.size) := by
        have h1 := HS.out.lt
        have h2 := HB.out.frm.size
        exact ⟨by omega, by omega⟩
      have HW1 : Hid (Bs w sb g tb cap most N m j (wr.alloc (.cells #[.int .u32 (n.k.1 : Int), .int .u32 (n.k.2.1 : Int), .int .u32 (n.k.2.2.1 : Int), .int .u32 (n.k.2.2.2 : Int), .int .i64 (n.lv : Int), .int .u64 (n.ct : Int)] 64))) :=
        ⟨by rw [hbl.block sb HL.out.1]; exact HB.out.blk, by rw [hbl.block g HL.out.2]; exact HB.out.row, HB.out.tab.blk (hbl.block tb HB.out.tab.lt), HB.out.frm.trans (Frm.of_below (F := [sb, g, tb]) hbl) (fun b hb => Or.inl hb)⟩
      clear hbl e0 e1 e2 e3 e4 e5
      generalize wr.alloc (.cells #[.int .u32 (n.k.1 : Int), .int .u32 (n.k.2.1 : Int), .int .u32 (n.k.2.2.1 : Int), .int .u32 (n.k.2.2.2 : Int), .int .i64 (n.lv : Int), .int .u64 (n.ct : Int)] 64) = W1 at *
      generalize wr.heap.size = nb at *
      have HD2 : Hid (W1.cell? ⟨sb, 2, none⟩ = some (.map (some tb))) := by show _ = _; rw [Lib.cell_of_heap HW1.out.blk]; rfl
      have HQ0 : Hid (W1.cell? ⟨nb, 0, none⟩ = some (.int .u32 (n.k.1 : Int))) := by show _ = _; rw [Lib.cell_of_heap hnw]; rfl
      have HQ1 : Hid (W1.cell? ⟨nb, 1, none⟩ = some (.int .u32 (n.k.2.1 : Int))) := by show _ = _; rw [Lib.cell_of_heap hnw]; rfl
      have HQ2 : Hid (W1.cell? ⟨nb, 2, none⟩ = some (.int .u32 (n.k.2.2.1 : Int))) := by show _ = _; rw [Lib.cell_of_heap hnw]; rfl
      have HQ3 : Hid (W1.cell? ⟨nb, 3, none⟩ = some (.int .u32 (n.k.2.2.2 : Int))) := by show _ = _; rw [Lib.cell_of_heap hnw]; rfl
      clear hnw
      refine region_sq 6 (fun W => W = W1.drew) [(0, 1), (1, 1), (2, 1), (4, 1), (3, 2), (5, 2), (6, 3)] (by kernel_rfl) (by kernel_rfl) rfl (by intro c a d v w h; cases d <;> exact h) (by kernel_rfl) rfl ?_
      refine ⟨_, ?_, rfl, by rfl, ?_, ?_⟩
      rotate_left
      · intro W; go_simp; first | done | rfl
      conv => arg 6; simp only [Act.put, List.setIfInBounds_toArray, List.set_cons_zero, List.set_cons_succ]
      refine ⟨_, ?_, rfl, by rfl, ?_, ?_⟩
      rotate_left
      · intro W; go_simp; first | done | rfl
      conv => arg 6; simp only [Act.put, List.setIfInBounds_toArray, List.set_cons_zero, List.set_cons_succ]
      refine ⟨_, ?_, rfl, by rfl, ?_, ?_⟩
      rotate_left
      · intro W; go_simp; first | done | rfl
      conv => arg 6; simp only [Act.put, List.setIfInBounds_toArray, List.set_cons_zero, List.set_cons_succ]
      refine ⟨_, ?_, rfl, by rfl, ?_, ?_⟩
      rotate_left
      · intro W; go_simp; first | done | rfl
      conv => arg 6; simp only [Act.put, List.setIfInBounds_toArray, List.set_cons_zero, List.set_cons_succ]
      refine ⟨_, ?_, rfl, by rfl, ?_, ?_⟩
      rotate_left
      · rintro W rfl
        have d2 : W1.drew.cell? ⟨sb, 2, none⟩ = some (.map (some tb)) := HD2.out
        have q0 : W1.drew.cell? ⟨nb, 0, none⟩ = some (.int .u32 (n.k.1 : Int)) := HQ0.out
        have q1 : W1.drew.cell? ⟨nb, 1, none⟩ = some (.int .u32 (n.k.2.1 : Int)) := HQ1.out
        have q2 : W1.drew.cell? ⟨nb, 2, none⟩ = some (.int .u32 (n.k.2.2.1 : Int)) := HQ2.out
        have q3 : W1.drew.cell? ⟨nb, 3, none⟩ = some (.int .u32 (n.k.2.2.2 : Int)) := HQ3.out
        go_simp; first | done | rfl
      conv => arg 6; simp only [Act.put, List.setIfInBounds_toArray, List.set_cons_zero, List.set_cons_succ]
      refine ⟨_, ?_, rfl, by rfl, ?_, ?_⟩
      rotate_left
      · rintro W rfl
        have d2 : W1.drew.cell? ⟨sb, 2, none⟩ = some (.map (some tb)) := HD2.out
        have q0 : W1.drew.cell? ⟨nb, 0, none⟩ = some (.int .u32 (n.k.1 : Int)) := HQ0.out
        have q1 : W1.drew.cell? ⟨nb, 1, none⟩ = some (.int .u32 (n.k.2.1 : Int)) := HQ1.out
        have q2 : W1.drew.cell? ⟨nb, 2, none⟩ = some (.int .u32 (n.k.2.2.1 : Int)) := HQ2.out
        have q3 : W1.drew.cell? ⟨nb, 3, none⟩ = some (.int .u32 (n.k.2.2.2 : Int)) := HQ3.out
        go_simp; first | done | rfl
      conv => arg 6; simp only [Act.put, List.setIfInBounds_toArray, List.set_cons_zero, List.set_cons_succ]
      refine ⟨_, rfl, by rfl, fun K hK => ?_⟩
      refine wp_del _ _ _ rfl tb m j N n (by rfl) (by rfl) (KDel.blk (w := W1) HW1.out.tab rfl) HS.out.wf h2 HN.out HIK.out ?_
      intro W2 hk2 hg2
      have HW2 : Hid (Bs w sb g tb cap most N m (j + 1) W2) := by
        have nt : sb ≠ tb ∧ g ≠ tb := HS.out.ne_tab
        have hl1 : sb < W1.heap.size := (Array.getElem?_eq_some_iff.1 HW1.out.blk).1
        have hl2 : g < W1.heap.size := by have h1 := HS.out.lt; have h2 := HW1.out.frm.size; omega
        refine ⟨?_, ?_, hk2, ?_⟩
        · rw [hg2.block sb hl1 (by simpa using nt.1)]; exact HW1.out.blk
        · rw [hg2.block g hl2 (by simpa using nt.2)]; exact HW1.out.row
        · exact HW1.out.frm.trans (F' := [sb, g, tb]) ⟨hg2.os, hg2.tape, hg2.output, hg2.size, fun b hb hn => hg2.block b hb (fun e => hn (by cases e; simp))⟩ (fun b hb => Or.inl hb)
      refine hK _ _ ?_
      clear hK K hk2 hg2
      conv => arg 6; simp only [Act.put, List.setIfInBounds_toArray, List.set_cons_zero, List.set_cons_succ]
      unfold wpSq
      go_wp2_with fail
      go_roundg (N.length - m - (j + 1))
      case measure => rw [HQ.out]; omega
      case rel => exact ⟨j + 1, rfl, hlt, by go_num, HW2.out⟩
    · obtain rfl : j = N.length - m := by omega
      have hgj : decide (N.length - m < N.length - m) = false := by simp
      have c1 : wr.cell? ⟨sb, 1, none⟩ = some (.slice (some ⟨g, 0, none⟩) N.length cap) := by rw [Lib.cell_of_heap HB.out.blk]; rfl
      have c3 : wr.frozen? ⟨sb, 1, none⟩ = false := Lib.frozen_of_heap HB.out.blk 1
      have i0 : (0 : Int) ≤ (m : Int) := by omega
      have i1 : (m : Int) ≤ (cap : Int) := by have := HCAP.out; omega
      go_wp2_with fail
      refine bodyPost_end (results_none rfl _ _ _) rfl ?_
      refine ⟨rfl, ?_, ?_⟩
      · have hl : (N.take m).length = m := by rw [List.length_take]; omega
        have hng := HS.out.ne
        refine ⟨?_, ⟨by rw [ndVs_len], ?_⟩, KMap.blk (w := wr) (HB.out.tab.done HS.out.wf h2 (by omega)) (by rw [Below.heap_setCell _ _ _ _ (by have := HS.out.ne_tab.1; simpa using Ne.symm this)]), wf_take HS.out.wf h2, by rw [hl]; have := HS.out.room; omega, HS.out.most_le, hng⟩
        · rw [hl]
          simp only [World.setCell, Array.getElem?_modify, HB.out.blk]
          simp
        · rw [hl]
          rcases HS.out.row.2 with ⟨hv, _⟩ | ⟨g', cp, cur, hv, h0, hgg, hc1, hc2, hc3, hc4⟩
          · cases hv
          · cases hv
            refine Or.inr ⟨g, cap, cur, rfl, h0, by rw [Below.heap_setCell _ _ _ _ (by simpa using Ne.symm hng), HB.out.row]; exact hgg, by omega, hc2, hc3, ?_⟩
            rw [ndVs_take, ← hc4, List.take_take]
            congr 1
            omega
      · exact HB.out.frm.trans (Frm.of_set (F := [sb, g, tb]) wr (by simp) _) (fun b hb => Or.inl hb)
end Go.Proofs.Ytgaakpdmkgigaaa
