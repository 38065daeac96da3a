-- P09
import Derived.Test.YtaapkngpnlnjeaaGreatDoorP03
import Derived.Test.YtaapkngpnlnjeaaGreatDoorP08
import Derived.Lib.BitFns
import Derived.Test.YtaapkngpnlnjeaaGreatDoorP07
import Derived.Deep.DeepCutAuto
import Derived.Deep.CutBlock
import Derived.Deep.CutRange
section
namespace Go.Proofs.YtaapkngpnlnjeaaGreatDoor
open Go.RowKit
set_option maxRecDepth 100000

theorem rule_any (alive : Bool) (n : Int) (w : World) : Calls Tryz.prog 104 #[.bool alive, .int .i64 n] w fun e w' => e = .returned (.bool (ruleB alive n)) ∧ w = w' := by
  by_cases h3 : n = 3
  · have g : (n == 3) = true := by simpa using h3
    go_enter Tryz.func104, Tryz.ntmps104
    go_wp2_with fail
    go_ret
    exact ⟨by simp [ruleB, h3], rfl⟩
  · have g : (n == 3) = false := by simpa using h3
    cases alive with
    | false =>
      go_enter Tryz.func104, Tryz.ntmps104
      go_wp2_with fail
      go_ret
      exact ⟨by simp [ruleB, h3], rfl⟩
    | true =>
      go_enter Tryz.func104, Tryz.ntmps104
      go_wp2_with fail
      go_ret
      exact ⟨by show Ending.returned (.bool (n == 2)) = .returned (.bool (ruleB true n)); rw [show (n == 2) = ruleB true n by rw [Bool.eq_iff_iff]; simp [ruleB, h3]], rfl⟩
theorem bit_any (x y : Int) (hx : 0 ≤ x ∧ x < 4) (hy : 0 ≤ y ∧ y < 4) (w : World) : Calls Tryz.prog 108 #[.int .i64 x, .int .i64 y] w fun e w' => e = .returned (.int .i64 (4 * y + x)) ∧ w = w' := by
  have e1 : IntKind.i64.wrap (4 * y) = 4 * y := IntWalk.i64_in _ (by omega)
  have e2 : IntKind.i64.wrap (4 * y + x) = 4 * y + x := IntWalk.i64_in _ (by omega)
  go_enter Tryz.func108, Tryz.ntmps108
  go_wp2_with fail
  go_ret
  exact ⟨rfl, rfl⟩
theorem cell_any (alive : Bool) (w : World) : Calls Tryz.prog 100 #[.bool alive] w fun e w' => e = .returned (.int .u32 ((if alive then 1 else 0 : Nat) : Int)) ∧ w = w' := by
  cases alive with
  | false =>
    go_enter Tryz.func100, Tryz.ntmps100
    go_wp2_with fail
    go_ret
    exact ⟨rfl, rfl⟩
  | true =>
    go_enter Tryz.func100, Tryz.ntmps100
    go_wp2_with fail
    go_ret
    exact ⟨rfl, rfl⟩
theorem at_in (f : Nat) (hf : f < 65536) (x y : Nat) (hx : x < 4) (hy : y < 4) (w : World) : Calls Tryz.prog 105 #[.int .u16 (f : Int), .int .i64 (x : Int), .int .i64 (y : Int)] w fun e w' => e = .returned (.bool (f.testBit (4 * y + x))) ∧ w = w' := by
  have g1 : decide ((x : Int) < 0) = false := by simp
  have g3 : decide ((y : Int) < 0) = false := by simp
  have g5 : decide ((4 : Int) ≤ (x : Int)) = false := by simp; omega
  have g6 : decide ((4 : Int) ≤ (y : Int)) = false := by simp; omega
  have hbt := bit_u16 f (4 * y + x) hf
  go_enter Tryz.func105, Tryz.ntmps105
  go_wp2_with fail
  refine (bit_any _ _ (by omega) (by omega) _).mono ?_
  rintro e w' ⟨rfl, rfl⟩
  go_wp2_with fail
  go_ret
  exact ⟨rfl, rfl⟩
theorem at_out (f : Nat) (x y : Int) (h : x < 0 ∨ 4 ≤ x ∨ y < 0 ∨ 4 ≤ y) (w : World) : Calls Tryz.prog 105 #[.int .u16 (f : Int), .int .i64 x, .int .i64 y] w fun e w' => e = .returned (.bool false) ∧ w = w' := by
  by_cases h1 : x < 0
  · have g1 : decide (x < 0) = true := by simpa using h1
    go_enter Tryz.func105, Tryz.ntmps105
    go_wp2_with fail
    go_ret
    exact ⟨rfl, rfl⟩
  · have g1 : decide (x < 0) = false := by simpa using h1
    by_cases h2 : 4 ≤ x
    · have g2 : decide (4 ≤ x) = true := by simpa using h2
      go_enter Tryz.func105, Tryz.ntmps105
      go_wp2_with fail
      go_ret
      exact ⟨rfl, rfl⟩
    · have g2 : decide (4 ≤ x) = false := by simpa using h2
      by_cases h3 : y < 0
      · have g3 : decide (y < 0) = true := by simpa using h3
        go_enter Tryz.func105, Tryz.ntmps105
        go_wp2_with fail
        go_ret
        exact ⟨rfl, rfl⟩
      · have g3 : decide (y < 0) = false := by simpa using h3
        have g4 : decide (4 ≤ y) = true := by simp; omega
        go_enter Tryz.func105, Tryz.ntmps105
        go_wp2_with fail
        go_ret
        exact ⟨rfl, rfl⟩
theorem ones_any (x : Nat) (hx : x < 65536) (w : World) : Calls Tryz.prog 109 #[.int .u16 (x : Int)] w fun e w' => e = .returned (.int .i64 ((pc (fun i => x.testBit i) 16 : Nat) : Int)) ∧ ∃ q, w' = w.drewN q := by
  rw [← ones_two x hx]
  have i0 : (0 : Int) ≤ (x : Int) / 256 := by omega
  have i1 : (x : Int) / 256 ≤ 255 := by omega
  have e2 : bits .and .u16 (x : Int) 255 = (x : Int) % 256 := by
    rw [show (255 : Int) = ((255 : Nat) : Int) from rfl, and_u16 x 255 hx (by omega), show (255 : Nat) = 2 ^ 8 - 1 from rfl, Nat.and_two_pow_sub_one_eq_mod]
    omega
  go_enter Tryz.func109, Tryz.ntmps109
  go_wp2_with fail
  generalize hT : Value.string _ = T
  have hT2 : T = .string Lib.pop8tab := hT.symm.trans (by kernel_rfl)
  clear hT
  subst hT2
  have j0 : (0 : Int) ≤ (x : Int) % 256 := by omega
  have j1 : (x : Int) % 256 ≤ 255 := by omega
  have hp : (Lib.pop8 ((x : Int) / 256) + Lib.pop8 ((x : Int) % 256)) % 256 = ((Lib.onesCount (x / 256) + Lib.onesCount (x % 256) : Nat) : Int) := by
    have a1 := Lib.pop8_eq ⟨x / 256, by omega⟩
    have a2 := Lib.pop8_eq ⟨x % 256, by omega⟩
    have b1 := Lib.onesCount_le8 ⟨x / 256, by omega⟩
    have b2 := Lib.onesCount_le8 ⟨x % 256, by omega⟩
    simp only at a1 a2 b1 b2
    rw [show (x : Int) / 256 = ((x / 256 : Nat) : Int) by omega, show (x : Int) % 256 = ((x % 256 : Nat) : Int) by omega, a1, a2]
    omega
  go_quiet (fail)
  rw [hp]
  go_wp2_with fail
  go_ret
  exact ⟨rfl, _, rfl⟩
theorem near_any (f : Nat) (hf : f < 65536) (x y : Nat) (hx : x = 1 ∨ x = 2) (hy : y = 1 ∨ y = 2) (w : World) : Calls Tryz.prog 106 #[.int .u16 (f : Int), .int .i64 (x : Int), .int .i64 (y : Int)] w fun e w' => e = .returned (.int .i64 (nearF f x y : Int)) ∧ ∃ q, w' = w.drewN q := by
  have e1 : IntKind.i64.wrap ((x : Int) - 1) = (x : Int) - 1 := IntWalk.i64_in _ (by omega)
  have e2 : IntKind.i64.wrap ((y : Int) - 1) = (y : Int) - 1 := IntWalk.i64_in _ (by omega)
  have hk : 4 * ((y : Int) - 1) + ((x : Int) - 1) = ((4 * (y - 1) + (x - 1) : Nat) : Int) := by omega
  have ha : around x y < 65536 := by
    rcases hx with rfl | rfl <;> rcases hy with rfl | rfl <;> decide
  have hand := and_u16 f (around x y) hf ha
  have hc := ones_any (f &&& around x y) (by have : f &&& around x y ≤ f := Nat.and_le_left; omega)
  have hpc : pc (fun i => (f &&& around x y).testBit i) 16 = nearF f x y := by
    unfold nearF
    simp only [Nat.testBit_and]
  rw [hpc] at hc
  go_enter Tryz.func106, Tryz.ntmps106
  go_wp2_with fail
  refine (bit_any _ _ (by omega) (by omega) _).mono ?_
  rintro e w' ⟨rfl, rfl⟩
  rw [hk]
  go_wp2_with fail
  have hw : IntKind.u16.wrap (1879 * 2 ^ (4 * (y - 1) + (x - 1))) = (around x y : Int) := by
    rw [show (1879 * 2 ^ (4 * (y - 1) + (x - 1)) : Int) = ((around x y : Nat) : Int) by unfold around; rw [Int.natCast_mul, Int.natCast_pow]; rfl]
    exact IntWalk.u16_in _ (by omega)
  rw [hw, hand]
  refine (hc _).mono ?_
  rintro e w' ⟨rfl, q, rfl⟩
  go_wp2_with fail
  go_ret
  exact ⟨rfl, _, rfl⟩
/-- The place of a cell of a quarter. -/
def inQ (i j : Nat) : Nat := 4 * (2 * (i / 2) + j / 2) + (2 * (i % 2) + j % 2)
theorem inQ_lt {i j : Nat} (hi : i < 4) (hj : j < 4) : inQ i j < 16 := by unfold inQ; omega
theorem and_one (i : Nat) (hi : i < 4) : bits .and .i64 (i : Int) 1 = ((i % 2 : Nat) : Int) := by
  rcases (show i = 0 ∨ i = 1 ∨ i = 2 ∨ i = 3 by omega) with rfl | rfl | rfl | rfl <;> decide
theorem inQ_any (i j : Nat) (hi : i < 4) (hj : j < 4) (w : World) : Calls Tryz.prog 103 #[.int .i64 (i : Int), .int .i64 (j : Int)] w fun e w' => e = .returned (.int .i64 (inQ i j : Int)) ∧ w = w' := by
  have a1 := and_one i hi
  have a2 := and_one j hj
  have hbt := bit_any (2 * ((i : Int) % 2) + (j : Int) % 2) (2 * ((i : Int) / 2) + (j : Int) / 2) (by omega) (by omega)
  rw [show 4 * (2 * ((i : Int) / 2) + (j : Int) / 2) + (2 * ((i : Int) % 2) + (j : Int) % 2) = (inQ i j : Int) by unfold inQ; omega] at hbt
  go_enter Tryz.func103, Tryz.ntmps103
  go_wp2_with fail
  refine (hbt _).mono ?_
  rintro e w' ⟨rfl, rfl⟩
  go_wp2_with fail
  go_ret
  exact ⟨rfl, rfl⟩
end Go.Proofs.YtaapkngpnlnjeaaGreatDoor
end

section
namespace Go.Proofs.YtaapkngpnlnjeaaGreatDoor
open Go.RowKit Go.Maps
set_option maxRecDepth 100000

theorem find_take {N : List Nd} (hw : Wf N) {m : Nat} (hm : 2 ≤ m) (k : K4) (i : Nat) : findZ (N.take m) k = some i ↔ findZ N k = some i ∧ i < m := by
  constructor
  · intro h
    obtain ⟨h2, n, hn, hk⟩ := find_some h
    have hi : i < m := by have := (List.getElem?_eq_some_iff.1 hn).1; rw [List.length_take] at this; omega
    rw [List.getElem?_take_of_lt hi] at hn
    subst hk
    exact ⟨find_at hw h2 hn, hi⟩
  · rintro ⟨h, hi⟩
    obtain ⟨h2, n, hn, hk⟩ := find_some h
    subst hk
    exact find_at (wf_take hw hm) h2 (by rw [List.getElem?_take_of_lt hi]; exact hn)
theorem owns_size {w : World} {b n : Nat} {D : DataW Unit} (h : w.ownsMap Tryz.prog 63 (plainElem Tryz.prog 32) b n D) : w.ownsMap Tryz.prog 63 (plainElem Tryz.prog 32) b (Maps.size D) D := by
  obtain ⟨es, clock, hb, F, _, rfl⟩ := h
  exact ⟨es, clock, hb, F, by simp [Maps.size, length_sorted], rfl⟩
/-- The table, j of the squares from m on struck. -/
def KDel (w : World) (b : Nat) (N : List Nd) (m j : Nat) : Prop :=
  ∃ D : DataW Unit, w.ownsMap Tryz.prog 63 (plainElem Tryz.prog 32) b N.length D ∧ Maps.size D + 2 + j = N.length ∧
    (∀ k i, InK k → findZ N k = some i → (i < m ∨ m + j ≤ i) → Maps.has D (klk k) = true ∧ D.atKey (klk k) (.lit (.int .u32 0)) = .lit (.int .u32 (i : Int))) ∧
    (∀ k i, InK k → findZ N k = some i → m ≤ i → i < m + j → Maps.has D (klk k) = false) ∧ ∀ k, InK k → findZ N k = none → Maps.has D (klk k) = false
theorem KMap.del {w : World} {b : Nat} {N : List Nd} (h : KMap w b N) (m : Nat) : KDel w b N m 0 := by
  obtain ⟨D, h1, h2, h3, h4⟩ := h
  exact ⟨D, h1, by omega, fun k i hk hf _ => h3 k i hk hf, fun k i _ _ h5 h6 => by omega, h4⟩
theorem KDel.lt {w : World} {b : Nat} {N : List Nd} {m j : Nat} (h : KDel w b N m j) : b < w.heap.size := by
  obtain ⟨D, h, _⟩ := h
  exact h.lt
theorem KDel.blk {w w' : World} {b : Nat} {N : List Nd} {m j : Nat} (h : KDel w b N m j) (hb : w'.heap[b]? = w.heap[b]?) : KDel w' b N m j := by
  obtain ⟨D, ⟨es, clock, h1, h2⟩, r⟩ := h
  exact ⟨D, ⟨es, clock, hb.trans h1, h2⟩, r⟩
theorem KDel.step {w : World} {b : Nat} {N : List Nd} {m j : Nat} (h : KDel w b N m j) (hw : Wf N) (hm : 2 ≤ m) {n : Nd} (hn : N[m + j]? = some n) (hk : InK n.k) (ty : TypeId) :
    ∃ w', (Builtin.delete_ #[67, 63] ty #[.map (some b), kv n.k]).run Tryz.prog w = .ok (.tuple #[]) w' ∧ KDel w' b N m (j + 1) ∧ w.grownBy w' (some b) := by
  obtain ⟨D, ho, hs, h1, h2, h3⟩ := h
  obtain ⟨w', r1, r2, r3⟩ := ho.drop Tryz.keyedK Tryz.underlying67 (keyK n.k hk) ty
  have hf := find_at hw (by omega) hn
  obtain ⟨g1, _⟩ := h1 n.k (m + j) hk hf (Or.inr (Nat.le_refl _))
  have hsz := Maps.size_del (k := klk n.k) (ho.tidy Tryz.keyedK)
  rw [g1] at hsz
  refine ⟨w', r1, ⟨_, r2, by simp at hsz; omega, fun k i hki hfi hi => ?_, fun k i hki hfi ha hb => ?_, fun k hki hfi => ?_⟩, r3.grown⟩
  · have e : k ≠ n.k := fun e => by subst e; rw [hf] at hfi; cases hfi; omega
    have hne : klk k ≠ klk n.k := fun hh => e (klk_inj hki hk hh)
    rw [Maps.has_del_other hne, Maps.atKey_del_other hne]
    exact h1 k i hki hfi (by omega)
  · by_cases e : k = n.k
    · subst e; exact Maps.has_del_same
    · have hne : klk k ≠ klk n.k := fun hh => e (klk_inj hki hk hh)
      rw [Maps.has_del_other hne]
      refine h2 k i hki hfi ha ?_
      have : i ≠ m + j := fun e2 => by
        subst e2
        obtain ⟨_, n', hn', hk'⟩ := find_some hfi
        rw [hn] at hn'
        cases hn'
        exact e hk'.symm
      omega
  · by_cases e : k = n.k
    · subst e; rw [hf] at hfi; cases hfi
    · have hne : klk k ≠ klk n.k := fun hh => e (klk_inj hki hk hh)
      rw [Maps.has_del_other hne]
      exact h3 k hki hfi
theorem KDel.done {w : World} {b : Nat} {N : List Nd} {m j : Nat} (h : KDel w b N m j) (hw : Wf N) (hm : 2 ≤ m) (hj : m + j = N.length) : KMap w b (N.take m) := by
  obtain ⟨D, ho, hs, h1, h2, h3⟩ := h
  have hl : (N.take m).length = m := by rw [List.length_take]; omega
  refine ⟨D, (owns_size ho).mono (by rw [hl]; omega), by rw [hl]; omega, fun k i hki hi => ?_, fun k hki hi => ?_⟩
  · obtain ⟨hi1, hi2⟩ := (find_take hw hm k i).1 hi
    exact h1 k i hki hi1 (Or.inl hi2)
  · cases hf : findZ N k with
    | none => exact h3 k hki hf
    | some i =>
      rcases Nat.lt_or_ge i m with h4 | h4
      · rw [(find_take hw hm k i).2 ⟨hf, h4⟩] at hi; cases hi
      · have : i < N.length := by obtain ⟨_, n, hn, _⟩ := find_some hf; exact (List.getElem?_eq_some_iff.1 hn).1
        exact h2 k i hki hf h4 (by omega)

/-- 's.squares[m:]'. -/
theorem cut_from (g n cap m : Nat) (hm : m ≤ n) (hn : n ≤ cap) : ∃ A C, (∀ W : World, (Instr.slice 66 (.slice (some ⟨g, 0, none⟩) n cap) (some (.int .i64 (m : Int))) none none).run Tryz.prog W = .ok (.slice A (n - m) C) W) ∧ (m < n → A = some ⟨g, m * 6, none⟩) := by
  refine ⟨if cap = m then some ⟨g, 0, none⟩ else some ⟨g, m * 6, none⟩, cap - m, fun W => ?_, fun hl => by rw [if_neg (by omega)]⟩
  rw [run_slice_l (P := Tryz.prog) (w := W) 66 _ _ _ Tryz.underlying66 .i64 (m : Int) (by omega) (by omega), show Tryz.prog.elem 66 = 65 by kernel_rfl, Tryz.sizeOf65]
  simp [Result.andThen, sliced, Addr.add_lit]
/-- 'delete(s.table, gone.kids)' at the operation. -/
theorem wp_del (w : World) {o : Oper} {a : Act} {K : Act → World → Prop} {Q : Exit → Act → World → Prop} (x y : Operand) (hop : o.op = .call { callee := .builtin .delete, args := #[x, y], argTypes := #[67, 63] }) (b m j : Nat) (N : List Nd) (n : Nd) (hx : a.eval x = .map (some b)) (hy : a.eval y = kv n.k)
    (h : KDel w b N m j) (hw : Wf N) (hm : 2 ≤ m) (hn : N[m + j]? = some n) (hk : InK n.k) (hK : ∀ w', KDel w' b N m (j + 1) → w.grownBy w' (some b) → K (a.put o.dst (.tuple #[])) w') : Oper.wp Tryz.prog o a w K Q := by
  obtain ⟨w', hrun, r1, r2⟩ := h.step hw hm hn hk o.type
  unfold Oper.wp execOp
  simp only [hop, resolve, invoke, builtin, Sem.run_bind, Sem.run_pure, Result.andThen_ok, List.map_toArray, List.map_cons, List.map_nil, hx, hy, hrun]
  exact hK w' r1 r2
theorem ndVs_take (N : List Nd) (m : Nat) : ndVs (N.take m) = (ndVs N).take (m * 6) := by
  induction N generalizing m with
  | nil => simp [ndVs]
  | cons c r ih =>
    cases m with
    | zero => simp [ndVs]
    | succ m =>
      have e : (ndV c).length = 6 := rfl
      simp only [ndVs, List.take_succ_cons, List.flatMap_cons] at ih ⊢
      rw [ih m, List.take_append, e, show (m + 1) * 6 - 6 = m * 6 by omega, List.take_of_length_le (l := ndV c) (by rw [e]; omega)]
/-- The loop's state: j squares struck. -/
structure Bs (w : World) (sb g tb cap most : Nat) (N : List Nd) (m j : Nat) (W : World) : Prop where
  blk : W.heap[sb]? = some (.cells #[.int .i64 (most : Int), .slice (some ⟨g, 0, none⟩) N.length cap, .map (some tb)] 69 (0, 0))
  row : W.heap[g]? = w.heap[g]?
  tab : KDel W tb N m j
  frm : Frm [sb, g, tb] w W
end Go.Proofs.YtaapkngpnlnjeaaGreatDoor
end

section
namespace Go.Proofs.YtaapkngpnlnjeaaGreatDoor
open Go.RowKit Go.Maps
set_option maxRecDepth 100000

theorem below_drewN9 {B : Nat} {a w : World} (h : Below B a w) (q : Nat) : Below B a (w.drewN q) := ⟨h.os, h.tape, h.output, h.size, h.block⟩
/-- Four bools in a block. -/
def bO (f : Nat → Bool) : Obj := .cells #[.bool (f 0), .bool (f 1), .bool (f 2), .bool (f 3)] 174 (0, 0)
theorem b_cells {w : World} {b : Nat} {f : Nat → Bool} (h : w.heap[b]? = some (bO f)) : w.cell? ⟨b, 0, none⟩ = some (.bool (f 0)) ∧ w.cell? ⟨b, 1, none⟩ = some (.bool (f 1)) ∧ w.cell? ⟨b, 2, none⟩ = some (.bool (f 2)) ∧ w.cell? ⟨b, 3, none⟩ = some (.bool (f 3)) :=
  ⟨by rw [Lib.cell_of_heap h]; rfl, by rw [Lib.cell_of_heap h]; rfl, by rw [Lib.cell_of_heap h]; rfl, by rw [Lib.cell_of_heap h]; rfl⟩
theorem b_cell {w : World} {b : Nat} {f : Nat → Bool} (h : w.heap[b]? = some (bO f)) {i : Nat} (hi : i < 4) : w.cell? ⟨b, i, none⟩ = some (.bool (f i)) ∧ w.frozen? ⟨b, i, none⟩ = false := by
  obtain ⟨c0, c1, c2, c3⟩ := b_cells h
  refine ⟨?_, Lib.frozen_of_heap h i⟩
  have : i = 0 ∨ i = 1 ∨ i = 2 ∨ i = 3 := by omega
  rcases this with rfl | rfl | rfl | rfl
  · exact c0
  · exact c1
  · exact c2
  · exact c3
theorem b_set {w : World} {b : Nat} {f : Nat → Bool} (h : w.heap[b]? = some (bO f)) {i : Nat} (hi : i < 4) (v : Bool) : (w.setCell ⟨b, i, none⟩ (.bool v)).heap[b]? = some (bO fun j => if j = i then v else f j) := by
  have : i = 0 ∨ i = 1 ∨ i = 2 ∨ i = 3 := by omega
  rcases this with rfl | rfl | rfl | rfl <;> simp only [World.setCell, Array.getElem?_modify, h, bO] <;> simp
theorem bO_ext {f g : Nat → Bool} (h : ∀ i, i < 4 → f i = g i) : bO f = bO g := by
  unfold bO; rw [h 0 (by omega), h 1 (by omega), h 2 (by omega), h 3 (by omega)]
theorem b_res {w W : World} {B b : Nat} {f : Nat → Bool} (hb : Below B w W) (hB : B ≤ b) (h : W.heap[b]? = some (bO f)) (d : Nat → Bool) :
    ∃ W', ((((W.setCell ⟨b, 0, none⟩ (.bool (d 0))).setCell ⟨b, 1, none⟩ (.bool (d 1))).setCell ⟨b, 2, none⟩ (.bool (d 2))).setCell ⟨b, 3, none⟩ (.bool (d 3))) = W' ∧ Below B w W' ∧ W'.heap[b]? = some (bO d) :=
  ⟨_, rfl, (((hb.setCell (p := ⟨b, 0, none⟩) hB _).setCell (p := ⟨b, 1, none⟩) hB _).setCell (p := ⟨b, 2, none⟩) hB _).setCell (p := ⟨b, 3, none⟩) hB _, by simp only [World.setCell, Array.getElem?_modify, h, bO]; simp⟩
def bV (f : Nat → Bool) : Value := .agg #[.bool (f 0), .bool (f 1), .bool (f 2), .bool (f 3)]
theorem inner_any (f : Nat) (hf : f < 65536) (w : World) : Calls Tryz.prog 99 #[.int .u16 (f : Int)] w fun e w' => e = .returned (bV (innF f)) ∧ Below w.heap.size w w' := by
  go_enter Tryz.func99, Tryz.ntmps99
  go_wp2_with fail
  go_loopg [4, 5, 6, 7] 4 (fun m v4 v5 v6 cnt wr => ∃ (j : Nat) (g : Nat → Bool), m = 4 - j ∧ j ≤ 4 ∧ cnt = .int .i64 (j : Int) ∧ wr.heap[w.heap.size + 1]? = some (bO g) ∧ (∀ i, i < j → g i = innF f i) ∧ Below w.heap.size w wr ∧ wr.heap[w.heap.size]? = some (bO fun _ => false))
  case atStart =>
    refine ⟨0, fun _ => false, rfl, Nat.zero_le _, rfl, ?_, fun i hi => by omega, (bel1 _ _).trans ((bel1 _ _).mono (by simp)), ?_⟩
    · exact new_2 _ _ _
    · exact kept (heap_alloc_new _ _) (bel1 _ _)
  case round =>
    obtain ⟨j, g, hm, hj, rfl, hb, hg, hB, hr⟩ := hrel
    have HM := Lib.hid hm
    have HBK := Lib.hid hb
    have HG := Lib.hid hg
    have HB := Lib.hid hB
    have HR := Lib.hid hr
    clear hm hb hg hB hr
    by_cases hlt : j < 4
    · have hgj : decide ((j : Int) < 4) = true := by simp; omega
      have a1 : bits .and .i64 (j : Int) 1 = (j : Int) % 2 := by
        rw [and_one j hlt]; omega
      have HAT := Lib.hid (at_in f hf (1 + j % 2) (1 + j / 2) (by omega) (by omega))
      have HNR := Lib.hid (near_any f hf (1 + j % 2) (1 + j / 2) (by omega) (by omega))
      rw [show ((1 + j % 2 : Nat) : Int) = 1 + (j : Int) % 2 by omega, show ((1 + j / 2 : Nat) : Int) = 1 + (j : Int) / 2 by omega] at HAT HNR
      have hm6 := b_cell HBK.out hlt
      obtain ⟨t3, t4⟩ := hm6
      have i3 : (0 : Int) ≤ (j : Int) := by omega
      have i4 : (j : Int) < 4 := by omega
      go_wp2_with fail
      refine (HAT.out _).mono ?_
      rintro e w5 ⟨rfl, rfl⟩
      go_wp2_with fail
      refine (HNR.out _).mono ?_
      rintro e w5 ⟨rfl, q, rfl⟩
      go_wp2_with fail
      refine (rule_any _ _ _).mono ?_
      rintro e w5 ⟨rfl, rfl⟩
      rw [show ruleB (f.testBit (4 * (1 + j / 2) + (1 + j % 2))) (nearF f (1 + j % 2) (1 + j / 2) : Int) = innF f j from rfl]
      go_wp2_with fail
      go_roundg (4 - (j + 1))
      case measure => rw [HM.out]; omega
      case rel =>
        refine ⟨j + 1, fun i => if i = j then innF f j else g i, rfl, by omega, by go_num, ?_, fun i hi => ?_, (below_drewN9 HB.out q).setCell (p := ⟨w.heap.size + 1, j, none⟩) (by show _ ≤ _ + 1; omega) _, ?_⟩
        · exact b_set (w := wr.drewN q) HBK.out hlt _
        · show (if i = j then innF f j else g i) = _
          by_cases e : i = j
          · subst e; rw [if_pos rfl]
          · rw [if_neg e]; exact HG.out i (by omega)
        · rw [Below.heap_setCell _ _ _ _ (by simp)]; exact HR.out
    · obtain rfl : j = 4 := by omega
      have hgj : decide (((4 : Nat) : Int) < 4) = false := by simp
      rw [bO_ext HG.out] at HBK
      obtain ⟨c0, c1, c2, c3⟩ := b_cells HBK.out
      obtain ⟨r0, q0⟩ := b_cell (i := 0) HR.out (by omega)
      obtain ⟨r1, q1⟩ := b_cell (i := 1) HR.out (by omega)
      obtain ⟨r2, q2⟩ := b_cell (i := 2) HR.out (by omega)
      obtain ⟨r3, q3⟩ := b_cell (i := 3) HR.out (by omega)
      go_wp2_with fail
      obtain ⟨W, hW, hb, hk⟩ := b_res HB.out (Nat.le_refl _) HR.out (innF f)
      rw [hW]
      obtain ⟨t0, t1, t2, t3⟩ := b_cells hk
      refine bodyPost_ret (v := _) (by simp [results, Tryz.results99, go_sem, t0, t1, t2, t3]; rfl) rfl ?_
      exact ⟨rfl, hb⟩
/-- The four cells of a quarter, as squares. -/
def qK (f i : Nat) : K4 := mk4 fun j => if f.testBit (inQ i j) then 1 else 0
end Go.Proofs.YtaapkngpnlnjeaaGreatDoor
end

section
namespace Go.Proofs.YtaapkngpnlnjeaaGreatDoor
open Go.RowKit Go.Maps
set_option maxRecDepth 100000

theorem two_out9 {e : Ending} {A : Nat → Prop} {B : Prop} (h : (∃ r : Nat, e = .returned (.tuple #[.int .u32 (r : Int), .nilIface]) ∧ A r) ∨ (e = .returned (.tuple #[.int .u32 0, .iface 48 (.int .i64 7)]) ∧ B)) :
    ∃ (r : Nat) (ev : Value), e = .returned (.tuple #[.int .u32 (r : Int), ev]) ∧ ((ev = .nilIface ∧ A r) ∨ (ev = .iface 48 (.int .i64 7) ∧ r = 0 ∧ B)) := by
  rcases h with ⟨r, rfl, h⟩ | ⟨rfl, h⟩
  · exact ⟨r, _, rfl, Or.inl ⟨rfl, h⟩⟩
  · exact ⟨0, _, rfl, Or.inr ⟨rfl, rfl, h⟩⟩
/-- A square of level 2 has these cells. -/
def Fr (N : List Nd) (x f : Nat) : Prop := Sq N 2 x ∧ ∀ i, i < 4 → kidZ N (kAt (kidZ N x) i) = qK f i
theorem qK_fo {N : List Nd} (hw : Wf N) (f i : Nat) : Fo N 0 (qK f i) := by
  refine fo_iff.2 fun j hj => ?_
  unfold qK
  rw [kAt_mk4 _ hj]
  split
  · exact sq_alive hw
  · exact sq_dead hw
theorem Fr.app {N : List Nd} (hw : Wf N) {x f : Nat} (E : List Nd) (h : Fr N x f) : Fr (N ++ E) x f := by
  refine ⟨h.1.app E, fun i hi => ?_⟩
  rw [kid_app E h.1.lt, kid_app E (fo_iff.1 (h.1.kid hw) i hi).lt]
  exact h.2 i hi
end Go.Proofs.YtaapkngpnlnjeaaGreatDoor
end
