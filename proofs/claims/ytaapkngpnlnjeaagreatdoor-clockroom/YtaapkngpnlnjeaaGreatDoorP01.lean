-- P01
import Derived.Test.YtaapkngpnlnjeaaGreatDoorProg
import Derived.Maps.OwnSet
import Derived.DeepKeys4
import Derived.RowKit
import Derived.Below
import Derived.Deep.Draws
section
namespace Go.Proofs.YtaapkngpnlnjeaaGreatDoor

/-- Four numbers of squares. -/
abbrev K4 := Nat × Nat × Nat × Nat
/-- A square: its four, its level, how many cells are alive. -/
structure Nd where
  k : K4
  lv : Nat
  ct : Nat
def topN : Nat := 18446744073709551615
def lvZ (N : List Nd) (x : Nat) : Int := match N[x]? with | some n => (n.lv : Int) | none => -1
def ctZ (N : List Nd) (x : Nat) : Nat := match N[x]? with | some n => n.ct | none => 0
def sat (a b : Nat) : Nat := min (a + b) topN
def livZ (N : List Nd) (k : K4) : Nat := sat (sat (sat (sat 0 (ctZ N k.1)) (ctZ N k.2.1)) (ctZ N k.2.2.1)) (ctZ N k.2.2.2)
/-- May four be a square's? -/
def FitZ (N : List Nd) (k : K4) : Prop := 0 ≤ lvZ N k.1 ∧ lvZ N k.1 < 62 ∧ lvZ N k.2.1 = lvZ N k.1 ∧ lvZ N k.2.2.1 = lvZ N k.1 ∧ lvZ N k.2.2.2 = lvZ N k.1
instance (N : List Nd) (k : K4) : Decidable (FitZ N k) := by unfold FitZ; infer_instance
def idx (k : K4) : List Nd → Nat → Option Nat
  | [], _ => none
  | n :: r, i => if n.k = k then some i else idx k r (i + 1)
def findZ (N : List Nd) (k : K4) : Option Nat := idx k (N.drop 2) 2
def newNd (N : List Nd) (k : K4) : Nd := ⟨k, (lvZ N k.1).toNat + 1, livZ N k⟩
/-- Make: the squares then, the number, the error. -/
def mkZ (N : List Nd) (most : Nat) (k : K4) : List Nd × Nat × Nat :=
  if FitZ N k then
    match findZ N k with
    | some i => (N, i, 0)
    | none => if most ≤ N.length then (N, 0, 7) else (N ++ [newNd N k], N.length, 0)
  else (N, 0, 1)
def N0 : List Nd := [⟨(0, 0, 0, 0), 0, 0⟩, ⟨(0, 0, 0, 0), 0, 1⟩]
/-- Empty, from a square on. -/
def emZ (most : Nat) : Nat → List Nd → Nat → List Nd × Nat × Nat
  | 0, N, x => (N, x, 0)
  | n + 1, N, x => if (mkZ N most (x, x, x, x)).2.2 = 0 then emZ most n (mkZ N most (x, x, x, x)).1 (mkZ N most (x, x, x, x)).2.1 else ((mkZ N most (x, x, x, x)).1, 0, (mkZ N most (x, x, x, x)).2.2)

/-- What holds of a store's squares. -/
structure Wf (N : List Nd) : Prop where
  two : 2 ≤ N.length
  dead : N[0]? = some ⟨(0, 0, 0, 0), 0, 0⟩
  alive : N[1]? = some ⟨(0, 0, 0, 0), 0, 1⟩
  one : ∀ i j n m, 2 ≤ i → 2 ≤ j → N[i]? = some n → N[j]? = some m → n.k = m.k → i = j
  up : ∀ i n, 2 ≤ i → N[i]? = some n → 1 ≤ n.lv ∧ n.lv ≤ 62 ∧ n.k.1 < i ∧ n.k.2.1 < i ∧ n.k.2.2.1 < i ∧ n.k.2.2.2 < i ∧
    lvZ N n.k.1 = (n.lv : Int) - 1 ∧ lvZ N n.k.2.1 = (n.lv : Int) - 1 ∧ lvZ N n.k.2.2.1 = (n.lv : Int) - 1 ∧ lvZ N n.k.2.2.2 = (n.lv : Int) - 1 ∧ n.ct = livZ N n.k
theorem sat_le (a b : Nat) : sat a b ≤ topN := Nat.min_le_right _ _
theorem liv_le (N : List Nd) (k : K4) : livZ N k ≤ topN := sat_le _ _
theorem Wf.ct_le {N : List Nd} (h : Wf N) {i : Nat} {n : Nd} (hn : N[i]? = some n) : n.ct ≤ topN := by
  by_cases hi : 2 ≤ i
  · obtain ⟨_, _, _, _, _, _, _, _, _, _, e⟩ := h.up i n hi hn
    rw [e]; exact liv_le _ _
  · have : i = 0 ∨ i = 1 := by omega
    rcases this with rfl | rfl
    · rw [h.dead] at hn; cases hn; exact Nat.zero_le _
    · rw [h.alive] at hn; cases hn; decide
theorem Wf.lv_le {N : List Nd} (h : Wf N) {i : Nat} {n : Nd} (hn : N[i]? = some n) : n.lv ≤ 62 := by
  by_cases hi : 2 ≤ i
  · exact (h.up i n hi hn).2.1
  · have : i = 0 ∨ i = 1 := by omega
    rcases this with rfl | rfl
    · rw [h.dead] at hn; cases hn; exact Nat.zero_le _
    · rw [h.alive] at hn; cases hn; exact Nat.zero_le _
theorem Wf.lv_pos {N : List Nd} (h : Wf N) {i : Nat} {n : Nd} (hn : N[i]? = some n) : (0 < n.lv ↔ 2 ≤ i) := by
  by_cases hi : 2 ≤ i
  · have := (h.up i n hi hn).1; omega
  · have : i = 0 ∨ i = 1 := by omega
    rcases this with rfl | rfl
    · rw [h.dead] at hn; cases hn; simp
    · rw [h.alive] at hn; cases hn; simp
theorem Wf.k_lt {N : List Nd} (h : Wf N) {i : Nat} {n : Nd} (hn : N[i]? = some n) : n.k.1 < N.length ∧ n.k.2.1 < N.length ∧ n.k.2.2.1 < N.length ∧ n.k.2.2.2 < N.length := by
  have hl : i < N.length := (List.getElem?_eq_some_iff.1 hn).1
  have h2 := h.two
  by_cases hi : 2 ≤ i
  · obtain ⟨_, _, a, b, c, d, _⟩ := h.up i n hi hn
    omega
  · have : i = 0 ∨ i = 1 := by omega
    rcases this with rfl | rfl
    · rw [h.dead] at hn; cases hn; simp only; omega
    · rw [h.alive] at hn; cases hn; simp only; omega
theorem wf_new : Wf N0 := by
  refine ⟨by decide, rfl, rfl, fun i j n m hi _ hn _ _ => ?_, fun i n hi hn => ?_⟩
  · have : i < 2 := (List.getElem?_eq_some_iff.1 hn).1
    omega
  · have : i < 2 := (List.getElem?_eq_some_iff.1 hn).1
    omega
theorem lv_lt {N : List Nd} {x : Nat} (h : 0 ≤ lvZ N x) : x < N.length := by
  unfold lvZ at h
  cases hx : N[x]? with
  | none => rw [hx] at h; simp at h
  | some n => exact (List.getElem?_eq_some_iff.1 hx).1
theorem lv_of {N : List Nd} {x : Nat} (h : x < N.length) : lvZ N x = (N[x].lv : Int) := by
  unfold lvZ; rw [List.getElem?_eq_getElem h]
theorem ct_of {N : List Nd} {x : Nat} (h : x < N.length) : ctZ N x = N[x].ct := by
  unfold ctZ; rw [List.getElem?_eq_getElem h]
theorem lv_none {N : List Nd} {x : Nat} (h : N.length ≤ x) : lvZ N x = -1 := by
  unfold lvZ; rw [List.getElem?_eq_none h]
theorem lv_app {N : List Nd} {x : Nat} (E : List Nd) (h : x < N.length) : lvZ (N ++ E) x = lvZ N x := by
  unfold lvZ; rw [List.getElem?_append_left h]
theorem ct_app {N : List Nd} {x : Nat} (E : List Nd) (h : x < N.length) : ctZ (N ++ E) x = ctZ N x := by
  unfold ctZ; rw [List.getElem?_append_left h]
theorem lv_take {N : List Nd} {x m : Nat} (h : x < m) : lvZ (N.take m) x = lvZ N x := by
  unfold lvZ; rw [List.getElem?_take_of_lt h]
theorem ct_take {N : List Nd} {x m : Nat} (h : x < m) : ctZ (N.take m) x = ctZ N x := by
  unfold ctZ; rw [List.getElem?_take_of_lt h]
theorem FitZ.lt {N : List Nd} {k : K4} (h : FitZ N k) : k.1 < N.length ∧ k.2.1 < N.length ∧ k.2.2.1 < N.length ∧ k.2.2.2 < N.length := by
  obtain ⟨a, _, b, c, d⟩ := h
  exact ⟨lv_lt a, lv_lt (by omega), lv_lt (by omega), lv_lt (by omega)⟩
theorem idx_some {k : K4} : ∀ {l : List Nd} {i j : Nat}, idx k l i = some j → i ≤ j ∧ ∃ n, l[j - i]? = some n ∧ n.k = k
  | [], _, _, h => by simp [idx] at h
  | n :: r, i, j, h => by
    unfold idx at h
    split at h
    · rename_i hk
      obtain rfl : i = j := by simpa using h
      exact ⟨Nat.le_refl _, n, by simp, hk⟩
    · obtain ⟨h1, m, h2, h3⟩ := idx_some h
      refine ⟨by omega, m, ?_, h3⟩
      rw [show j - i = (j - (i + 1)) + 1 by omega, List.getElem?_cons_succ]
      exact h2
theorem idx_none {k : K4} : ∀ {l : List Nd} {i : Nat}, idx k l i = none → ∀ (j : Nat) (n : Nd), l[j]? = some n → n.k ≠ k
  | [], _, _, j, n, hn => by simp at hn
  | m :: r, i, h, j, n, hn => by
    unfold idx at h
    split at h
    · cases h
    · rename_i hk
      cases j with
      | zero => obtain rfl : m = n := by simpa using hn
                exact hk
      | succ j => exact idx_none h j n (by simpa using hn)
theorem find_some {N : List Nd} {k : K4} {i : Nat} (h : findZ N k = some i) : 2 ≤ i ∧ ∃ n, N[i]? = some n ∧ n.k = k := by
  obtain ⟨h1, n, h2, h3⟩ := idx_some h
  refine ⟨h1, n, ?_, h3⟩
  rw [List.getElem?_drop] at h2
  rw [show 2 + (i - 2) = i by omega] at h2
  exact h2
theorem find_none {N : List Nd} {k : K4} (h : findZ N k = none) : ∀ (i : Nat) (n : Nd), 2 ≤ i → N[i]? = some n → n.k ≠ k := by
  intro i n hi hn
  refine idx_none h (i - 2) n ?_
  rw [List.getElem?_drop, show 2 + (i - 2) = i by omega]
  exact hn
theorem find_at {N : List Nd} (hw : Wf N) {i : Nat} {n : Nd} (hi : 2 ≤ i) (hn : N[i]? = some n) : findZ N n.k = some i := by
  cases hf : findZ N n.k with
  | none => exact absurd rfl (find_none hf i n hi hn)
  | some j =>
    obtain ⟨hj, m, hm, hk⟩ := find_some hf
    rw [hw.one i j n m hi hj hn hm hk.symm]
theorem liv_app {N : List Nd} {k : K4} (E : List Nd) (h : k.1 < N.length ∧ k.2.1 < N.length ∧ k.2.2.1 < N.length ∧ k.2.2.2 < N.length) : livZ (N ++ E) k = livZ N k := by
  unfold livZ
  rw [ct_app E h.1, ct_app E h.2.1, ct_app E h.2.2.1, ct_app E h.2.2.2]
theorem wf_add {N : List Nd} {k : K4} (hw : Wf N) (hf : FitZ N k) (hn : findZ N k = none) : Wf (N ++ [newNd N k]) := by
  have hl := hf.lt
  have h2 := hw.two
  have at_ : ∀ i n, (N ++ [newNd N k])[i]? = some n → N[i]? = some n ∨ (i = N.length ∧ n = newNd N k) := fun i n h => by
    rcases Nat.lt_or_ge i N.length with hi | hi
    · rw [List.getElem?_append_left hi] at h; exact Or.inl h
    · have hi2 : i < N.length + 1 := by have := (List.getElem?_eq_some_iff.1 h).1; simpa using this
      obtain rfl : i = N.length := by omega
      simp at h
      exact Or.inr ⟨rfl, h.symm⟩
  refine ⟨by simp; omega, by rw [List.getElem?_append_left (by omega)]; exact hw.dead, by rw [List.getElem?_append_left (by omega)]; exact hw.alive, fun i j n m hi hj hni hmj hk => ?_, fun i n hi hni => ?_⟩
  · rcases at_ i n hni with h1 | ⟨rfl, rfl⟩ <;> rcases at_ j m hmj with h3 | ⟨rfl, rfl⟩
    · exact hw.one i j n m hi hj h1 h3 hk
    · exact absurd hk (find_none hn i n hi h1)
    · exact absurd hk.symm (find_none hn j m hj h3)
    · rfl
  · rcases at_ i n hni with h1 | ⟨rfl, rfl⟩
    · have hil : i < N.length := (List.getElem?_eq_some_iff.1 h1).1
      obtain ⟨a1, a2, a3, a4, a5, a6, a7, a8, a9, b1, b2⟩ := hw.up i n hi h1
      refine ⟨a1, a2, a3, a4, a5, a6, ?_, ?_, ?_, ?_, ?_⟩
      · rw [lv_app _ (by omega)]; exact a7
      · rw [lv_app _ (by omega)]; exact a8
      · rw [lv_app _ (by omega)]; exact a9
      · rw [lv_app _ (by omega)]; exact b1
      · rw [liv_app _ ⟨by omega, by omega, by omega, by omega⟩]; exact b2
    · obtain ⟨f1, f2, f3, f4, f5⟩ := hf
      have e : ((newNd N k).lv : Int) - 1 = lvZ N k.1 := by simp only [newNd]; omega
      refine ⟨by simp only [newNd]; omega, by simp only [newNd]; omega, hl.1, hl.2.1, hl.2.2.1, hl.2.2.2, ?_, ?_, ?_, ?_, ?_⟩
      · rw [e]; exact lv_app _ hl.1
      · rw [e]; exact (lv_app _ hl.2.1).trans f3
      · rw [e]; exact (lv_app _ hl.2.2.1).trans f4
      · rw [e]; exact (lv_app _ hl.2.2.2).trans f5
      · exact (liv_app _ hl).symm
theorem wf_take {N : List Nd} (hw : Wf N) {m : Nat} (hm : 2 ≤ m) : Wf (N.take m) := by
  have at_ : ∀ i n, (N.take m)[i]? = some n → N[i]? = some n ∧ i < m := fun i n h => by
    have hi : i < m := by have := (List.getElem?_eq_some_iff.1 h).1; rw [List.length_take] at this; omega
    rw [List.getElem?_take_of_lt hi] at h
    exact ⟨h, hi⟩
  have h2 := hw.two
  refine ⟨by rw [List.length_take]; omega, by rw [List.getElem?_take_of_lt (by omega)]; exact hw.dead, by rw [List.getElem?_take_of_lt (by omega)]; exact hw.alive, fun i j n p hi hj hni hpj hk => ?_, fun i n hi hni => ?_⟩
  · exact hw.one i j n p hi hj (at_ i n hni).1 (at_ j p hpj).1 hk
  · obtain ⟨h1, him⟩ := at_ i n hni
    obtain ⟨a1, a2, a3, a4, a5, a6, a7, a8, a9, b1, b2⟩ := hw.up i n hi h1
    refine ⟨a1, a2, a3, a4, a5, a6, ?_, ?_, ?_, ?_, ?_⟩
    · rw [lv_take (by omega)]; exact a7
    · rw [lv_take (by omega)]; exact a8
    · rw [lv_take (by omega)]; exact a9
    · rw [lv_take (by omega)]; exact b1
    · unfold livZ
      rw [ct_take (by omega), ct_take (by omega), ct_take (by omega), ct_take (by omega)]
      exact b2
/-- Make's ways. -/
theorem mk_bad {N : List Nd} {most : Nat} {k : K4} (h : ¬ FitZ N k) : mkZ N most k = (N, 0, 1) := by unfold mkZ; rw [if_neg h]
theorem mk_there {N : List Nd} {most : Nat} {k : K4} {i : Nat} (h : FitZ N k) (hf : findZ N k = some i) : mkZ N most k = (N, i, 0) := by unfold mkZ; rw [if_pos h, hf]
theorem mk_full {N : List Nd} {most : Nat} {k : K4} (h : FitZ N k) (hf : findZ N k = none) (hl : most ≤ N.length) : mkZ N most k = (N, 0, 7) := by unfold mkZ; rw [if_pos h, hf]; simp only [if_pos hl]
theorem mk_add {N : List Nd} {most : Nat} {k : K4} (h : FitZ N k) (hf : findZ N k = none) (hl : N.length < most) : mkZ N most k = (N ++ [newNd N k], N.length, 0) := by unfold mkZ; rw [if_pos h, hf]; simp only [if_neg (Nat.not_le.2 hl)]
theorem mk_wf {N : List Nd} {most : Nat} (k : K4) (hw : Wf N) (hl : N.length ≤ most) : Wf (mkZ N most k).1 ∧ (mkZ N most k).1.length ≤ most ∧ N.length ≤ (mkZ N most k).1.length := by
  by_cases h : FitZ N k
  · cases hf : findZ N k with
    | some i => rw [mk_there h hf]; exact ⟨hw, hl, Nat.le_refl _⟩
    | none =>
      rcases Nat.lt_or_ge N.length most with hm | hm
      · rw [mk_add h hf hm]
        exact ⟨wf_add hw h hf, by simp; omega, by simp⟩
      · rw [mk_full h hf hm]; exact ⟨hw, hl, Nat.le_refl _⟩
  · rw [mk_bad h]; exact ⟨hw, hl, Nat.le_refl _⟩
theorem mk_lt {N : List Nd} {most : Nat} {k : K4} (_hw : Wf N) (he : (mkZ N most k).2.2 = 0) : (mkZ N most k).2.1 < (mkZ N most k).1.length := by
  by_cases h : FitZ N k
  · cases hf : findZ N k with
    | some i =>
      rw [mk_there h hf]
      obtain ⟨_, n, hn, _⟩ := find_some hf
      exact (List.getElem?_eq_some_iff.1 hn).1
    | none =>
      rcases Nat.lt_or_ge N.length most with hm | hm
      · rw [mk_add h hf hm]; simp
      · rw [mk_full h hf hm] at he; cases he
  · rw [mk_bad h] at he; cases he
end Go.Proofs.YtaapkngpnlnjeaaGreatDoor
end

section
namespace Go.Proofs.YtaapkngpnlnjeaaGreatDoor
open Go.RowKit Go.Maps
set_option maxRecDepth 100000

theorem Tryz.keyDeepK : Tryz.prog.keyTypeAt (Tryz.prog.types.size + 1) 63 = true := by kernel_rfl
theorem Tryz.laidOutT : laidOutB Tryz.prog = true := by kernel_rfl
theorem Tryz.keyRowK : (63 : TypeId) < Tryz.prog.types.size := of_decide_eq_true (by kernel_rfl)
theorem Tryz.keyWideK : (match Tryz.prog.underlying 63 with | some (.array _ _) | some (.struct _) => true | _ => false) = true := by rw [Tryz.underlying63]
theorem Tryz.keyedK : Keyed Tryz.prog 63 := Keyed.of_law (deep_law_laid Tryz.laidOutT (m := 2) (by omega) Tryz.keyRowK (by kernel_rfl) Tryz.keyWideK)
theorem Tryz.zeroID (w : World) : (zeroValue 32).run Tryz.prog w = .ok (.int .u32 0) w := by kernel_rfl
/-- Four numbers, as a value. -/
def kv (k : K4) : Value := .agg #[.int .u32 (k.1 : Int), .int .u32 (k.2.1 : Int), .int .u32 (k.2.2.1 : Int), .int .u32 (k.2.2.2 : Int)]
/-- Numbers that a uint32 holds. -/
def InK (k : K4) : Prop := k.1 < 4294967296 ∧ k.2.1 < 4294967296 ∧ k.2.2.1 < 4294967296 ∧ k.2.2.2 < 4294967296
noncomputable def klk (k : K4) : Lit := (keyOf Tryz.prog 63 (kv k)).getD (.bool false)
theorem Tryz.cellsK : Tryz.prog.cellsOf 63 = 4 := by kernel_rfl
theorem Tryz.cellsID : Tryz.prog.cellsOf 32 = 1 := by kernel_rfl
theorem u32_wf {x : Nat} (h : x < 4294967296) : (Lit.int .u32 (x : Int)).wf = true := by
  simp [Lit.wf, IntKind.min, IntKind.max, IntKind.bits, IntKind.signed]; omega
theorem lits_id (d : Nat) (x : Int) (h : (Lit.int .u32 x).wf = true) : Tryz.prog.keyLits (d + 1) 32 [.int .u32 x] = some [.int .u32 x] := by
  unfold Program.keyLits
  rw [Tryz.underlying32]
  simp only [h, and_self, if_true]
theorem lits_kids (d : Nat) (a b c e : Int) (h1 : (Lit.int .u32 a).wf = true) (h2 : (Lit.int .u32 b).wf = true) (h3 : (Lit.int .u32 c).wf = true) (h4 : (Lit.int .u32 e).wf = true) :
    Tryz.prog.keyLits (d + 1 + 1) 63 [.int .u32 a, .int .u32 b, .int .u32 c, .int .u32 e] = some [.int .u32 a, .int .u32 b, .int .u32 c, .int .u32 e] := by
  have e1 := lits_id d a h1
  have e2 := lits_id d b h2
  have e3 := lits_id d c h3
  have e4 := lits_id d e h4
  unfold Program.keyLits
  rw [Tryz.underlying63]
  simp only [Tryz.cellsID, Tryz.cellsK]
  rw [if_pos (show ([Value.int .u32 a, .int .u32 b, .int .u32 c, .int .u32 e] : List Value).length = 4 from rfl), show List.range 4 = [0, 1, 2, 3] from rfl]
  simp only [List.mapM_cons, List.mapM_nil, Nat.mul_one, List.drop, List.take, e1, e2, e3, e4]
  rfl
theorem lits_top (a b c e : Int) (h1 : (Lit.int .u32 a).wf = true) (h2 : (Lit.int .u32 b).wf = true) (h3 : (Lit.int .u32 c).wf = true) (h4 : (Lit.int .u32 e).wf = true) :
    Tryz.prog.keyLits (Tryz.prog.types.size + 1) 63 [.int .u32 a, .int .u32 b, .int .u32 c, .int .u32 e] = some [.int .u32 a, .int .u32 b, .int .u32 c, .int .u32 e] := by
  obtain ⟨d, hd⟩ : ∃ d, Tryz.prog.types.size = d + 1 := ⟨Tryz.prog.types.size - 1, by have : (63 : Nat) < Tryz.prog.types.size := Tryz.keyRowK; omega⟩
  rw [hd]
  exact lits_kids d a b c e h1 h2 h3 h4
theorem keyK (k : K4) (h : InK k) : keyOf Tryz.prog 63 (kv k) = some (klk k) := by
  have hk : Tryz.prog.keyType 63 = true := Tryz.keyDeepK
  have hf : (kv k).formed Tryz.prog 63 = true := by simp [kv, Value.formed, Tryz.underlying63, Tryz.cellsK]
  have hl := lits_top k.1 k.2.1 k.2.2.1 k.2.2.2 (u32_wf h.1) (u32_wf h.2.1) (u32_wf h.2.2.1) (u32_wf h.2.2.2)
  have : ∃ l, keyOf Tryz.prog 63 (kv k) = some l := by
    unfold keyOf
    rw [Tryz.underlying63]
    simp only [hk, hf, Bool.and_self, if_true]
    refine ⟨.string (keyBytes [.int .u32 (k.1 : Int), .int .u32 (k.2.1 : Int), .int .u32 (k.2.2.1 : Int), .int .u32 (k.2.2.2 : Int)]), ?_⟩
    show Option.map _ (Tryz.prog.keyLits (Tryz.prog.types.size + 1) 63 [.int .u32 (k.1 : Int), .int .u32 (k.2.1 : Int), .int .u32 (k.2.2.1 : Int), .int .u32 (k.2.2.2 : Int)]) = _
    rw [hl]; rfl
  obtain ⟨l, hl⟩ := this
  unfold klk
  rw [hl]; rfl
theorem klk_inj {y z : K4} (hy : InK y) (hz : InK z) (h : klk y = klk z) : y = z := by
  have := Tryz.keyedK.inj (keyK y hy) (by rw [h]; exact keyK z hz)
  simp only [kv, Value.agg.injEq, Array.mk.injEq, List.cons.injEq, Value.int.injEq, and_true, true_and] at this
  obtain ⟨h1, h2, h3, h4⟩ := this
  exact Prod.ext (by omega) (Prod.ext (by omega) (Prod.ext (by omega) (by omega)))

/-- Block b holds the table of these squares. -/
def KMap (w : World) (b : Nat) (N : List Nd) : Prop :=
  ∃ D : DataW Unit, w.ownsMap Tryz.prog 63 (plainElem Tryz.prog 32) b N.length D ∧ Maps.size D + 2 = N.length ∧
    (∀ k i, InK k → findZ N k = some i → Maps.has D (klk k) = true ∧ D.atKey (klk k) (.lit (.int .u32 0)) = .lit (.int .u32 (i : Int))) ∧ ∀ k, InK k → findZ N k = none → Maps.has D (klk k) = false
theorem KMap.lt {w : World} {b : Nat} {N : List Nd} (h : KMap w b N) : b < w.heap.size := by
  obtain ⟨D, h, _⟩ := h
  exact h.lt
theorem KMap.blk {w w' : World} {b : Nat} {N : List Nd} (h : KMap w b N) (hb : w'.heap[b]? = w.heap[b]?) : KMap w' b N := by
  obtain ⟨D, ⟨es, clock, h1, h2⟩, r⟩ := h
  exact ⟨D, ⟨es, clock, hb.trans h1, h2⟩, r⟩
theorem kmap_new (w : World) : KMap (w.alloc (.map #[] 0)) w.heap.size N0 := by
  refine ⟨.map [], (World.ownsMap_made w _ _ _).mono (Nat.zero_le _), rfl, fun k i _ hf => ?_, fun k _ _ => ?_⟩
  · simp [findZ, N0, idx] at hf
  · simp [Maps.has]
theorem id_wf {i : Nat} (h : i < 4294967296) : plainElem (H := Unit) Tryz.prog 32 (.int .u32 (i : Int)) = some (.lit (.int .u32 (i : Int)), []) := plainElem_int Tryz.underlying32 (u32_wf h)
/-- 's.table[k]', with whether it is there. -/
theorem KMap.look {w : World} {b : Nat} {N : List Nd} (h : KMap w b N) (k : K4) (hk : InK k) :
    (∀ i, findZ N k = some i → (Instr.lookup 67 (.map (some b)) (kv k) true).run Tryz.prog w = .ok (.tuple #[.int .u32 (i : Int), .bool true]) w) ∧
    (findZ N k = none → (Instr.lookup 67 (.map (some b)) (kv k) true).run Tryz.prog w = .ok (.tuple #[.int .u32 0, .bool false]) w) := by
  obtain ⟨D, ho, hs, h1, h2⟩ := h
  obtain ⟨v, ps, hr, hv⟩ := ho.look_ok Tryz.keyedK Tryz.underlying67 (Tryz.zeroID w) (id_wf (i := 0) (by omega)) (keyK k hk)
  obtain ⟨c, rfl, hc, _⟩ := plainElem_int_inv Tryz.underlying32 hv
  simp only [Prod.mk.injEq] at hc
  refine ⟨fun i hi => ?_, fun hn => ?_⟩
  · obtain ⟨g1, g2⟩ := h1 k i hk hi
    rw [hr, g1]
    rw [show (((0 : Nat) : Int)) = 0 from rfl, g2] at hc
    have := hc.1
    simp only [DataW.lit.injEq, Lit.int.injEq, true_and] at this
    rw [← this]
  · rw [hr, h2 k hk hn]
    rw [Maps.atKey_of_not_has (h2 k hk hn)] at hc
    have := hc.1
    simp only [DataW.lit.injEq, Lit.int.injEq, true_and] at this
    rw [← this]; rfl
/-- The same, drawn whatever. -/
theorem KMap.drewN {w : World} {b : Nat} {N : List Nd} (h : KMap w b N) (q : Nat) : KMap (w.drewN q) b N := h.blk rfl
theorem KMap.lookQ {w : World} {b : Nat} {N : List Nd} (h : KMap w b N) (k : K4) (hk : InK k) (hn : findZ N k = none) (q : Nat) :
    (Instr.lookup 67 (.map (some b)) (.agg #[.int .u32 (k.1 : Int), .int .u32 (k.2.1 : Int), .int .u32 (k.2.2.1 : Int), .int .u32 (k.2.2.2 : Int)]) true).run Tryz.prog (w.drewN q) = .ok (.tuple #[.int .u32 0, .bool false]) (w.drewN q) := ((h.drewN q).look k hk).2 hn
theorem KMap.lookS {w : World} {b : Nat} {N : List Nd} (h : KMap w b N) (k : K4) (hk : InK k) {i : Nat} (hn : findZ N k = some i) (q : Nat) :
    (Instr.lookup 67 (.map (some b)) (.agg #[.int .u32 (k.1 : Int), .int .u32 (k.2.1 : Int), .int .u32 (k.2.2.1 : Int), .int .u32 (k.2.2.2 : Int)]) true).run Tryz.prog (w.drewN q) = .ok (.tuple #[.int .u32 (i : Int), .bool true]) (w.drewN q) := ((h.drewN q).look k hk).1 i hn
/-- 's.table[k] = x' of a new square. -/
theorem find_app {N : List Nd} {k : K4} {i : Nat} (n : Nd) (h : findZ N k = some i) : findZ (N ++ [n]) k = some i := by
  obtain ⟨h2, m, hm, hk⟩ := find_some h
  have hl : 2 ≤ N.length := by have := (List.getElem?_eq_some_iff.1 hm).1; omega
  unfold findZ at h ⊢
  rw [List.drop_append_of_le_length hl]
  generalize N.drop 2 = l at h
  generalize 2 = s at h
  revert s
  induction l with
  | nil => intro s h; simp [idx] at h
  | cons x r ih =>
    intro s h
    simp only [List.cons_append, idx] at h ⊢
    split
    · rename_i hx; rw [if_pos hx] at h; exact h
    · rename_i hx; rw [if_neg hx] at h; exact ih _ h
theorem find_new {N : List Nd} {k : K4} (hl : 2 ≤ N.length) (n : Nd) (h : findZ N k = none) : findZ (N ++ [n]) k = if n.k = k then some N.length else none := by
  unfold findZ at h ⊢
  rw [List.drop_append_of_le_length hl]
  have e : N.length = 2 + (N.drop 2).length := by simp; omega
  rw [e]
  generalize N.drop 2 = l at h
  generalize 2 = s at h ⊢
  revert s
  induction l with
  | nil => intro s h; simp [idx]
  | cons x r ih =>
    intro s h
    simp only [idx, List.cons_append] at h ⊢
    split at h
    · cases h
    · rename_i hx
      rw [if_neg hx, ih _ h]
      simp only [List.length_cons]
      congr 2; omega
theorem KMap.put {w : World} {b : Nat} {N : List Nd} (h : KMap w b N) (hl : 2 ≤ N.length) (n : Nd) (hk : InK n.k) (hf : findZ N n.k = none) (hm : N.length ≤ 1048576) :
    ∃ w', (Instr.mapUpdate 67 (.map (some b)) (kv n.k) (.int .u32 (N.length : Int))).run Tryz.prog w = .ok () w' ∧ KMap w' b (N ++ [n]) ∧ w.grownBy w' (some b) := by
  obtain ⟨D, ho, hs, h1, h2⟩ := h
  obtain ⟨w', r1, r2, r3⟩ := ho.update Tryz.keyedK Tryz.underlying67 (by unfold maxLen; omega) (keyK n.k hk) (id_wf (i := N.length) (by omega))
  have hkl : WideAt.IsKeyLit (klk n.k) := Tryz.keyedK.key (keyK n.k hk)
  refine ⟨w', r1, ⟨_, by simpa using r2, ?_, fun k i hki hi => ?_, fun k hki hi => ?_⟩, r3⟩
  · rw [Maps.size_put (ho.tidy Tryz.keyedK), h2 _ hk hf]; simp; omega
  · by_cases e : k = n.k
    · subst e
      rw [find_new hl n hf, if_pos rfl] at hi
      cases hi
      exact ⟨Maps.has_put_same ho.isMap hkl _, Maps.atKey_put_same ho.isMap hkl _ _⟩
    · have hne : klk k ≠ klk n.k := fun hh => e (klk_inj hki hk hh)
      rw [Maps.has_put_other hne, Maps.atKey_put_other hne]
      cases hf2 : findZ N k with
      | some j =>
        rw [find_app n hf2] at hi
        cases hi
        exact h1 k _ hki hf2
      | none =>
        rw [find_new hl n hf2, if_neg (fun hh => e hh.symm)] at hi
        cases hi
  · by_cases e : k = n.k
    · subst e
      rw [find_new hl n hf, if_pos rfl] at hi
      cases hi
    · have hne : klk k ≠ klk n.k := fun hh => e (klk_inj hki hk hh)
      rw [Maps.has_put_other hne]
      refine h2 k hki ?_
      cases hf2 : findZ N k with
      | some j => rw [find_app n hf2] at hi; cases hi
      | none => rfl
end Go.Proofs.YtaapkngpnlnjeaaGreatDoor
end

section
namespace Go.Proofs.YtaapkngpnlnjeaaGreatDoor
open Go.RowKit Go.Maps

/-- A map's types, and its keys. -/
structure Mk (k e t : TypeId) (α : Type) where
  keyed : Keyed Tryz.prog k
  ht : Tryz.prog.underlying t = some (.map k e)
  kv : α → Value
  ok : α → Prop
  kl : α → Lit
  hkey : ∀ a, ok a → keyOf Tryz.prog k (kv a) = some (kl a)
  inj : ∀ a b, ok a → ok b → kl a = kl b → a = b
  zero : Value
  hz : ∀ w, (zeroValue e).run Tryz.prog w = .ok zero w
  few : ∀ ks : List α, ks.Nodup → (∀ a ∈ ks, ok a) → ks.length < maxLen
/-- An element, as it is. -/
def heldR (v : Value) : Option (DataW Value × List MemPlace) := some (.held v, [])
theorem owns_exact {w : World} {k : TypeId} {R : Value → Option (DataW Value × List MemPlace)} {b n : Nat} {D : DataW Value} (h : w.ownsMap Tryz.prog k R b n D) : w.ownsMap Tryz.prog k R b (Maps.size D) D := by
  obtain ⟨es, clock, hb, F, _, rfl⟩ := h
  exact ⟨es, clock, hb, F, by simp [Maps.size, length_sorted], rfl⟩
/-- Block b holds a map that is this function. -/
def GMap {k e t : TypeId} {α : Type} (K : Mk k e t α) (w : World) (b : Nat) (m : α → Option Value) : Prop :=
  ∃ (D : DataW Value) (ks : List α), w.ownsMap Tryz.prog k heldR b (Maps.size D) D ∧ Maps.size D = ks.length ∧ ks.Nodup ∧ (∀ a ∈ ks, K.ok a) ∧ (∀ a, a ∈ ks ↔ (m a).isSome = true) ∧
    ∀ a, K.ok a → (∀ v, m a = some v → Maps.has D (K.kl a) = true ∧ ∀ z, D.atKey (K.kl a) z = .held v) ∧ (m a = none → Maps.has D (K.kl a) = false)
section
variable {k e t : TypeId} {α : Type} {K : Mk k e t α}
theorem GMap.lt {w : World} {b : Nat} {m : α → Option Value} (h : GMap K w b m) : b < w.heap.size := by
  obtain ⟨D, ks, h, _⟩ := h
  exact h.lt
theorem GMap.blk {w w' : World} {b : Nat} {m : α → Option Value} (h : GMap K w b m) (hb : w'.heap[b]? = w.heap[b]?) : GMap K w' b m := by
  obtain ⟨D, ks, ⟨es, clock, h1, h2⟩, r⟩ := h
  exact ⟨D, ks, ⟨es, clock, hb.trans h1, h2⟩, r⟩
theorem GMap.is_map {w : World} {b : Nat} {m : α → Option Value} (h : GMap K w b m) : ∃ es clock, w.heap[b]? = some (.map es clock) := by
  obtain ⟨D, ks, ⟨es, clock, h1, h2⟩, r⟩ := h
  exact ⟨es, clock, h1⟩
theorem GMap.later {w w' : World} {b : Nat} {m : α → Option Value} (h : GMap K w b m) (hb : Below w.heap.size w w') : GMap K w' b m := h.blk (hb.block b h.lt)
theorem GMap.drewN {w : World} {b : Nat} {m : α → Option Value} (h : GMap K w b m) (q : Nat) : GMap K (w.drewN q) b m := h.blk rfl
theorem gmap_new (K : Mk k e t α) (w : World) : GMap K (w.alloc (.map #[] 0)) w.heap.size (fun _ => none) := by
  refine ⟨.map [], [], World.ownsMap_made w _ _ _, rfl, List.nodup_nil, by simp, by simp, fun a _ => ⟨fun v h => by simp at h, fun _ => by simp [Maps.has]⟩⟩
theorem GMap.look {w : World} {b : Nat} {m : α → Option Value} (h : GMap K w b m) (a : α) (ha : K.ok a) :
    (∀ v, m a = some v → (Instr.lookup t (.map (some b)) (K.kv a) true).run Tryz.prog w = .ok (.tuple #[v, .bool true]) w) ∧
    (m a = none → (Instr.lookup t (.map (some b)) (K.kv a) true).run Tryz.prog w = .ok (.tuple #[K.zero, .bool false]) w) := by
  obtain ⟨D, ks, ho, hs, hnd, hok, hmem, hval⟩ := h
  obtain ⟨v, ps, hr, hv⟩ := ho.look_ok K.keyed K.ht (K.hz w) (zd := .held K.zero) (zp := []) rfl (K.hkey a ha)
  obtain ⟨g1, g2⟩ := hval a ha
  simp only [heldR, Option.some.injEq, Prod.mk.injEq] at hv
  refine ⟨fun u hu => ?_, fun hn => ?_⟩
  · obtain ⟨h1, h2⟩ := g1 u hu
    rw [h2] at hv
    rw [hr, h1]
    have := hv.1
    simp only [DataW.held.injEq] at this
    rw [this]
  · have h1 := g2 hn
    rw [Maps.atKey_of_not_has h1] at hv
    rw [hr, h1]
    have := hv.1
    simp only [DataW.held.injEq] at this
    rw [this]
theorem GMap.put [DecidableEq α] {w : World} {b : Nat} {m : α → Option Value} (h : GMap K w b m) (a : α) (ha : K.ok a) (v : Value) :
    ∃ w', (Instr.mapUpdate t (.map (some b)) (K.kv a) v).run Tryz.prog w = .ok () w' ∧ GMap K w' b (fun x => if x = a then some v else m x) ∧ w.grownBy w' (some b) := by
  obtain ⟨D, ks, ho, hs, hnd, hok, hmem, hval⟩ := h
  obtain ⟨w', r1, r2, r3⟩ := ho.update K.keyed K.ht (by rw [hs]; exact K.few ks hnd hok) (K.hkey a ha) (d := .held v) (ps := []) rfl
  have hkl : WideAt.IsKeyLit (K.kl a) := K.keyed.key (K.hkey a ha)
  have hsz := Maps.size_put (k := K.kl a) (ho.tidy K.keyed) (.held v)
  refine ⟨w', r1, ⟨D.put (K.kl a) (.held v), if a ∈ ks then ks else a :: ks, owns_exact r2, ?_, ?_, ?_, fun x => ?_, fun x hx => ?_⟩, r3⟩
  · rw [hsz]
    by_cases hm : a ∈ ks
    · rw [if_pos hm]
      obtain ⟨u, hu⟩ := Option.isSome_iff_exists.1 ((hmem a).1 hm)
      rw [((hval a ha).1 u hu).1, if_pos rfl, hs]
    · rw [if_neg hm]
      have hn : m a = none := by
        cases hma : m a with
        | none => rfl
        | some u => exact absurd ((hmem a).2 (by rw [hma]; rfl)) hm
      rw [(hval a ha).2 hn]
      simp [hs]
  · split
    · exact hnd
    · rename_i hm
      exact List.nodup_cons.2 ⟨hm, hnd⟩
  · split
    · exact hok
    · intro x hx
      rcases List.mem_cons.1 hx with rfl | hx
      · exact ha
      · exact hok x hx
  · by_cases hxa : x = a
    · subst hxa
      simp only [if_true, Option.isSome_some, iff_true]
      split
      · assumption
      · exact List.mem_cons_self
    · simp only [if_neg hxa]
      rw [← hmem]
      split
      · exact Iff.rfl
      · simp [hxa]
  · by_cases hxa : x = a
    · subst hxa
      simp only [if_true]
      refine ⟨fun u hu => ?_, fun hn => by simp at hn⟩
      obtain rfl := Option.some.inj hu
      exact ⟨Maps.has_put_same ho.isMap hkl _, fun z => Maps.atKey_put_same ho.isMap hkl _ _⟩
    · simp only [if_neg hxa]
      have hne : K.kl x ≠ K.kl a := fun hh => hxa (K.inj _ _ hx ha hh)
      refine ⟨fun u hu => ?_, fun hn => ?_⟩
      · obtain ⟨h1, h2⟩ := (hval x hx).1 u hu
        exact ⟨by rw [Maps.has_put_other hne]; exact h1, fun z => by rw [Maps.atKey_put_other hne]; exact h2 z⟩
      · rw [Maps.has_put_other hne]; exact (hval x hx).2 hn
end
/-- Numbers below a bound, each once, are no more than it. -/
theorem nat_few : ∀ (M : Nat) (l : List Nat), l.Nodup → (∀ x ∈ l, x < M) → l.length ≤ M
  | 0, l, _, h => by
    cases l with
    | nil => simp
    | cons x r => exact absurd (h x List.mem_cons_self) (by omega)
  | M + 1, l, hn, h => by
    have h1 := nat_few M (l.filter (· != M)) (hn.filter _) (fun x hx => by
      obtain ⟨h1, h2⟩ := List.mem_filter.1 hx
      have := h x h1
      simp at h2
      omega)
    have h2 : l.length ≤ (l.filter (· != M)).length + 1 := by
      clear h1 h
      induction l with
      | nil => simp
      | cons x r ih =>
        obtain ⟨hx, hr⟩ := List.nodup_cons.1 hn
        by_cases e : x = M
        · subst e
          rw [List.filter_cons_of_neg (by simp)]
          have : r.filter (· != x) = r := List.filter_eq_self.2 fun y hy => by
            simp
            rintro rfl
            exact hx hy
          rw [this]; simp
        · rw [List.filter_cons_of_pos (by simp [e])]
          have := ih hr
          simp
          omega
    omega
theorem map_nodup {α : Type} {f : α → Nat} : ∀ {l : List α}, l.Nodup → (∀ x ∈ l, ∀ y ∈ l, f x = f y → x = y) → (l.map f).Nodup
  | [], _, _ => List.nodup_nil
  | x :: r, hn, h => by
    obtain ⟨hx, hr⟩ := List.nodup_cons.1 hn
    rw [List.map_cons, List.nodup_cons]
    refine ⟨fun hm => ?_, map_nodup hr fun a ha b hb => h a (List.mem_cons_of_mem _ ha) b (List.mem_cons_of_mem _ hb)⟩
    obtain ⟨y, hy, e⟩ := List.mem_map.1 hm
    exact hx (by rw [← h y (List.mem_cons_of_mem _ hy) x List.mem_cons_self e]; exact hy)
/-- A stock of keys, by their codes. -/
theorem few_of {α : Type} {ok : α → Prop} (f : α → Nat) (M : Nat) (hM : M < maxLen) (hf : ∀ a, ok a → f a < M) (hi : ∀ a b, ok a → ok b → f a = f b → a = b) (ks : List α) (hn : ks.Nodup) (h : ∀ a ∈ ks, ok a) : ks.length < maxLen := by
  have h1 := nat_few M (ks.map f) (map_nodup hn fun x hx y hy e => hi x y (h x hx) (h y hy) e) (fun x hx => by
    obtain ⟨y, hy, rfl⟩ := List.mem_map.1 hx
    exact hf y (h y hy))
  rw [List.length_map] at h1
  omega
end Go.Proofs.YtaapkngpnlnjeaaGreatDoor
end
