/- Squares in a store: plain mathematics, no program. -/
import Derived.Test.YtgciceogggldhaaProg
namespace Go.Proofs.Ytgciceogggldhaa

/-- Four numbers of squares. -/
abbrev K4 := Nat × Nat × Nat × Nat
/-- A square: its four, its level, how many cells are alive. -/
structure Nd where
  k : K4
  lv : Nat
  ct : Nat
def topN : Nat := 18446744073709551615
def lvZ (N : List Nd) (x : Nat) : Int := match N[x]? with | some n => (n.lv : Int) | none => -1
def ctZ (N : List Nd) (x : Nat) : Nat := match N[x]? with | some n => n.ct | none => 0
def sat (a b : Nat) : Nat := min (a + b) topN
def livZ (N : List Nd) (k : K4) : Nat := sat (sat (sat (sat 0 (ctZ N k.1)) (ctZ N k.2.1)) (ctZ N k.2.2.1)) (ctZ N k.2.2.2)
/-- May four be a square's? -/
def FitZ (N : List Nd) (k : K4) : Prop := 0 ≤ lvZ N k.1 ∧ lvZ N k.1 < 62 ∧ lvZ N k.2.1 = lvZ N k.1 ∧ lvZ N k.2.2.1 = lvZ N k.1 ∧ lvZ N k.2.2.2 = lvZ N k.1
instance (N : List Nd) (k : K4) : Decidable (FitZ N k) := by unfold FitZ; infer_instance
def idx (k : K4) : List Nd → Nat → Option Nat
  | [], _ => none
  | n :: r, i => if n.k = k then some i else idx k r (i + 1)
def findZ (N : List Nd) (k : K4) : Option Nat := idx k (N.drop 2) 2
def newNd (N : List Nd) (k : K4) : Nd := ⟨k, (lvZ N k.1).toNat + 1, livZ N k⟩
/-- Make: the squares then, the number, the error. -/
def mkZ (N : List Nd) (most : Nat) (k : K4) : List Nd × Nat × Nat :=
  if FitZ N k then
    match findZ N k with
    | some i => (N, i, 0)
    | none => if most ≤ N.length then (N, 0, 7) else (N ++ [newNd N k], N.length, 0)
  else (N, 0, 1)
def N0 : List Nd := [⟨(0, 0, 0, 0), 0, 0⟩, ⟨(0, 0, 0, 0), 0, 1⟩]
/-- Empty, from a square on. -/
def emZ (most : Nat) : Nat → List Nd → Nat → List Nd × Nat × Nat
  | 0, N, x => (N, x, 0)
  | n + 1, N, x => if (mkZ N most (x, x, x, x)).2.2 = 0 then emZ most n (mkZ N most (x, x, x, x)).1 (mkZ N most (x, x, x, x)).2.1 else ((mkZ N most (x, x, x, x)).1, 0, (mkZ N most (x, x, x, x)).2.2)

/-- What holds of a store's squares. -/
structure Wf (N : List Nd) : Prop where
  two : 2 ≤ N.length
  dead : N[0]? = some ⟨(0, 0, 0, 0), 0, 0⟩
  alive : N[1]? = some ⟨(0, 0, 0, 0), 0, 1⟩
  one : ∀ i j n m, 2 ≤ i → 2 ≤ j → N[i]? = some n → N[j]? = some m → n.k = m.k → i = j
  up : ∀ i n, 2 ≤ i → N[i]? = some n → 1 ≤ n.lv ∧ n.lv ≤ 62 ∧ n.k.1 < i ∧ n.k.2.1 < i ∧ n.k.2.2.1 < i ∧ n.k.2.2.2 < i ∧
    lvZ N n.k.1 = (n.lv : Int) - 1 ∧ lvZ N n.k.2.1 = (n.lv : Int) - 1 ∧ lvZ N n.k.2.2.1 = (n.lv : Int) - 1 ∧ lvZ N n.k.2.2.2 = (n.lv : Int) - 1 ∧ n.ct = livZ N n.k
theorem sat_le (a b : Nat) : sat a b ≤ topN := Nat.min_le_right _ _
theorem liv_le (N : List Nd) (k : K4) : livZ N k ≤ topN := sat_le _ _
theorem Wf.ct_le {N : List Nd} (h : Wf N) {i : Nat} {n : Nd} (hn : N[i]? = some n) : n.ct ≤ topN := by
  by_cases hi : 2 ≤ i
  · obtain ⟨_, _, _, _, _, _, _, _, _, _, e⟩ := h.up i n hi hn
    rw [e]; exact liv_le _ _
  · have : i = 0 ∨ i = 1 := by omega
    rcases this with rfl | rfl
    · rw [h.dead] at hn; cases hn; exact Nat.zero_le _
    · rw [h.alive] at hn; cases hn; decide
theorem Wf.lv_le {N : List Nd} (h : Wf N) {i : Nat} {n : Nd} (hn : N[i]? = some n) : n.lv ≤ 62 := by
  by_cases hi : 2 ≤ i
  · exact (h.up i n hi hn).2.1
  · have : i = 0 ∨ i = 1 := by omega
    rcases this with rfl | rfl
    · rw [h.dead] at hn; cases hn; exact Nat.zero_le _
    · rw [h.alive] at hn; cases hn; exact Nat.zero_le _
theorem Wf.lv_pos {N : List Nd} (h : Wf N) {i : Nat} {n : Nd} (hn : N[i]? = some n) : (0 < n.lv ↔ 2 ≤ i) := by
  by_cases hi : 2 ≤ i
  · have := (h.up i n hi hn).1; omega
  · have : i = 0 ∨ i = 1 := by omega
    rcases this with rfl | rfl
    · rw [h.dead] at hn; cases hn; simp
    · rw [h.alive] at hn; cases hn; simp
theorem Wf.k_lt {N : List Nd} (h : Wf N) {i : Nat} {n : Nd} (hn : N[i]? = some n) : n.k.1 < N.length ∧ n.k.2.1 < N.length ∧ n.k.2.2.1 < N.length ∧ n.k.2.2.2 < N.length := by
  have hl : i < N.length := (List.getElem?_eq_some_iff.1 hn).1
  have h2 := h.two
  by_cases hi : 2 ≤ i
  · obtain ⟨_, _, a, b, c, d, _⟩ := h.up i n hi hn
    omega
  · have : i = 0 ∨ i = 1 := by omega
    rcases this with rfl | rfl
    · rw [h.dead] at hn; cases hn; simp only; omega
    · rw [h.alive] at hn; cases hn; simp only; omega
theorem wf_new : Wf N0 := by
  refine ⟨by decide, rfl, rfl, fun i j n m hi _ hn _ _ => ?_, fun i n hi hn => ?_⟩
  · have : i < 2 := (List.getElem?_eq_some_iff.1 hn).1
    omega
  · have : i < 2 := (List.getElem?_eq_some_iff.1 hn).1
    omega
theorem lv_lt {N : List Nd} {x : Nat} (h : 0 ≤ lvZ N x) : x < N.length := by
  unfold lvZ at h
  cases hx : N[x]? with
  | none => rw [hx] at h; simp at h
  | some n => exact (List.getElem?_eq_some_iff.1 hx).1
theorem lv_of {N : List Nd} {x : Nat} (h : x < N.length) : lvZ N x = (N[x].lv : Int) := by
  unfold lvZ; rw [List.getElem?_eq_getElem h]
theorem ct_of {N : List Nd} {x : Nat} (h : x < N.length) : ctZ N x = N[x].ct := by
  unfold ctZ; rw [List.getElem?_eq_getElem h]
theorem lv_none {N : List Nd} {x : Nat} (h : N.length ≤ x) : lvZ N x = -1 := by
  unfold lvZ; rw [List.getElem?_eq_none h]
theorem lv_app {N : List Nd} {x : Nat} (E : List Nd) (h : x < N.length) : lvZ (N ++ E) x = lvZ N x := by
  unfold lvZ; rw [List.getElem?_append_left h]
theorem ct_app {N : List Nd} {x : Nat} (E : List Nd) (h : x < N.length) : ctZ (N ++ E) x = ctZ N x := by
  unfold ctZ; rw [List.getElem?_append_left h]
theorem lv_take {N : List Nd} {x m : Nat} (h : x < m) : lvZ (N.take m) x = lvZ N x := by
  unfold lvZ; rw [List.getElem?_take_of_lt h]
theorem ct_take {N : List Nd} {x m : Nat} (h : x < m) : ctZ (N.take m) x = ctZ N x := by
  unfold ctZ; rw [List.getElem?_take_of_lt h]
theorem FitZ.lt {N : List Nd} {k : K4} (h : FitZ N k) : k.1 < N.length ∧ k.2.1 < N.length ∧ k.2.2.1 < N.length ∧ k.2.2.2 < N.length := by
  obtain ⟨a, _, b, c, d⟩ := h
  exact ⟨lv_lt a, lv_lt (by omega), lv_lt (by omega), lv_lt (by omega)⟩
theorem idx_some {k : K4} : ∀ {l : List Nd} {i j : Nat}, idx k l i = some j → i ≤ j ∧ ∃ n, l[j - i]? = some n ∧ n.k = k
  | [], _, _, h => by simp [idx] at h
  | n :: r, i, j, h => by
    unfold idx at h
    split at h
    · rename_i hk
      obtain rfl : i = j := by simpa using h
      exact ⟨Nat.le_refl _, n, by simp, hk⟩
    · obtain ⟨h1, m, h2, h3⟩ := idx_some h
      refine ⟨by omega, m, ?_, h3⟩
      rw [show j - i = (j - (i + 1)) + 1 by omega, List.getElem?_cons_succ]
      exact h2
theorem idx_none {k : K4} : ∀ {l : List Nd} {i : Nat}, idx k l i = none → ∀ (j : Nat) (n : Nd), l[j]? = some n → n.k ≠ k
  | [], _, _, j, n, hn => by simp at hn
  | m :: r, i, h, j, n, hn => by
    unfold idx at h
    split at h
    · cases h
    · rename_i hk
      cases j with
      | zero => obtain rfl : m = n := by simpa using hn
                exact hk
      | succ j => exact idx_none h j n (by simpa using hn)
theorem find_some {N : List Nd} {k : K4} {i : Nat} (h : findZ N k = some i) : 2 ≤ i ∧ ∃ n, N[i]? = some n ∧ n.k = k := by
  obtain ⟨h1, n, h2, h3⟩ := idx_some h
  refine ⟨h1, n, ?_, h3⟩
  rw [List.getElem?_drop] at h2
  rw [show 2 + (i - 2) = i by omega] at h2
  exact h2
theorem find_none {N : List Nd} {k : K4} (h : findZ N k = none) : ∀ (i : Nat) (n : Nd), 2 ≤ i → N[i]? = some n → n.k ≠ k := by
  intro i n hi hn
  refine idx_none h (i - 2) n ?_
  rw [List.getElem?_drop, show 2 + (i - 2) = i by omega]
  exact hn
theorem find_at {N : List Nd} (hw : Wf N) {i : Nat} {n : Nd} (hi : 2 ≤ i) (hn : N[i]? = some n) : findZ N n.k = some i := by
  cases hf : findZ N n.k with
  | none => exact absurd rfl (find_none hf i n hi hn)
  | some j =>
    obtain ⟨hj, m, hm, hk⟩ := find_some hf
    rw [hw.one i j n m hi hj hn hm hk.symm]
theorem liv_app {N : List Nd} {k : K4} (E : List Nd) (h : k.1 < N.length ∧ k.2.1 < N.length ∧ k.2.2.1 < N.length ∧ k.2.2.2 < N.length) : livZ (N ++ E) k = livZ N k := by
  unfold livZ
  rw [ct_app E h.1, ct_app E h.2.1, ct_app E h.2.2.1, ct_app E h.2.2.2]
theorem wf_add {N : List Nd} {k : K4} (hw : Wf N) (hf : FitZ N k) (hn : findZ N k = none) : Wf (N ++ [newNd N k]) := by
  have hl := hf.lt
  have h2 := hw.two
  have at_ : ∀ i n, (N ++ [newNd N k])[i]? = some n → N[i]? = some n ∨ (i = N.length ∧ n = newNd N k) := fun i n h => by
    rcases Nat.lt_or_ge i N.length with hi | hi
    · rw [List.getElem?_append_left hi] at h; exact Or.inl h
    · have hi2 : i < N.length + 1 := by have := (List.getElem?_eq_some_iff.1 h).1; simpa using this
      obtain rfl : i = N.length := by omega
      simp at h
      exact Or.inr ⟨rfl, h.symm⟩
  refine ⟨by simp; omega, by rw [List.getElem?_append_left (by omega)]; exact hw.dead, by rw [List.getElem?_append_left (by omega)]; exact hw.alive, fun i j n m hi hj hni hmj hk => ?_, fun i n hi hni => ?_⟩
  · rcases at_ i n hni with h1 | ⟨rfl, rfl⟩ <;> rcases at_ j m hmj with h3 | ⟨rfl, rfl⟩
    · exact hw.one i j n m hi hj h1 h3 hk
    · exact absurd hk (find_none hn i n hi h1)
    · exact absurd hk.symm (find_none hn j m hj h3)
    · rfl
  · rcases at_ i n hni with h1 | ⟨rfl, rfl⟩
    · have hil : i < N.length := (List.getElem?_eq_some_iff.1 h1).1
      obtain ⟨a1, a2, a3, a4, a5, a6, a7, a8, a9, b1, b2⟩ := hw.up i n hi h1
      refine ⟨a1, a2, a3, a4, a5, a6, ?_, ?_, ?_, ?_, ?_⟩
      · rw [lv_app _ (by omega)]; exact a7
      · rw [lv_app _ (by omega)]; exact a8
      · rw [lv_app _ (by omega)]; exact a9
      · rw [lv_app _ (by omega)]; exact b1
      · rw [liv_app _ ⟨by omega, by omega, by omega, by omega⟩]; exact b2
    · obtain ⟨f1, f2, f3, f4, f5⟩ := hf
      have e : ((newNd N k).lv : Int) - 1 = lvZ N k.1 := by simp only [newNd]; omega
      refine ⟨by simp only [newNd]; omega, by simp only [newNd]; omega, hl.1, hl.2.1, hl.2.2.1, hl.2.2.2, ?_, ?_, ?_, ?_, ?_⟩
      · rw [e]; exact lv_app _ hl.1
      · rw [e]; exact (lv_app _ hl.2.1).trans f3
      · rw [e]; exact (lv_app _ hl.2.2.1).trans f4
      · rw [e]; exact (lv_app _ hl.2.2.2).trans f5
      · exact (liv_app _ hl).symm
theorem wf_take {N : List Nd} (hw : Wf N) {m : Nat} (hm : 2 ≤ m) : Wf (N.take m) := by
  have at_ : ∀ i n, (N.take m)[i]? = some n → N[i]? = some n ∧ i < m := fun i n h => by
    have hi : i < m := by have := (List.getElem?_eq_some_iff.1 h).1; rw [List.length_take] at this; omega
    rw [List.getElem?_take_of_lt hi] at h
    exact ⟨h, hi⟩
  have h2 := hw.two
  refine ⟨by rw [List.length_take]; omega, by rw [List.getElem?_take_of_lt (by omega)]; exact hw.dead, by rw [List.getElem?_take_of_lt (by omega)]; exact hw.alive, fun i j n p hi hj hni hpj hk => ?_, fun i n hi hni => ?_⟩
  · exact hw.one i j n p hi hj (at_ i n hni).1 (at_ j p hpj).1 hk
  · obtain ⟨h1, him⟩ := at_ i n hni
    obtain ⟨a1, a2, a3, a4, a5, a6, a7, a8, a9, b1, b2⟩ := hw.up i n hi h1
    refine ⟨a1, a2, a3, a4, a5, a6, ?_, ?_, ?_, ?_, ?_⟩
    · rw [lv_take (by omega)]; exact a7
    · rw [lv_take (by omega)]; exact a8
    · rw [lv_take (by omega)]; exact a9
    · rw [lv_take (by omega)]; exact b1
    · unfold livZ
      rw [ct_take (by omega), ct_take (by omega), ct_take (by omega), ct_take (by omega)]
      exact b2
/-- Make's ways. -/
theorem mk_bad {N : List Nd} {most : Nat} {k : K4} (h : ¬ FitZ N k) : mkZ N most k = (N, 0, 1) := by unfold mkZ; rw [if_neg h]
theorem mk_there {N : List Nd} {most : Nat} {k : K4} {i : Nat} (h : FitZ N k) (hf : findZ N k = some i) : mkZ N most k = (N, i, 0) := by unfold mkZ; rw [if_pos h, hf]
theorem mk_full {N : List Nd} {most : Nat} {k : K4} (h : FitZ N k) (hf : findZ N k = none) (hl : most ≤ N.length) : mkZ N most k = (N, 0, 7) := by unfold mkZ; rw [if_pos h, hf]; simp only [if_pos hl]
theorem mk_add {N : List Nd} {most : Nat} {k : K4} (h : FitZ N k) (hf : findZ N k = none) (hl : N.length < most) : mkZ N most k = (N ++ [newNd N k], N.length, 0) := by unfold mkZ; rw [if_pos h, hf]; simp only [if_neg (Nat.not_le.2 hl)]
theorem mk_wf {N : List Nd} {most : Nat} (k : K4) (hw : Wf N) (hl : N.length ≤ most) : Wf (mkZ N most k).1 ∧ (mkZ N most k).1.length ≤ most ∧ N.length ≤ (mkZ N most k).1.length := by
  by_cases h : FitZ N k
  · cases hf : findZ N k with
    | some i => rw [mk_there h hf]; exact ⟨hw, hl, Nat.le_refl _⟩
    | none =>
      rcases Nat.lt_or_ge N.length most with hm | hm
      · rw [mk_add h hf hm]
        exact ⟨wf_add hw h hf, by simp; omega, by simp⟩
      · rw [mk_full h hf hm]; exact ⟨hw, hl, Nat.le_refl _⟩
  · rw [mk_bad h]; exact ⟨hw, hl, Nat.le_refl _⟩
theorem mk_lt {N : List Nd} {most : Nat} {k : K4} (_hw : Wf N) (he : (mkZ N most k).2.2 = 0) : (mkZ N most k).2.1 < (mkZ N most k).1.length := by
  by_cases h : FitZ N k
  · cases hf : findZ N k with
    | some i =>
      rw [mk_there h hf]
      obtain ⟨_, n, hn, _⟩ := find_some hf
      exact (List.getElem?_eq_some_iff.1 hn).1
    | none =>
      rcases Nat.lt_or_ge N.length most with hm | hm
      · rw [mk_add h hf hm]; simp
      · rw [mk_full h hf hm] at he; cases he
  · rw [mk_bad h] at he; cases he
end Go.Proofs.Ytgciceogggldhaa
