/- Plain mathematics of layer 5: the runs of a pattern's cells lead to just these. -/
import Derived.Test.YtjndfdhjipfijaaGreatDoorRl
namespace Go.Proofs.YtjndfdhjipfijaaGreatDoor
open Go

/-- How many cells follow one, each right of the one before. -/
def stretch : Nat × Nat → List (Nat × Nat) → Nat
  | _, [] => 0
  | p, c :: r => if c.2 = p.2 ∧ c.1 = p.1 + 1 then 1 + stretch c r else 0
/-- Does a cell go on with the stretch of the one before? -/
def goesOn : Option (Nat × Nat) → Nat × Nat → Bool
  | none, _ => false
  | some p, c => decide (c.2 = p.2) && decide (c.1 = p.1 + 1)
/-- The runs of cells from a place on. -/
def segs : Option (Nat × Nat) → Nat → Nat → List (Nat × Nat) → List (List UInt8)
  | _, _, _, [] => []
  | prev, x, y, c :: r =>
    if goesOn prev c = true then segs (some c) x y r
    else ((if y < c.2 then [runL (c.2 - y) 36] else []) ++ [runL (c.1 - (if y < c.2 then 0 else x)) 98, runL (1 + stretch c r) 111]) ++ segs (some c) (c.1 + 1 + stretch c r) c.2 r
/-- Cells by rows, each once, from a place on, within sides. -/
def okFrom (W H : Nat) : Nat → Nat → List (Nat × Nat) → Prop
  | _, _, [] => True
  | x, y, c :: r => (y < c.2 ∨ (c.2 = y ∧ x ≤ c.1)) ∧ c.1 < W ∧ c.2 < H ∧ okFrom W H (c.1 + 1) c.2 r

theorem stretch_le : ∀ (p : Nat × Nat) (l : List (Nat × Nat)), stretch p l ≤ l.length
  | _, [] => Nat.le_refl _
  | p, c :: r => by
    simp only [stretch]
    split
    · have := stretch_le c r; simp; omega
    · simp
theorem stretch_take : ∀ (p : Nat × Nat) (l : List (Nat × Nat)), l.take (stretch p l) = (List.range (stretch p l)).map fun j => (p.1 + 1 + j, p.2)
  | _, [] => rfl
  | p, c :: r => by
    simp only [stretch]
    split
    · rename_i h
      rw [Nat.add_comm 1, List.take_succ_cons, stretch_take c r, List.range_succ_eq_map, List.map_cons, List.map_map]
      congr 1
      · exact Prod.ext (by simp [h.2]) h.1
      · apply List.map_congr_left
        intro j _
        simp only [Function.comp, h.1, h.2]
        exact Prod.ext (by simp; omega) rfl
    · rfl
theorem stretch_lt (W H : Nat) : ∀ (p : Nat × Nat) (l : List (Nat × Nat)), p.1 < W → okFrom W H (p.1 + 1) p.2 l → p.1 + stretch p l < W
  | _, [], h, _ => by simpa [stretch] using h
  | p, c :: r, h, ⟨_, h2, _, h4⟩ => by
    simp only [stretch]
    split
    · rename_i hc
      have := stretch_lt W H c r h2 h4
      omega
    · omega
theorem cells_of_stretch (c : Nat × Nat) (r : List (Nat × Nat)) : (List.range (1 + stretch c r)).map (fun j => (c.1 + j, c.2)) = c :: r.take (stretch c r) := by
  rw [Nat.add_comm 1, List.range_succ_eq_map, List.map_cons, List.map_map, stretch_take]
  congr 1
  apply List.map_congr_left
  intro j _
  simp only [Function.comp]
  exact Prod.ext (by simp; omega) rfl

/-- One stretch's runs. -/
theorem emit (W H x y : Nat) (D r : List (Nat × Nat)) (c : Nat × Nat) (hW : W ≤ 1024) (hH : H ≤ 1024) (h1 : y < c.2 ∨ (c.2 = y ∧ x ≤ c.1)) (h2 : c.1 < W) (h3 : c.2 < H) (h4 : okFrom W H (c.1 + 1) c.2 r) (h5 : D.length + (1 + r.length) ≤ 20000) :
    chain W H ((if y < c.2 then [runL (c.2 - y) 36] else []) ++ [runL (c.1 - (if y < c.2 then 0 else x)) 98, runL (1 + stretch c r) 111]) ⟨x, y, 0, D⟩ ⟨c.1 + 1 + stretch c r, c.2, 0, D ++ (c :: r.take (stretch c r))⟩ := by
  have hs := stretch_lt W H c r h2 h4
  have hl := stretch_le c r
  have ho := feed_o W H c.1 c.2 (1 + stretch c r) D (by omega) (by omega) (by omega) h3 (by omega)
  rw [cells_of_stretch, ← Nat.add_assoc] at ho
  by_cases hy : y < c.2
  · rw [if_pos hy, if_pos hy]
    have hd := feed_d W H x y (c.2 - y) D (by omega) (by omega)
    rw [show y + (c.2 - y) = c.2 by omega] at hd
    have hb := feed_b W H 0 c.2 (c.1 - 0) D (by omega) (by omega)
    rw [show 0 + (c.1 - 0) = c.1 by omega] at hb
    exact ⟨_, hd, rfl, runL_not33 _ _ (by decide), _, hb, rfl, runL_not33 _ _ (by decide), _, ho, rfl, runL_not33 _ _ (by decide), rfl⟩
  · obtain ⟨hy', hx⟩ : c.2 = y ∧ x ≤ c.1 := by omega
    rw [if_neg hy, if_neg hy]
    have hb := feed_b W H x y (c.1 - x) D (by omega) (by omega)
    rw [show x + (c.1 - x) = c.1 by omega] at hb
    rw [hy'] at ho ⊢
    exact ⟨_, hb, rfl, runL_not33 _ _ (by decide), _, ho, rfl, runL_not33 _ _ (by decide), rfl⟩

theorem chain_segs (W H : Nat) (hW : W ≤ 1024) (hH : H ≤ 1024) : ∀ (l : List (Nat × Nat)) (p : Nat × Nat) (D : List (Nat × Nat)), okFrom W H (p.1 + 1) p.2 l → D.length + (l.length - stretch p l) ≤ 20000 →
    ∃ x' y', chain W H (segs (some p) (p.1 + 1 + stretch p l) p.2 l) ⟨p.1 + 1 + stretch p l, p.2, 0, D⟩ ⟨x', y', 0, D ++ l.drop (stretch p l)⟩
  | [], p, D, _, _ => ⟨_, _, by rw [List.drop_nil, List.append_nil]; rfl⟩
  | c :: r, p, D, ⟨h1, h2, h3, h4⟩, hl => by
    simp only [stretch, segs] at hl ⊢
    have hle := stretch_le c r
    by_cases hc : c.2 = p.2 ∧ c.1 = p.1 + 1
    · rw [if_pos hc] at hl
      rw [if_pos hc, if_pos (by simp [goesOn, hc.1, hc.2])]
      obtain ⟨x', y', h⟩ := chain_segs W H hW hH r c D h4 (by simp only [List.length_cons] at hl; omega)
      refine ⟨x', y', ?_⟩
      rw [Nat.add_comm 1, List.drop_succ_cons]
      rw [show p.1 + 1 + (stretch c r + 1) = c.1 + 1 + stretch c r by omega, ← hc.1]
      exact h
    · rw [if_neg hc] at hl
      simp only [List.length_cons] at hl
      have hg : goesOn (some p) c = false := by
        unfold goesOn
        simp only [Bool.and_eq_false_iff, decide_eq_false_iff_not]
        omega
      rw [if_neg hc, if_neg (by rw [hg]; simp), List.drop_zero, Nat.add_zero]
      have he := emit W H (p.1 + 1) p.2 D r c hW hH h1 h2 h3 h4 (by omega)
      obtain ⟨x', y', h⟩ := chain_segs W H hW hH r c (D ++ (c :: r.take (stretch c r))) h4 (by
        rw [List.length_append, List.length_cons, List.length_take]; omega)
      rw [List.append_assoc, List.cons_append, List.take_append_drop] at h
      exact ⟨x', y', chain_app W H _ _ _ _ _ he h⟩
/-- All the runs, from the first place on. -/
theorem chain_all (W H : Nat) (hW : W ≤ 1024) (hH : H ≤ 1024) (l : List (Nat × Nat)) (ho : okFrom W H 0 0 l) (hl : l.length ≤ 20000) : ∃ x' y', chain W H (segs none 0 0 l) ⟨0, 0, 0, []⟩ ⟨x', y', 0, l⟩ := by
  cases l with
  | nil => exact ⟨0, 0, rfl⟩
  | cons c r =>
    obtain ⟨h1, h2, h3, h4⟩ := ho
    simp only [List.length_cons] at hl
    have hle := stretch_le c r
    have he := emit W H 0 0 [] r c hW hH h1 h2 h3 h4 (by simp; omega)
    obtain ⟨x', y', h⟩ := chain_segs W H hW hH r c ([] ++ (c :: r.take (stretch c r))) h4 (by
      simp only [List.nil_append, List.length_cons, List.length_take]; omega)
    rw [List.append_assoc, List.cons_append, List.take_append_drop] at h
    refine ⟨x', y', ?_⟩
    simp only [segs]
    rw [if_neg (by simp [goesOn])]
    exact chain_app W H _ _ _ _ _ he h

/-! The last run, the ! and what stands behind it -/
theorem wrapL_snoc : ∀ (rs : List (List UInt8)) (wd : Nat) (r : List UInt8), ∃ w, wrapL wd (rs ++ [r]) = wrapL wd rs ++ (if 70 < w + r.length then 10 :: r else r)
  | [], wd, r => ⟨wd, by simp only [List.nil_append, wrapL]; split <;> simp⟩
  | q :: rs, wd, r => by
    simp only [List.cons_append, wrapL]
    by_cases h : 70 < wd + q.length
    · obtain ⟨w, hw⟩ := wrapL_snoc rs q.length r
      exact ⟨w, by rw [if_pos h, if_pos h, hw]; simp⟩
    · obtain ⟨w, hw⟩ := wrapL_snoc rs (wd + q.length) r
      exact ⟨w, by rw [if_neg h, if_neg h, hw]; simp⟩
/-- A pattern's body. -/
def bodyL (l : List (Nat × Nat)) : List UInt8 := wrapL 0 (segs none 0 0 l ++ [[33]]) ++ [10]
/-- A pattern's body is read as its cells, whatever byte it stands at. -/
theorem runsP_body (W H : Nat) (hW : W ≤ 1024) (hH : H ≤ 1024) (l : List (Nat × Nat)) (ho : okFrom W H 0 0 l) (hl : l.length ≤ 20000) (i : Nat) : runsP W H (bodyL l) i ⟨0, 0, 0, []⟩ = (l, 0, 0) := by
  obtain ⟨x', y', h⟩ := chain_all W H hW hH l ho hl
  obtain ⟨w, hw⟩ := wrapL_snoc (segs none 0 0 l) 0 [33]
  unfold bodyL
  rw [hw, List.append_assoc, runsP_wrap W H _ 0 i _ _ _ rfl h]
  by_cases h70 : 70 < w + [(33 : UInt8)].length
  · rw [if_pos h70]
    have hs : rstep W H ⟨x', y', 0, l⟩ 10 = some ⟨x', y', 0, l⟩ := by unfold rstep; rw [if_pos (Or.inr rfl), if_neg (by simp)]
    simp only [List.cons_append, List.nil_append, runsP]
    rw [if_neg (fun e => absurd e.1 (by decide)), hs]
    simp [blank]
  · rw [if_neg h70]
    simp [runsP, blank]
end Go.Proofs.YtjndfdhjipfijaaGreatDoor
