/- Plain mathematics of layer 5: a pattern's text is parsed to it (P5.4), and what is parsed is a pattern. No program is named here. -/
import Derived.Test.YtjndfdhjipfijaaGreatDoorRl3
namespace Go.Proofs.YtjndfdhjipfijaaGreatDoor
open Go

/-! A text's length -/
theorem cost_emit (W H x y : Nat) (r : List (Nat × Nat)) (c : Nat × Nat) (hW : W ≤ 1024) (hH : H ≤ 1024) (h2 : c.1 < W) (h3 : c.2 < H) :
    cost ((if y < c.2 then [runL (c.2 - y) 36] else []) ++ [runL (c.1 - (if y < c.2 then 0 else x)) 98, runL (1 + stretch c r) 111]) ≤ 6 * (c.2 - y) + (stretch c r + 9) := by
  rw [cost_app]
  have ho := runL_few (1 + stretch c r) 111 (by omega)
  have hb := runL_len (c.1 - (if y < c.2 then 0 else x)) 98 (by omega)
  have he : cost [runL (c.1 - (if y < c.2 then 0 else x)) 98, runL (1 + stretch c r) 111] = (runL (c.1 - (if y < c.2 then 0 else x)) 98).length + 1 + ((runL (1 + stretch c r) 111).length + 1 + 0) := rfl
  rw [he]
  by_cases hy : y < c.2
  · rw [if_pos hy]
    have hd := runL_len (c.2 - y) 36 (by omega)
    have he' : cost [runL (c.2 - y) 36] = (runL (c.2 - y) 36).length + 1 + 0 := rfl
    omega
  · rw [if_neg hy]
    have he' : cost [] = 0 := rfl
    omega
theorem cost_segs (W H : Nat) (hW : W ≤ 1024) (hH : H ≤ 1024) : ∀ (l : List (Nat × Nat)) (p : Nat × Nat) (x : Nat), okFrom W H (p.1 + 1) p.2 l → cost (segs (some p) x p.2 l) ≤ 9 * (l.length - stretch p l) + 6 * (H - p.2)
  | [], p, x, _ => by simp [segs, cost]
  | c :: r, p, x, ⟨h1, h2, h3, h4⟩ => by
    simp only [stretch, segs, List.length_cons]
    have hle := stretch_le c r
    have ih := cost_segs W H hW hH r c
    by_cases hc : c.2 = p.2 ∧ c.1 = p.1 + 1
    · rw [if_pos hc, if_pos (by simp [goesOn, hc.1, hc.2]), ← hc.1]
      have := ih x h4
      omega
    · have hg : goesOn (some p) c = false := by
        unfold goesOn
        simp only [Bool.and_eq_false_iff, decide_eq_false_iff_not]
        omega
      rw [if_neg hc, if_neg (by rw [hg]; simp), cost_app]
      have he := cost_emit W H x p.2 r c hW hH h2 h3
      have := ih (c.1 + 1 + stretch c r) h4
      omega
theorem cost_all (W H : Nat) (hW : W ≤ 1024) (hH : H ≤ 1024) (l : List (Nat × Nat)) (ho : okFrom W H 0 0 l) : cost (segs none 0 0 l) ≤ 9 * l.length + 6 * H := by
  cases l with
  | nil => simp [segs, cost]
  | cons c r =>
    obtain ⟨h1, h2, h3, h4⟩ := ho
    simp only [segs, List.length_cons]
    rw [if_neg (by simp [goesOn]), cost_app]
    have hle := stretch_le c r
    have he := cost_emit W H 0 0 r c hW hH h2 h3
    have := cost_segs W H hW hH r c (c.1 + 1 + stretch c r) h4
    omega
theorem headL_len (W H : Nat) (hW : W ≤ 1024) (hH : H ≤ 1024) : (headL W H).length ≤ 33 := by
  unfold headL
  have h1 := side_len 3 W (by omega)
  have h2 := side_len 3 H (by omega)
  simp only [List.length_append, List.length_cons, List.length_nil]
  omega
theorem bodyL_len (W H : Nat) (hW : W ≤ 1024) (hH : H ≤ 1024) (l : List (Nat × Nat)) (ho : okFrom W H 0 0 l) : (bodyL l).length ≤ 9 * l.length + 6 * H + 3 := by
  unfold bodyL
  have h1 := wrapL_cost (segs none 0 0 l ++ [[33]]) 0
  rw [cost_app] at h1
  have h2 := cost_all W H hW hH l ho
  have h3 : cost [[(33 : UInt8)]] = 2 := rfl
  simp only [List.length_append, List.length_cons, List.length_nil]
  omega
theorem textL_len (W H : Nat) (hW : W ≤ 1024) (hH : H ≤ 1024) (l : List (Nat × Nat)) (ho : okFrom W H 0 0 l) (hl : l.length ≤ 20000) : (textL W H l).length ≤ 200000 := by
  unfold textL
  have h1 := headL_len W H hW hH
  have h2 := bodyL_len W H hW hH l ho
  simp only [List.length_append, List.length_cons]
  omega

/-! P5.4 -/
theorem headL_no10 (W H : Nat) : ∀ c ∈ headL W H, c ≠ 10 := by
  intro c hc
  unfold headL at hc
  have hd : ∀ u, c ∈ Lib.decDigits u → c ≠ 10 := fun u h e => (dig_not (dec_dig u c h)).1 (Or.inr e)
  rcases List.mem_append.1 hc with hc | hc
  · rcases List.mem_append.1 hc with hc | hc
    · exact (show ∀ c ∈ ([120, 32, 61, 32] : List UInt8), c ≠ 10 by decide) c hc
    · exact hd W hc
  · rcases List.mem_append.1 hc with hc | hc
    · rcases List.mem_append.1 hc with hc | hc
      · exact (show ∀ c ∈ ([44, 32, 121, 32, 61, 32] : List UInt8), c ≠ 10 by decide) c hc
      · exact hd H hc
    · exact (show ∀ c ∈ ([44, 32, 114, 117, 108, 101, 32, 61, 32, 66, 51, 47, 83, 50, 51] : List UInt8), c ≠ 10 by decide) c hc
theorem parse_text (W H : Nat) (hW : W ≤ 1024) (hH : H ≤ 1024) (l : List (Nat × Nat)) (ho : okFrom W H 0 0 l) (hl : l.length ≤ 20000) : parseL (textL W H l) = ((W, H, l), 0, 0) := by
  have hlen := textL_len W H hW hH l ho hl
  have hc : commL (textL W H l) false 0 = some (textL W H l, 0) := rfl
  have hx : cutL 10 (textL W H l) = some (headL W H, bodyL l) := cutL_at 10 _ _ (headL_no10 W H)
  unfold parseL
  rw [if_neg (by omega), hc]
  simp only [hx, header_head W H hW hH, runsP_body W H hW hH l ho hl]

/-! What is parsed is a pattern -/
/-- The place behind the last of cells. -/
def lastP (x y : Nat) : List (Nat × Nat) → Nat × Nat
  | [] => (x, y)
  | c :: r => lastP (c.1 + 1) c.2 r
theorem okFrom_app (W H : Nat) : ∀ (a b : List (Nat × Nat)) (x y : Nat), okFrom W H x y a → okFrom W H (lastP x y a).1 (lastP x y a).2 b → okFrom W H x y (a ++ b)
  | [], _, _, _, _, h => h
  | _ :: r, b, _, _, ⟨h1, h2, h3, h4⟩, h => ⟨h1, h2, h3, okFrom_app W H r b _ _ h4 h⟩
theorem lastP_app : ∀ (a b : List (Nat × Nat)) (x y : Nat), lastP x y (a ++ b) = lastP (lastP x y a).1 (lastP x y a).2 b
  | [], _, _, _ => rfl
  | _ :: r, b, _, _ => lastP_app r b _ _
theorem okFrom_row (W H y : Nat) (hy : y < H) : ∀ (k x : Nat), x + k ≤ W → okFrom W H x y ((List.range k).map fun j => (x + j, y)) ∧ lastP x y ((List.range k).map fun j => (x + j, y)) = (x + k, y)
  | 0, x, _ => ⟨trivial, rfl⟩
  | k + 1, x, h => by
    have he : (List.range (k + 1)).map (fun j => (x + j, y)) = (x, y) :: (List.range k).map fun j => (x + 1 + j, y) := by
      rw [List.range_succ_eq_map, List.map_cons, List.map_map]
      congr 1
      apply List.map_congr_left
      intro j _
      simp only [Function.comp]
      exact Prod.ext (by simp; omega) rfl
    obtain ⟨h1, h2⟩ := okFrom_row W H y hy k (x + 1) (by omega)
    rw [he]
    refine ⟨⟨Or.inr ⟨rfl, Nat.le_refl _⟩, by simp only []; omega, hy, h1⟩, ?_⟩
    simp only [lastP]
    rw [h2]
    exact Prod.ext (by simp; omega) rfl
theorem okFrom_lift (W H x y x' y' : Nat) (h : y < y' ∨ (y' = y ∧ x ≤ x')) : ∀ (l : List (Nat × Nat)), okFrom W H x' y' l → okFrom W H x y l
  | [], _ => trivial
  | c :: r, ⟨h1, h2, h3, h4⟩ => ⟨by omega, h2, h3, h4⟩
/-- What holds all along runs. -/
def good (W H : Nat) (s : RSt) : Prop := okFrom W H 0 0 s.cells ∧ ((lastP 0 0 s.cells).2 < s.y ∨ (s.y = (lastP 0 0 s.cells).2 ∧ (lastP 0 0 s.cells).1 ≤ s.x)) ∧ s.cells.length ≤ 20000
theorem good_step (W H : Nat) (s s' : RSt) (c : UInt8) (h : good W H s) (hs : rstep W H s c = some s') : good W H s' := by
  obtain ⟨h1, h2, h3⟩ := h
  unfold rstep at hs
  by_cases c1 : c = 32 ∨ c = 10
  · rw [if_pos c1] at hs
    split at hs
    · cases hs
    · obtain rfl := Option.some.inj hs; exact ⟨h1, h2, h3⟩
  rw [if_neg c1] at hs
  by_cases c2 : isDig c = true
  · rw [if_pos c2] at hs
    split at hs
    · cases hs
    · obtain rfl := Option.some.inj hs; exact ⟨h1, h2, h3⟩
  rw [if_neg c2] at hs
  by_cases c3 : c = 36
  · rw [if_pos c3] at hs
    split at hs
    · cases hs
    · obtain rfl := Option.some.inj hs
      exact ⟨h1, Or.inl (by simp only []; omega), h3⟩
  rw [if_neg c3] at hs
  by_cases c4 : c = 98
  · rw [if_pos c4] at hs
    split at hs
    · cases hs
    · obtain rfl := Option.some.inj hs
      exact ⟨h1, by simp only []; omega, h3⟩
  rw [if_neg c4] at hs
  by_cases c5 : c = 111
  · rw [if_pos c5] at hs
    split at hs
    · cases hs
    · rename_i hk
      obtain rfl := Option.some.inj hs
      obtain ⟨r1, r2⟩ := okFrom_row W H s.y (by omega) (max s.n 1) s.x (by omega)
      refine ⟨okFrom_app W H _ _ _ _ h1 (okFrom_lift W H _ _ s.x s.y h2 _ r1), ?_, ?_⟩
      · simp only []
        have hm : max s.n 1 = (max s.n 1 - 1) + 1 := by omega
        have hl : lastP 0 0 (s.cells ++ (List.range (max s.n 1)).map fun j => (s.x + j, s.y)) = (s.x + max s.n 1, s.y) := by
          rw [lastP_app, ← r2, hm, List.range_succ_eq_map]
          rfl
        rw [hl]
        exact Or.inr ⟨rfl, Nat.le_refl _⟩
      · simp only [List.length_append, List.length_map, List.length_range]; omega
  · rw [if_neg c5] at hs; cases hs
theorem good_runs (W H : Nat) : ∀ (t : List UInt8) (i : Nat) (s : RSt) (l : List (Nat × Nat)) (k : Nat), good W H s → runsP W H t i s = (l, 0, k) → okFrom W H 0 0 l ∧ l.length ≤ 20000
  | [], i, s, l, k, _, h => by simp [runsP] at h
  | c :: r, i, s, l, k, hg, h => by
    simp only [runsP] at h
    by_cases hc : c = 33 ∧ s.n = 0
    · rw [if_pos hc] at h
      by_cases hb : r.all blank = true
      · rw [if_pos hb] at h
        simp only [Prod.mk.injEq] at h
        rw [← h.1]
        exact ⟨hg.1, hg.2.2⟩
      · rw [if_neg hb] at h
        simp at h
    · rw [if_neg hc] at h
      cases hs : rstep W H s c with
      | none => rw [hs] at h; simp at h
      | some m =>
        rw [hs] at h
        exact good_runs W H r (i + 1) m l k (good_step W H s m c hg hs) h
theorem parse_good (s : List UInt8) (W H k : Nat) (l : List (Nat × Nat)) (h : parseL s = ((W, H, l), 0, k)) : W ≤ 1024 ∧ H ≤ 1024 ∧ okFrom W H 0 0 l ∧ l.length ≤ 20000 := by
  unfold parseL at h
  by_cases h0 : 200000 < s.length
  · rw [if_pos h0] at h; simp at h
  rw [if_neg h0] at h
  split at h
  · simp at h
  · split at h
    · simp at h
    · split at h
      · simp at h
      · rename_i hh
        split at h
        · rename_i hr
          simp only [Prod.mk.injEq] at h
          obtain ⟨⟨rfl, rfl, rfl⟩, _⟩ := h
          have := headerL_le hh
          exact ⟨this.1, this.2, good_runs _ _ _ _ ⟨0, 0, 0, []⟩ _ _ ⟨trivial, Or.inr ⟨rfl, Nat.le_refl _⟩, by simp⟩ hr⟩
        · simp at h
/-- What is parsed, is parsed from its own text too. -/
theorem parse_again (s : List UInt8) (W H k : Nat) (l : List (Nat × Nat)) (h : parseL s = ((W, H, l), 0, k)) : parseL (textL W H l) = ((W, H, l), 0, 0) := by
  obtain ⟨h1, h2, h3, h4⟩ := parse_good s W H k l h
  exact parse_text W H h1 h2 l h3 h4
end Go.Proofs.YtjndfdhjipfijaaGreatDoor
