-- M21
import Derived.Test.YtnfjmmkokhncoaaGreatM20
import Derived.Test.YtnfjmmkokhncoaaGreatM08
import Derived.Deep.RegionHeld3
section
namespace Go.Proofs.YtnfjmmkokhncoaaGreat
open Go

/-- How many cells follow one, each right of the one before. -/
def stretch : Nat × Nat → List (Nat × Nat) → Nat
  | _, [] => 0
  | p, c :: r => if c.2 = p.2 ∧ c.1 = p.1 + 1 then 1 + stretch c r else 0
/-- Does a cell go on with the stretch of the one before? -/
def goesOn : Option (Nat × Nat) → Nat × Nat → Bool
  | none, _ => false
  | some p, c => decide (c.2 = p.2) && decide (c.1 = p.1 + 1)
/-- The runs of cells from a place on. -/
def segs : Option (Nat × Nat) → Nat → Nat → List (Nat × Nat) → List (List UInt8)
  | _, _, _, [] => []
  | prev, x, y, c :: r =>
    if goesOn prev c = true then segs (some c) x y r
    else ((if y < c.2 then [runL (c.2 - y) 36] else []) ++ [runL (c.1 - (if y < c.2 then 0 else x)) 98, runL (1 + stretch c r) 111]) ++ segs (some c) (c.1 + 1 + stretch c r) c.2 r
/-- Cells by rows, each once, from a place on, within sides. -/
def okFrom (W H : Nat) : Nat → Nat → List (Nat × Nat) → Prop
  | _, _, [] => True
  | x, y, c :: r => (y < c.2 ∨ (c.2 = y ∧ x ≤ c.1)) ∧ c.1 < W ∧ c.2 < H ∧ okFrom W H (c.1 + 1) c.2 r

theorem stretch_le : ∀ (p : Nat × Nat) (l : List (Nat × Nat)), stretch p l ≤ l.length
  | _, [] => Nat.le_refl _
  | p, c :: r => by
    simp only [stretch]
    split
    · have := stretch_le c r; simp; omega
    · simp
theorem stretch_take : ∀ (p : Nat × Nat) (l : List (Nat × Nat)), l.take (stretch p l) = (List.range (stretch p l)).map fun j => (p.1 + 1 + j, p.2)
  | _, [] => rfl
  | p, c :: r => by
    simp only [stretch]
    split
    · rename_i h
      rw [Nat.add_comm 1, List.take_succ_cons, stretch_take c r, List.range_succ_eq_map, List.map_cons, List.map_map]
      congr 1
      · exact Prod.ext (by simp [h.2]) h.1
      · apply List.map_congr_left
        intro j _
        simp only [Function.comp, h.1, h.2]
        exact Prod.ext (by simp; omega) rfl
    · rfl
theorem stretch_lt (W H : Nat) : ∀ (p : Nat × Nat) (l : List (Nat × Nat)), p.1 < W → okFrom W H (p.1 + 1) p.2 l → p.1 + stretch p l < W
  | _, [], h, _ => by simpa [stretch] using h
  | p, c :: r, h, ⟨_, h2, _, h4⟩ => by
    simp only [stretch]
    split
    · rename_i hc
      have := stretch_lt W H c r h2 h4
      omega
    · omega
theorem cells_of_stretch (c : Nat × Nat) (r : List (Nat × Nat)) : (List.range (1 + stretch c r)).map (fun j => (c.1 + j, c.2)) = c :: r.take (stretch c r) := by
  rw [Nat.add_comm 1, List.range_succ_eq_map, List.map_cons, List.map_map, stretch_take]
  congr 1
  apply List.map_congr_left
  intro j _
  simp only [Function.comp]
  exact Prod.ext (by simp; omega) rfl

/-- One stretch's runs. -/
theorem emit (W H x y : Nat) (D r : List (Nat × Nat)) (c : Nat × Nat) (hW : W ≤ 1024) (hH : H ≤ 1024) (h1 : y < c.2 ∨ (c.2 = y ∧ x ≤ c.1)) (h2 : c.1 < W) (h3 : c.2 < H) (h4 : okFrom W H (c.1 + 1) c.2 r) (h5 : D.length + (1 + r.length) ≤ 20000) :
    chain W H ((if y < c.2 then [runL (c.2 - y) 36] else []) ++ [runL (c.1 - (if y < c.2 then 0 else x)) 98, runL (1 + stretch c r) 111]) ⟨x, y, 0, D⟩ ⟨c.1 + 1 + stretch c r, c.2, 0, D ++ (c :: r.take (stretch c r))⟩ := by
  have hs := stretch_lt W H c r h2 h4
  have hl := stretch_le c r
  have ho := feed_o W H c.1 c.2 (1 + stretch c r) D (by omega) (by omega) (by omega) h3 (by omega)
  rw [cells_of_stretch, ← Nat.add_assoc] at ho
  by_cases hy : y < c.2
  · rw [if_pos hy, if_pos hy]
    have hd := feed_d W H x y (c.2 - y) D (by omega) (by omega)
    rw [show y + (c.2 - y) = c.2 by omega] at hd
    have hb := feed_b W H 0 c.2 (c.1 - 0) D (by omega) (by omega)
    rw [show 0 + (c.1 - 0) = c.1 by omega] at hb
    exact ⟨_, hd, rfl, runL_not33 _ _ (by decide), _, hb, rfl, runL_not33 _ _ (by decide), _, ho, rfl, runL_not33 _ _ (by decide), rfl⟩
  · obtain ⟨hy', hx⟩ : c.2 = y ∧ x ≤ c.1 := by omega
    rw [if_neg hy, if_neg hy]
    have hb := feed_b W H x y (c.1 - x) D (by omega) (by omega)
    rw [show x + (c.1 - x) = c.1 by omega] at hb
    rw [hy'] at ho ⊢
    exact ⟨_, hb, rfl, runL_not33 _ _ (by decide), _, ho, rfl, runL_not33 _ _ (by decide), rfl⟩

theorem chain_segs (W H : Nat) (hW : W ≤ 1024) (hH : H ≤ 1024) : ∀ (l : List (Nat × Nat)) (p : Nat × Nat) (D : List (Nat × Nat)), okFrom W H (p.1 + 1) p.2 l → D.length + (l.length - stretch p l) ≤ 20000 →
    ∃ x' y', chain W H (segs (some p) (p.1 + 1 + stretch p l) p.2 l) ⟨p.1 + 1 + stretch p l, p.2, 0, D⟩ ⟨x', y', 0, D ++ l.drop (stretch p l)⟩
  | [], p, D, _, _ => ⟨_, _, by rw [List.drop_nil, List.append_nil]; rfl⟩
  | c :: r, p, D, ⟨h1, h2, h3, h4⟩, hl => by
    simp only [stretch, segs] at hl ⊢
    have hle := stretch_le c r
    by_cases hc : c.2 = p.2 ∧ c.1 = p.1 + 1
    · rw [if_pos hc] at hl
      rw [if_pos hc, if_pos (by simp [goesOn, hc.1, hc.2])]
      obtain ⟨x', y', h⟩ := chain_segs W H hW hH r c D h4 (by simp only [List.length_cons] at hl; omega)
      refine ⟨x', y', ?_⟩
      rw [Nat.add_comm 1, List.drop_succ_cons]
      rw [show p.1 + 1 + (stretch c r + 1) = c.1 + 1 + stretch c r by omega, ← hc.1]
      exact h
    · rw [if_neg hc] at hl
      simp only [List.length_cons] at hl
      have hg : goesOn (some p) c = false := by
        unfold goesOn
        simp only [Bool.and_eq_false_iff, decide_eq_false_iff_not]
        omega
      rw [if_neg hc, if_neg (by rw [hg]; simp), List.drop_zero, Nat.add_zero]
      have he := emit W H (p.1 + 1) p.2 D r c hW hH h1 h2 h3 h4 (by omega)
      obtain ⟨x', y', h⟩ := chain_segs W H hW hH r c (D ++ (c :: r.take (stretch c r))) h4 (by
        rw [List.length_append, List.length_cons, List.length_take]; omega)
      rw [List.append_assoc, List.cons_append, List.take_append_drop] at h
      exact ⟨x', y', chain_app W H _ _ _ _ _ he h⟩
/-- All the runs, from the first place on. -/
theorem chain_all (W H : Nat) (hW : W ≤ 1024) (hH : H ≤ 1024) (l : List (Nat × Nat)) (ho : okFrom W H 0 0 l) (hl : l.length ≤ 20000) : ∃ x' y', chain W H (segs none 0 0 l) ⟨0, 0, 0, []⟩ ⟨x', y', 0, l⟩ := by
  cases l with
  | nil => exact ⟨0, 0, rfl⟩
  | cons c r =>
    obtain ⟨h1, h2, h3, h4⟩ := ho
    simp only [List.length_cons] at hl
    have hle := stretch_le c r
    have he := emit W H 0 0 [] r c hW hH h1 h2 h3 h4 (by simp; omega)
    obtain ⟨x', y', h⟩ := chain_segs W H hW hH r c ([] ++ (c :: r.take (stretch c r))) h4 (by
      simp only [List.nil_append, List.length_cons, List.length_take]; omega)
    rw [List.append_assoc, List.cons_append, List.take_append_drop] at h
    refine ⟨x', y', ?_⟩
    simp only [segs]
    rw [if_neg (by simp [goesOn])]
    exact chain_app W H _ _ _ _ _ he h

/-! The last run, the ! and what stands behind it -/
theorem wrapL_snoc : ∀ (rs : List (List UInt8)) (wd : Nat) (r : List UInt8), ∃ w, wrapL wd (rs ++ [r]) = wrapL wd rs ++ (if 70 < w + r.length then 10 :: r else r)
  | [], wd, r => ⟨wd, by simp only [List.nil_append, wrapL]; split <;> simp⟩
  | q :: rs, wd, r => by
    simp only [List.cons_append, wrapL]
    by_cases h : 70 < wd + q.length
    · obtain ⟨w, hw⟩ := wrapL_snoc rs q.length r
      exact ⟨w, by rw [if_pos h, if_pos h, hw]; simp⟩
    · obtain ⟨w, hw⟩ := wrapL_snoc rs (wd + q.length) r
      exact ⟨w, by rw [if_neg h, if_neg h, hw]; simp⟩
/-- A pattern's body. -/
def bodyL (l : List (Nat × Nat)) : List UInt8 := wrapL 0 (segs none 0 0 l ++ [[33]]) ++ [10]
/-- A pattern's body is read as its cells, whatever byte it stands at. -/
theorem runsP_body (W H : Nat) (hW : W ≤ 1024) (hH : H ≤ 1024) (l : List (Nat × Nat)) (ho : okFrom W H 0 0 l) (hl : l.length ≤ 20000) (i : Nat) : runsP W H (bodyL l) i ⟨0, 0, 0, []⟩ = (l, 0, 0) := by
  obtain ⟨x', y', h⟩ := chain_all W H hW hH l ho hl
  obtain ⟨w, hw⟩ := wrapL_snoc (segs none 0 0 l) 0 [33]
  unfold bodyL
  rw [hw, List.append_assoc, runsP_wrap W H _ 0 i _ _ _ rfl h]
  by_cases h70 : 70 < w + [(33 : UInt8)].length
  · rw [if_pos h70]
    have hs : rstep W H ⟨x', y', 0, l⟩ 10 = some ⟨x', y', 0, l⟩ := by unfold rstep; rw [if_pos (Or.inr rfl), if_neg (by simp)]
    simp only [List.cons_append, List.nil_append, runsP]
    rw [if_neg (fun e => absurd e.1 (by decide)), hs]
    simp [blank]
  · rw [if_neg h70]
    simp [runsP, blank]
end Go.Proofs.YtnfjmmkokhncoaaGreat
end

section
namespace Go.Proofs.YtnfjmmkokhncoaaGreat
open Go

/-! Cuts -/
/-- What stands before and behind the first of a byte. -/
def cutL (b : UInt8) : List UInt8 → Option (List UInt8 × List UInt8)
  | [] => none
  | c :: r => if c = b then some ([], r) else (cutL b r).map fun q => (c :: q.1, q.2)
theorem cutL_at (b : UInt8) : ∀ (a r : List UInt8), (∀ c ∈ a, c ≠ b) → cutL b (a ++ b :: r) = some (a, r)
  | [], r, _ => by simp [cutL]
  | c :: a, r, h => by
    simp only [List.cons_append, cutL]
    rw [if_neg (h c (by simp)), cutL_at b a r (fun d hd => h d (by simp [hd]))]
    rfl
theorem cutL_len (b : UInt8) : ∀ (l : List UInt8) (q : List UInt8 × List UInt8), cutL b l = some q → l = q.1 ++ b :: q.2 ∧ ∀ c ∈ q.1, c ≠ b
  | [], _, h => by cases h
  | c :: r, q, h => by
    simp only [cutL] at h
    by_cases hc : c = b
    · rw [if_pos hc] at h
      obtain rfl := Option.some.inj h
      exact ⟨by rw [hc]; rfl, by simp⟩
    · rw [if_neg hc] at h
      cases hr : cutL b r with
      | none => rw [hr] at h; cases h
      | some m =>
        rw [hr] at h
        obtain rfl := Option.some.inj h
        obtain ⟨e, k⟩ := cutL_len b r m hr
        refine ⟨by rw [e]; rfl, fun d hd => ?_⟩
        rcases List.mem_cons.1 hd with rfl | hd
        · exact hc
        · exact k d hd
/-- What stands between bytes. -/
def partsL (b : UInt8) : List UInt8 → List (List UInt8)
  | [] => [[]]
  | c :: r => if c = b then [] :: partsL b r else match partsL b r with
    | [] => [[c]]
    | h :: t => (c :: h) :: t
theorem partsL_none (b : UInt8) : ∀ (a : List UInt8), (∀ c ∈ a, c ≠ b) → partsL b a = [a]
  | [], _ => rfl
  | c :: a, h => by
    simp only [partsL]
    rw [if_neg (h c (by simp)), partsL_none b a (fun d hd => h d (by simp [hd]))]
theorem partsL_at (b : UInt8) : ∀ (a r : List UInt8), (∀ c ∈ a, c ≠ b) → partsL b (a ++ b :: r) = a :: partsL b r
  | [], r, _ => by simp [partsL]
  | c :: a, r, h => by
    simp only [List.cons_append, partsL]
    rw [if_neg (h c (by simp)), partsL_at b a r (fun d hd => h d (by simp [hd]))]
/-- Without blanks at the ends. -/
def trimL (l : List UInt8) : List UInt8 := ((l.dropWhile (· == 32)).reverse.dropWhile (· == 32)).reverse
theorem dropWhile_none : ∀ (l : List UInt8), (∀ c ∈ l, c ≠ 32) → l.dropWhile (· == 32) = l
  | [], _ => rfl
  | c :: r, h => by
    rw [List.dropWhile_cons, if_neg (by simpa using h c (by simp))]
theorem trimL_ahead (l : List UInt8) (h : ∀ c ∈ l, c ≠ 32) : trimL (32 :: l) = l := by
  unfold trimL
  rw [List.dropWhile_cons, if_pos (by decide), dropWhile_none l h, dropWhile_none _ (fun c hc => h c (List.mem_reverse.1 hc)), List.reverse_reverse]

/-! Sides -/
def valL (l : List UInt8) : Nat := l.foldl (fun n c => 10 * n + (c.toNat - 48)) 0
/-- 1 to 4 figures, up to 1024. -/
def sideL (l : List UInt8) : Option Nat := if l.isEmpty = true ∨ 4 < l.length ∨ l.all isDig = false ∨ 1024 < valL l then none else some (valL l)
theorem valL_dec : ∀ (u : Nat), valL (Lib.decDigits u) = u := by
  intro u
  induction u using Nat.strongRecOn with
  | _ u ih =>
    rw [Lib.decDigits]
    by_cases h : u < 10
    · rw [dif_pos h]
      simp only [valL, List.foldl_cons, List.foldl_nil]
      rw [fig_nat u h]; omega
    · rw [dif_neg h]
      unfold valL
      rw [List.foldl_append]
      have := ih (u / 10) (by omega)
      unfold valL at this
      rw [this]
      simp only [List.foldl_cons, List.foldl_nil]
      rw [fig_nat (u % 10) (by omega)]; omega
theorem side_len : ∀ (k u : Nat), u < 10 ^ (k + 1) → (Lib.decDigits u).length ≤ k + 1
  | 0, u, h => by rw [Lib.decDigits, dif_pos (by omega)]; simp
  | k + 1, u, h => by
    rw [Lib.decDigits]
    by_cases hs : u < 10
    · rw [dif_pos hs]; simp
    · rw [dif_neg hs, List.length_append]
      have := side_len k (u / 10) (by rw [Nat.pow_succ] at h; omega)
      simp; omega
theorem side_pos (u : Nat) : Lib.decDigits u ≠ [] := by
  rw [Lib.decDigits]
  by_cases h : u < 10
  · rw [dif_pos h]; simp
  · rw [dif_neg h]; simp
theorem sideL_dec (u : Nat) (h : u ≤ 1024) : sideL (Lib.decDigits u) = some u := by
  unfold sideL
  have h1 := side_len 3 u (by omega)
  rw [valL_dec, if_neg]
  simp only [List.isEmpty_iff, not_or]
  refine ⟨side_pos u, by omega, ?_, by omega⟩
  rw [Bool.not_eq_false, List.all_eq_true]
  exact dec_dig u
theorem sideL_le {l : List UInt8} {n : Nat} (h : sideL l = some n) : n ≤ 1024 := by
  unfold sideL at h
  by_cases k : l.isEmpty = true ∨ 4 < l.length ∨ l.all isDig = false ∨ 1024 < valL l
  · rw [if_pos k] at h; cases h
  · rw [if_neg k] at h
    obtain rfl := Option.some.inj h
    omega

/-! The header -/
/-- A side by its name. -/
def fieldL (name l : List UInt8) : Option Nat := (cutL 61 l).bind fun q => if trimL q.1 = name then sideL (trimL q.2) else none
def ruleL (l : List UInt8) : Bool := match cutL 61 l with
  | none => false
  | some q => decide (trimL q.1 = [114, 117, 108, 101]) && decide (trimL q.2 = [66, 51, 47, 83, 50, 51])
def headerL (l : List UInt8) : Option (Nat × Nat) := match partsL 44 l with
  | [a, b] => (fieldL [120] a).bind fun w => (fieldL [121] b).map fun h => (w, h)
  | [a, b, c] => (fieldL [120] a).bind fun w => (fieldL [121] b).bind fun h => if ruleL c = true then some (w, h) else none
  | _ => none
theorem field_le {name l : List UInt8} {n : Nat} (h : fieldL name l = some n) : n ≤ 1024 := by
  unfold fieldL at h
  cases hc : cutL 61 l with
  | none => rw [hc] at h; cases h
  | some q =>
    rw [hc] at h
    simp only [Option.bind_some] at h
    by_cases k : trimL q.1 = name
    · rw [if_pos k] at h; exact sideL_le h
    · rw [if_neg k] at h; cases h
theorem headerL_le {l : List UInt8} {q : Nat × Nat} (h : headerL l = some q) : q.1 ≤ 1024 ∧ q.2 ≤ 1024 := by
  unfold headerL at h
  split at h
  · rename_i a b _
    cases ha : fieldL [120] a with
    | none => rw [ha] at h; cases h
    | some w =>
      cases hb : fieldL [121] b with
      | none => rw [ha, hb] at h; cases h
      | some v =>
        rw [ha, hb] at h
        obtain rfl := Option.some.inj h
        exact ⟨field_le ha, field_le hb⟩
  · rename_i a b c _
    cases ha : fieldL [120] a with
    | none => rw [ha] at h; cases h
    | some w =>
      cases hb : fieldL [121] b with
      | none => rw [ha, hb] at h; cases h
      | some v =>
        rw [ha, hb] at h
        simp only [Option.bind_some] at h
        by_cases k : ruleL c = true
        · rw [if_pos k] at h
          obtain rfl := Option.some.inj h
          exact ⟨field_le ha, field_le hb⟩
        · rw [if_neg k] at h; cases h
  · cases h
/-- The header line of a pattern's text, less its end. -/
def headL (W H : Nat) : List UInt8 := [120, 32, 61, 32] ++ Lib.decDigits W ++ ([44, 32, 121, 32, 61, 32] ++ Lib.decDigits H ++ [44, 32, 114, 117, 108, 101, 32, 61, 32, 66, 51, 47, 83, 50, 51])
theorem field_x (W : Nat) (h : W ≤ 1024) : fieldL [120] ([120, 32, 61, 32] ++ Lib.decDigits W) = some W := by
  have := cutL_at 61 [120, 32] (32 :: Lib.decDigits W) (by decide)
  unfold fieldL
  rw [show [120, 32, 61, 32] ++ Lib.decDigits W = [120, 32] ++ 61 :: 32 :: Lib.decDigits W from rfl, this]
  simp only [Option.bind_some]
  rw [if_pos (by decide), trimL_ahead _ (fun c hc e => (dig_not (dec_dig W c hc)).1 (Or.inl e)), sideL_dec W h]
theorem field_y (H : Nat) (h : H ≤ 1024) : fieldL [121] ([32, 121, 32, 61, 32] ++ Lib.decDigits H) = some H := by
  have := cutL_at 61 [32, 121, 32] (32 :: Lib.decDigits H) (by decide)
  unfold fieldL
  rw [show [32, 121, 32, 61, 32] ++ Lib.decDigits H = [32, 121, 32] ++ 61 :: 32 :: Lib.decDigits H from rfl, this]
  simp only [Option.bind_some]
  rw [if_pos (by decide), trimL_ahead _ (fun c hc e => (dig_not (dec_dig H c hc)).1 (Or.inl e)), sideL_dec H h]
theorem header_head (W H : Nat) (hW : W ≤ 1024) (hH : H ≤ 1024) : headerL (headL W H) = some (W, H) := by
  have h3 : partsL 44 [32, 114, 117, 108, 101, 32, 61, 32, 66, 51, 47, 83, 50, 51] = [[32, 114, 117, 108, 101, 32, 61, 32, 66, 51, 47, 83, 50, 51]] := partsL_none 44 _ (by decide)
  have h2 := partsL_at 44 ([32, 121, 32, 61, 32] ++ Lib.decDigits H) [32, 114, 117, 108, 101, 32, 61, 32, 66, 51, 47, 83, 50, 51] (fun c hc => by
    rcases List.mem_append.1 hc with hc | hc
    · exact (show ∀ c ∈ ([32, 121, 32, 61, 32] : List UInt8), c ≠ 44 by decide) c hc
    · exact (dig_not (dec_dig H c hc)).2.2.1)
  have h1 := partsL_at 44 ([120, 32, 61, 32] ++ Lib.decDigits W) ([32, 121, 32, 61, 32] ++ Lib.decDigits H ++ 44 :: [32, 114, 117, 108, 101, 32, 61, 32, 66, 51, 47, 83, 50, 51]) (fun c hc => by
    rcases List.mem_append.1 hc with hc | hc
    · exact (show ∀ c ∈ ([120, 32, 61, 32] : List UInt8), c ≠ 44 by decide) c hc
    · exact (dig_not (dec_dig W c hc)).2.2.1)
  rw [h2, h3] at h1
  have he : headL W H = [120, 32, 61, 32] ++ Lib.decDigits W ++ 44 :: ([32, 121, 32, 61, 32] ++ Lib.decDigits H ++ 44 :: [32, 114, 117, 108, 101, 32, 61, 32, 66, 51, 47, 83, 50, 51]) := rfl
  unfold headerL
  rw [he, h1]
  simp only [field_x W hW, field_y H hH, Option.bind_some]
  rw [if_pos (by decide)]

/-! Texts -/
/-- Behind the lines that begin with #: the rest, and where it begins; none: such a line has no end. -/
def commL : List UInt8 → Bool → Nat → Option (List UInt8 × Nat)
  | [], true, _ => none
  | [], false, i => some ([], i)
  | c :: r, true, i => commL r (c != 10) (i + 1)
  | c :: r, false, i => if c = 35 then commL r true (i + 1) else some (c :: r, i)
/-- Wide, High, the cells; the error's number, and where. -/
def parseL (s : List UInt8) : (Nat × Nat × List (Nat × Nat)) × Nat × Nat :=
  if 200000 < s.length then ((0, 0, []), 5, 200000)
  else match commL s false 0 with
    | none => ((0, 0, []), 2, s.length)
    | some (t, i) => match cutL 10 t with
      | none => ((0, 0, []), 2, s.length)
      | some (a, r) => match headerL a with
        | none => ((0, 0, []), 3, i)
        | some (W, H) => match runsP W H r (i + a.length + 1) ⟨0, 0, 0, []⟩ with
          | (l, 0, _) => ((W, H, l), 0, 0)
          | (_, n + 1, k) => ((0, 0, []), n + 1, k)
def textL (W H : Nat) (l : List (Nat × Nat)) : List UInt8 := headL W H ++ 10 :: bodyL l

/-! A text's length -/
def cost (rs : List (List UInt8)) : Nat := rs.foldr (fun r n => r.length + 1 + n) 0
theorem cost_app (a b : List (List UInt8)) : cost (a ++ b) = cost a + cost b := by
  induction a with
  | nil => simp [cost]
  | cons r a ih =>
    simp only [cost, List.cons_append, List.foldr_cons] at ih ⊢
    omega
theorem wrapL_cost : ∀ (rs : List (List UInt8)) (wd : Nat), (wrapL wd rs).length ≤ cost rs
  | [], _ => Nat.le_refl _
  | r :: rs, wd => by
    simp only [wrapL]
    have h1 := wrapL_cost rs r.length
    have h2 := wrapL_cost rs (wd + r.length)
    have : cost (r :: rs) = r.length + 1 + cost rs := rfl
    by_cases h : 70 < wd + r.length
    · rw [if_pos h]; simp only [List.length_cons, List.length_append]; omega
    · rw [if_neg h]; simp only [List.length_append]; omega
theorem runL_len (k : Nat) (tag : UInt8) (h : k ≤ 1024) : (runL k tag).length ≤ 5 := by
  unfold runL
  by_cases h1 : k < 1
  · rw [if_pos h1]; simp
  · rw [if_neg h1]
    by_cases h2 : k = 1
    · rw [if_pos h2]; simp
    · rw [if_neg h2]
      have := side_len 3 k (by omega)
      simp only [List.length_append, List.length_cons, List.length_nil]
      omega
theorem dec_few : ∀ (u : Nat), (Lib.decDigits u).length ≤ u - 1 + 1 := by
  intro u
  induction u using Nat.strongRecOn with
  | _ u ih =>
    rw [Lib.decDigits]
    by_cases h : u < 10
    · rw [dif_pos h]; simp
    · rw [dif_neg h]
      have := ih (u / 10) (by omega)
      simp only [List.length_append, List.length_cons, List.length_nil]
      omega
theorem runL_few (k : Nat) (tag : UInt8) (h : 1 ≤ k) : (runL k tag).length ≤ k + 1 := by
  unfold runL
  rw [if_neg (by omega)]
  by_cases h2 : k = 1
  · rw [if_pos h2]; simp
  · rw [if_neg h2]
    have := dec_few k
    simp only [List.length_append, List.length_cons, List.length_nil]
    omega
end Go.Proofs.YtnfjmmkokhncoaaGreat
end

section
namespace Go.Proofs.YtnfjmmkokhncoaaGreat
open Go

/-! A text's length -/
theorem cost_emit (W H x y : Nat) (r : List (Nat × Nat)) (c : Nat × Nat) (hW : W ≤ 1024) (hH : H ≤ 1024) (h2 : c.1 < W) (h3 : c.2 < H) :
    cost ((if y < c.2 then [runL (c.2 - y) 36] else []) ++ [runL (c.1 - (if y < c.2 then 0 else x)) 98, runL (1 + stretch c r) 111]) ≤ 6 * (c.2 - y) + (stretch c r + 9) := by
  rw [cost_app]
  have ho := runL_few (1 + stretch c r) 111 (by omega)
  have hb := runL_len (c.1 - (if y < c.2 then 0 else x)) 98 (by omega)
  have he : cost [runL (c.1 - (if y < c.2 then 0 else x)) 98, runL (1 + stretch c r) 111] = (runL (c.1 - (if y < c.2 then 0 else x)) 98).length + 1 + ((runL (1 + stretch c r) 111).length + 1 + 0) := rfl
  rw [he]
  by_cases hy : y < c.2
  · rw [if_pos hy]
    have hd := runL_len (c.2 - y) 36 (by omega)
    have he' : cost [runL (c.2 - y) 36] = (runL (c.2 - y) 36).length + 1 + 0 := rfl
    omega
  · rw [if_neg hy]
    have he' : cost [] = 0 := rfl
    omega
theorem cost_segs (W H : Nat) (hW : W ≤ 1024) (hH : H ≤ 1024) : ∀ (l : List (Nat × Nat)) (p : Nat × Nat) (x : Nat), okFrom W H (p.1 + 1) p.2 l → cost (segs (some p) x p.2 l) ≤ 9 * (l.length - stretch p l) + 6 * (H - p.2)
  | [], p, x, _ => by simp [segs, cost]
  | c :: r, p, x, ⟨h1, h2, h3, h4⟩ => by
    simp only [stretch, segs, List.length_cons]
    have hle := stretch_le c r
    have ih := cost_segs W H hW hH r c
    by_cases hc : c.2 = p.2 ∧ c.1 = p.1 + 1
    · rw [if_pos hc, if_pos (by simp [goesOn, hc.1, hc.2]), ← hc.1]
      have := ih x h4
      omega
    · have hg : goesOn (some p) c = false := by
        unfold goesOn
        simp only [Bool.and_eq_false_iff, decide_eq_false_iff_not]
        omega
      rw [if_neg hc, if_neg (by rw [hg]; simp), cost_app]
      have he := cost_emit W H x p.2 r c hW hH h2 h3
      have := ih (c.1 + 1 + stretch c r) h4
      omega
theorem cost_all (W H : Nat) (hW : W ≤ 1024) (hH : H ≤ 1024) (l : List (Nat × Nat)) (ho : okFrom W H 0 0 l) : cost (segs none 0 0 l) ≤ 9 * l.length + 6 * H := by
  cases l with
  | nil => simp [segs, cost]
  | cons c r =>
    obtain ⟨h1, h2, h3, h4⟩ := ho
    simp only [segs, List.length_cons]
    rw [if_neg (by simp [goesOn]), cost_app]
    have hle := stretch_le c r
    have he := cost_emit W H 0 0 r c hW hH h2 h3
    have := cost_segs W H hW hH r c (c.1 + 1 + stretch c r) h4
    omega
theorem headL_len (W H : Nat) (hW : W ≤ 1024) (hH : H ≤ 1024) : (headL W H).length ≤ 33 := by
  unfold headL
  have h1 := side_len 3 W (by omega)
  have h2 := side_len 3 H (by omega)
  simp only [List.length_append, List.length_cons, List.length_nil]
  omega
theorem bodyL_len (W H : Nat) (hW : W ≤ 1024) (hH : H ≤ 1024) (l : List (Nat × Nat)) (ho : okFrom W H 0 0 l) : (bodyL l).length ≤ 9 * l.length + 6 * H + 3 := by
  unfold bodyL
  have h1 := wrapL_cost (segs none 0 0 l ++ [[33]]) 0
  rw [cost_app] at h1
  have h2 := cost_all W H hW hH l ho
  have h3 : cost [[(33 : UInt8)]] = 2 := rfl
  simp only [List.length_append, List.length_cons, List.length_nil]
  omega
theorem textL_len (W H : Nat) (hW : W ≤ 1024) (hH : H ≤ 1024) (l : List (Nat × Nat)) (ho : okFrom W H 0 0 l) (hl : l.length ≤ 20000) : (textL W H l).length ≤ 200000 := by
  unfold textL
  have h1 := headL_len W H hW hH
  have h2 := bodyL_len W H hW hH l ho
  simp only [List.length_append, List.length_cons]
  omega

/-! P5.4 -/
theorem headL_no10 (W H : Nat) : ∀ c ∈ headL W H, c ≠ 10 := by
  intro c hc
  unfold headL at hc
  have hd : ∀ u, c ∈ Lib.decDigits u → c ≠ 10 := fun u h e => (dig_not (dec_dig u c h)).1 (Or.inr e)
  rcases List.mem_append.1 hc with hc | hc
  · rcases List.mem_append.1 hc with hc | hc
    · exact (show ∀ c ∈ ([120, 32, 61, 32] : List UInt8), c ≠ 10 by decide) c hc
    · exact hd W hc
  · rcases List.mem_append.1 hc with hc | hc
    · rcases List.mem_append.1 hc with hc | hc
      · exact (show ∀ c ∈ ([44, 32, 121, 32, 61, 32] : List UInt8), c ≠ 10 by decide) c hc
      · exact hd H hc
    · exact (show ∀ c ∈ ([44, 32, 114, 117, 108, 101, 32, 61, 32, 66, 51, 47, 83, 50, 51] : List UInt8), c ≠ 10 by decide) c hc
theorem parse_text (W H : Nat) (hW : W ≤ 1024) (hH : H ≤ 1024) (l : List (Nat × Nat)) (ho : okFrom W H 0 0 l) (hl : l.length ≤ 20000) : parseL (textL W H l) = ((W, H, l), 0, 0) := by
  have hlen := textL_len W H hW hH l ho hl
  have hc : commL (textL W H l) false 0 = some (textL W H l, 0) := rfl
  have hx : cutL 10 (textL W H l) = some (headL W H, bodyL l) := cutL_at 10 _ _ (headL_no10 W H)
  unfold parseL
  rw [if_neg (by omega), hc]
  simp only [hx, header_head W H hW hH, runsP_body W H hW hH l ho hl]

/-! What is parsed is a pattern -/
/-- The place behind the last of cells. -/
def lastP (x y : Nat) : List (Nat × Nat) → Nat × Nat
  | [] => (x, y)
  | c :: r => lastP (c.1 + 1) c.2 r
theorem okFrom_app (W H : Nat) : ∀ (a b : List (Nat × Nat)) (x y : Nat), okFrom W H x y a → okFrom W H (lastP x y a).1 (lastP x y a).2 b → okFrom W H x y (a ++ b)
  | [], _, _, _, _, h => h
  | _ :: r, b, _, _, ⟨h1, h2, h3, h4⟩, h => ⟨h1, h2, h3, okFrom_app W H r b _ _ h4 h⟩
theorem lastP_app : ∀ (a b : List (Nat × Nat)) (x y : Nat), lastP x y (a ++ b) = lastP (lastP x y a).1 (lastP x y a).2 b
  | [], _, _, _ => rfl
  | _ :: r, b, _, _ => lastP_app r b _ _
theorem okFrom_row (W H y : Nat) (hy : y < H) : ∀ (k x : Nat), x + k ≤ W → okFrom W H x y ((List.range k).map fun j => (x + j, y)) ∧ lastP x y ((List.range k).map fun j => (x + j, y)) = (x + k, y)
  | 0, x, _ => ⟨trivial, rfl⟩
  | k + 1, x, h => by
    have he : (List.range (k + 1)).map (fun j => (x + j, y)) = (x, y) :: (List.range k).map fun j => (x + 1 + j, y) := by
      rw [List.range_succ_eq_map, List.map_cons, List.map_map]
      congr 1
      apply List.map_congr_left
      intro j _
      simp only [Function.comp]
      exact Prod.ext (by simp; omega) rfl
    obtain ⟨h1, h2⟩ := okFrom_row W H y hy k (x + 1) (by omega)
    rw [he]
    refine ⟨⟨Or.inr ⟨rfl, Nat.le_refl _⟩, by simp only []; omega, hy, h1⟩, ?_⟩
    simp only [lastP]
    rw [h2]
    exact Prod.ext (by simp; omega) rfl
theorem okFrom_lift (W H x y x' y' : Nat) (h : y < y' ∨ (y' = y ∧ x ≤ x')) : ∀ (l : List (Nat × Nat)), okFrom W H x' y' l → okFrom W H x y l
  | [], _ => trivial
  | c :: r, ⟨h1, h2, h3, h4⟩ => ⟨by omega, h2, h3, h4⟩
/-- What holds all along runs. -/
def good (W H : Nat) (s : RSt) : Prop := okFrom W H 0 0 s.cells ∧ ((lastP 0 0 s.cells).2 < s.y ∨ (s.y = (lastP 0 0 s.cells).2 ∧ (lastP 0 0 s.cells).1 ≤ s.x)) ∧ s.cells.length ≤ 20000
theorem good_step (W H : Nat) (s s' : RSt) (c : UInt8) (h : good W H s) (hs : rstep W H s c = some s') : good W H s' := by
  obtain ⟨h1, h2, h3⟩ := h
  unfold rstep at hs
  by_cases c1 : c = 32 ∨ c = 10
  · rw [if_pos c1] at hs
    split at hs
    · cases hs
    · obtain rfl := Option.some.inj hs; exact ⟨h1, h2, h3⟩
  rw [if_neg c1] at hs
  by_cases c2 : isDig c = true
  · rw [if_pos c2] at hs
    split at hs
    · cases hs
    · obtain rfl := Option.some.inj hs; exact ⟨h1, h2, h3⟩
  rw [if_neg c2] at hs
  by_cases c3 : c = 36
  · rw [if_pos c3] at hs
    split at hs
    · cases hs
    · obtain rfl := Option.some.inj hs
      exact ⟨h1, Or.inl (by simp only []; omega), h3⟩
  rw [if_neg c3] at hs
  by_cases c4 : c = 98
  · rw [if_pos c4] at hs
    split at hs
    · cases hs
    · obtain rfl := Option.some.inj hs
      exact ⟨h1, by simp only []; omega, h3⟩
  rw [if_neg c4] at hs
  by_cases c5 : c = 111
  · rw [if_pos c5] at hs
    split at hs
    · cases hs
    · rename_i hk
      obtain rfl := Option.some.inj hs
      obtain ⟨r1, r2⟩ := okFrom_row W H s.y (by omega) (max s.n 1) s.x (by omega)
      refine ⟨okFrom_app W H _ _ _ _ h1 (okFrom_lift W H _ _ s.x s.y h2 _ r1), ?_, ?_⟩
      · simp only []
        have hm : max s.n 1 = (max s.n 1 - 1) + 1 := by omega
        have hl : lastP 0 0 (s.cells ++ (List.range (max s.n 1)).map fun j => (s.x + j, s.y)) = (s.x + max s.n 1, s.y) := by
          rw [lastP_app, ← r2, hm, List.range_succ_eq_map]
          rfl
        rw [hl]
        exact Or.inr ⟨rfl, Nat.le_refl _⟩
      · simp only [List.length_append, List.length_map, List.length_range]; omega
  · rw [if_neg c5] at hs; cases hs
theorem good_runs (W H : Nat) : ∀ (t : List UInt8) (i : Nat) (s : RSt) (l : List (Nat × Nat)) (k : Nat), good W H s → runsP W H t i s = (l, 0, k) → okFrom W H 0 0 l ∧ l.length ≤ 20000
  | [], i, s, l, k, _, h => by simp [runsP] at h
  | c :: r, i, s, l, k, hg, h => by
    simp only [runsP] at h
    by_cases hc : c = 33 ∧ s.n = 0
    · rw [if_pos hc] at h
      by_cases hb : r.all blank = true
      · rw [if_pos hb] at h
        simp only [Prod.mk.injEq] at h
        rw [← h.1]
        exact ⟨hg.1, hg.2.2⟩
      · rw [if_neg hb] at h
        simp at h
    · rw [if_neg hc] at h
      cases hs : rstep W H s c with
      | none => rw [hs] at h; simp at h
      | some m =>
        rw [hs] at h
        exact good_runs W H r (i + 1) m l k (good_step W H s m c hg hs) h
theorem parse_good (s : List UInt8) (W H k : Nat) (l : List (Nat × Nat)) (h : parseL s = ((W, H, l), 0, k)) : W ≤ 1024 ∧ H ≤ 1024 ∧ okFrom W H 0 0 l ∧ l.length ≤ 20000 := by
  unfold parseL at h
  by_cases h0 : 200000 < s.length
  · rw [if_pos h0] at h; simp at h
  rw [if_neg h0] at h
  split at h
  · simp at h
  · split at h
    · simp at h
    · split at h
      · simp at h
      · rename_i hh
        split at h
        · rename_i hr
          simp only [Prod.mk.injEq] at h
          obtain ⟨⟨rfl, rfl, rfl⟩, _⟩ := h
          have := headerL_le hh
          exact ⟨this.1, this.2, good_runs _ _ _ _ ⟨0, 0, 0, []⟩ _ _ ⟨trivial, Or.inr ⟨rfl, Nat.le_refl _⟩, by simp⟩ hr⟩
        · simp at h
/-- What is parsed, is parsed from its own text too. -/
theorem parse_again (s : List UInt8) (W H k : Nat) (l : List (Nat × Nat)) (h : parseL s = ((W, H, l), 0, k)) : parseL (textL W H l) = ((W, H, l), 0, 0) := by
  obtain ⟨h1, h2, h3, h4⟩ := parse_good s W H k l h
  exact parse_text W H h1 h2 l h3 h4
end Go.Proofs.YtnfjmmkokhncoaaGreat
end

section

end

section

end
