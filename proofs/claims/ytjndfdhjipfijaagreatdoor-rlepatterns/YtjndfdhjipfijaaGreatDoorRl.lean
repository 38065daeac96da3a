/- Plain mathematics of layer 5: runs of cells as bytes; a pattern's text is parsed to it. No program is named here. -/
import Derived.Lib.ItoaNum
namespace Go.Proofs.YtjndfdhjipfijaaGreatDoor
open Go

/-- The place, the number read so far, the cells. -/
structure RSt where
  x : Nat
  y : Nat
  n : Nat
  cells : List (Nat × Nat)
def isDig (c : UInt8) : Bool := decide (48 ≤ c.toNat) && decide (c.toNat ≤ 57)
/-- One byte of runs (but for the !); none: it isn't allowed. -/
def rstep (W H : Nat) (s : RSt) (c : UInt8) : Option RSt :=
  if c = 32 ∨ c = 10 then (if 0 < s.n then none else some s)
  else if isDig c = true then (if 10 * s.n + (c.toNat - 48) = 0 ∨ 1024 < 10 * s.n + (c.toNat - 48) then none else some { s with n := 10 * s.n + (c.toNat - 48) })
  else if c = 36 then (if 1024 < s.y + max s.n 1 then none else some { s with y := s.y + max s.n 1, x := 0, n := 0 })
  else if c = 98 then (if W < s.x + max s.n 1 then none else some { s with x := s.x + max s.n 1, n := 0 })
  else if c = 111 then (if W < s.x + max s.n 1 ∨ H ≤ s.y ∨ 20000 < s.cells.length + max s.n 1 then none
    else some { x := s.x + max s.n 1, y := s.y, n := 0, cells := s.cells ++ (List.range (max s.n 1)).map fun j => (s.x + j, s.y) })
  else none
def blank (c : UInt8) : Bool := c == 32 || c == 10
/-- Runs from byte i on: the cells; the error's number, and where. -/
def runsP (W H : Nat) : List UInt8 → Nat → RSt → List (Nat × Nat) × Nat × Nat
  | [], i, _ => ([], 2, i)
  | c :: r, i, s =>
    if c = 33 ∧ s.n = 0 then (if r.all blank = true then (s.cells, 0, 0) else ([], 5, i + 1))
    else match rstep W H s c with
      | none => ([], 3, i)
      | some s' => runsP W H r (i + 1) s'
/-- Bytes, one after the other. -/
def feed (W H : Nat) : List UInt8 → RSt → Option RSt
  | [], s => some s
  | c :: r, s => (rstep W H s c).bind (feed W H r)
theorem feed_app (W H : Nat) : ∀ (a b : List UInt8) (s : RSt), feed W H (a ++ b) s = (feed W H a s).bind (feed W H b)
  | [], _, _ => rfl
  | c :: r, b, s => by
    simp only [List.cons_append, feed]
    cases h : rstep W H s c with
    | none => rfl
    | some s' => exact feed_app W H r b s'
theorem runsP_feed (W H : Nat) : ∀ (a rest : List UInt8) (i : Nat) (s s' : RSt), (∀ c ∈ a, c ≠ 33) → feed W H a s = some s' → runsP W H (a ++ rest) i s = runsP W H rest (i + a.length) s'
  | [], rest, i, s, s', _, h => by simp only [feed, Option.some.injEq] at h; rw [h]; rfl
  | c :: r, rest, i, s, s', hc, h => by
    simp only [feed] at h
    cases hs : rstep W H s c with
    | none => rw [hs] at h; cases h
    | some m =>
      rw [hs] at h
      simp only [List.cons_append, runsP]
      rw [if_neg (fun e => hc c (by simp) e.1), hs]
      have := runsP_feed W H r rest (i + 1) m s' (fun d hd => hc d (by simp [hd])) h
      simp only [List.length_cons]
      rw [show i + (r.length + 1) = i + 1 + r.length by omega]
      exact this

/-! Digits -/
theorem fig_nat (d : Nat) (h : d < 10) : (UInt8.ofNat (48 + d)).toNat = 48 + d := by
  simp [UInt8.toNat_ofNat']; omega
theorem fig_dig (d : Nat) (h : d < 10) : isDig (UInt8.ofNat (48 + d)) = true := by
  unfold isDig
  rw [fig_nat d h]
  simp; omega
theorem dig_not {c : UInt8} (h : isDig c = true) : ¬ (c = 32 ∨ c = 10) ∧ c ≠ 33 ∧ c ≠ 44 ∧ c ≠ 61 := by
  unfold isDig at h
  simp only [Bool.and_eq_true, decide_eq_true_eq] at h
  refine ⟨?_, ?_, ?_, ?_⟩
  · rintro (rfl | rfl) <;> simp at h
  · rintro rfl; simp at h
  · rintro rfl; simp at h
  · rintro rfl; simp at h
theorem dec_dig : ∀ (u : Nat) (c : UInt8), c ∈ Lib.decDigits u → isDig c = true := by
  intro u
  induction u using Nat.strongRecOn with
  | _ u ih =>
    intro c hc
    rw [Lib.decDigits] at hc
    by_cases h : u < 10
    · rw [dif_pos h] at hc
      rw [List.mem_singleton.1 hc]
      exact fig_dig u h
    · rw [dif_neg h] at hc
      rcases List.mem_append.1 hc with hc | hc
      · exact ih (u / 10) (by omega) c hc
      · rw [List.mem_singleton.1 hc]
        exact fig_dig (u % 10) (by omega)
theorem rstep_dig (W H : Nat) (s : RSt) (d : Nat) (hd : d < 10) (h0 : 10 * s.n + d ≠ 0) (h1 : 10 * s.n + d ≤ 1024) : rstep W H s (UInt8.ofNat (48 + d)) = some { s with n := 10 * s.n + d } := by
  unfold rstep
  rw [if_neg (dig_not (fig_dig d hd)).1, if_pos (fig_dig d hd), fig_nat d hd, show 48 + d - 48 = d by omega, if_neg (by omega)]
theorem feed_dec (W H : Nat) (x y : Nat) (l : List (Nat × Nat)) : ∀ (u : Nat), 1 ≤ u → u ≤ 1024 → feed W H (Lib.decDigits u) ⟨x, y, 0, l⟩ = some ⟨x, y, u, l⟩ := by
  intro u
  induction u using Nat.strongRecOn with
  | _ u ih =>
    intro h0 h1
    rw [Lib.decDigits]
    by_cases h : u < 10
    · rw [dif_pos h]
      simp only [feed]
      rw [rstep_dig W H _ u h (by simp; omega) (by simp; omega)]
      simp
    · rw [dif_neg h, feed_app, ih (u / 10) (by omega) (by omega) (by omega)]
      simp only [Option.bind_some, feed]
      rw [rstep_dig W H _ (u % 10) (by omega) (by simp; omega) (by simp; omega)]
      simp only [Option.bind_some, Option.some.injEq, RSt.mk.injEq, true_and, and_true]
      omega

/-! Runs -/
/-- A run as bytes. -/
def runL (k : Nat) (tag : UInt8) : List UInt8 := if k < 1 then [] else if k = 1 then [tag] else Lib.decDigits k ++ [tag]
theorem runL_not33 (k : Nat) (tag : UInt8) (h : tag ≠ 33) : ∀ c ∈ runL k tag, c ≠ 33 := by
  intro c hc
  unfold runL at hc
  by_cases h1 : k < 1
  · rw [if_pos h1] at hc; cases hc
  · rw [if_neg h1] at hc
    by_cases h2 : k = 1
    · rw [if_pos h2] at hc; rw [List.mem_singleton.1 hc]; exact h
    · rw [if_neg h2] at hc
      rcases List.mem_append.1 hc with hc | hc
      · exact (dig_not (dec_dig k c hc)).2.1
      · rw [List.mem_singleton.1 hc]; exact h
/-- A run's bytes are its number, and its letter. -/
theorem feed_run (W H x y k : Nat) (l : List (Nat × Nat)) (tag : UInt8) (h1 : 1 ≤ k) (h2 : k ≤ 1024) (s' : RSt) (hn : k = 1 → rstep W H ⟨x, y, 0, l⟩ tag = some s') (hk : rstep W H ⟨x, y, k, l⟩ tag = some s') : feed W H (runL k tag) ⟨x, y, 0, l⟩ = some s' := by
  unfold runL
  rw [if_neg (by omega)]
  by_cases h : k = 1
  · rw [if_pos h]
    simp only [feed]
    rw [hn h]; rfl
  · rw [if_neg h, feed_app, feed_dec W H x y l k h1 h2]
    simp only [Option.bind_some, feed]
    rw [hk]; rfl
theorem step_b (W H x y k : Nat) (l : List (Nat × Nat)) (h : x + max k 1 ≤ W) : rstep W H ⟨x, y, k, l⟩ 98 = some ⟨x + max k 1, y, 0, l⟩ := by
  unfold rstep
  rw [if_neg (by decide), if_neg (by decide), if_neg (by decide), if_pos rfl, if_neg (by simp only []; omega)]
theorem step_d (W H x y k : Nat) (l : List (Nat × Nat)) (h : y + max k 1 ≤ 1024) : rstep W H ⟨x, y, k, l⟩ 36 = some ⟨0, y + max k 1, 0, l⟩ := by
  unfold rstep
  rw [if_neg (by decide), if_neg (by decide), if_pos rfl, if_neg (by simp only []; omega)]
theorem step_o (W H x y k : Nat) (l : List (Nat × Nat)) (h1 : x + max k 1 ≤ W) (h2 : y < H) (h3 : l.length + max k 1 ≤ 20000) : rstep W H ⟨x, y, k, l⟩ 111 = some ⟨x + max k 1, y, 0, l ++ (List.range (max k 1)).map fun j => (x + j, y)⟩ := by
  unfold rstep
  rw [if_neg (by decide), if_neg (by decide), if_neg (by decide), if_neg (by decide), if_pos rfl, if_neg (by simp only []; omega)]
theorem feed_b (W H x y k : Nat) (l : List (Nat × Nat)) (h2 : k ≤ 1024) (h : x + k ≤ W) : feed W H (runL k 98) ⟨x, y, 0, l⟩ = some ⟨x + k, y, 0, l⟩ := by
  by_cases h1 : k < 1
  · obtain rfl : k = 0 := by omega
    rfl
  · refine feed_run W H x y k l 98 (by omega) h2 _ (fun e => ?_) ?_
    · subst e; exact step_b W H x y 0 l (by simpa using h)
    · have := step_b W H x y k l (by omega)
      rw [show max k 1 = k by omega] at this
      exact this
theorem feed_d (W H x y k : Nat) (l : List (Nat × Nat)) (h1 : 1 ≤ k) (h : y + k ≤ 1024) : feed W H (runL k 36) ⟨x, y, 0, l⟩ = some ⟨0, y + k, 0, l⟩ := by
  refine feed_run W H x y k l 36 h1 (by omega) _ (fun e => ?_) ?_
  · subst e; exact step_d W H x y 0 l (by simpa using h)
  · have := step_d W H x y k l (by omega)
    rw [show max k 1 = k by omega] at this
    exact this
theorem feed_o (W H x y k : Nat) (l : List (Nat × Nat)) (h0 : 1 ≤ k) (hk : k ≤ 1024) (h1 : x + k ≤ W) (h2 : y < H) (h3 : l.length + k ≤ 20000) : feed W H (runL k 111) ⟨x, y, 0, l⟩ = some ⟨x + k, y, 0, l ++ (List.range k).map fun j => (x + j, y)⟩ := by
  refine feed_run W H x y k l 111 h0 hk _ (fun e => ?_) ?_
  · subst e; exact step_o W H x y 0 l (by simpa using h1) h2 (by simpa using h3)
  · have := step_o W H x y k l (by omega) h2 (by omega)
    rw [show max k 1 = k by omega] at this
    exact this

/-! A row of runs, with line ends between -/
/-- Runs that lead from one place to another. -/
def chain (W H : Nat) : List (List UInt8) → RSt → RSt → Prop
  | [], s, s' => s = s'
  | r :: rs, s, s' => ∃ m : RSt, feed W H r s = some m ∧ m.n = 0 ∧ (∀ c ∈ r, c ≠ 33) ∧ chain W H rs m s'
theorem chain_app (W H : Nat) : ∀ (a b : List (List UInt8)) (s m s' : RSt), chain W H a s m → chain W H b m s' → chain W H (a ++ b) s s'
  | [], b, s, m, s', h, k => by rw [show s = m from h]; exact k
  | r :: rs, b, s, m, s', ⟨q, h1, h2, h3, h4⟩, k => ⟨q, h1, h2, h3, chain_app W H rs b q m s' h4 k⟩
/-- Line ends ahead of a run that would make its line longer than 70 bytes. -/
def wrapL : Nat → List (List UInt8) → List UInt8
  | _, [] => []
  | wd, r :: rs => if 70 < wd + r.length then 10 :: (r ++ wrapL r.length rs) else r ++ wrapL (wd + r.length) rs
theorem runsP_wrap (W H : Nat) : ∀ (rs : List (List UInt8)) (wd i : Nat) (rest : List UInt8) (s s' : RSt), s.n = 0 → chain W H rs s s' → runsP W H (wrapL wd rs ++ rest) i s = runsP W H rest (i + (wrapL wd rs).length) s'
  | [], wd, i, rest, s, s', _, h => by rw [show s = s' from h]; rfl
  | r :: rs, wd, i, rest, s, s', hn, ⟨m, h1, h2, h3, h4⟩ => by
    simp only [wrapL]
    by_cases h : 70 < wd + r.length
    · rw [if_pos h]
      simp only [List.cons_append, runsP]
      rw [if_neg (fun e => absurd e.1 (by decide))]
      have hs : rstep W H s 10 = some s := by unfold rstep; rw [if_pos (Or.inr rfl), if_neg (by omega)]
      rw [hs]
      simp only []
      rw [List.append_assoc, runsP_feed W H r _ (i + 1) s m h3 h1, runsP_wrap W H rs r.length _ rest m s' h2 h4]
      simp only [List.length_cons, List.length_append]
      rw [show i + 1 + r.length + (wrapL r.length rs).length = i + (r.length + (wrapL r.length rs).length + 1) by omega]
    · rw [if_neg h, List.append_assoc, runsP_feed W H r _ i s m h3 h1, runsP_wrap W H rs (wd + r.length) _ rest m s' h2 h4]
      simp only [List.length_append]
      rw [show i + r.length + (wrapL (wd + r.length) rs).length = i + (r.length + (wrapL (wd + r.length) rs).length) by omega]
end Go.Proofs.YtjndfdhjipfijaaGreatDoor
