-- M17
import Derived.Test.YtaapkngpnlnjeaaGreatM16
import Derived.Lib.Builder
import Derived.Lib.AppendStr
import Derived.Lib.UnsafeStr
import Derived.Lib.MakeNoZero
import Derived.Lib.Strings
import Derived.Lib.Slices
import Derived.Lib.Walk
import Derived.Laws.Externs
import Derived.Laws.IdiomCopy
import Derived.Shelf.RegionOpenPlain
import Derived.Lib.FrozenHead
import Derived.Lib.OthersKept
import Derived.Test.YtaapkngpnlnjeaaGreatProg
import Derived.WalkKit
import Derived.WalkLawsBesides
import Derived.Lib.Hide
import Derived.Lib.ItoaNum
import Derived.Deep.QuietTactic
import Derived.BigQuiet
import Derived.IntWalk
import Derived.Laws.DeepStrings4
section
namespace Go.Proofs.YtaapkngpnlnjeaaGreat
open Go.RowKit

theorem Tryz.cellsU8 : Tryz.prog.cellsOf 5 = 1 := by kernel_rfl
theorem Own.ne {w : World} {B : Nat} {v : Value} {n : Nat} {xs : List Value} {b : Nat} {cs : Array Value} {T : TypeId} {fr : Nat × Nat} (hown : w.ownsRow B 5 1 v n xs) (hb : w.heap[b]? = some (.cells cs T fr)) (hT : T ≠ 5) : v.ownBlock ≠ some b := by
  rcases hown.2 with ⟨rfl, _⟩ | ⟨g, cap, cur, rfl, _, hg, _⟩
  · simp [Value.ownBlock]
  · intro h
    simp only [Value.ownBlock, Option.some.injEq] at h
    subst h
    rw [hg] at hb
    simp only [Option.some.injEq, Obj.cells.injEq] at hb
    exact hT hb.2.1.symm

/-- What a writer's methods keep: all below block B, and every block but the writer's and its bytes'. -/
def Kp (B b : Nat) (w w' : World) : Prop := Below B w w' ∧ Lib.OthersKept 5 (some b) w w'
theorem Kp.refl (B b : Nat) (w : World) : Kp B b w w := ⟨Below.refl _ _, Lib.OthersKept.refl _ _ _⟩
theorem Kp.trans {B b : Nat} {w w1 w2 : World} (h : Kp B b w w1) (k : Kp B b w1 w2) : Kp B b w w2 := ⟨h.1.trans k.1, h.2.trans k.2⟩
theorem Kp.of {B b : Nat} {w w' : World} (h : Below w.heap.size w w') (hB : B ≤ w.heap.size) : Kp B b w w' :=
  ⟨h.mono hB, fun k o hk _ _ => by rw [h.block k (Array.getElem?_eq_some_iff.1 hk).1]; exact hk⟩
theorem Kp.setCell {B b : Nat} {w0 w : World} (h : Kp B b w0 w) (hB : B ≤ b) (k : Nat) (v : Value) : Kp B b w0 (w.setCell ⟨b, k, none⟩ v) := ⟨h.1.setCell (p := ⟨b, k, none⟩) hB _, h.2.setCell ⟨b, k, none⟩ rfl _⟩
theorem own_kind {w : World} {B : Nat} {v : Value} {n : Nat} {xs : List Value} (h : w.ownsRow B 5 1 v n xs) (g : Nat) (hg : v.ownBlock = some g) : ∃ c fz, w.heap[g]? = some (.cells c 5 fz) := Lib.ownsRowF_kind (World.ownsRowF_of h) g hg

end Go.Proofs.YtaapkngpnlnjeaaGreat
end

section
namespace Go.Proofs.YtaapkngpnlnjeaaGreat
open Go.RowKit Go.Extern.Stop Go.Stop Go.Extern

/-- The figure d as a byte. -/
def fig (d : Nat) : UInt8 := UInt8.ofNat (48 + d)
theorem dec_small (u : Nat) (h : u < 10) : Lib.decDigits u = [fig u] := by rw [Lib.decDigits]; simp [h, fig]
theorem dec_great (u : Nat) (h : ¬ u < 10) : Lib.decDigits u = Lib.decDigits (u / 10) ++ [fig (u % 10)] := by rw [Lib.decDigits]; simp [h, fig]
theorem itoa_nat (u : Nat) : Lib.itoa (u : Int) = Lib.decDigits u := by unfold Lib.itoa; rw [if_neg (by omega)]; rfl
theorem itoa_neg (u : Nat) (h : 0 < u) : Lib.itoa (-(u : Int)) = 45 :: Lib.decDigits u := by unfold Lib.itoa; rw [if_pos (by omega)]; simp

/-- One figure out of the row of all. -/
theorem figure (d : Nat) (h : d < 10) : (⟨#[48, 49, 50, 51, 52, 53, 54, 55, 56, 57]⟩ : ByteArray).extract d (d + 1) = ⟨#[fig d]⟩ := by
  match d, h with
  | 0, _ | 1, _ | 2, _ | 3, _ | 4, _ | 5, _ | 6, _ | 7, _ | 8, _ | 9, _ => rfl
theorem slice_figure (x : Int) (d : Nat) (hx : x = d) (h : d < 10) (w : World) :
    (Instr.slice 9 (.string ⟨#[48, 49, 50, 51, 52, 53, 54, 55, 56, 57]⟩) (some (.int .i64 x)) (some (.int .i64 (x + 1))) none).run Tryz.prog w = .ok (.string ⟨#[fig d]⟩) w := by
  subst hx
  have hsz : ((⟨#[48, 49, 50, 51, 52, 53, 54, 55, 56, 57]⟩ : ByteArray).size : Int) = 10 := rfl
  rw [run_slice_string_if _ _ _ _ _ _ _ Tryz.underlying9, if_pos ⟨by omega, by rw [hsz]; omega⟩, if_pos ⟨by omega, by omega⟩]
  rw [show ((d : Int) + 1).toNat = d + 1 by omega, Int.toNat_natCast, figure d h]

/-- What a string is, by its bytes. -/
theorem str_eq {a b : List UInt8} (h : a = b) : Ending.returned (.string ⟨a.toArray⟩) = .returned (.string ⟨b.toArray⟩) := by rw [h]
theorem cat_mk (a b : List UInt8) : (⟨a.toArray⟩ : ByteArray) ++ ⟨b.toArray⟩ = ⟨(a ++ b).toArray⟩ := by
  apply ByteArray.ext; simp [ByteArray.data_append]
theorem nDigits_le : ∀ (k u : Nat), 1 ≤ k → u < 10 ^ k → Lib.nDigits u ≤ k
  | 0, _, h, _ => by omega
  | 1, u, _, h => by rw [Lib.nDigits_small (by simpa using h)]; omega
  | k + 2, u, _, h => by
    by_cases hs : u < 10
    · rw [Lib.nDigits_small hs]; omega
    · rw [Lib.nDigits_big hs]
      have := nDigits_le (k + 1) (u / 10) (by omega) (by rw [Nat.pow_succ] at h; omega)
      omega
theorem dec_len (u : Nat) (h : (u : Int) ≤ 9223372036854775808) : (Lib.decDigits u).length ≤ 19 := by
  rw [Lib.decDigits_length]; exact nDigits_le 19 u (by omega) (by have : (10 : Nat) ^ 19 = 10000000000000000000 := by decide
                                                                  omega)
theorem itoa_len (n : Int) (h0 : -9223372036854775808 ≤ n) (h1 : n ≤ 9223372036854775807) : (Lib.itoa n).length ≤ 20 := by
  unfold Lib.itoa
  split
  · have := dec_len n.natAbs (by omega); simp; omega
  · have := dec_len n.toNat (by omega); omega

end Go.Proofs.YtaapkngpnlnjeaaGreat
end

section
namespace Go.Proofs.YtaapkngpnlnjeaaGreat
open Go

/-- The place, the number read so far, the cells. -/
structure RSt where
  x : Nat
  y : Nat
  n : Nat
  cells : List (Nat × Nat)
def isDig (c : UInt8) : Bool := decide (48 ≤ c.toNat) && decide (c.toNat ≤ 57)
/-- One byte of runs (but for the !); none: it isn't allowed. -/
def rstep (W H : Nat) (s : RSt) (c : UInt8) : Option RSt :=
  if c = 32 ∨ c = 10 then (if 0 < s.n then none else some s)
  else if isDig c = true then (if 10 * s.n + (c.toNat - 48) = 0 ∨ 1024 < 10 * s.n + (c.toNat - 48) then none else some { s with n := 10 * s.n + (c.toNat - 48) })
  else if c = 36 then (if 1024 < s.y + max s.n 1 then none else some { s with y := s.y + max s.n 1, x := 0, n := 0 })
  else if c = 98 then (if W < s.x + max s.n 1 then none else some { s with x := s.x + max s.n 1, n := 0 })
  else if c = 111 then (if W < s.x + max s.n 1 ∨ H ≤ s.y ∨ 20000 < s.cells.length + max s.n 1 then none
    else some { x := s.x + max s.n 1, y := s.y, n := 0, cells := s.cells ++ (List.range (max s.n 1)).map fun j => (s.x + j, s.y) })
  else none
def blank (c : UInt8) : Bool := c == 32 || c == 10
/-- Runs from byte i on: the cells; the error's number, and where. -/
def runsP (W H : Nat) : List UInt8 → Nat → RSt → List (Nat × Nat) × Nat × Nat
  | [], i, _ => ([], 2, i)
  | c :: r, i, s =>
    if c = 33 ∧ s.n = 0 then (if r.all blank = true then (s.cells, 0, 0) else ([], 5, i + 1))
    else match rstep W H s c with
      | none => ([], 3, i)
      | some s' => runsP W H r (i + 1) s'
/-- Bytes, one after the other. -/
def feed (W H : Nat) : List UInt8 → RSt → Option RSt
  | [], s => some s
  | c :: r, s => (rstep W H s c).bind (feed W H r)
theorem feed_app (W H : Nat) : ∀ (a b : List UInt8) (s : RSt), feed W H (a ++ b) s = (feed W H a s).bind (feed W H b)
  | [], _, _ => rfl
  | c :: r, b, s => by
    simp only [List.cons_append, feed]
    cases h : rstep W H s c with
    | none => rfl
    | some s' => exact feed_app W H r b s'
theorem runsP_feed (W H : Nat) : ∀ (a rest : List UInt8) (i : Nat) (s s' : RSt), (∀ c ∈ a, c ≠ 33) → feed W H a s = some s' → runsP W H (a ++ rest) i s = runsP W H rest (i + a.length) s'
  | [], rest, i, s, s', _, h => by simp only [feed, Option.some.injEq] at h; rw [h]; rfl
  | c :: r, rest, i, s, s', hc, h => by
    simp only [feed] at h
    cases hs : rstep W H s c with
    | none => rw [hs] at h; cases h
    | some m =>
      rw [hs] at h
      simp only [List.cons_append, runsP]
      rw [if_neg (fun e => hc c (by simp) e.1), hs]
      have := runsP_feed W H r rest (i + 1) m s' (fun d hd => hc d (by simp [hd])) h
      simp only [List.length_cons]
      rw [show i + (r.length + 1) = i + 1 + r.length by omega]
      exact this

/-! Digits -/
theorem fig_nat (d : Nat) (h : d < 10) : (UInt8.ofNat (48 + d)).toNat = 48 + d := by
  simp [UInt8.toNat_ofNat']; omega
theorem fig_dig (d : Nat) (h : d < 10) : isDig (UInt8.ofNat (48 + d)) = true := by
  unfold isDig
  rw [fig_nat d h]
  simp; omega
theorem dig_not {c : UInt8} (h : isDig c = true) : ¬ (c = 32 ∨ c = 10) ∧ c ≠ 33 ∧ c ≠ 44 ∧ c ≠ 61 := by
  unfold isDig at h
  simp only [Bool.and_eq_true, decide_eq_true_eq] at h
  refine ⟨?_, ?_, ?_, ?_⟩
  · rintro (rfl | rfl) <;> simp at h
  · rintro rfl; simp at h
  · rintro rfl; simp at h
  · rintro rfl; simp at h
theorem dec_dig : ∀ (u : Nat) (c : UInt8), c ∈ Lib.decDigits u → isDig c = true := by
  intro u
  induction u using Nat.strongRecOn with
  | _ u ih =>
    intro c hc
    rw [Lib.decDigits] at hc
    by_cases h : u < 10
    · rw [dif_pos h] at hc
      rw [List.mem_singleton.1 hc]
      exact fig_dig u h
    · rw [dif_neg h] at hc
      rcases List.mem_append.1 hc with hc | hc
      · exact ih (u / 10) (by omega) c hc
      · rw [List.mem_singleton.1 hc]
        exact fig_dig (u % 10) (by omega)
theorem rstep_dig (W H : Nat) (s : RSt) (d : Nat) (hd : d < 10) (h0 : 10 * s.n + d ≠ 0) (h1 : 10 * s.n + d ≤ 1024) : rstep W H s (UInt8.ofNat (48 + d)) = some { s with n := 10 * s.n + d } := by
  unfold rstep
  rw [if_neg (dig_not (fig_dig d hd)).1, if_pos (fig_dig d hd), fig_nat d hd, show 48 + d - 48 = d by omega, if_neg (by omega)]
theorem feed_dec (W H : Nat) (x y : Nat) (l : List (Nat × Nat)) : ∀ (u : Nat), 1 ≤ u → u ≤ 1024 → feed W H (Lib.decDigits u) ⟨x, y, 0, l⟩ = some ⟨x, y, u, l⟩ := by
  intro u
  induction u using Nat.strongRecOn with
  | _ u ih =>
    intro h0 h1
    rw [Lib.decDigits]
    by_cases h : u < 10
    · rw [dif_pos h]
      simp only [feed]
      rw [rstep_dig W H _ u h (by simp; omega) (by simp; omega)]
      simp
    · rw [dif_neg h, feed_app, ih (u / 10) (by omega) (by omega) (by omega)]
      simp only [Option.bind_some, feed]
      rw [rstep_dig W H _ (u % 10) (by omega) (by simp; omega) (by simp; omega)]
      simp only [Option.bind_some, Option.some.injEq, RSt.mk.injEq, true_and, and_true]
      omega

/-! Runs -/
/-- A run as bytes. -/
def runL (k : Nat) (tag : UInt8) : List UInt8 := if k < 1 then [] else if k = 1 then [tag] else Lib.decDigits k ++ [tag]
theorem runL_not33 (k : Nat) (tag : UInt8) (h : tag ≠ 33) : ∀ c ∈ runL k tag, c ≠ 33 := by
  intro c hc
  unfold runL at hc
  by_cases h1 : k < 1
  · rw [if_pos h1] at hc; cases hc
  · rw [if_neg h1] at hc
    by_cases h2 : k = 1
    · rw [if_pos h2] at hc; rw [List.mem_singleton.1 hc]; exact h
    · rw [if_neg h2] at hc
      rcases List.mem_append.1 hc with hc | hc
      · exact (dig_not (dec_dig k c hc)).2.1
      · rw [List.mem_singleton.1 hc]; exact h
/-- A run's bytes are its number, and its letter. -/
theorem feed_run (W H x y k : Nat) (l : List (Nat × Nat)) (tag : UInt8) (h1 : 1 ≤ k) (h2 : k ≤ 1024) (s' : RSt) (hn : k = 1 → rstep W H ⟨x, y, 0, l⟩ tag = some s') (hk : rstep W H ⟨x, y, k, l⟩ tag = some s') : feed W H (runL k tag) ⟨x, y, 0, l⟩ = some s' := by
  unfold runL
  rw [if_neg (by omega)]
  by_cases h : k = 1
  · rw [if_pos h]
    simp only [feed]
    rw [hn h]; rfl
  · rw [if_neg h, feed_app, feed_dec W H x y l k h1 h2]
    simp only [Option.bind_some, feed]
    rw [hk]; rfl
theorem step_b (W H x y k : Nat) (l : List (Nat × Nat)) (h : x + max k 1 ≤ W) : rstep W H ⟨x, y, k, l⟩ 98 = some ⟨x + max k 1, y, 0, l⟩ := by
  unfold rstep
  rw [if_neg (by decide), if_neg (by decide), if_neg (by decide), if_pos rfl, if_neg (by simp only []; omega)]
theorem step_d (W H x y k : Nat) (l : List (Nat × Nat)) (h : y + max k 1 ≤ 1024) : rstep W H ⟨x, y, k, l⟩ 36 = some ⟨0, y + max k 1, 0, l⟩ := by
  unfold rstep
  rw [if_neg (by decide), if_neg (by decide), if_pos rfl, if_neg (by simp only []; omega)]
theorem step_o (W H x y k : Nat) (l : List (Nat × Nat)) (h1 : x + max k 1 ≤ W) (h2 : y < H) (h3 : l.length + max k 1 ≤ 20000) : rstep W H ⟨x, y, k, l⟩ 111 = some ⟨x + max k 1, y, 0, l ++ (List.range (max k 1)).map fun j => (x + j, y)⟩ := by
  unfold rstep
  rw [if_neg (by decide), if_neg (by decide), if_neg (by decide), if_neg (by decide), if_pos rfl, if_neg (by simp only []; omega)]
theorem feed_b (W H x y k : Nat) (l : List (Nat × Nat)) (h2 : k ≤ 1024) (h : x + k ≤ W) : feed W H (runL k 98) ⟨x, y, 0, l⟩ = some ⟨x + k, y, 0, l⟩ := by
  by_cases h1 : k < 1
  · obtain rfl : k = 0 := by omega
    rfl
  · refine feed_run W H x y k l 98 (by omega) h2 _ (fun e => ?_) ?_
    · subst e; exact step_b W H x y 0 l (by simpa using h)
    · have := step_b W H x y k l (by omega)
      rw [show max k 1 = k by omega] at this
      exact this
theorem feed_d (W H x y k : Nat) (l : List (Nat × Nat)) (h1 : 1 ≤ k) (h : y + k ≤ 1024) : feed W H (runL k 36) ⟨x, y, 0, l⟩ = some ⟨0, y + k, 0, l⟩ := by
  refine feed_run W H x y k l 36 h1 (by omega) _ (fun e => ?_) ?_
  · subst e; exact step_d W H x y 0 l (by simpa using h)
  · have := step_d W H x y k l (by omega)
    rw [show max k 1 = k by omega] at this
    exact this
theorem feed_o (W H x y k : Nat) (l : List (Nat × Nat)) (h0 : 1 ≤ k) (hk : k ≤ 1024) (h1 : x + k ≤ W) (h2 : y < H) (h3 : l.length + k ≤ 20000) : feed W H (runL k 111) ⟨x, y, 0, l⟩ = some ⟨x + k, y, 0, l ++ (List.range k).map fun j => (x + j, y)⟩ := by
  refine feed_run W H x y k l 111 h0 hk _ (fun e => ?_) ?_
  · subst e; exact step_o W H x y 0 l (by simpa using h1) h2 (by simpa using h3)
  · have := step_o W H x y k l (by omega) h2 (by omega)
    rw [show max k 1 = k by omega] at this
    exact this

/-! A row of runs, with line ends between -/
/-- Runs that lead from one place to another. -/
def chain (W H : Nat) : List (List UInt8) → RSt → RSt → Prop
  | [], s, s' => s = s'
  | r :: rs, s, s' => ∃ m : RSt, feed W H r s = some m ∧ m.n = 0 ∧ (∀ c ∈ r, c ≠ 33) ∧ chain W H rs m s'
theorem chain_app (W H : Nat) : ∀ (a b : List (List UInt8)) (s m s' : RSt), chain W H a s m → chain W H b m s' → chain W H (a ++ b) s s'
  | [], b, s, m, s', h, k => by rw [show s = m from h]; exact k
  | r :: rs, b, s, m, s', ⟨q, h1, h2, h3, h4⟩, k => ⟨q, h1, h2, h3, chain_app W H rs b q m s' h4 k⟩
/-- Line ends ahead of a run that would make its line longer than 70 bytes. -/
def wrapL : Nat → List (List UInt8) → List UInt8
  | _, [] => []
  | wd, r :: rs => if 70 < wd + r.length then 10 :: (r ++ wrapL r.length rs) else r ++ wrapL (wd + r.length) rs
theorem runsP_wrap (W H : Nat) : ∀ (rs : List (List UInt8)) (wd i : Nat) (rest : List UInt8) (s s' : RSt), s.n = 0 → chain W H rs s s' → runsP W H (wrapL wd rs ++ rest) i s = runsP W H rest (i + (wrapL wd rs).length) s'
  | [], wd, i, rest, s, s', _, h => by rw [show s = s' from h]; rfl
  | r :: rs, wd, i, rest, s, s', hn, ⟨m, h1, h2, h3, h4⟩ => by
    simp only [wrapL]
    by_cases h : 70 < wd + r.length
    · rw [if_pos h]
      simp only [List.cons_append, runsP]
      rw [if_neg (fun e => absurd e.1 (by decide))]
      have hs : rstep W H s 10 = some s := by unfold rstep; rw [if_pos (Or.inr rfl), if_neg (by omega)]
      rw [hs]
      simp only []
      rw [List.append_assoc, runsP_feed W H r _ (i + 1) s m h3 h1, runsP_wrap W H rs r.length _ rest m s' h2 h4]
      simp only [List.length_cons, List.length_append]
      rw [show i + 1 + r.length + (wrapL r.length rs).length = i + (r.length + (wrapL r.length rs).length + 1) by omega]
    · rw [if_neg h, List.append_assoc, runsP_feed W H r _ i s m h3 h1, runsP_wrap W H rs (wd + r.length) _ rest m s' h2 h4]
      simp only [List.length_append]
      rw [show i + r.length + (wrapL (wd + r.length) rs).length = i + (r.length + (wrapL (wd + r.length) rs).length) by omega]
end Go.Proofs.YtaapkngpnlnjeaaGreat
end

section
namespace Go.Proofs.YtaapkngpnlnjeaaGreat
open Go

/-- How many cells follow one, each right of the one before. -/
def stretch : Nat × Nat → List (Nat × Nat) → Nat
  | _, [] => 0
  | p, c :: r => if c.2 = p.2 ∧ c.1 = p.1 + 1 then 1 + stretch c r else 0
/-- Does a cell go on with the stretch of the one before? -/
def goesOn : Option (Nat × Nat) → Nat × Nat → Bool
  | none, _ => false
  | some p, c => decide (c.2 = p.2) && decide (c.1 = p.1 + 1)
/-- The runs of cells from a place on. -/
def segs : Option (Nat × Nat) → Nat → Nat → List (Nat × Nat) → List (List UInt8)
  | _, _, _, [] => []
  | prev, x, y, c :: r =>
    if goesOn prev c = true then segs (some c) x y r
    else ((if y < c.2 then [runL (c.2 - y) 36] else []) ++ [runL (c.1 - (if y < c.2 then 0 else x)) 98, runL (1 + stretch c r) 111]) ++ segs (some c) (c.1 + 1 + stretch c r) c.2 r
/-- Cells by rows, each once, from a place on, within sides. -/
def okFrom (W H : Nat) : Nat → Nat → List (Nat × Nat) → Prop
  | _, _, [] => True
  | x, y, c :: r => (y < c.2 ∨ (c.2 = y ∧ x ≤ c.1)) ∧ c.1 < W ∧ c.2 < H ∧ okFrom W H (c.1 + 1) c.2 r

theorem stretch_le : ∀ (p : Nat × Nat) (l : List (Nat × Nat)), stretch p l ≤ l.length
  | _, [] => Nat.le_refl _
  | p, c :: r => by
    simp only [stretch]
    split
    · have := stretch_le c r; simp; omega
    · simp
theorem stretch_take : ∀ (p : Nat × Nat) (l : List (Nat × Nat)), l.take (stretch p l) = (List.range (stretch p l)).map fun j => (p.1 + 1 + j, p.2)
  | _, [] => rfl
  | p, c :: r => by
    simp only [stretch]
    split
    · rename_i h
      rw [Nat.add_comm 1, List.take_succ_cons, stretch_take c r, List.range_succ_eq_map, List.map_cons, List.map_map]
      congr 1
      · exact Prod.ext (by simp [h.2]) h.1
      · apply List.map_congr_left
        intro j _
        simp only [Function.comp, h.1, h.2]
        exact Prod.ext (by simp; omega) rfl
    · rfl
theorem stretch_lt (W H : Nat) : ∀ (p : Nat × Nat) (l : List (Nat × Nat)), p.1 < W → okFrom W H (p.1 + 1) p.2 l → p.1 + stretch p l < W
  | _, [], h, _ => by simpa [stretch] using h
  | p, c :: r, h, ⟨_, h2, _, h4⟩ => by
    simp only [stretch]
    split
    · rename_i hc
      have := stretch_lt W H c r h2 h4
      omega
    · omega
theorem cells_of_stretch (c : Nat × Nat) (r : List (Nat × Nat)) : (List.range (1 + stretch c r)).map (fun j => (c.1 + j, c.2)) = c :: r.take (stretch c r) := by
  rw [Nat.add_comm 1, List.range_succ_eq_map, List.map_cons, List.map_map, stretch_take]
  congr 1
  apply List.map_congr_left
  intro j _
  simp only [Function.comp]
  exact Prod.ext (by simp; omega) rfl

/-- One stretch's runs. -/
theorem emit (W H x y : Nat) (D r : List (Nat × Nat)) (c : Nat × Nat) (hW : W ≤ 1024) (hH : H ≤ 1024) (h1 : y < c.2 ∨ (c.2 = y ∧ x ≤ c.1)) (h2 : c.1 < W) (h3 : c.2 < H) (h4 : okFrom W H (c.1 + 1) c.2 r) (h5 : D.length + (1 + r.length) ≤ 20000) :
    chain W H ((if y < c.2 then [runL (c.2 - y) 36] else []) ++ [runL (c.1 - (if y < c.2 then 0 else x)) 98, runL (1 + stretch c r) 111]) ⟨x, y, 0, D⟩ ⟨c.1 + 1 + stretch c r, c.2, 0, D ++ (c :: r.take (stretch c r))⟩ := by
  have hs := stretch_lt W H c r h2 h4
  have hl := stretch_le c r
  have ho := feed_o W H c.1 c.2 (1 + stretch c r) D (by omega) (by omega) (by omega) h3 (by omega)
  rw [cells_of_stretch, ← Nat.add_assoc] at ho
  by_cases hy : y < c.2
  · rw [if_pos hy, if_pos hy]
    have hd := feed_d W H x y (c.2 - y) D (by omega) (by omega)
    rw [show y + (c.2 - y) = c.2 by omega] at hd
    have hb := feed_b W H 0 c.2 (c.1 - 0) D (by omega) (by omega)
    rw [show 0 + (c.1 - 0) = c.1 by omega] at hb
    exact ⟨_, hd, rfl, runL_not33 _ _ (by decide), _, hb, rfl, runL_not33 _ _ (by decide), _, ho, rfl, runL_not33 _ _ (by decide), rfl⟩
  · obtain ⟨hy', hx⟩ : c.2 = y ∧ x ≤ c.1 := by omega
    rw [if_neg hy, if_neg hy]
    have hb := feed_b W H x y (c.1 - x) D (by omega) (by omega)
    rw [show x + (c.1 - x) = c.1 by omega] at hb
    rw [hy'] at ho ⊢
    exact ⟨_, hb, rfl, runL_not33 _ _ (by decide), _, ho, rfl, runL_not33 _ _ (by decide), rfl⟩

theorem chain_segs (W H : Nat) (hW : W ≤ 1024) (hH : H ≤ 1024) : ∀ (l : List (Nat × Nat)) (p : Nat × Nat) (D : List (Nat × Nat)), okFrom W H (p.1 + 1) p.2 l → D.length + (l.length - stretch p l) ≤ 20000 →
    ∃ x' y', chain W H (segs (some p) (p.1 + 1 + stretch p l) p.2 l) ⟨p.1 + 1 + stretch p l, p.2, 0, D⟩ ⟨x', y', 0, D ++ l.drop (stretch p l)⟩
  | [], p, D, _, _ => ⟨_, _, by rw [List.drop_nil, List.append_nil]; rfl⟩
  | c :: r, p, D, ⟨h1, h2, h3, h4⟩, hl => by
    simp only [stretch, segs] at hl ⊢
    have hle := stretch_le c r
    by_cases hc : c.2 = p.2 ∧ c.1 = p.1 + 1
    · rw [if_pos hc] at hl
      rw [if_pos hc, if_pos (by simp [goesOn, hc.1, hc.2])]
      obtain ⟨x', y', h⟩ := chain_segs W H hW hH r c D h4 (by simp only [List.length_cons] at hl; omega)
      refine ⟨x', y', ?_⟩
      rw [Nat.add_comm 1, List.drop_succ_cons]
      rw [show p.1 + 1 + (stretch c r + 1) = c.1 + 1 + stretch c r by omega, ← hc.1]
      exact h
    · rw [if_neg hc] at hl
      simp only [List.length_cons] at hl
      have hg : goesOn (some p) c = false := by
        unfold goesOn
        simp only [Bool.and_eq_false_iff, decide_eq_false_iff_not]
        omega
      rw [if_neg hc, if_neg (by rw [hg]; simp), List.drop_zero, Nat.add_zero]
      have he := emit W H (p.1 + 1) p.2 D r c hW hH h1 h2 h3 h4 (by omega)
      obtain ⟨x', y', h⟩ := chain_segs W H hW hH r c (D ++ (c :: r.take (stretch c r))) h4 (by
        rw [List.length_append, List.length_cons, List.length_take]; omega)
      rw [List.append_assoc, List.cons_append, List.take_append_drop] at h
      exact ⟨x', y', chain_app W H _ _ _ _ _ he h⟩
/-- All the runs, from the first place on. -/
theorem chain_all (W H : Nat) (hW : W ≤ 1024) (hH : H ≤ 1024) (l : List (Nat × Nat)) (ho : okFrom W H 0 0 l) (hl : l.length ≤ 20000) : ∃ x' y', chain W H (segs none 0 0 l) ⟨0, 0, 0, []⟩ ⟨x', y', 0, l⟩ := by
  cases l with
  | nil => exact ⟨0, 0, rfl⟩
  | cons c r =>
    obtain ⟨h1, h2, h3, h4⟩ := ho
    simp only [List.length_cons] at hl
    have hle := stretch_le c r
    have he := emit W H 0 0 [] r c hW hH h1 h2 h3 h4 (by simp; omega)
    obtain ⟨x', y', h⟩ := chain_segs W H hW hH r c ([] ++ (c :: r.take (stretch c r))) h4 (by
      simp only [List.nil_append, List.length_cons, List.length_take]; omega)
    rw [List.append_assoc, List.cons_append, List.take_append_drop] at h
    refine ⟨x', y', ?_⟩
    simp only [segs]
    rw [if_neg (by simp [goesOn])]
    exact chain_app W H _ _ _ _ _ he h

/-! The last run, the ! and what stands behind it -/
theorem wrapL_snoc : ∀ (rs : List (List UInt8)) (wd : Nat) (r : List UInt8), ∃ w, wrapL wd (rs ++ [r]) = wrapL wd rs ++ (if 70 < w + r.length then 10 :: r else r)
  | [], wd, r => ⟨wd, by simp only [List.nil_append, wrapL]; split <;> simp⟩
  | q :: rs, wd, r => by
    simp only [List.cons_append, wrapL]
    by_cases h : 70 < wd + q.length
    · obtain ⟨w, hw⟩ := wrapL_snoc rs q.length r
      exact ⟨w, by rw [if_pos h, if_pos h, hw]; simp⟩
    · obtain ⟨w, hw⟩ := wrapL_snoc rs (wd + q.length) r
      exact ⟨w, by rw [if_neg h, if_neg h, hw]; simp⟩
/-- A pattern's body. -/
def bodyL (l : List (Nat × Nat)) : List UInt8 := wrapL 0 (segs none 0 0 l ++ [[33]]) ++ [10]
/-- A pattern's body is read as its cells, whatever byte it stands at. -/
theorem runsP_body (W H : Nat) (hW : W ≤ 1024) (hH : H ≤ 1024) (l : List (Nat × Nat)) (ho : okFrom W H 0 0 l) (hl : l.length ≤ 20000) (i : Nat) : runsP W H (bodyL l) i ⟨0, 0, 0, []⟩ = (l, 0, 0) := by
  obtain ⟨x', y', h⟩ := chain_all W H hW hH l ho hl
  obtain ⟨w, hw⟩ := wrapL_snoc (segs none 0 0 l) 0 [33]
  unfold bodyL
  rw [hw, List.append_assoc, runsP_wrap W H _ 0 i _ _ _ rfl h]
  by_cases h70 : 70 < w + [(33 : UInt8)].length
  · rw [if_pos h70]
    have hs : rstep W H ⟨x', y', 0, l⟩ 10 = some ⟨x', y', 0, l⟩ := by unfold rstep; rw [if_pos (Or.inr rfl), if_neg (by simp)]
    simp only [List.cons_append, List.nil_append, runsP]
    rw [if_neg (fun e => absurd e.1 (by decide)), hs]
    simp [blank]
  · rw [if_neg h70]
    simp [runsP, blank]
end Go.Proofs.YtaapkngpnlnjeaaGreat
end
