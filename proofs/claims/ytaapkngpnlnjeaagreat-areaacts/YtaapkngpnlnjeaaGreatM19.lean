-- M19
import Derived.Test.YtaapkngpnlnjeaaGreatM18
import Derived.Laws.StructEq
import Derived.Test.YtaapkngpnlnjeaaGreatProg
import Derived.Below
import Derived.RowKit
import Derived.OwnWalk
import Derived.Deep.AppendLies
import Derived.Deep.RegionHeldLaw
import Derived.Deep.DeepCutAuto
import Derived.Deep.CutRange
section
namespace Go.Proofs.YtaapkngpnlnjeaaGreat
open Go.RowKit

/-- Points in a row, as a slice holds them, below block B. -/
def Pts (w : World) (B : Nat) (a : Option Addr) (cs : List (Int × Int)) : Prop :=
  ∀ (j : Nat) c, cs[j]? = some c → ∃ bk off, a = some ⟨bk, off, none⟩ ∧ bk < B ∧ w.cell? ⟨bk, off + j * 2, none⟩ = some (.int .i64 c.1) ∧ w.cell? ⟨bk, off + j * 2 + 1, none⟩ = some (.int .i64 c.2)
theorem Pts.later {w w' : World} {B B' : Nat} {a : Option Addr} {cs : List (Int × Int)} (h : Pts w B a cs) (hb : Below B' w w') (hB : B ≤ B') : Pts w' B a cs := by
  intro j c hc
  obtain ⟨bk, off, h1, h2, h3, h4⟩ := h j c hc
  exact ⟨bk, off, h1, h2, by rw [hb.cell (p := ⟨bk, off + j * 2, none⟩) (show bk < B' by omega)]; exact h3, by rw [hb.cell (p := ⟨bk, off + j * 2 + 1, none⟩) (show bk < B' by omega)]; exact h4⟩
theorem Pts.mono {w : World} {B B' : Nat} {a : Option Addr} {cs : List (Int × Int)} (h : Pts w B a cs) (hB : B ≤ B') : Pts w B' a cs := by
  intro j c hc
  obtain ⟨bk, off, h1, h2, h3⟩ := h j c hc
  exact ⟨bk, off, h1, by omega, h3⟩
theorem Pts.nil {w : World} {B : Nat} {a : Option Addr} : Pts w B a [] := by intro j c hc; simp at hc
/-- A cell as two numbers. -/
def zc (c : Nat × Nat) : Int × Int := ((c.1 : Int), (c.2 : Int))
theorem Pts.at0 {w : World} {B : Nat} {a : Option Addr} {c : Int × Int} {r : List (Int × Int)} (h : Pts w B a (c :: r)) : ∃ bk off, a = some ⟨bk, off, none⟩ ∧ bk < B ∧ w.cell? ⟨bk, off, none⟩ = some (.int .i64 c.1) ∧ w.cell? ⟨bk, off + 1, none⟩ = some (.int .i64 c.2) := by
  obtain ⟨bk, off, h1, h2, h3, h4⟩ := h 0 c rfl
  exact ⟨bk, off, h1, h2, by simpa using h3, by simpa using h4⟩
theorem Pts.atj {w : World} {B : Nat} {bk off : Nat} {cs : List (Int × Int)} (h : Pts w B (some ⟨bk, off, none⟩) cs) {j : Nat} {c : Int × Int} (hc : cs[j]? = some c) : w.cell? ⟨bk, off + j * 2, none⟩ = some (.int .i64 c.1) ∧ w.cell? ⟨bk, off + j * 2 + 1, none⟩ = some (.int .i64 c.2) := by
  obtain ⟨bk', off', h1, h2, h3, h4⟩ := h j c hc
  obtain ⟨rfl, rfl⟩ : bk = bk' ∧ off = off' := by simpa using h1
  exact ⟨h3, h4⟩

theorem retI {a b : Int} (h : a = b) : Ending.returned (.int .i64 a) = .returned (.int .i64 b) := by rw [h]
theorem stretch_is : ∀ (r : List (Nat × Nat)) (p : Nat × Nat) (m : Nat), (∀ i, i < m → r[i]? = some (p.1 + 1 + i, p.2)) → r[m]? ≠ some (p.1 + 1 + m, p.2) → stretch p r = m
  | [], p, m, h, _ => by
    cases m with
    | zero => rfl
    | succ m => have := h 0 (by omega); simp at this
  | c :: r, p, m, h, hn => by
    simp only [stretch]
    cases m with
    | zero =>
      rw [if_neg]
      rintro ⟨h1, h2⟩
      exact hn (by simp only [List.getElem?_cons_zero]; congr 1; exact Prod.ext (by simp [h2]) h1)
    | succ m =>
      have h0 := h 0 (by omega)
      obtain rfl : c = (p.1 + 1, p.2) := by simpa using h0
      have hs : stretch (p.1 + 1, p.2) r = m := by
        refine stretch_is r (p.1 + 1, p.2) m (fun i hi => ?_) ?_
        · have := h (i + 1) (by omega)
          rw [List.getElem?_cons_succ] at this
          rw [this]
          congr 1
          exact Prod.ext (by simp; omega) rfl
        · rw [List.getElem?_cons_succ] at hn
          intro e
          apply hn
          rw [e]
          congr 1
          exact Prod.ext (by simp; omega) rfl
      rw [if_pos ⟨rfl, rfl⟩, hs, Nat.add_comm]

set_option maxRecDepth 100000 in
/-- l[k:] of points. -/
theorem cut_pts {w : World} {B : Nat} {a : Option Addr} {c : Nat} {zs : List (Int × Int)} (h : Pts w B a zs) (n : Nat) (hn : n = zs.length) (hc : n ≤ c) (k : Nat) (hk : k ≤ n) :
    ∃ a', (∀ w, (Instr.slice 35 (.slice a n c) (some (.int .i64 (k : Int))) none none).run Tryz.prog w = .ok (.slice a' (n - k) (c - k)) w) ∧ Pts w B a' (zs.drop k) := by
  subst hn
  refine ⟨if c = k then a else a.map (·.add (k * 2)), fun w => ?_, fun j z hz => ?_⟩
  · rw [run_slice_l (P := Tryz.prog) (w := w) 35 _ _ _ Tryz.underlying35 .i64 (k : Int) (by omega) (by omega), show Tryz.prog.elem 35 = 34 by kernel_rfl, Tryz.sizeOf34]
    simp [Result.andThen, sliced]
  · have hj : j < zs.length - k := by have := (List.getElem?_eq_some_iff.1 hz).1; simpa using this
    rw [List.getElem?_drop] at hz
    obtain ⟨bk, off, rfl, h2, h3, h4⟩ := h (k + j) z hz
    rw [if_neg (by omega)]
    refine ⟨bk, off + k * 2, by simp [add_at], h2, ?_, ?_⟩
    · rw [show off + k * 2 + j * 2 = off + (k + j) * 2 by omega]; exact h3
    · rw [show off + k * 2 + j * 2 + 1 = off + (k + j) * 2 + 1 by omega]; exact h4
end Go.Proofs.YtaapkngpnlnjeaaGreat
end

section
namespace Go.Proofs.YtaapkngpnlnjeaaGreat
open Go.RowKit

/-- What a call keeps that writes into one block alone, and makes more. -/
def Oth (b : Nat) (w w' : World) : Prop := Below b w w' ∧ ∀ k, k < w.heap.size → k ≠ b → w'.heap[k]? = w.heap[k]?
theorem Oth.refl (b : Nat) (w : World) : Oth b w w := ⟨Below.refl _ _, fun _ _ _ => rfl⟩
theorem Oth.trans {b : Nat} {w w1 w2 : World} (h : Oth b w w1) (k : Oth b w1 w2) : Oth b w w2 :=
  ⟨h.1.trans k.1, fun i hi hb => by rw [k.2 i (Nat.lt_of_lt_of_le hi h.1.size) hb, h.2 i hi hb]⟩
theorem Oth.of {b : Nat} {w w' : World} (h : Below w.heap.size w w') (hb : b < w.heap.size) : Oth b w w' := ⟨h.mono (Nat.le_of_lt hb), fun k hk _ => h.block k hk⟩
theorem Oth.set {b : Nat} {w0 w : World} (h : Oth b w0 w) (k : Nat) (v : Value) : Oth b w0 (w.setCell ⟨b, k, none⟩ v) :=
  ⟨h.1.setCell (p := ⟨b, k, none⟩) (Nat.le_refl _) _, fun i hi hb => by rw [Below.heap_setCell _ _ _ _ (fun e => hb e)]; exact h.2 i hi hb⟩
theorem Oth.drew {b : Nat} {w0 w : World} (h : Oth b w0 w) : Oth b w0 w.drew := ⟨h.1.drew, h.2⟩
theorem Tryz.infoPt : (Tryz.prog.info? 34).map (fun i => (i.zero, i.size, i.bytes)) = some (some (.agg #[.int .i64 0, .int .i64 0]), 2, 16) := by kernel_rfl

end Go.Proofs.YtaapkngpnlnjeaaGreat
end

section
namespace Go.Proofs.YtaapkngpnlnjeaaGreat
open Go.RowKit Go.Maps

/-- Points as cells. -/
def ptV (cs : List (Nat × Nat)) : List Value := cs.flatMap fun c => [.int .i64 (c.1 : Int), .int .i64 (c.2 : Int)]
/-- A pattern that came out, as a value: its cells in a row. -/
def PatV (w : World) (W H : Nat) (cs : List (Nat × Nat)) (v : Value) : Prop := ∃ a cap, v = .agg #[.int .i64 (W : Int), .int .i64 (H : Int), .slice a cs.length cap] ∧ cs.length ≤ cap ∧ cap ≤ 9223372036854775807 ∧ Pts w w.heap.size a (cs.map zc)
theorem ptV_len (cs : List (Nat × Nat)) : (ptV cs).length = 2 * cs.length := by
  induction cs with
  | nil => rfl
  | cons c r ih => simp only [ptV, List.flatMap_cons, List.length_append, List.length_cons, List.length_nil] at ih ⊢; omega
theorem ptV_at : ∀ (cs : List (Nat × Nat)) (j : Nat) (c : Nat × Nat), cs[j]? = some c → (ptV cs)[j * 2]? = some (.int .i64 (c.1 : Int)) ∧ (ptV cs)[j * 2 + 1]? = some (.int .i64 (c.2 : Int))
  | [], j, c, h => by simp at h
  | d :: r, 0, c, h => by
    obtain rfl : d = c := by simpa using h
    simp [ptV]
  | d :: r, j + 1, c, h => by
    rw [List.getElem?_cons_succ] at h
    obtain ⟨h1, h2⟩ := ptV_at r j c h
    have he : ptV (d :: r) = .int .i64 (d.1 : Int) :: .int .i64 (d.2 : Int) :: ptV r := rfl
    rw [he, show (j + 1) * 2 = j * 2 + 1 + 1 by omega]
    exact ⟨by rw [List.getElem?_cons_succ, List.getElem?_cons_succ]; exact h1, by rw [List.getElem?_cons_succ, List.getElem?_cons_succ]; exact h2⟩
theorem own_pts {w : World} {B : Nat} {a : Option Addr} {n cap : Nat} {cs : List (Nat × Nat)} (hn : n = cs.length) (h : w.ownsRow B 34 2 (.slice a n cap) n (ptV cs)) : n ≤ cap ∧ cap ≤ maxLen ∧ Pts w w.heap.size a (cs.map zc) := by
  have h' := h
  rcases h.2 with ⟨hv, hn0⟩ | ⟨g, cp, cur, hv, _, hg, h1, h2, _, _⟩
  · obtain ⟨rfl, _, rfl⟩ : a = none ∧ n = 0 ∧ cap = 0 := by simpa using hv
    obtain rfl : cs = [] := List.eq_nil_of_length_eq_zero (by omega)
    exact ⟨by omega, Nat.zero_le _, Pts.nil⟩
  · obtain ⟨rfl, rfl⟩ : a = some ⟨g, 0, none⟩ ∧ cap = cp := by simpa using hv
    refine ⟨h1, h2, fun j z hz => ?_⟩
    rw [List.getElem?_map] at hz
    obtain ⟨c, hc, rfl⟩ := Option.map_eq_some_iff.1 hz
    have hj : j < cs.length := (List.getElem?_eq_some_iff.1 hc).1
    obtain ⟨e1, e2⟩ := ptV_at cs j c hc
    refine ⟨g, 0, rfl, (Array.getElem?_eq_some_iff.1 hg).1, ?_, ?_⟩
    · rw [Nat.zero_add, h'.cellAt (j * 2) (by omega)]; exact e1
    · rw [Nat.zero_add, h'.cellAt (j * 2 + 1) (by omega)]; exact e2

theorem pat_put {w w0 : World} {b B : Nat} {c0 c1 c2 : Value} {T : TypeId} (h : w.heap[b]? = some (.cells #[c0, c1, c2] T (0, 0))) (hb : Below B w0 w) (hB : B ≤ b) (x y z : Value) : ∃ W, ((w.setCell ⟨b, 0, none⟩ x).setCell ⟨b, 1, none⟩ y).setCell ⟨b, 2, none⟩ z = W ∧ Below B w0 W ∧ W.heap[b]? = some (.cells #[x, y, z] T (0, 0)) ∧ W.heap.size = w.heap.size ∧ ∀ k, k ≠ b → W.heap[k]? = w.heap[k]? := by
  refine ⟨_, rfl, ((hb.setCell (p := ⟨b, 0, none⟩) hB _).setCell (p := ⟨b, 1, none⟩) hB _).setCell (p := ⟨b, 2, none⟩) hB _, ?_, by simp [World.setCell], fun k hk => ?_⟩
  · simp only [World.setCell, Array.getElem?_modify, h]
    simp
  · rw [Below.heap_setCell _ _ _ _ (fun e => hk e), Below.heap_setCell _ _ _ _ (fun e => hk e), Below.heap_setCell _ _ _ _ (fun e => hk e)]

end Go.Proofs.YtaapkngpnlnjeaaGreat
end

section

end
