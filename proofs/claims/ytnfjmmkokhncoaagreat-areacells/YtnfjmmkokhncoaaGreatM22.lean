-- M22
import Derived.Test.YtnfjmmkokhncoaaGreatM21
import Derived.Laws.StructEq
import Derived.Test.YtnfjmmkokhncoaaGreatProg
import Derived.Below
import Derived.RowKit
import Derived.OwnWalk
import Derived.Deep.AppendLies
import Derived.Deep.RegionHeldLaw
import Derived.Deep.DeepCutAuto
import Derived.Deep.CutRange
import Derived.Laws.IdiomCopy
section
namespace Go.Proofs.YtnfjmmkokhncoaaGreat
open Go.RowKit

/-- Points in a row, as a slice holds them, below block B. -/
def Pts (w : World) (B : Nat) (a : Option Addr) (cs : List (Int × Int)) : Prop :=
  ∀ (j : Nat) c, cs[j]? = some c → ∃ bk off, a = some ⟨bk, off, none⟩ ∧ bk < B ∧ w.cell? ⟨bk, off + j * 2, none⟩ = some (.int .i64 c.1) ∧ w.cell? ⟨bk, off + j * 2 + 1, none⟩ = some (.int .i64 c.2)
theorem Pts.later {w w' : World} {B B' : Nat} {a : Option Addr} {cs : List (Int × Int)} (h : Pts w B a cs) (hb : Below B' w w') (hB : B ≤ B') : Pts w' B a cs := by
  intro j c hc
  obtain ⟨bk, off, h1, h2, h3, h4⟩ := h j c hc
  exact ⟨bk, off, h1, h2, by rw [hb.cell (p := ⟨bk, off + j * 2, none⟩) (show bk < B' by omega)]; exact h3, by rw [hb.cell (p := ⟨bk, off + j * 2 + 1, none⟩) (show bk < B' by omega)]; exact h4⟩
theorem Pts.mono {w : World} {B B' : Nat} {a : Option Addr} {cs : List (Int × Int)} (h : Pts w B a cs) (hB : B ≤ B') : Pts w B' a cs := by
  intro j c hc
  obtain ⟨bk, off, h1, h2, h3⟩ := h j c hc
  exact ⟨bk, off, h1, by omega, h3⟩
theorem Pts.nil {w : World} {B : Nat} {a : Option Addr} : Pts w B a [] := by intro j c hc; simp at hc
/-- A cell as two numbers. -/
def zc (c : Nat × Nat) : Int × Int := ((c.1 : Int), (c.2 : Int))
theorem Pts.at0 {w : World} {B : Nat} {a : Option Addr} {c : Int × Int} {r : List (Int × Int)} (h : Pts w B a (c :: r)) : ∃ bk off, a = some ⟨bk, off, none⟩ ∧ bk < B ∧ w.cell? ⟨bk, off, none⟩ = some (.int .i64 c.1) ∧ w.cell? ⟨bk, off + 1, none⟩ = some (.int .i64 c.2) := by
  obtain ⟨bk, off, h1, h2, h3, h4⟩ := h 0 c rfl
  exact ⟨bk, off, h1, h2, by simpa using h3, by simpa using h4⟩
theorem Pts.atj {w : World} {B : Nat} {bk off : Nat} {cs : List (Int × Int)} (h : Pts w B (some ⟨bk, off, none⟩) cs) {j : Nat} {c : Int × Int} (hc : cs[j]? = some c) : w.cell? ⟨bk, off + j * 2, none⟩ = some (.int .i64 c.1) ∧ w.cell? ⟨bk, off + j * 2 + 1, none⟩ = some (.int .i64 c.2) := by
  obtain ⟨bk', off', h1, h2, h3, h4⟩ := h j c hc
  obtain ⟨rfl, rfl⟩ : bk = bk' ∧ off = off' := by simpa using h1
  exact ⟨h3, h4⟩

theorem retI {a b : Int} (h : a = b) : Ending.returned (.int .i64 a) = .returned (.int .i64 b) := by rw [h]
theorem stretch_is : ∀ (r : List (Nat × Nat)) (p : Nat × Nat) (m : Nat), (∀ i, i < m → r[i]? = some (p.1 + 1 + i, p.2)) → r[m]? ≠ some (p.1 + 1 + m, p.2) → stretch p r = m
  | [], p, m, h, _ => by
    cases m with
    | zero => rfl
    | succ m => have := h 0 (by omega); simp at this
  | c :: r, p, m, h, hn => by
    simp only [stretch]
    cases m with
    | zero =>
      rw [if_neg]
      rintro ⟨h1, h2⟩
      exact hn (by simp only [List.getElem?_cons_zero]; congr 1; exact Prod.ext (by simp [h2]) h1)
    | succ m =>
      have h0 := h 0 (by omega)
      obtain rfl : c = (p.1 + 1, p.2) := by simpa using h0
      have hs : stretch (p.1 + 1, p.2) r = m := by
        refine stretch_is r (p.1 + 1, p.2) m (fun i hi => ?_) ?_
        · have := h (i + 1) (by omega)
          rw [List.getElem?_cons_succ] at this
          rw [this]
          congr 1
          exact Prod.ext (by simp; omega) rfl
        · rw [List.getElem?_cons_succ] at hn
          intro e
          apply hn
          rw [e]
          congr 1
          exact Prod.ext (by simp; omega) rfl
      rw [if_pos ⟨rfl, rfl⟩, hs, Nat.add_comm]

set_option maxRecDepth 100000 in
/-- l[k:] of points. -/
theorem cut_pts {w : World} {B : Nat} {a : Option Addr} {c : Nat} {zs : List (Int × Int)} (h : Pts w B a zs) (n : Nat) (hn : n = zs.length) (hc : n ≤ c) (k : Nat) (hk : k ≤ n) :
    ∃ a', (∀ w, (Instr.slice 36 (.slice a n c) (some (.int .i64 (k : Int))) none none).run Tryz.prog w = .ok (.slice a' (n - k) (c - k)) w) ∧ Pts w B a' (zs.drop k) := by
  subst hn
  refine ⟨if c = k then a else a.map (·.add (k * 2)), fun w => ?_, fun j z hz => ?_⟩
  · rw [run_slice_l (P := Tryz.prog) (w := w) 36 _ _ _ Tryz.underlying36 .i64 (k : Int) (by omega) (by omega), show Tryz.prog.elem 36 = 24 by kernel_rfl, Tryz.sizeOf24]
    simp [Result.andThen, sliced]
  · have hj : j < zs.length - k := by have := (List.getElem?_eq_some_iff.1 hz).1; simpa using this
    rw [List.getElem?_drop] at hz
    obtain ⟨bk, off, rfl, h2, h3, h4⟩ := h (k + j) z hz
    rw [if_neg (by omega)]
    refine ⟨bk, off + k * 2, by simp [add_at], h2, ?_, ?_⟩
    · rw [show off + k * 2 + j * 2 = off + (k + j) * 2 by omega]; exact h3
    · rw [show off + k * 2 + j * 2 + 1 = off + (k + j) * 2 + 1 by omega]; exact h4
end Go.Proofs.YtnfjmmkokhncoaaGreat
end

section
namespace Go.Proofs.YtnfjmmkokhncoaaGreat
open Go.RowKit

/-- What a call keeps that writes into one block alone, and makes more. -/
def Oth (b : Nat) (w w' : World) : Prop := Below b w w' ∧ ∀ k, k < w.heap.size → k ≠ b → w'.heap[k]? = w.heap[k]?
theorem Oth.refl (b : Nat) (w : World) : Oth b w w := ⟨Below.refl _ _, fun _ _ _ => rfl⟩
theorem Oth.trans {b : Nat} {w w1 w2 : World} (h : Oth b w w1) (k : Oth b w1 w2) : Oth b w w2 :=
  ⟨h.1.trans k.1, fun i hi hb => by rw [k.2 i (Nat.lt_of_lt_of_le hi h.1.size) hb, h.2 i hi hb]⟩
theorem Oth.of {b : Nat} {w w' : World} (h : Below w.heap.size w w') (hb : b < w.heap.size) : Oth b w w' := ⟨h.mono (Nat.le_of_lt hb), fun k hk _ => h.block k hk⟩
theorem Oth.set {b : Nat} {w0 w : World} (h : Oth b w0 w) (k : Nat) (v : Value) : Oth b w0 (w.setCell ⟨b, k, none⟩ v) :=
  ⟨h.1.setCell (p := ⟨b, k, none⟩) (Nat.le_refl _) _, fun i hi hb => by rw [Below.heap_setCell _ _ _ _ (fun e => hb e)]; exact h.2 i hi hb⟩
theorem Oth.drew {b : Nat} {w0 w : World} (h : Oth b w0 w) : Oth b w0 w.drew := ⟨h.1.drew, h.2⟩
theorem Tryz.infoPt : (Tryz.prog.info? 24).map (fun i => (i.zero, i.size, i.bytes)) = some (some (.agg #[.int .i64 0, .int .i64 0]), 2, 16) := by kernel_rfl

end Go.Proofs.YtnfjmmkokhncoaaGreat
end

section
namespace Go.Proofs.YtnfjmmkokhncoaaGreat
open Go.RowKit Go.Maps

/-- Points as cells. -/
def ptV (cs : List (Nat × Nat)) : List Value := cs.flatMap fun c => [.int .i64 (c.1 : Int), .int .i64 (c.2 : Int)]
/-- A pattern that came out, as a value: its cells in a row. -/
def PatV (w : World) (W H : Nat) (cs : List (Nat × Nat)) (v : Value) : Prop := ∃ a cap, v = .agg #[.int .i64 (W : Int), .int .i64 (H : Int), .slice a cs.length cap] ∧ cs.length ≤ cap ∧ cap ≤ 9223372036854775807 ∧ Pts w w.heap.size a (cs.map zc)
theorem ptV_len (cs : List (Nat × Nat)) : (ptV cs).length = 2 * cs.length := by
  induction cs with
  | nil => rfl
  | cons c r ih => simp only [ptV, List.flatMap_cons, List.length_append, List.length_cons, List.length_nil] at ih ⊢; omega
theorem ptV_at : ∀ (cs : List (Nat × Nat)) (j : Nat) (c : Nat × Nat), cs[j]? = some c → (ptV cs)[j * 2]? = some (.int .i64 (c.1 : Int)) ∧ (ptV cs)[j * 2 + 1]? = some (.int .i64 (c.2 : Int))
  | [], j, c, h => by simp at h
  | d :: r, 0, c, h => by
    obtain rfl : d = c := by simpa using h
    simp [ptV]
  | d :: r, j + 1, c, h => by
    rw [List.getElem?_cons_succ] at h
    obtain ⟨h1, h2⟩ := ptV_at r j c h
    have he : ptV (d :: r) = .int .i64 (d.1 : Int) :: .int .i64 (d.2 : Int) :: ptV r := rfl
    rw [he, show (j + 1) * 2 = j * 2 + 1 + 1 by omega]
    exact ⟨by rw [List.getElem?_cons_succ, List.getElem?_cons_succ]; exact h1, by rw [List.getElem?_cons_succ, List.getElem?_cons_succ]; exact h2⟩
theorem own_pts {w : World} {B : Nat} {a : Option Addr} {n cap : Nat} {cs : List (Nat × Nat)} (hn : n = cs.length) (h : w.ownsRow B 24 2 (.slice a n cap) n (ptV cs)) : n ≤ cap ∧ cap ≤ maxLen ∧ Pts w w.heap.size a (cs.map zc) := by
  have h' := h
  rcases h.2 with ⟨hv, hn0⟩ | ⟨g, cp, cur, hv, _, hg, h1, h2, _, _⟩
  · obtain ⟨rfl, _, rfl⟩ : a = none ∧ n = 0 ∧ cap = 0 := by simpa using hv
    obtain rfl : cs = [] := List.eq_nil_of_length_eq_zero (by omega)
    exact ⟨by omega, Nat.zero_le _, Pts.nil⟩
  · obtain ⟨rfl, rfl⟩ : a = some ⟨g, 0, none⟩ ∧ cap = cp := by simpa using hv
    refine ⟨h1, h2, fun j z hz => ?_⟩
    rw [List.getElem?_map] at hz
    obtain ⟨c, hc, rfl⟩ := Option.map_eq_some_iff.1 hz
    have hj : j < cs.length := (List.getElem?_eq_some_iff.1 hc).1
    obtain ⟨e1, e2⟩ := ptV_at cs j c hc
    refine ⟨g, 0, rfl, (Array.getElem?_eq_some_iff.1 hg).1, ?_, ?_⟩
    · rw [Nat.zero_add, h'.cellAt (j * 2) (by omega)]; exact e1
    · rw [Nat.zero_add, h'.cellAt (j * 2 + 1) (by omega)]; exact e2

theorem pat_put {w w0 : World} {b B : Nat} {c0 c1 c2 : Value} {T : TypeId} (h : w.heap[b]? = some (.cells #[c0, c1, c2] T (0, 0))) (hb : Below B w0 w) (hB : B ≤ b) (x y z : Value) : ∃ W, ((w.setCell ⟨b, 0, none⟩ x).setCell ⟨b, 1, none⟩ y).setCell ⟨b, 2, none⟩ z = W ∧ Below B w0 W ∧ W.heap[b]? = some (.cells #[x, y, z] T (0, 0)) ∧ W.heap.size = w.heap.size ∧ ∀ k, k ≠ b → W.heap[k]? = w.heap[k]? := by
  refine ⟨_, rfl, ((hb.setCell (p := ⟨b, 0, none⟩) hB _).setCell (p := ⟨b, 1, none⟩) hB _).setCell (p := ⟨b, 2, none⟩) hB _, ?_, by simp [World.setCell], fun k hk => ?_⟩
  · simp only [World.setCell, Array.getElem?_modify, h]
    simp
  · rw [Below.heap_setCell _ _ _ _ (fun e => hk e), Below.heap_setCell _ _ _ _ (fun e => hk e), Below.heap_setCell _ _ _ _ (fun e => hk e)]

end Go.Proofs.YtnfjmmkokhncoaaGreat
end

section

end

section
namespace Go.Proofs.YtnfjmmkokhncoaaGreat
open Go.RowKit

/-! Plain: equal neighbours once -/
def cmpS (l : List (Int × Int)) : List (Int × Int) := l.foldl (fun acc x => if acc.getLast? = some x then acc else acc ++ [x]) []
theorem cmpS_snoc (l : List (Int × Int)) (x : Int × Int) : cmpS (l ++ [x]) = if (cmpS l).getLast? = some x then cmpS l else cmpS l ++ [x] := by
  unfold cmpS; rw [List.foldl_append]; rfl
theorem list_snoc {α : Type} : ∀ (l : List α), l = [] ∨ ∃ i x, l = i ++ [x]
  | [] => Or.inl rfl
  | a :: r => by
    rcases list_snoc r with h | ⟨i, x, h⟩
    · exact Or.inr ⟨[], a, by rw [h]; rfl⟩
    · exact Or.inr ⟨a :: i, x, by rw [h]; rfl⟩
theorem cmpS_last (n : Nat) : ∀ (l : List (Int × Int)), l.length ≤ n → (cmpS l).getLast? = l.getLast? := by
  intro l _
  rcases list_snoc l with rfl | ⟨i, x, rfl⟩
  · rfl
  · rw [cmpS_snoc, List.getLast?_concat]
    split
    · assumption
    · rw [List.getLast?_concat]
theorem last_at {l : List (Int × Int)} {j : Nat} {c : Int × Int} (h : l[j]? = some c) : (l.take (j + 1)).getLast? = some c := by
  rw [List.take_add_one, h]; simp
theorem cmpS_step {l : List (Int × Int)} {j : Nat} {c d : Int × Int} (hc : l[j]? = some c) (hd : l[j + 1]? = some d) : cmpS (l.take (j + 2)) = if c = d then cmpS (l.take (j + 1)) else cmpS (l.take (j + 1)) ++ [d] := by
  rw [List.take_add_one (i := j + 1), hd]
  show cmpS (l.take (j + 1) ++ [d]) = _
  rw [cmpS_snoc, cmpS_last _ _ (Nat.le_refl _), last_at hc]
  by_cases h : c = d
  · rw [if_pos h, if_pos (by rw [h])]
  · rw [if_neg h, if_neg (fun e => h (Option.some.inj e))]
theorem cmpS_len : ∀ (n : Nat) (l : List (Int × Int)), l.length ≤ n → (cmpS l).length ≤ l.length
  | 0, l, h => by rw [List.eq_nil_of_length_eq_zero (Nat.le_zero.1 h)]; exact Nat.le_refl _
  | n + 1, l, h => by
    rcases list_snoc l with rfl | ⟨i, x, rfl⟩
    · exact Nat.le_refl _
    · rw [List.length_append] at h
      have := cmpS_len n i (by simp at h; omega)
      rw [cmpS_snoc]
      split
      · simp; omega
      · simp; omega

/-! Memory -/
/-- Points in a block of the call's own, from its head on, that may be written. -/
def ZRow (w : World) (g : Nat) (zs : List (Int × Int)) : Prop := g < w.heap.size ∧ ∀ (j : Nat) c, zs[j]? = some c → w.cell? ⟨g, j * 2, none⟩ = some (.int .i64 c.1) ∧ w.cell? ⟨g, j * 2 + 1, none⟩ = some (.int .i64 c.2) ∧ w.frozen? ⟨g, j * 2, none⟩ = false ∧ w.frozen? ⟨g, j * 2 + 1, none⟩ = false
theorem ZRow.pts {w : World} {g : Nat} {zs : List (Int × Int)} (h : ZRow w g zs) : Pts w w.heap.size (some ⟨g, 0, none⟩) zs := fun j c hc => ⟨g, 0, rfl, h.1, by rw [Nat.zero_add]; exact (h.2 j c hc).1, by rw [Nat.zero_add]; exact (h.2 j c hc).2.1⟩
theorem ZRow.later {w w' : World} {g : Nat} {zs : List (Int × Int)} (h : ZRow w g zs) (hb : Below w.heap.size w w') : ZRow w' g zs :=
  ⟨Nat.lt_of_lt_of_le h.1 hb.size, fun j c hc => by
    obtain ⟨h1, h2, h3, h4⟩ := h.2 j c hc
    exact ⟨(hb.cell (p := ⟨g, j * 2, none⟩) h.1).trans h1, (hb.cell (p := ⟨g, j * 2 + 1, none⟩) h.1).trans h2, (hb.frozen (p := ⟨g, j * 2, none⟩) h.1).trans h3, (hb.frozen (p := ⟨g, j * 2 + 1, none⟩) h.1).trans h4⟩⟩
theorem ZRow.sub {w : World} {g : Nat} {zs ys : List (Int × Int)} (h : ZRow w g zs) (hs : ∀ (j : Nat) c, ys[j]? = some c → zs[j]? = some c) : ZRow w g ys := ⟨h.1, fun j c hc => h.2 j c (hs j c hc)⟩
theorem ZRow.set {w : World} {g : Nat} {zs : List (Int × Int)} (h : ZRow w g zs) (i : Nat) (c : Int × Int) (hi : i < zs.length) : ZRow ((w.setCell ⟨g, i * 2, none⟩ (.int .i64 c.1)).setCell ⟨g, i * 2 + 1, none⟩ (.int .i64 c.2)) g (zs.set i c) := by
  obtain ⟨a1, a2, a3, a4⟩ := h.2 i zs[i] (List.getElem?_eq_getElem hi)
  refine ⟨by simpa [World.setCell] using h.1, fun j d hd => ?_⟩
  rw [World.frozen?_setCell, World.frozen?_setCell, World.frozen?_setCell, World.frozen?_setCell]
  by_cases hij : i = j
  · subst hij
    rw [List.getElem?_set_self hi] at hd
    obtain rfl := Option.some.inj hd
    refine ⟨?_, ?_, a3, a4⟩
    · rw [World.cell?_setCell_other _ _ _ _ (by simp)]
      exact World.cell?_setCell_same _ _ _ a1
    · exact World.cell?_setCell_same _ _ _ (by rw [World.cell?_setCell_other _ _ _ _ (by simp)]; exact a2)
  · rw [List.getElem?_set_ne hij] at hd
    obtain ⟨b1, b2, b3, b4⟩ := h.2 j d hd
    refine ⟨?_, ?_, b3, b4⟩
    · rw [World.cell?_setCell_other _ _ _ _ (fun e => by injection e with _ e _; omega), World.cell?_setCell_other _ _ _ _ (fun e => by injection e with _ e _; omega)]; exact b1
    · rw [World.cell?_setCell_other _ _ _ _ (fun e => by injection e with _ e _; omega), World.cell?_setCell_other _ _ _ _ (fun e => by injection e with _ e _; omega)]; exact b2
theorem oth_setCells {b : Nat} {w0 : World} : ∀ (vs : List Value) (o : Nat) (w : World), Oth b w0 w → Oth b w0 (w.setCells b o vs)
  | [], _, _, h => h
  | v :: r, o, w, h => by rw [World.setCells]; exact oth_setCells r (o + 1) _ (h.set o v)
theorem size_setCells (b : Nat) : ∀ (vs : List Value) (o : Nat) (w : World), (w.setCells b o vs).heap.size = w.heap.size
  | [], _, _ => rfl
  | v :: r, o, w => by rw [World.setCells, size_setCells b r (o + 1)]; simp [World.setCell]
set_option maxRecDepth 100000 in
theorem clear_pts (w : World) (g : Nat) (zs : List (Int × Int)) (h : ZRow w g zs) (k n c : Nat) (hk : k < n) (hn : n = zs.length) :
    ∃ w', (∀ ty, (Builtin.clear_ #[36] ty #[.slice (some ⟨g, k * 2, none⟩) (n - k) c]).run Tryz.prog w = .ok (.tuple #[]) w') ∧ ZRow w' g (zs.take k) ∧ Oth g w w' := by
  subst hn
  have hlen : (Builtin.zeroCells #[.int .i64 0, .int .i64 0] (zs.length - k)).toList.length = (zs.length - k) * 2 := by simp [Builtin.zeroCells]
  have hcell : ∀ j, j < (zs.length - k) * 2 → (w.cell? ⟨g, k * 2 + 0 + j, none⟩).isSome = true ∧ w.frozen? ⟨g, k * 2 + 0 + j, none⟩ = false := by
    intro j hj
    obtain ⟨a1, a2, a3, a4⟩ := h.2 (k + j / 2) _ (List.getElem?_eq_getElem (by omega))
    rcases Nat.mod_two_eq_zero_or_one j with hm | hm
    · rw [show k * 2 + 0 + j = (k + j / 2) * 2 by omega, a1, a3]; exact ⟨rfl, rfl⟩
    · rw [show k * 2 + 0 + j = (k + j / 2) * 2 + 1 by omega, a2, a4]; exact ⟨rfl, rfl⟩
  have hst := run_storeCells_cells (P := Tryz.prog) g (k * 2) (Builtin.zeroCells #[.int .i64 0, .int .i64 0] (zs.length - k)).toList 0 w (by rw [hlen]; exact fun j hj => (hcell j hj).1) (by rw [hlen]; exact fun j hj => (hcell j hj).2) (by
    intro v hv
    simp only [Builtin.zeroCells] at hv
    simp at hv
    obtain ⟨a, ha, rfl⟩ := hv
    have : a % 2 < 2 := Nat.mod_lt _ (by omega)
    match a % 2, this with
    | 0, _ => rfl
    | 1, _ => rfl)
  refine ⟨w.setCells g (k * 2) (Builtin.zeroCells #[.int .i64 0, .int .i64 0] (zs.length - k)).toList, ?_, ?_, oth_setCells _ _ _ (Oth.refl g w)⟩
  · intro ty
    obtain ⟨m, hm⟩ : ∃ m, zs.length - k = m + 1 := ⟨zs.length - k - 1, by omega⟩
    rw [hm] at hst ⊢
    simp [Builtin.clear_, run_underlying Tryz.underlying36, Tryz.zeroValue24, Value.cells, hst]
  · refine ⟨by rw [size_setCells]; exact h.1, fun j c hc => ?_⟩
    have hj : j < k := by have := (List.getElem?_eq_some_iff.1 hc).1; simp at this; omega
    rw [List.getElem?_take_of_lt hj] at hc
    obtain ⟨a1, a2, a3, a4⟩ := h.2 j c hc
    refine ⟨?_, ?_, by rw [World.frozen?_setCells]; exact a3, by rw [World.frozen?_setCells]; exact a4⟩
    · rw [World.cell?_setCells_out g _ _ _ _ (fun _ _ => Or.inl (by simp; omega))]; exact a1
    · rw [World.cell?_setCells_out g _ _ _ _ (fun _ _ => Or.inl (by simp; omega))]; exact a2

set_option maxRecDepth 100000 in
theorem slice_low (g n k : Nat) (hk : k < n) (w : World) : (Instr.slice 36 (.slice (some ⟨g, 0, none⟩) n n) (some (.int .i64 (k : Int))) none none).run Tryz.prog w = .ok (.slice (some ⟨g, k * 2, none⟩) (n - k) (n - k)) w := by
  rw [run_slice_l (P := Tryz.prog) (w := w) 36 _ _ _ Tryz.underlying36 .i64 (k : Int) (by omega) (by omega), show Tryz.prog.elem 36 = 24 by kernel_rfl, Tryz.sizeOf24]
  simp [Result.andThen, sliced, add_at, show ¬ n = k by omega]

set_option maxRecDepth 100000 in
theorem slice_high (g n k : Nat) (hk : k ≤ n) (w : World) : (Instr.slice 36 (.slice (some ⟨g, 0, none⟩) n n) none (some (.int .i64 (k : Int))) none).run Tryz.prog w = .ok (.slice (some ⟨g, 0, none⟩) k n) w := by
  rw [run_slice_h (P := Tryz.prog) (w := w) 36 _ _ _ Tryz.underlying36 .i64 (k : Int) (by omega) (by omega), show Tryz.prog.elem 36 = 24 by kernel_rfl, Tryz.sizeOf24]
  simp [Result.andThen, sliced, add_at]

set_option maxRecDepth 100000 in
set_option maxHeartbeats 2000000 in
theorem compact_any (g n : Nat) (zs : List (Int × Int)) (w : World) (h : ZRow w g zs) (hn : n = zs.length) (hl : n ≤ 20000) :
    Calls Tryz.prog 52 #[.slice (some ⟨g, 0, none⟩) n n] w fun e w' => e = .returned (.slice (some ⟨g, 0, none⟩) (cmpS zs).length n) ∧ ZRow w' g (cmpS zs) ∧ Oth g w w' := by
  have HZ := Lib.hid h
  have HN := Lib.hid hn
  clear h hn
  by_cases h2 : n < 2
  · have hg : decide ((n : Int) < 2) = true := by simp; omega
    have HE : Hid (cmpS zs = zs) := by
      show _ = _
      have := HN.out
      match zs, this with
      | [], _ => rfl
      | [a], _ => rfl
      | a :: b :: r, h => simp at h; omega
    go_enter Tryz.func52, Tryz.ntmps52
    go_wp2_with fail
    go_ret
    rw [HE.out]
    exact ⟨by rw [← HN.out]; rfl, HZ.out, Oth.refl _ _⟩
  · have hg : decide ((n : Int) < 2) = false := by simp; omega
    go_enter Tryz.func52, Tryz.ntmps52
    go_wp2_with fail
    clear hg
    go_loopg [3, 4, 5] n (fun kk v a b wr => ∃ j q : Nat, kk = n - j ∧ j + 1 ≤ n ∧ v = .int .i64 ((j : Int) + 1) ∧ cmpS (zs.take (j + 1)) = zs.take (j + 1) ∧ wr = w.drewN q)
    case atStart =>
      refine ⟨0, 0, rfl, by omega, rfl, ?_, rfl⟩
      have := HN.out
      match zs, this with
      | [], h => simp at h; omega
      | a :: r, _ => rfl
    case round =>
      obtain ⟨j, q, hk, hj, rfl, hc, rfl⟩ := hrel
      have HK := Lib.hid hk
      have HC := Lib.hid hc
      clear hk hc
      have hw1 : IntKind.i64.wrap ((j : Int) + 1 - 1) = (j : Int) := by rw [IntWalk.i64_in _ (by omega)]; omega
      have hw2 : IntKind.i64.wrap ((j : Int) + 1 + 1) = (j : Int) + 1 + 1 := IntWalk.i64_in _ (by omega)
      by_cases hlt : j + 1 < n
      · obtain ⟨c, hc⟩ : ∃ c, zs[j]? = some c := by have := HN.out; exact ⟨zs[j], List.getElem?_eq_getElem (by omega)⟩
        obtain ⟨d, hd⟩ : ∃ d, zs[j + 1]? = some d := by have := HN.out; exact ⟨zs[j + 1], List.getElem?_eq_getElem (by omega)⟩
        obtain ⟨x0, x1, _⟩ := HZ.out.2 j c hc
        obtain ⟨y0, y1, _⟩ := HZ.out.2 (j + 1) d hd
        have HST := Lib.hid (cmpS_step hc hd)
        have HTK : Hid (zs.take (j + 2) = zs.take (j + 1) ++ [d]) := by
          show _ = _
          rw [List.take_add_one (i := j + 1), hd]; rfl
        have hg : decide ((j : Int) + 1 < (n : Int)) = true := by simp; omega
        have hi1 : (j : Int) + 1 < (n : Int) := by omega
        have hi2 : (0 : Int) ≤ (j : Int) + 1 := by omega
        have hi3 : (j : Int) < (n : Int) := by omega
        clear hc hd
        by_cases he : c = d
        · subst he
          have e1 : (c.1 == c.1) = true := by simp
          have e2 : (c.2 == c.2) = true := by simp
          have hcut : ∀ w, (Instr.slice 36 (.slice (some ⟨g, 0, none⟩) n n) (some (.int .i64 ((j : Int) + 1))) none none).run Tryz.prog w = .ok (.slice (some ⟨g, (j + 1) * 2, none⟩) (n - (j + 1)) (n - (j + 1))) w := fun w => by
            have := slice_low g n (j + 1) hlt w
            rw [Int.natCast_add] at this
            exact this
          have HC1 : Hid (cmpS (zs.take (j + 1 + 0 + 1)) = zs.take (j + 1)) := by
            show _ = _
            rw [show j + 1 + 0 + 1 = j + 2 from rfl, HST.out, if_pos rfl, HC.out]
          clear hw2
          go_wp2_with fail
          go_quiet (fail)
          go_wp2_with fail
          clear hg hi1 hi2 hi3 x0 x1 y0 y1 e1 e2 hcut
          go_loopg [3, 5] (n - (j + 1)) (fun kk v3 v5 wr => ∃ i : Nat, kk = n - (j + 1) - i ∧ j + 1 + i + 1 ≤ n ∧ v5 = .int .i64 ((i : Int) + 1) ∧ v3 = .int .i64 ((cmpS (zs.take (j + 1 + i + 1))).length : Int) ∧ (cmpS (zs.take (j + 1 + i + 1))).length ≤ j + 1 + i ∧ ZRow wr g (cmpS (zs.take (j + 1 + i + 1)) ++ zs.drop (cmpS (zs.take (j + 1 + i + 1))).length) ∧ Oth g w wr)
          case atStart =>
            have hlen : (zs.take (j + 1)).length = j + 1 := by rw [List.length_take]; have := HN.out; omega
            refine ⟨0, by omega, by omega, rfl, ?_, ?_, ?_, below_drewN (Below.refl _ _) _, fun k _ _ => rfl⟩
            · rw [HC1.out, hlen]; rfl
            · rw [HC1.out, hlen]; omega
            · rw [HC1.out, hlen, List.take_append_drop]; exact HZ.out
          case round =>
            obtain ⟨i, hk2, hi, rfl, rfl, hcl, hz, ho⟩ := hrel
            have HK2 := Lib.hid hk2
            have HZ2 := Lib.hid hz
            have HO2 := Lib.hid ho
            clear hk2 hz ho
            have hmem : ∀ t, (cmpS (zs.take (j + 1 + i + 1))).length ≤ t → (cmpS (zs.take (j + 1 + i + 1)) ++ zs.drop (cmpS (zs.take (j + 1 + i + 1))).length)[t]? = zs[t]? := fun t ht => by
              rw [List.getElem?_append_right ht, List.getElem?_drop]; congr 1; omega
            have hw3 : IntKind.i64.wrap ((i : Int) + 1 - 1) = (i : Int) := by rw [IntWalk.i64_in _ (by omega)]; omega
            have hw4 : IntKind.i64.wrap ((i : Int) + 1 + 1) = (i : Int) + 1 + 1 := IntWalk.i64_in _ (by omega)
            by_cases hlt2 : j + 1 + i + 1 < n
            · obtain ⟨u, hu⟩ : ∃ u, zs[j + 1 + i]? = some u := by have := HN.out; exact ⟨zs[j + 1 + i], List.getElem?_eq_getElem (by omega)⟩
              obtain ⟨v, hv⟩ : ∃ v, zs[j + 1 + i + 1]? = some v := by have := HN.out; exact ⟨zs[j + 1 + i + 1], List.getElem?_eq_getElem (by omega)⟩
              have HS2 := Lib.hid (cmpS_step hu hv)
              obtain ⟨a0, a1, _⟩ := HZ2.out.2 (j + 1 + i) u (by rw [hmem _ hcl]; exact hu)
              obtain ⟨b0, b1, _⟩ := HZ2.out.2 (j + 1 + i + 1) v (by rw [hmem _ (by omega)]; exact hv)
              have x0 : wr.cell? ⟨g, (j + 1) * 2 + i * 2, none⟩ = some (.int .i64 u.1) := by rw [show (j + 1) * 2 + i * 2 = (j + 1 + i) * 2 by omega]; exact a0
              have x1 : wr.cell? ⟨g, (j + 1) * 2 + i * 2 + 1, none⟩ = some (.int .i64 u.2) := by rw [show (j + 1) * 2 + i * 2 + 1 = (j + 1 + i) * 2 + 1 by omega]; exact a1
              have y0 : wr.cell? ⟨g, (j + 1) * 2 + (i + 1) * 2, none⟩ = some (.int .i64 v.1) := by rw [show (j + 1) * 2 + (i + 1) * 2 = (j + 1 + i + 1) * 2 by omega]; exact b0
              have y1 : wr.cell? ⟨g, (j + 1) * 2 + (i + 1) * 2 + 1, none⟩ = some (.int .i64 v.2) := by rw [show (j + 1) * 2 + (i + 1) * 2 + 1 = (j + 1 + i + 1) * 2 + 1 by omega]; exact b1
              obtain ⟨m, hm⟩ : ∃ m, m = n - (j + 1) := ⟨_, rfl⟩
              rw [← hm]
              have hg : decide ((i : Int) + 1 < (m : Int)) = true := by simp; omega
              have hi1 : (i : Int) + 1 < (m : Int) := by omega
              have hi2 : (0 : Int) ≤ (i : Int) + 1 := by omega
              have hi3 : (i : Int) < (m : Int) := by omega
              have HM := Lib.hid hm
              have hvl : (cmpS (zs.take (j + 1 + i + 1))).length < (cmpS (zs.take (j + 1 + i + 1)) ++ zs.drop (cmpS (zs.take (j + 1 + i + 1))).length).length := by
                rw [List.length_append, List.length_drop]; have := HN.out; omega
              have HSET := Lib.hid (HZ2.out.set (cmpS (zs.take (j + 1 + i + 1))).length v hvl)
              obtain ⟨z0, z1, z2, z3⟩ := HZ2.out.2 (cmpS (zs.take (j + 1 + i + 1))).length _ (List.getElem?_eq_getElem hvl)
              have HDR : Hid ((cmpS (zs.take (j + 1 + i + 1)) ++ zs.drop (cmpS (zs.take (j + 1 + i + 1))).length).set (cmpS (zs.take (j + 1 + i + 1))).length v = (cmpS (zs.take (j + 1 + i + 1)) ++ [v]) ++ zs.drop (cmpS (zs.take (j + 1 + i + 1)) ++ [v]).length) := by
                show _ = _
                rw [List.set_append_right _ _ (Nat.le_refl _), Nat.sub_self, List.length_append, List.append_assoc]
                congr 1
                have hcn : (cmpS (zs.take (j + 1 + i + 1))).length < zs.length := by have := HN.out; omega
                rw [List.drop_eq_getElem_cons hcn]
                rfl
              clear hu hv a0 a1 b0 b1 hm hmem
              generalize hCC : cmpS (zs.take (j + 1 + i + 1)) = C at *
              generalize hCL : C.length = k at *
              have hkn : k < n := by omega
              have hi4 : (k : Int) < (n : Int) := by omega
              have hw5 : IntKind.i64.wrap ((k : Int) + 1) = (k : Int) + 1 := IntWalk.i64_in _ (by omega)
              generalize (C ++ zs.drop k)[k] = zz at *
              have HCL := Lib.hid hCL
              clear hCC hCL
              by_cases huv : u = v
              · subst huv
                have HE2 : Hid (cmpS (zs.take (j + 1 + (i + 1) + 1)) = C) := by
                  show _ = _
                  rw [show j + 1 + (i + 1) + 1 = j + 1 + i + 2 by omega, HS2.out, if_pos rfl]
                have e1 : (u.1 == u.1) = true := by simp
                have e2 : (u.2 == u.2) = true := by simp
                clear HSET
                go_wp2_with fail
                go_quiet (fail)
                go_wp2_with fail
                rw [HM.out]
                go_roundg (n - (j + 1) - (i + 1))
                case measure => rw [HK2.out]; omega
                case rel =>
                  refine ⟨i + 1, rfl, by omega, by go_num, ?_, ?_, ?_, ?_⟩
                  · rw [HE2.out, HCL.out]
                  · rw [HE2.out, HCL.out]; omega
                  · rw [HE2.out, HCL.out]; exact HZ2.out
                  · exact ⟨below_drewN HO2.out.1 _, HO2.out.2⟩
              · have HE2 : Hid (cmpS (zs.take (j + 1 + (i + 1) + 1)) = C ++ [v]) := by
                  show _ = _
                  rw [show j + 1 + (i + 1) + 1 = j + 1 + i + 2 by omega, HS2.out, if_neg huv]
                have HR : Hid (ZRow ((wr.setCell ⟨g, k * 2, none⟩ (.int .i64 v.1)).setCell ⟨g, k * 2 + 1, none⟩ (.int .i64 v.2)) g (cmpS (zs.take (j + 1 + (i + 1) + 1)) ++ zs.drop (cmpS (zs.take (j + 1 + (i + 1) + 1))).length)) := by
                  show ZRow _ _ _
                  rw [HE2.out, ← HDR.out]; exact HSET.out
                have HR2 : Hid (Oth g w ((wr.setCell ⟨g, k * 2, none⟩ (.int .i64 v.1)).setCell ⟨g, k * 2 + 1, none⟩ (.int .i64 v.2))) := (HO2.out.set _ _).set _ _
                have hcl2 : (C ++ [v]).length = k + 1 := by rw [List.length_append, HCL.out]; rfl
                have HCL2 := Lib.hid hcl2
                clear HSET HDR hcl2
                by_cases hx : v.1 = u.1
                · have hy : v.2 ≠ u.2 := fun e => huv (Prod.ext hx.symm e.symm)
                  have e1 : (v.1 == u.1) = true := by rw [beq_iff_eq]; exact hx
                  have e2 : (v.2 == u.2) = false := by rw [beq_eq_false_iff_ne]; exact hy
                  clear hx hy huv
                  go_wp2_with fail
                  go_quiet (fail)
                  go_wp2_with fail
                  rw [HM.out]
                  go_roundg (n - (j + 1) - (i + 1))
                  case measure => rw [HK2.out]; omega
                  case rel => exact ⟨i + 1, rfl, by omega, by go_num, by rw [HE2.out, HCL2.out]; go_num, by rw [HE2.out, HCL2.out]; omega, HR.out, below_drewN HR2.out.1 _, HR2.out.2⟩
                · have e1 : (v.1 == u.1) = false := by rw [beq_eq_false_iff_ne]; exact hx
                  clear hx huv
                  go_wp2_with fail
                  go_quiet (fail)
                  go_wp2_with fail
                  rw [HM.out]
                  go_roundg (n - (j + 1) - (i + 1))
                  case measure => rw [HK2.out]; omega
                  case rel => exact ⟨i + 1, rfl, by omega, by go_num, by rw [HE2.out, HCL2.out]; go_num, by rw [HE2.out, HCL2.out]; omega, HR.out, below_drewN HR2.out.1 _, HR2.out.2⟩
            · have hin : j + 1 + i + 1 = n := by omega
              have HTA : Hid (zs.take (j + 1 + i + 1) = zs) := List.take_of_length_le (by have := HN.out; omega)
              rw [HTA.out] at hcl HZ2 ⊢
              obtain ⟨m, hm⟩ : ∃ m, m = n - (j + 1) := ⟨_, rfl⟩
              rw [← hm]
              have hg : decide ((i : Int) + 1 < (m : Int)) = false := by simp; omega
              have hkn : (cmpS zs).length < n := by omega
              obtain ⟨w5, hcl5, hz5, ho5⟩ := clear_pts wr g _ HZ2.out (cmpS zs).length n (n - (cmpS zs).length) hkn (by rw [List.length_append, List.length_drop]; have := HN.out; omega)
              have HZ5 : Hid (ZRow w5 g (cmpS zs)) := by rw [List.take_left] at hz5; exact hz5
              have HO5 := Lib.hid (HO2.out.trans ho5)
              have hcut := slice_low g n (cmpS zs).length hkn
              have hcut2 := slice_high g n (cmpS zs).length (Nat.le_of_lt hkn)
              clear hz5 ho5 hmem HZ2 hm
              go_wp2_with fail
              go_ret
              exact ⟨rfl, HZ5.out, HO5.out⟩
        · have HNE : Hid (cmpS (zs.take (j + 1 + 1)) = zs.take (j + 1 + 1)) := by
            show _ = _
            rw [show j + 1 + 1 = j + 2 from rfl, HST.out, if_neg he, HC.out, HTK.out]
          by_cases hx : d.1 = c.1
          · have hy : d.2 ≠ c.2 := fun e => he (Prod.ext hx.symm e.symm)
            have e1 : (d.1 == c.1) = true := by rw [beq_iff_eq]; exact hx
            have e2 : (d.2 == c.2) = false := by rw [beq_eq_false_iff_ne]; exact hy
            clear he hx hy
            go_wp2_with fail
            go_quiet (fail)
            go_wp2_with fail
            go_roundg (n - (j + 1))
            case measure => rw [HK.out]; omega
            case rel => exact ⟨j + 1, _, rfl, hlt, by go_num, HNE.out, rfl⟩
          · have e1 : (d.1 == c.1) = false := by rw [beq_eq_false_iff_ne]; exact hx
            clear he hx
            go_wp2_with fail
            go_quiet (fail)
            go_wp2_with fail
            go_roundg (n - (j + 1))
            case measure => rw [HK.out]; omega
            case rel => exact ⟨j + 1, _, rfl, hlt, by go_num, HNE.out, rfl⟩
      · have hg : decide ((j : Int) + 1 < (n : Int)) = false := by simp; omega
        have HE : Hid (cmpS zs = zs) := by
          have := HC.out
          rw [List.take_of_length_le (by have := HN.out; omega)] at this
          exact this
        go_wp2_with fail
        go_ret
        rw [HE.out]
        exact ⟨by rw [← HN.out]; rfl, HZ.out, below_drewN (Below.refl _ _) _, fun k _ _ => rfl⟩
end Go.Proofs.YtnfjmmkokhncoaaGreat
end
