/- Package area: the finder's four: contract. -/
import Derived.Test.YtnfjmmkokhncoaaGreatM27
import Derived.Test.YtnfjmmkokhncoaaGreatQd8
namespace Go.Proofs.YtnfjmmkokhncoaaGreat
open Go.RowKit Go.Maps
set_option maxRecDepth 100000

/-- Four parts, as cells. -/
def f24 (p0 p1 p2 p3 : Nat × Int × R4) : Array Value := #[.int .u32 (p0.1 : Int), .int .i64 p0.2.1, .int .i64 p0.2.2.x, .int .i64 p0.2.2.y, .int .i64 p0.2.2.X, .int .i64 p0.2.2.Y, .int .u32 (p1.1 : Int), .int .i64 p1.2.1, .int .i64 p1.2.2.x, .int .i64 p1.2.2.y, .int .i64 p1.2.2.X, .int .i64 p1.2.2.Y, .int .u32 (p2.1 : Int), .int .i64 p2.2.1, .int .i64 p2.2.2.x, .int .i64 p2.2.2.y, .int .i64 p2.2.2.X, .int .i64 p2.2.2.Y, .int .u32 (p3.1 : Int), .int .i64 p3.2.1, .int .i64 p3.2.2.x, .int .i64 p3.2.2.y, .int .i64 p3.2.2.X, .int .i64 p3.2.2.Y]
structure F24 (w : World) (B : Nat) (p0 p1 p2 p3 : Nat × Int × R4) : Prop where
  at_ : w.heap[B]? = some (.cells (f24 p0 p1 p2 p3) 125 (0, 0))
theorem F24.lt {w : World} {B : Nat} {p0 p1 p2 p3 : Nat × Int × R4} (h : F24 w B p0 p1 p2 p3) : B < w.heap.size := (Array.getElem?_eq_some_iff.1 h.at_).1
theorem F24.later {w w' : World} {B : Nat} {p0 p1 p2 p3 : Nat × Int × R4} (h : F24 w B p0 p1 p2 p3) (hb : Below w.heap.size w w') : F24 w' B p0 p1 p2 p3 := ⟨by rw [hb.block B h.lt]; exact h.at_⟩
theorem F24.c {w : World} {B : Nat} {p0 p1 p2 p3 : Nat × Int × R4} (h : F24 w B p0 p1 p2 p3) (i : Nat) : w.cell? ⟨B, i, none⟩ = (f24 p0 p1 p2 p3)[i]? := by rw [Lib.cell_of_heap h.at_]
theorem F24.f {w : World} {B : Nat} {p0 p1 p2 p3 : Nat × Int × R4} (h : F24 w B p0 p1 p2 p3) (i : Nat) : w.frozen? ⟨B, i, none⟩ = false := Lib.frozen_of_heap h.at_ i
theorem F24.put0 {w : World} {B : Nat} {p0 p1 p2 p3 : Nat × Int × R4} (h : F24 w B p0 p1 p2 p3) (q : Nat × Int × R4) : F24 ((((((w.setCell ⟨B, 0, none⟩ (.int .u32 (q.1 : Int))).setCell ⟨B, 1, none⟩ (.int .i64 q.2.1)).setCell ⟨B, 2, none⟩ (.int .i64 q.2.2.x)).setCell ⟨B, 3, none⟩ (.int .i64 q.2.2.y)).setCell ⟨B, 4, none⟩ (.int .i64 q.2.2.X)).setCell ⟨B, 5, none⟩ (.int .i64 q.2.2.Y)) B q p1 p2 p3 := ⟨by
  have := h.at_
  simp only [World.setCell, Array.getElem?_modify, this, f24]; simp⟩
theorem F24.put1 {w : World} {B : Nat} {p0 p1 p2 p3 : Nat × Int × R4} (h : F24 w B p0 p1 p2 p3) (q : Nat × Int × R4) : F24 ((((((w.setCell ⟨B, 6, none⟩ (.int .u32 (q.1 : Int))).setCell ⟨B, 7, none⟩ (.int .i64 q.2.1)).setCell ⟨B, 8, none⟩ (.int .i64 q.2.2.x)).setCell ⟨B, 9, none⟩ (.int .i64 q.2.2.y)).setCell ⟨B, 10, none⟩ (.int .i64 q.2.2.X)).setCell ⟨B, 11, none⟩ (.int .i64 q.2.2.Y)) B p0 q p2 p3 := ⟨by
  have := h.at_
  simp only [World.setCell, Array.getElem?_modify, this, f24]; simp⟩
theorem F24.put2 {w : World} {B : Nat} {p0 p1 p2 p3 : Nat × Int × R4} (h : F24 w B p0 p1 p2 p3) (q : Nat × Int × R4) : F24 ((((((w.setCell ⟨B, 12, none⟩ (.int .u32 (q.1 : Int))).setCell ⟨B, 13, none⟩ (.int .i64 q.2.1)).setCell ⟨B, 14, none⟩ (.int .i64 q.2.2.x)).setCell ⟨B, 15, none⟩ (.int .i64 q.2.2.y)).setCell ⟨B, 16, none⟩ (.int .i64 q.2.2.X)).setCell ⟨B, 17, none⟩ (.int .i64 q.2.2.Y)) B p0 p1 q p3 := ⟨by
  have := h.at_
  simp only [World.setCell, Array.getElem?_modify, this, f24]; simp⟩
theorem F24.put3 {w : World} {B : Nat} {p0 p1 p2 p3 : Nat × Int × R4} (h : F24 w B p0 p1 p2 p3) (q : Nat × Int × R4) : F24 ((((((w.setCell ⟨B, 18, none⟩ (.int .u32 (q.1 : Int))).setCell ⟨B, 19, none⟩ (.int .i64 q.2.1)).setCell ⟨B, 20, none⟩ (.int .i64 q.2.2.x)).setCell ⟨B, 21, none⟩ (.int .i64 q.2.2.y)).setCell ⟨B, 22, none⟩ (.int .i64 q.2.2.X)).setCell ⟨B, 23, none⟩ (.int .i64 q.2.2.Y)) B p0 p1 p2 q := ⟨by
  have := h.at_
  simp only [World.setCell, Array.getElem?_modify, this, f24]; simp⟩
def z6 : Nat × Int × R4 := (0, 0, r0)
theorem F24.new (w : World) : F24 (w.alloc (.cells #[.int .u32 0, .int .i64 0, .int .i64 0, .int .i64 0, .int .i64 0, .int .i64 0, .int .u32 0, .int .i64 0, .int .i64 0, .int .i64 0, .int .i64 0, .int .i64 0, .int .u32 0, .int .i64 0, .int .i64 0, .int .i64 0, .int .i64 0, .int .i64 0, .int .u32 0, .int .i64 0, .int .i64 0, .int .i64 0, .int .i64 0, .int .i64 0] 125)) w.heap.size z6 z6 z6 z6 := ⟨heap_alloc_new w _⟩
/-- The parts of a part. -/
def pq (k : K4) (n : Nat) (r : R4) (i : Nat) : Nat × Int × R4 := (kAt k i, (n : Int), qR r n (decide (i % 2 = 1)) (decide (2 ≤ i)))
def fourP (k : K4) (n : Nat) (r : R4) : Value := .agg (f24 (pq k n r 0) (pq k n r 1) (pq k n r 2) (pq k n r 3))
theorem pix0 (p0 p1 p2 p3 : Nat × Int × R4) (w : World) : (Instr.index 125 (.agg (f24 p0 p1 p2 p3)) (.int .i64 0)).run Tryz.prog w = .ok (.agg #[.int .u32 (p0.1 : Int), .int .i64 p0.2.1, .int .i64 p0.2.2.x, .int .i64 p0.2.2.y, .int .i64 p0.2.2.X, .int .i64 p0.2.2.Y]) w := by kernel_rfl
theorem pix1 (p0 p1 p2 p3 : Nat × Int × R4) (w : World) : (Instr.index 125 (.agg (f24 p0 p1 p2 p3)) (.int .i64 1)).run Tryz.prog w = .ok (.agg #[.int .u32 (p1.1 : Int), .int .i64 p1.2.1, .int .i64 p1.2.2.x, .int .i64 p1.2.2.y, .int .i64 p1.2.2.X, .int .i64 p1.2.2.Y]) w := by kernel_rfl
theorem pix2 (p0 p1 p2 p3 : Nat × Int × R4) (w : World) : (Instr.index 125 (.agg (f24 p0 p1 p2 p3)) (.int .i64 2)).run Tryz.prog w = .ok (.agg #[.int .u32 (p2.1 : Int), .int .i64 p2.2.1, .int .i64 p2.2.2.x, .int .i64 p2.2.2.y, .int .i64 p2.2.2.X, .int .i64 p2.2.2.Y]) w := by kernel_rfl
theorem pix3 (p0 p1 p2 p3 : Nat × Int × R4) (w : World) : (Instr.index 125 (.agg (f24 p0 p1 p2 p3)) (.int .i64 3)).run Tryz.prog w = .ok (.agg #[.int .u32 (p3.1 : Int), .int .i64 p3.2.1, .int .i64 p3.2.2.x, .int .i64 p3.2.2.y, .int .i64 p3.2.2.X, .int .i64 p3.2.2.Y]) w := by kernel_rfl
theorem pix (k : K4) (n : Nat) (r : R4) {i : Nat} (hi : i < 4) (w : World) : (Instr.index 125 (fourP k n r) (.int .i64 (i : Int))).run Tryz.prog w = .ok (.agg #[.int .u32 ((pq k n r i).1 : Int), .int .i64 (pq k n r i).2.1, .int .i64 (pq k n r i).2.2.x, .int .i64 (pq k n r i).2.2.y, .int .i64 (pq k n r i).2.2.X, .int .i64 (pq k n r i).2.2.Y]) w := by
  unfold fourP
  have : i = 0 ∨ i = 1 ∨ i = 2 ∨ i = 3 := by omega
  rcases this with rfl | rfl | rfl | rfl
  · exact pix0 _ _ _ _ w
  · exact pix1 _ _ _ _ w
  · exact pix2 _ _ _ _ w
  · exact pix3 _ _ _ _ w
/-- The blocks of four: the part, the result, the four. -/
structure Hf (w : World) (a : Part) (p0 p1 p2 p3 : Nat × Int × R4) (W : World) : Prop where
  bel : Below w.heap.size w W
  one : W.heap[w.heap.size]? = some (ptO8 a)
  res : F24 W (w.heap.size + 1) z6 z6 z6 z6
  four : F24 W (w.heap.size + 1 + 1) p0 p1 p2 p3
theorem Hf.later {w W W' : World} {a : Part} {p0 p1 p2 p3 : Nat × Int × R4} (h : Hf w a p0 p1 p2 p3 W) (hb : Below W.heap.size W W') : Hf w a p0 p1 p2 p3 W' :=
  ⟨h.bel.trans (hb.mono h.bel.size), keep8 h.one hb, h.res.later hb, h.four.later hb⟩
theorem Hf.drewN {w W : World} {a : Part} {p0 p1 p2 p3 : Nat × Int × R4} (h : Hf w a p0 p1 p2 p3 W) (k : Nat) : Hf w a p0 p1 p2 p3 (W.drewN k) :=
  ⟨⟨h.bel.os, h.bel.tape, h.bel.output, h.bel.size, h.bel.block⟩, h.one, ⟨h.res.at_⟩, ⟨h.four.at_⟩⟩
theorem Hf.set {w W : World} {a : Part} {p0 p1 p2 p3 : Nat × Int × R4} (h : Hf w a p0 p1 p2 p3 W) {b : Nat} (hb : w.heap.size + 1 + 1 < b) (i : Nat) (v : Value) : Hf w a p0 p1 p2 p3 (W.setCell ⟨b, i, none⟩ v) :=
  ⟨h.bel.setCell (p := ⟨b, i, none⟩) (by show _ ≤ b; omega) v, by rw [Below.heap_setCell _ _ _ _ (by show w.heap.size ≠ b; omega)]; exact h.one, ⟨by rw [Below.heap_setCell _ _ _ _ (by show w.heap.size + 1 ≠ b; omega)]; exact h.res.at_⟩, ⟨by rw [Below.heap_setCell _ _ _ _ (by show w.heap.size + 1 + 1 ≠ b; omega)]; exact h.four.at_⟩⟩
theorem Hf.other {w W : World} {a : Part} {p0 p1 p2 p3 : Nat × Int × R4} (h : Hf w a p0 p1 p2 p3 W) (i : Nat) (v : Value) : Below w.heap.size w (W.setCell ⟨w.heap.size + 1 + 1, i, none⟩ v) ∧ (W.setCell ⟨w.heap.size + 1 + 1, i, none⟩ v).heap[w.heap.size]? = some (ptO8 a) ∧ F24 (W.setCell ⟨w.heap.size + 1 + 1, i, none⟩ v) (w.heap.size + 1) z6 z6 z6 z6 :=
  ⟨h.bel.setCell (p := ⟨w.heap.size + 1 + 1, i, none⟩) (by show _ ≤ w.heap.size + 1 + 1; omega) v, by rw [Below.heap_setCell _ _ _ _ (by show w.heap.size ≠ w.heap.size + 1 + 1; omega)]; exact h.one, ⟨by rw [Below.heap_setCell _ _ _ _ (by show w.heap.size + 1 ≠ w.heap.size + 1 + 1; omega)]; exact h.res.at_⟩⟩
theorem Hf.put0 {w W : World} {a : Part} {p0 p1 p2 p3 : Nat × Int × R4} (h : Hf w a p0 p1 p2 p3 W) (q : Nat × Int × R4) : Hf w a q p1 p2 p3 ((((((W.setCell ⟨w.heap.size + 1 + 1, 0, none⟩ (.int .u32 (q.1 : Int))).setCell ⟨w.heap.size + 1 + 1, 1, none⟩ (.int .i64 q.2.1)).setCell ⟨w.heap.size + 1 + 1, 2, none⟩ (.int .i64 q.2.2.x)).setCell ⟨w.heap.size + 1 + 1, 3, none⟩ (.int .i64 q.2.2.y)).setCell ⟨w.heap.size + 1 + 1, 4, none⟩ (.int .i64 q.2.2.X)).setCell ⟨w.heap.size + 1 + 1, 5, none⟩ (.int .i64 q.2.2.Y)) := by
  have hf := h.four.put0 q
  refine ⟨?_, ?_, ⟨?_⟩, hf⟩
  · exact ((((((h.bel.setCell (p := ⟨w.heap.size + 1 + 1, 0, none⟩) (by show _ ≤ w.heap.size + 1 + 1; omega) _).setCell (p := ⟨w.heap.size + 1 + 1, 1, none⟩) (by show _ ≤ w.heap.size + 1 + 1; omega) _).setCell (p := ⟨w.heap.size + 1 + 1, 2, none⟩) (by show _ ≤ w.heap.size + 1 + 1; omega) _).setCell (p := ⟨w.heap.size + 1 + 1, 3, none⟩) (by show _ ≤ w.heap.size + 1 + 1; omega) _).setCell (p := ⟨w.heap.size + 1 + 1, 4, none⟩) (by show _ ≤ w.heap.size + 1 + 1; omega) _).setCell (p := ⟨w.heap.size + 1 + 1, 5, none⟩) (by show _ ≤ w.heap.size + 1 + 1; omega) _)
  · rw [Below.heap_setCell _ _ _ _ (by show w.heap.size ≠ w.heap.size + 1 + 1; omega), Below.heap_setCell _ _ _ _ (by show w.heap.size ≠ w.heap.size + 1 + 1; omega), Below.heap_setCell _ _ _ _ (by show w.heap.size ≠ w.heap.size + 1 + 1; omega), Below.heap_setCell _ _ _ _ (by show w.heap.size ≠ w.heap.size + 1 + 1; omega), Below.heap_setCell _ _ _ _ (by show w.heap.size ≠ w.heap.size + 1 + 1; omega), Below.heap_setCell _ _ _ _ (by show w.heap.size ≠ w.heap.size + 1 + 1; omega)]; exact h.one
  · rw [Below.heap_setCell _ _ _ _ (by show w.heap.size + 1 ≠ w.heap.size + 1 + 1; omega), Below.heap_setCell _ _ _ _ (by show w.heap.size + 1 ≠ w.heap.size + 1 + 1; omega), Below.heap_setCell _ _ _ _ (by show w.heap.size + 1 ≠ w.heap.size + 1 + 1; omega), Below.heap_setCell _ _ _ _ (by show w.heap.size + 1 ≠ w.heap.size + 1 + 1; omega), Below.heap_setCell _ _ _ _ (by show w.heap.size + 1 ≠ w.heap.size + 1 + 1; omega), Below.heap_setCell _ _ _ _ (by show w.heap.size + 1 ≠ w.heap.size + 1 + 1; omega)]; exact h.res.at_
theorem Hf.put1 {w W : World} {a : Part} {p0 p1 p2 p3 : Nat × Int × R4} (h : Hf w a p0 p1 p2 p3 W) (q : Nat × Int × R4) : Hf w a p0 q p2 p3 ((((((W.setCell ⟨w.heap.size + 1 + 1, 6, none⟩ (.int .u32 (q.1 : Int))).setCell ⟨w.heap.size + 1 + 1, 7, none⟩ (.int .i64 q.2.1)).setCell ⟨w.heap.size + 1 + 1, 8, none⟩ (.int .i64 q.2.2.x)).setCell ⟨w.heap.size + 1 + 1, 9, none⟩ (.int .i64 q.2.2.y)).setCell ⟨w.heap.size + 1 + 1, 10, none⟩ (.int .i64 q.2.2.X)).setCell ⟨w.heap.size + 1 + 1, 11, none⟩ (.int .i64 q.2.2.Y)) := by
  have hf := h.four.put1 q
  refine ⟨?_, ?_, ⟨?_⟩, hf⟩
  · exact ((((((h.bel.setCell (p := ⟨w.heap.size + 1 + 1, 6, none⟩) (by show _ ≤ w.heap.size + 1 + 1; omega) _).setCell (p := ⟨w.heap.size + 1 + 1, 7, none⟩) (by show _ ≤ w.heap.size + 1 + 1; omega) _).setCell (p := ⟨w.heap.size + 1 + 1, 8, none⟩) (by show _ ≤ w.heap.size + 1 + 1; omega) _).setCell (p := ⟨w.heap.size + 1 + 1, 9, none⟩) (by show _ ≤ w.heap.size + 1 + 1; omega) _).setCell (p := ⟨w.heap.size + 1 + 1, 10, none⟩) (by show _ ≤ w.heap.size + 1 + 1; omega) _).setCell (p := ⟨w.heap.size + 1 + 1, 11, none⟩) (by show _ ≤ w.heap.size + 1 + 1; omega) _)
  · rw [Below.heap_setCell _ _ _ _ (by show w.heap.size ≠ w.heap.size + 1 + 1; omega), Below.heap_setCell _ _ _ _ (by show w.heap.size ≠ w.heap.size + 1 + 1; omega), Below.heap_setCell _ _ _ _ (by show w.heap.size ≠ w.heap.size + 1 + 1; omega), Below.heap_setCell _ _ _ _ (by show w.heap.size ≠ w.heap.size + 1 + 1; omega), Below.heap_setCell _ _ _ _ (by show w.heap.size ≠ w.heap.size + 1 + 1; omega), Below.heap_setCell _ _ _ _ (by show w.heap.size ≠ w.heap.size + 1 + 1; omega)]; exact h.one
  · rw [Below.heap_setCell _ _ _ _ (by show w.heap.size + 1 ≠ w.heap.size + 1 + 1; omega), Below.heap_setCell _ _ _ _ (by show w.heap.size + 1 ≠ w.heap.size + 1 + 1; omega), Below.heap_setCell _ _ _ _ (by show w.heap.size + 1 ≠ w.heap.size + 1 + 1; omega), Below.heap_setCell _ _ _ _ (by show w.heap.size + 1 ≠ w.heap.size + 1 + 1; omega), Below.heap_setCell _ _ _ _ (by show w.heap.size + 1 ≠ w.heap.size + 1 + 1; omega), Below.heap_setCell _ _ _ _ (by show w.heap.size + 1 ≠ w.heap.size + 1 + 1; omega)]; exact h.res.at_
theorem Hf.put2 {w W : World} {a : Part} {p0 p1 p2 p3 : Nat × Int × R4} (h : Hf w a p0 p1 p2 p3 W) (q : Nat × Int × R4) : Hf w a p0 p1 q p3 ((((((W.setCell ⟨w.heap.size + 1 + 1, 12, none⟩ (.int .u32 (q.1 : Int))).setCell ⟨w.heap.size + 1 + 1, 13, none⟩ (.int .i64 q.2.1)).setCell ⟨w.heap.size + 1 + 1, 14, none⟩ (.int .i64 q.2.2.x)).setCell ⟨w.heap.size + 1 + 1, 15, none⟩ (.int .i64 q.2.2.y)).setCell ⟨w.heap.size + 1 + 1, 16, none⟩ (.int .i64 q.2.2.X)).setCell ⟨w.heap.size + 1 + 1, 17, none⟩ (.int .i64 q.2.2.Y)) := by
  have hf := h.four.put2 q
  refine ⟨?_, ?_, ⟨?_⟩, hf⟩
  · exact ((((((h.bel.setCell (p := ⟨w.heap.size + 1 + 1, 12, none⟩) (by show _ ≤ w.heap.size + 1 + 1; omega) _).setCell (p := ⟨w.heap.size + 1 + 1, 13, none⟩) (by show _ ≤ w.heap.size + 1 + 1; omega) _).setCell (p := ⟨w.heap.size + 1 + 1, 14, none⟩) (by show _ ≤ w.heap.size + 1 + 1; omega) _).setCell (p := ⟨w.heap.size + 1 + 1, 15, none⟩) (by show _ ≤ w.heap.size + 1 + 1; omega) _).setCell (p := ⟨w.heap.size + 1 + 1, 16, none⟩) (by show _ ≤ w.heap.size + 1 + 1; omega) _).setCell (p := ⟨w.heap.size + 1 + 1, 17, none⟩) (by show _ ≤ w.heap.size + 1 + 1; omega) _)
  · rw [Below.heap_setCell _ _ _ _ (by show w.heap.size ≠ w.heap.size + 1 + 1; omega), Below.heap_setCell _ _ _ _ (by show w.heap.size ≠ w.heap.size + 1 + 1; omega), Below.heap_setCell _ _ _ _ (by show w.heap.size ≠ w.heap.size + 1 + 1; omega), Below.heap_setCell _ _ _ _ (by show w.heap.size ≠ w.heap.size + 1 + 1; omega), Below.heap_setCell _ _ _ _ (by show w.heap.size ≠ w.heap.size + 1 + 1; omega), Below.heap_setCell _ _ _ _ (by show w.heap.size ≠ w.heap.size + 1 + 1; omega)]; exact h.one
  · rw [Below.heap_setCell _ _ _ _ (by show w.heap.size + 1 ≠ w.heap.size + 1 + 1; omega), Below.heap_setCell _ _ _ _ (by show w.heap.size + 1 ≠ w.heap.size + 1 + 1; omega), Below.heap_setCell _ _ _ _ (by show w.heap.size + 1 ≠ w.heap.size + 1 + 1; omega), Below.heap_setCell _ _ _ _ (by show w.heap.size + 1 ≠ w.heap.size + 1 + 1; omega), Below.heap_setCell _ _ _ _ (by show w.heap.size + 1 ≠ w.heap.size + 1 + 1; omega), Below.heap_setCell _ _ _ _ (by show w.heap.size + 1 ≠ w.heap.size + 1 + 1; omega)]; exact h.res.at_
theorem Hf.put3 {w W : World} {a : Part} {p0 p1 p2 p3 : Nat × Int × R4} (h : Hf w a p0 p1 p2 p3 W) (q : Nat × Int × R4) : Hf w a p0 p1 p2 q ((((((W.setCell ⟨w.heap.size + 1 + 1, 18, none⟩ (.int .u32 (q.1 : Int))).setCell ⟨w.heap.size + 1 + 1, 19, none⟩ (.int .i64 q.2.1)).setCell ⟨w.heap.size + 1 + 1, 20, none⟩ (.int .i64 q.2.2.x)).setCell ⟨w.heap.size + 1 + 1, 21, none⟩ (.int .i64 q.2.2.y)).setCell ⟨w.heap.size + 1 + 1, 22, none⟩ (.int .i64 q.2.2.X)).setCell ⟨w.heap.size + 1 + 1, 23, none⟩ (.int .i64 q.2.2.Y)) := by
  have hf := h.four.put3 q
  refine ⟨?_, ?_, ⟨?_⟩, hf⟩
  · exact ((((((h.bel.setCell (p := ⟨w.heap.size + 1 + 1, 18, none⟩) (by show _ ≤ w.heap.size + 1 + 1; omega) _).setCell (p := ⟨w.heap.size + 1 + 1, 19, none⟩) (by show _ ≤ w.heap.size + 1 + 1; omega) _).setCell (p := ⟨w.heap.size + 1 + 1, 20, none⟩) (by show _ ≤ w.heap.size + 1 + 1; omega) _).setCell (p := ⟨w.heap.size + 1 + 1, 21, none⟩) (by show _ ≤ w.heap.size + 1 + 1; omega) _).setCell (p := ⟨w.heap.size + 1 + 1, 22, none⟩) (by show _ ≤ w.heap.size + 1 + 1; omega) _).setCell (p := ⟨w.heap.size + 1 + 1, 23, none⟩) (by show _ ≤ w.heap.size + 1 + 1; omega) _)
  · rw [Below.heap_setCell _ _ _ _ (by show w.heap.size ≠ w.heap.size + 1 + 1; omega), Below.heap_setCell _ _ _ _ (by show w.heap.size ≠ w.heap.size + 1 + 1; omega), Below.heap_setCell _ _ _ _ (by show w.heap.size ≠ w.heap.size + 1 + 1; omega), Below.heap_setCell _ _ _ _ (by show w.heap.size ≠ w.heap.size + 1 + 1; omega), Below.heap_setCell _ _ _ _ (by show w.heap.size ≠ w.heap.size + 1 + 1; omega), Below.heap_setCell _ _ _ _ (by show w.heap.size ≠ w.heap.size + 1 + 1; omega)]; exact h.one
  · rw [Below.heap_setCell _ _ _ _ (by show w.heap.size + 1 ≠ w.heap.size + 1 + 1; omega), Below.heap_setCell _ _ _ _ (by show w.heap.size + 1 ≠ w.heap.size + 1 + 1; omega), Below.heap_setCell _ _ _ _ (by show w.heap.size + 1 ≠ w.heap.size + 1 + 1; omega), Below.heap_setCell _ _ _ _ (by show w.heap.size + 1 ≠ w.heap.size + 1 + 1; omega), Below.heap_setCell _ _ _ _ (by show w.heap.size + 1 ≠ w.heap.size + 1 + 1; omega), Below.heap_setCell _ _ _ _ (by show w.heap.size + 1 ≠ w.heap.size + 1 + 1; omega)]; exact h.res.at_
theorem f24_one (p0 p1 p2 p3 : Nat × Int × R4) : (f24 p0 p1 p2 p3).all (·.oneCell') = true := by simp [f24, Value.oneCell']
set_option maxHeartbeats 16000000 in
theorem fourC_any {w : World} {sb g tb cb bb fb most : Nat} {N : List Nd} {P : R4} (h : Fc w sb g tb cb bb fb most N P) {n x : Nat} (hx : Sq N (n + 1) x) (r : R4) :
    Calls Tryz.prog 64 #[.pointer (some ⟨fb, 0, none⟩), .agg #[.int .u32 (x : Int), .int .i64 ((n : Int) + 1), .int .i64 r.x, .int .i64 r.y, .int .i64 r.X, .int .i64 r.Y]] w fun e w' => e = .returned (fourP (kidZ N x) n r) ∧ Below w.heap.size w w' := by
  obtain ⟨cap, hs⟩ := h.st
  have hn62 := hx.le62 hs.wf
  have hlt := h.lt
  have HQ := Lib.hid (fun a b W => quarter8_any r n (by omega) a b W)
  have hh0 : Hf w ⟨x, n + 1, r⟩ z6 z6 z6 z6 (((w.alloc (.cells #[.int .u32 (x : Int), .int .i64 ((n : Int) + 1), .int .i64 r.x, .int .i64 r.y, .int .i64 r.X, .int .i64 r.Y] 83)).alloc (.cells #[.int .u32 0, .int .i64 0, .int .i64 0, .int .i64 0, .int .i64 0, .int .i64 0, .int .u32 0, .int .i64 0, .int .i64 0, .int .i64 0, .int .i64 0, .int .i64 0, .int .u32 0, .int .i64 0, .int .i64 0, .int .i64 0, .int .i64 0, .int .i64 0, .int .u32 0, .int .i64 0, .int .i64 0, .int .i64 0, .int .i64 0, .int .i64 0] 125)).alloc (.cells #[.int .u32 0, .int .i64 0, .int .i64 0, .int .i64 0, .int .i64 0, .int .i64 0, .int .u32 0, .int .i64 0, .int .i64 0, .int .i64 0, .int .i64 0, .int .i64 0, .int .u32 0, .int .i64 0, .int .i64 0, .int .i64 0, .int .i64 0, .int .i64 0, .int .u32 0, .int .i64 0, .int .i64 0, .int .i64 0, .int .i64 0, .int .i64 0] 125)) := by
    refine ⟨bel3 w _ _ _, keep8 (keep8 (heap_alloc_new w _) (bel1 _ _)) (bel1 _ _), ⟨?_⟩, ⟨?_⟩⟩
    · exact keep8 (new_2 w _ _) (bel1 _ _)
    · exact new_3 w _ _ _
  have HH := Lib.hid hh0
  have HF := Lib.hid (h.later hh0.bel)
  have HOF := Lib.hid (fun W (hb : Below w.heap.size w W) => of_sqk (hs.later hb) hx)
  have hFD := fn_cells HF.out.ft
  have n1 : ¬ w.heap.size = w.heap.size + 1 + 1 := by omega
  have n2 : ¬ w.heap.size + 1 + 1 = w.heap.size := by omega
  have n3 : ¬ w.heap.size = w.heap.size + 1 := by omega
  have n4 : ¬ w.heap.size + 1 = w.heap.size + 1 + 1 := by omega
  clear h hs hx hh0 hlt
  generalize kidZ N x = k0 at *
  go_enter Tryz.func64, Tryz.ntmps64
  go_upto_region 2 with fail
  generalize ((w.alloc (.cells #[.int .u32 (x : Int), .int .i64 ((n : Int) + 1), .int .i64 r.x, .int .i64 r.y, .int .i64 r.X, .int .i64 r.Y] 83)).alloc (.cells #[.int .u32 0, .int .i64 0, .int .i64 0, .int .i64 0, .int .i64 0, .int .i64 0, .int .u32 0, .int .i64 0, .int .i64 0, .int .i64 0, .int .i64 0, .int .i64 0, .int .u32 0, .int .i64 0, .int .i64 0, .int .i64 0, .int .i64 0, .int .i64 0, .int .u32 0, .int .i64 0, .int .i64 0, .int .i64 0, .int .i64 0, .int .i64 0] 125)).alloc (.cells #[.int .u32 0, .int .i64 0, .int .i64 0, .int .i64 0, .int .i64 0, .int .i64 0, .int .u32 0, .int .i64 0, .int .i64 0, .int .i64 0, .int .i64 0, .int .i64 0, .int .u32 0, .int .i64 0, .int .i64 0, .int .i64 0, .int .i64 0, .int .i64 0, .int .u32 0, .int .i64 0, .int .i64 0, .int .i64 0, .int .i64 0, .int .i64 0] 125) = W0 at *
  obtain ⟨f0, f1, f2⟩ := hFD
  obtain ⟨c0, c1, c2, c3, c4, c5⟩ := pt_cells8 HH.out.one
  simp only at c0 c1 c2 c3 c4 c5
  have hh : Hf w ⟨x, n + 1, r⟩ z6 z6 z6 z6 W0.drew := HH.out.drewN 1
  have hs0 : w.heap.size + 1 + 1 < W0.heap.size := HH.out.four.lt
  have hfl := HF.out.lt
  have hz2 : Hf w ⟨x, n + 1, r⟩ z6 z6 z6 z6 (W0.alloc (.cells #[.int .u32 0, .int .u32 0, .int .u32 0, .int .u32 0] 96)).drew := (HH.out.later (bel1 W0 _)).drewN 1
  have hz3 : Fc (W0.alloc (.cells #[.int .u32 0, .int .u32 0, .int .u32 0, .int .u32 0] 96)).drew sb g tb cb bb fb most N P := (HF.out.later (bel1 W0 _)).drewN 1
  obtain ⟨y0, y1, y2, y3, y4, y5⟩ := pt_cells8 hz2.one
  simp only at y0 y1 y2 y3 y4 y5
  obtain ⟨u0, u1, u2⟩ := fn_cells hz3.ft
  have m1 : ¬ w.heap.size = W0.heap.size := by omega
  have m2 : ¬ W0.heap.size = w.heap.size := by omega
  have m3 : ¬ fb = W0.heap.size := by omega
  have m4 : ¬ W0.heap.size = fb := by omega
  go_cut [6, 7] from 10 to 19 (fun v6 v7 wx => v7 = .bool true ∧ ∃ kb : Nat, v6 = .pointer (some ⟨kb, 0, none⟩) ∧ KAt wx kb k0 ∧ Hf w ⟨x, n + 1, r⟩ z6 z6 z6 z6 wx)
  case first =>
    go_region_with (first
      | (go_at_call 55; refine (HOF.out _ (Hf.bel (by first | exact hh | exact hh.later (bel1 _ _)))).mono ?_; rintro e wl ⟨rfl, hb⟩; (first | (have hl : Hf w ⟨x, n + 1, r⟩ z6 z6 z6 z6 wl := hh.later hb) | (have hl : Hf w ⟨x, n + 1, r⟩ z6 z6 z6 z6 wl := (hh.later (bel1 _ _)).later hb)); (first | (have kz : KAt wl W0.heap.size (0, 0, 0, 0) := KAt.later (w := (W0.alloc (.cells #[.int .u32 0, .int .u32 0, .int .u32 0, .int .u32 0] 96)).drew) (heap_alloc_new W0 _) hb; have kc := kz.cells; clear hb) | clear hb)))
    all_goals go_wp2_with fail
    all_goals go_meet
    all_goals first
      | exact ⟨rfl, _, rfl, kz.put k0, (((hl.set hs0 0 _).set hs0 1 _).set hs0 2 _).set hs0 3 _⟩
      | exact ⟨rfl, _, rfl, k_new wl k0, hl.later (bel1 _ _)⟩
  case rest =>
    obtain ⟨rfl, kb, rfl, hk, hl⟩ := hcut
    have HL := Lib.hid hl
    obtain ⟨k1, k2, k3, k4, _⟩ := hk.cells
    clear hl hh c0 c1 c2 c3 c4 c5 f0 f1 f2 HOF HF HH hs0 hk hfl m1 m2 m3 m4
    go_wp2_with fail
    clear k1 k2 k3 k4
    have h00 := fun W => HQ.out false false W
    have h10 := fun W => HQ.out true false W
    have h01 := fun W => HQ.out false true W
    have h11 := fun W => HQ.out true true W
    rw [show ((pl false false : Nat) : Int) = 0 from rfl] at h00
    rw [show ((pl true false : Nat) : Int) = 1 from rfl] at h10
    rw [show ((pl false true : Nat) : Int) = 2 from rfl] at h01
    rw [show ((pl true true : Nat) : Int) = 3 from rfl] at h11
    have H00 := Lib.hid h00
    have H10 := Lib.hid h10
    have H01 := Lib.hid h01
    have H11 := Lib.hid h11
    have HFP : Hid (fourP k0 n r = .agg (f24 (k0.1, (n : Int), qR r n false false) (k0.2.1, (n : Int), qR r n true false) (k0.2.2.1, (n : Int), qR r n false true) (k0.2.2.2, (n : Int), qR r n true true))) := rfl
    clear h00 h10 h01 h11 HQ
    generalize qR r n false false = q00 at *
    generalize qR r n true false = q10 at *
    generalize qR r n false true = q01 at *
    generalize qR r n true true = q11 at *
    go_loopg [8, 9, 21] 4 (fun m v8 v9 cnt wr => ∃ j : Nat, m = 4 - j ∧ j ≤ 4 ∧ cnt = .int .i64 (j : Int) ∧ Hf w ⟨x, n + 1, r⟩ (if 0 < j then (k0.1, (n : Int), q00) else z6) (if 1 < j then (k0.2.1, (n : Int), q10) else z6) (if 2 < j then (k0.2.2.1, (n : Int), q01) else z6) (if 3 < j then (k0.2.2.2, (n : Int), q11) else z6) wr)
    case atStart => exact ⟨0, rfl, Nat.zero_le _, rfl, HL.out⟩
    case round =>
      obtain ⟨j, hm, hj, rfl, hq⟩ := hrel
      have HM := Lib.hid hm
      clear hm HL
      have hcases : j = 0 ∨ j = 1 ∨ j = 2 ∨ j = 3 ∨ j = 4 := by omega
      have hw1 : IntKind.i64.wrap (n : Int) = (n : Int) := IntWalk.i64_in _ (by omega)
      have hw2 : IntKind.i64.wrap ((n : Int) + 1 - 1) = (n : Int) := by rw [show (n : Int) + 1 - 1 = (n : Int) by omega]; exact hw1
      rcases hcases with rfl | rfl | rfl | rfl | rfl

      · have HH : Hid (Hf w ⟨x, n + 1, r⟩ z6 z6 z6 z6 wr) := hq
        clear hq
        have hh : Hf w ⟨x, n + 1, r⟩ z6 z6 z6 z6 wr.drew := HH.out.drewN 1
        obtain ⟨c0, c1, c2, c3, c4, c5⟩ := pt_cells8 HH.out.one
        simp only at c0 c1 c2 c3 c4 c5
        have ki := kix0 (k0.1 : Int) (k0.2.1 : Int) (k0.2.2.1 : Int) (k0.2.2.2 : Int)
        go_upto_region 6 with fail
        go_region_with (first
          | (go_at_call 79; refine (H00.out _).mono ?_; rintro e wq ⟨rfl, hb⟩; have hl := Hf.later (by assumption) hb; clear hb; have k1 := pt_cells8 hl.one; simp only at k1; have e0 := hl.four.c 0; have e1 := hl.four.c 1; have e2 := hl.four.c 2; have e3 := hl.four.c 3; have e4 := hl.four.c 4; have e5 := hl.four.c 5; unfold f24 at e0 e1 e2 e3 e4 e5; simp only [List.getElem?_toArray, List.getElem?_cons_zero, List.getElem?_cons_succ] at e0 e1 e2 e3 e4 e5; have g0 := hl.four.f 0; have g1 := hl.four.f 1; have g2 := hl.four.f 2; have g3 := hl.four.f 3; have g4 := hl.four.f 4; have g5 := hl.four.f 5))
        all_goals
          go_wp2_with fail
          go_roundg (4 - (0 + 1))
          case measure => rw [HM.out]; omega
          case rel => exact ⟨1, rfl, by omega, by go_num, hl.put0 (k0.1, (n : Int), q00)⟩
      · have HH : Hid (Hf w ⟨x, n + 1, r⟩ (k0.1, (n : Int), q00) z6 z6 z6 wr) := hq
        clear hq
        have hh : Hf w ⟨x, n + 1, r⟩ (k0.1, (n : Int), q00) z6 z6 z6 wr.drew := HH.out.drewN 1
        obtain ⟨c0, c1, c2, c3, c4, c5⟩ := pt_cells8 HH.out.one
        simp only at c0 c1 c2 c3 c4 c5
        have ki := kix1 (k0.1 : Int) (k0.2.1 : Int) (k0.2.2.1 : Int) (k0.2.2.2 : Int)
        go_upto_region 6 with fail
        go_region_with (first
          | (go_at_call 79; refine (H10.out _).mono ?_; rintro e wq ⟨rfl, hb⟩; have hl := Hf.later (by assumption) hb; clear hb; have k1 := pt_cells8 hl.one; simp only at k1; have e0 := hl.four.c 6; have e1 := hl.four.c 7; have e2 := hl.four.c 8; have e3 := hl.four.c 9; have e4 := hl.four.c 10; have e5 := hl.four.c 11; unfold f24 at e0 e1 e2 e3 e4 e5; simp only [List.getElem?_toArray, List.getElem?_cons_zero, List.getElem?_cons_succ] at e0 e1 e2 e3 e4 e5; have g0 := hl.four.f 6; have g1 := hl.four.f 7; have g2 := hl.four.f 8; have g3 := hl.four.f 9; have g4 := hl.four.f 10; have g5 := hl.four.f 11))
        all_goals
          go_wp2_with fail
          go_roundg (4 - (1 + 1))
          case measure => rw [HM.out]; omega
          case rel => exact ⟨2, rfl, by omega, by go_num, hl.put1 (k0.2.1, (n : Int), q10)⟩
      · have HH : Hid (Hf w ⟨x, n + 1, r⟩ (k0.1, (n : Int), q00) (k0.2.1, (n : Int), q10) z6 z6 wr) := hq
        clear hq
        have hh : Hf w ⟨x, n + 1, r⟩ (k0.1, (n : Int), q00) (k0.2.1, (n : Int), q10) z6 z6 wr.drew := HH.out.drewN 1
        obtain ⟨c0, c1, c2, c3, c4, c5⟩ := pt_cells8 HH.out.one
        simp only at c0 c1 c2 c3 c4 c5
        have ki := kix2 (k0.1 : Int) (k0.2.1 : Int) (k0.2.2.1 : Int) (k0.2.2.2 : Int)
        go_upto_region 6 with fail
        go_region_with (first
          | (go_at_call 79; refine (H01.out _).mono ?_; rintro e wq ⟨rfl, hb⟩; have hl := Hf.later (by assumption) hb; clear hb; have k1 := pt_cells8 hl.one; simp only at k1; have e0 := hl.four.c 12; have e1 := hl.four.c 13; have e2 := hl.four.c 14; have e3 := hl.four.c 15; have e4 := hl.four.c 16; have e5 := hl.four.c 17; unfold f24 at e0 e1 e2 e3 e4 e5; simp only [List.getElem?_toArray, List.getElem?_cons_zero, List.getElem?_cons_succ] at e0 e1 e2 e3 e4 e5; have g0 := hl.four.f 12; have g1 := hl.four.f 13; have g2 := hl.four.f 14; have g3 := hl.four.f 15; have g4 := hl.four.f 16; have g5 := hl.four.f 17))
        all_goals
          go_wp2_with fail
          go_roundg (4 - (2 + 1))
          case measure => rw [HM.out]; omega
          case rel => exact ⟨3, rfl, by omega, by go_num, hl.put2 (k0.2.2.1, (n : Int), q01)⟩
      · have HH : Hid (Hf w ⟨x, n + 1, r⟩ (k0.1, (n : Int), q00) (k0.2.1, (n : Int), q10) (k0.2.2.1, (n : Int), q01) z6 wr) := hq
        clear hq
        have hh : Hf w ⟨x, n + 1, r⟩ (k0.1, (n : Int), q00) (k0.2.1, (n : Int), q10) (k0.2.2.1, (n : Int), q01) z6 wr.drew := HH.out.drewN 1
        obtain ⟨c0, c1, c2, c3, c4, c5⟩ := pt_cells8 HH.out.one
        simp only at c0 c1 c2 c3 c4 c5
        have ki := kix3 (k0.1 : Int) (k0.2.1 : Int) (k0.2.2.1 : Int) (k0.2.2.2 : Int)
        go_upto_region 6 with fail
        go_region_with (first
          | (go_at_call 79; refine (H11.out _).mono ?_; rintro e wq ⟨rfl, hb⟩; have hl := Hf.later (by assumption) hb; clear hb; have k1 := pt_cells8 hl.one; simp only at k1; have e0 := hl.four.c 18; have e1 := hl.four.c 19; have e2 := hl.four.c 20; have e3 := hl.four.c 21; have e4 := hl.four.c 22; have e5 := hl.four.c 23; unfold f24 at e0 e1 e2 e3 e4 e5; simp only [List.getElem?_toArray, List.getElem?_cons_zero, List.getElem?_cons_succ] at e0 e1 e2 e3 e4 e5; have g0 := hl.four.f 18; have g1 := hl.four.f 19; have g2 := hl.four.f 20; have g3 := hl.four.f 21; have g4 := hl.four.f 22; have g5 := hl.four.f 23))
        all_goals
          go_wp2_with fail
          go_roundg (4 - (3 + 1))
          case measure => rw [HM.out]; omega
          case rel => exact ⟨4, rfl, by omega, by go_num, hl.put3 (k0.2.2.2, (n : Int), q11)⟩
      · have HH : Hid (Hf w ⟨x, n + 1, r⟩ (k0.1, (n : Int), q00) (k0.2.1, (n : Int), q10) (k0.2.2.1, (n : Int), q01) (k0.2.2.2, (n : Int), q11) wr) := hq
        clear hq
        go_upto_region 8 with fail
        go_wp2_with (first
          | (refine wpList_load_row rfl 125 _ rfl (w.heap.size + 1 + 1) rfl 125 _ (0, 0) _ HH.out.four.at_ Tryz.underlying125 rfl (by as_aux_lemma => kernel_rfl) ?_)
          | (refine wpList_store_row rfl 125 _ _ rfl (w.heap.size + 1) _ rfl rfl 125 _ HH.out.res.at_ (by as_aux_lemma => kernel_rfl) rfl (f24_one _ _ _ _) ?_)
          | fail)
        have H9 := Lib.hid (setRow_heap _ (w.heap.size + 1) _ (f24 (k0.1, (n : Int), q00) (k0.2.1, (n : Int), q10) (k0.2.2.1, (n : Int), q01) (k0.2.2.2, (n : Int), q11)) _ _ HH.out.res.at_)
        have HB9 := Lib.hid (below_setRow HH.out.bel (g := w.heap.size + 1) (by omega) (f24 (k0.1, (n : Int), q00) (k0.2.1, (n : Int), q10) (k0.2.2.1, (n : Int), q01) (k0.2.2.2, (n : Int), q11)))
        generalize wr.setRow (w.heap.size + 1) (f24 (k0.1, (n : Int), q00) (k0.2.1, (n : Int), q10) (k0.2.2.1, (n : Int), q01) (k0.2.2.2, (n : Int), q11)) = W9 at *
        refine bodyPost_ret (res_cell (i := 4) (t := 125) (ad := ⟨w.heap.size + 1, 0, none⟩) (v := fourP k0 n r) rfl rfl (by rw [HFP.out]; exact run_loadVar_row _ _ _ _ _ (0, 0) _ H9.out Tryz.underlying125 rfl (by as_aux_lemma => kernel_rfl))) rfl ?_
        exact ⟨rfl, HB9.out⟩
end Go.Proofs.YtnfjmmkokhncoaaGreat
