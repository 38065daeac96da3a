-- M11
import Derived.Test.YtnfjmmkokhncoaaGreatFl
import Derived.Laws.Tables
import Derived.Laws.Rows
import Derived.Test.YtnfjmmkokhncoaaGreatM02
section
namespace Go.Proofs.YtnfjmmkokhncoaaGreat
open Go.RowKit Go.Maps
set_option maxRecDepth 100000

def nilS : Value := .slice none 0 0
/-- Four changes without cells, in a block. -/
def fourO (a b c d : R4) : Obj := .cells #[.int .i64 a.x, .int .i64 a.y, .int .i64 a.X, .int .i64 a.Y, .slice none 0 0, .int .i64 b.x, .int .i64 b.y, .int .i64 b.X, .int .i64 b.Y, .slice none 0 0, .int .i64 c.x, .int .i64 c.y, .int .i64 c.X, .int .i64 c.Y, .slice none 0 0, .int .i64 d.x, .int .i64 d.y, .int .i64 d.X, .int .i64 d.Y, .slice none 0 0] 138 (0, 0)
def fourV (a b c d : R4) : Value := .agg #[.int .i64 a.x, .int .i64 a.y, .int .i64 a.X, .int .i64 a.Y, .slice none 0 0, .int .i64 b.x, .int .i64 b.y, .int .i64 b.X, .int .i64 b.Y, .slice none 0 0, .int .i64 c.x, .int .i64 c.y, .int .i64 c.X, .int .i64 c.Y, .slice none 0 0, .int .i64 d.x, .int .i64 d.y, .int .i64 d.X, .int .i64 d.Y, .slice none 0 0]
def r0 : R4 := ⟨0, 0, 0, 0⟩
structure F20 (w : World) (B : Nat) (a b c d : R4) : Prop where
  at_ : w.heap[B]? = some (fourO a b c d)
theorem F20.lt {w : World} {B : Nat} {a b c d : R4} (h : F20 w B a b c d) : B < w.heap.size := (Array.getElem?_eq_some_iff.1 h.at_).1
theorem F20.later {w w' : World} {B : Nat} {a b c d : R4} (h : F20 w B a b c d) (hb : Below w.heap.size w w') : F20 w' B a b c d := ⟨by rw [hb.block B h.lt]; exact h.at_⟩
theorem F20.c {w : World} {B : Nat} {a b c d : R4} (h : F20 w B a b c d) (i : Nat) : w.cell? ⟨B, i, none⟩ = (#[.int .i64 a.x, .int .i64 a.y, .int .i64 a.X, .int .i64 a.Y, .slice none 0 0, .int .i64 b.x, .int .i64 b.y, .int .i64 b.X, .int .i64 b.Y, .slice none 0 0, .int .i64 c.x, .int .i64 c.y, .int .i64 c.X, .int .i64 c.Y, .slice none 0 0, .int .i64 d.x, .int .i64 d.y, .int .i64 d.X, .int .i64 d.Y, .slice none 0 0] : Array Value)[i]? := by
  rw [Lib.cell_of_heap h.at_]
theorem F20.f {w : World} {B : Nat} {a b c d : R4} (h : F20 w B a b c d) (i : Nat) : w.frozen? ⟨B, i, none⟩ = false := Lib.frozen_of_heap h.at_ i
theorem F20.put0 {w : World} {B : Nat} {a b c d : R4} (h : F20 w B a b c d) (q : R4) : F20 ((((w.setCell ⟨B, 0, none⟩ (.int .i64 q.x)).setCell ⟨B, 1, none⟩ (.int .i64 q.y)).setCell ⟨B, 2, none⟩ (.int .i64 q.X)).setCell ⟨B, 3, none⟩ (.int .i64 q.Y)) B q b c d := ⟨by
  have := h.at_
  simp only [World.setCell, Array.getElem?_modify, this, fourO]; simp⟩
theorem F20.put1 {w : World} {B : Nat} {a b c d : R4} (h : F20 w B a b c d) (q : R4) : F20 ((((w.setCell ⟨B, 5, none⟩ (.int .i64 q.x)).setCell ⟨B, 6, none⟩ (.int .i64 q.y)).setCell ⟨B, 7, none⟩ (.int .i64 q.X)).setCell ⟨B, 8, none⟩ (.int .i64 q.Y)) B a q c d := ⟨by
  have := h.at_
  simp only [World.setCell, Array.getElem?_modify, this, fourO]; simp⟩
theorem F20.put2 {w : World} {B : Nat} {a b c d : R4} (h : F20 w B a b c d) (q : R4) : F20 ((((w.setCell ⟨B, 10, none⟩ (.int .i64 q.x)).setCell ⟨B, 11, none⟩ (.int .i64 q.y)).setCell ⟨B, 12, none⟩ (.int .i64 q.X)).setCell ⟨B, 13, none⟩ (.int .i64 q.Y)) B a b q d := ⟨by
  have := h.at_
  simp only [World.setCell, Array.getElem?_modify, this, fourO]; simp⟩
theorem F20.put3 {w : World} {B : Nat} {a b c d : R4} (h : F20 w B a b c d) (q : R4) : F20 ((((w.setCell ⟨B, 15, none⟩ (.int .i64 q.x)).setCell ⟨B, 16, none⟩ (.int .i64 q.y)).setCell ⟨B, 17, none⟩ (.int .i64 q.X)).setCell ⟨B, 18, none⟩ (.int .i64 q.Y)) B a b c q := ⟨by
  have := h.at_
  simp only [World.setCell, Array.getElem?_modify, this, fourO]; simp⟩
theorem F20.new (w : World) : F20 (w.alloc (.cells #[.int .i64 0, .int .i64 0, .int .i64 0, .int .i64 0, .slice none 0 0, .int .i64 0, .int .i64 0, .int .i64 0, .int .i64 0, .slice none 0 0, .int .i64 0, .int .i64 0, .int .i64 0, .int .i64 0, .slice none 0 0, .int .i64 0, .int .i64 0, .int .i64 0, .int .i64 0, .slice none 0 0] 138)) w.heap.size r0 r0 r0 r0 := ⟨heap_alloc_new w _⟩
theorem below_setRow {B : Nat} {w W : World} (h : Below B w W) {g : Nat} (hg : B ≤ g) (c : Array Value) : Below B w (W.setRow g c) := by
  refine ⟨h.os, h.tape, h.output, by simpa [World.setRow] using h.size, fun b hb => ?_⟩
  rw [← h.block b hb]
  simp only [World.setRow, Array.getElem?_modify]
  rw [if_neg (by omega)]
def chO (r : R4) (v : Value) : Obj := .cells #[.int .i64 r.x, .int .i64 r.y, .int .i64 r.X, .int .i64 r.Y, v] 92 (0, 0)
theorem ch_cells {w : World} {b : Nat} {r : R4} {v : Value} (h : w.heap[b]? = some (chO r v)) : w.cell? ⟨b, 0, none⟩ = some (.int .i64 r.x) ∧ w.cell? ⟨b, 1, none⟩ = some (.int .i64 r.y) ∧ w.cell? ⟨b, 2, none⟩ = some (.int .i64 r.X) ∧ w.cell? ⟨b, 3, none⟩ = some (.int .i64 r.Y) ∧ w.cell? ⟨b, 4, none⟩ = some v :=
  ⟨by rw [Lib.cell_of_heap h]; rfl, by rw [Lib.cell_of_heap h]; rfl, by rw [Lib.cell_of_heap h]; rfl, by rw [Lib.cell_of_heap h]; rfl, by rw [Lib.cell_of_heap h]; rfl⟩
theorem keep8 {w w' : World} {b : Nat} {o : Obj} (h : w.heap[b]? = some o) (hb : Below w.heap.size w w') : w'.heap[b]? = some o := by
  rw [hb.block b (Array.getElem?_eq_some_iff.1 h).1]; exact h
theorem res_cell {P : Program} {fn : Func} {tmps : Array Value} {w : World} {i : Nat} {t : TypeId} {ad : Addr} {v : Value} (hr : fn.results = #[.cell i t]) (ha : tmps.getD i undef = .pointer (some ad)) (hl : (loadVar t ad).run P w = .ok v w) : (results fn tmps).run P w = .ok v w := by
  unfold results
  rw [hr]
  rw [Array.getD_eq_getD_getElem?] at ha
  simp [ha, asAddr, hl]
set_option maxHeartbeats 8000000 in
theorem quarters_nil (r : R4) (n : Nat) (hn : n < 62) (a : Option Addr) (cp : Nat) (w : World) : Calls Tryz.prog 72 #[.agg #[.int .i64 r.x, .int .i64 r.y, .int .i64 r.X, .int .i64 r.Y, .slice a 0 cp], .int .i64 ((n : Int) + 1)] w fun e w' => e = .returned (fourV (qR r n false false) (qR r n true false) (qR r n false true) (qR r n true true)) ∧ Below w.heap.size w w' := by
  have h00 := fun W => quarter8_any r n hn false false W
  have h10 := fun W => quarter8_any r n hn true false W
  have h01 := fun W => quarter8_any r n hn false true W
  have h11 := fun W => quarter8_any r n hn true true W
  rw [show ((pl false false : Nat) : Int) = 0 from rfl] at h00
  rw [show ((pl true false : Nat) : Int) = 1 from rfl] at h10
  rw [show ((pl false true : Nat) : Int) = 2 from rfl] at h01
  rw [show ((pl true true : Nat) : Int) = 3 from rfl] at h11
  have H00 := Lib.hid h00
  have H10 := Lib.hid h10
  have H01 := Lib.hid h01
  have H11 := Lib.hid h11
  clear h00 h10 h01 h11
  generalize qR r n false false = q00 at *
  generalize qR r n true false = q10 at *
  generalize qR r n false true = q01 at *
  generalize qR r n true true = q11 at *
  have HSD := Lib.hid (side8_any n (by omega))
  have hp := pow_pos2 n
  have hp2 := pow_62 (show n ≤ 62 by omega)
  have HCH : Hid (∀ o1 o2, (((w.alloc (.cells #[.int .i64 r.x, .int .i64 r.y, .int .i64 r.X, .int .i64 r.Y, .slice a 0 cp] 92)).alloc o1).alloc o2).heap[w.heap.size]? = some (chO r (.slice a 0 cp))) := fun o1 o2 => keep8 (keep8 (heap_alloc_new w _) (bel1 _ _)) (bel1 _ _)
  go_enter Tryz.func72, Tryz.ntmps72
  go_wp2_with fail
  go_loopg [6, 12] 4 (fun m v6 cnt wr => ∃ j : Nat, m = 4 - j ∧ j ≤ 4 ∧ cnt = .int .i64 (j : Int) ∧ Below w.heap.size w wr ∧ wr.heap[w.heap.size]? = some (chO r (.slice a 0 cp)) ∧ F20 wr (w.heap.size + 1) r0 r0 r0 r0 ∧ F20 wr (w.heap.size + 1 + 1) (if 0 < j then q00 else r0) (if 1 < j then q10 else r0) (if 2 < j then q01 else r0) (if 3 < j then q11 else r0))
  case atStart =>
    refine ⟨0, rfl, by omega, rfl, by go_grown, HCH.out _ _, ?_, ?_⟩
    · have := (F20.new (w.alloc (.cells #[.int .i64 r.x, .int .i64 r.y, .int .i64 r.X, .int .i64 r.Y, .slice a 0 cp] 92))).later (bel1 _ (.cells #[.int .i64 0, .int .i64 0, .int .i64 0, .int .i64 0, .slice none 0 0, .int .i64 0, .int .i64 0, .int .i64 0, .int .i64 0, .slice none 0 0, .int .i64 0, .int .i64 0, .int .i64 0, .int .i64 0, .slice none 0 0, .int .i64 0, .int .i64 0, .int .i64 0, .int .i64 0, .slice none 0 0] 138))
      simpa using this
    · have := F20.new ((w.alloc (.cells #[.int .i64 r.x, .int .i64 r.y, .int .i64 r.X, .int .i64 r.Y, .slice a 0 cp] 92)).alloc (.cells #[.int .i64 0, .int .i64 0, .int .i64 0, .int .i64 0, .slice none 0 0, .int .i64 0, .int .i64 0, .int .i64 0, .int .i64 0, .slice none 0 0, .int .i64 0, .int .i64 0, .int .i64 0, .int .i64 0, .slice none 0 0, .int .i64 0, .int .i64 0, .int .i64 0, .int .i64 0, .slice none 0 0] 138))
      simpa using this
  case round =>
    obtain ⟨j, hm, hj, rfl, hb, hc, h4, h5⟩ := hrel
    have HM := Lib.hid hm
    have HB := Lib.hid hb
    have HC := Lib.hid hc
    have H4 := Lib.hid h4
    obtain ⟨c0, c1, c2, c3, c4⟩ := ch_cells hc
    clear hm hb hc h4
    have hcases : j = 0 ∨ j = 1 ∨ j = 2 ∨ j = 3 ∨ j = 4 := by omega
    rcases hcases with rfl | rfl | rfl | rfl | rfl
    · have H5 : Hid (F20 wr (w.heap.size + 1 + 1) r0 r0 r0 r0) := h5
      clear h5
      go_wp2_with fail
      refine (H00.out _).mono ?_
      rintro e w1 ⟨rfl, hb⟩
      have H6 := Lib.hid (H5.out.later hb)
      have HB6 := Lib.hid (HB.out.trans (hb.mono HB.out.size))
      have HC6 := Lib.hid (keep8 HC.out hb)
      have H46 := Lib.hid (H4.out.later hb)
      clear hb c0 c1 c2 c3 c4
      have e0 := H6.out.c 0
      have e1 := H6.out.c 1
      have e2 := H6.out.c 2
      have e3 := H6.out.c 3
      simp only [List.getElem?_toArray, List.getElem?_cons_zero, List.getElem?_cons_succ] at e0 e1 e2 e3
      have f0 := H6.out.f 0
      have f1 := H6.out.f 1
      have f2 := H6.out.f 2
      have f3 := H6.out.f 3
      go_wp2_with fail
      go_roundg (4 - (0 + 1))
      case measure => rw [HM.out]; omega
      case rel =>
        refine ⟨1, rfl, by omega, by go_num, (((HB6.out.setCell (p := ⟨w.heap.size + 1 + 1, 0, none⟩) (by show _ ≤ w.heap.size + 1 + 1; omega) _).setCell (p := ⟨w.heap.size + 1 + 1, 1, none⟩) (by show _ ≤ w.heap.size + 1 + 1; omega) _).setCell (p := ⟨w.heap.size + 1 + 1, 2, none⟩) (by show _ ≤ w.heap.size + 1 + 1; omega) _).setCell (p := ⟨w.heap.size + 1 + 1, 3, none⟩) (by show _ ≤ w.heap.size + 1 + 1; omega) _, ?_, ⟨?_⟩, H6.out.put0 q00⟩
        · rw [Below.heap_setCell _ _ _ _ (by show w.heap.size ≠ w.heap.size + 1 + 1; omega), Below.heap_setCell _ _ _ _ (by show w.heap.size ≠ w.heap.size + 1 + 1; omega), Below.heap_setCell _ _ _ _ (by show w.heap.size ≠ w.heap.size + 1 + 1; omega), Below.heap_setCell _ _ _ _ (by show w.heap.size ≠ w.heap.size + 1 + 1; omega)]
          exact HC6.out
        · rw [Below.heap_setCell _ _ _ _ (by show w.heap.size + 1 ≠ w.heap.size + 1 + 1; omega), Below.heap_setCell _ _ _ _ (by show w.heap.size + 1 ≠ w.heap.size + 1 + 1; omega), Below.heap_setCell _ _ _ _ (by show w.heap.size + 1 ≠ w.heap.size + 1 + 1; omega), Below.heap_setCell _ _ _ _ (by show w.heap.size + 1 ≠ w.heap.size + 1 + 1; omega)]
          exact H46.out.at_
    · have H5 : Hid (F20 wr (w.heap.size + 1 + 1) q00 r0 r0 r0) := h5
      clear h5
      go_wp2_with fail
      refine (H10.out _).mono ?_
      rintro e w1 ⟨rfl, hb⟩
      have H6 := Lib.hid (H5.out.later hb)
      have HB6 := Lib.hid (HB.out.trans (hb.mono HB.out.size))
      have HC6 := Lib.hid (keep8 HC.out hb)
      have H46 := Lib.hid (H4.out.later hb)
      clear hb c0 c1 c2 c3 c4
      have e0 := H6.out.c 5
      have e1 := H6.out.c 6
      have e2 := H6.out.c 7
      have e3 := H6.out.c 8
      simp only [List.getElem?_toArray, List.getElem?_cons_zero, List.getElem?_cons_succ] at e0 e1 e2 e3
      have f0 := H6.out.f 5
      have f1 := H6.out.f 6
      have f2 := H6.out.f 7
      have f3 := H6.out.f 8
      go_wp2_with fail
      go_roundg (4 - (1 + 1))
      case measure => rw [HM.out]; omega
      case rel =>
        refine ⟨2, rfl, by omega, by go_num, (((HB6.out.setCell (p := ⟨w.heap.size + 1 + 1, 5, none⟩) (by show _ ≤ w.heap.size + 1 + 1; omega) _).setCell (p := ⟨w.heap.size + 1 + 1, 6, none⟩) (by show _ ≤ w.heap.size + 1 + 1; omega) _).setCell (p := ⟨w.heap.size + 1 + 1, 7, none⟩) (by show _ ≤ w.heap.size + 1 + 1; omega) _).setCell (p := ⟨w.heap.size + 1 + 1, 8, none⟩) (by show _ ≤ w.heap.size + 1 + 1; omega) _, ?_, ⟨?_⟩, H6.out.put1 q10⟩
        · rw [Below.heap_setCell _ _ _ _ (by show w.heap.size ≠ w.heap.size + 1 + 1; omega), Below.heap_setCell _ _ _ _ (by show w.heap.size ≠ w.heap.size + 1 + 1; omega), Below.heap_setCell _ _ _ _ (by show w.heap.size ≠ w.heap.size + 1 + 1; omega), Below.heap_setCell _ _ _ _ (by show w.heap.size ≠ w.heap.size + 1 + 1; omega)]
          exact HC6.out
        · rw [Below.heap_setCell _ _ _ _ (by show w.heap.size + 1 ≠ w.heap.size + 1 + 1; omega), Below.heap_setCell _ _ _ _ (by show w.heap.size + 1 ≠ w.heap.size + 1 + 1; omega), Below.heap_setCell _ _ _ _ (by show w.heap.size + 1 ≠ w.heap.size + 1 + 1; omega), Below.heap_setCell _ _ _ _ (by show w.heap.size + 1 ≠ w.heap.size + 1 + 1; omega)]
          exact H46.out.at_
    · have H5 : Hid (F20 wr (w.heap.size + 1 + 1) q00 q10 r0 r0) := h5
      clear h5
      go_wp2_with fail
      refine (H01.out _).mono ?_
      rintro e w1 ⟨rfl, hb⟩
      have H6 := Lib.hid (H5.out.later hb)
      have HB6 := Lib.hid (HB.out.trans (hb.mono HB.out.size))
      have HC6 := Lib.hid (keep8 HC.out hb)
      have H46 := Lib.hid (H4.out.later hb)
      clear hb c0 c1 c2 c3 c4
      have e0 := H6.out.c 10
      have e1 := H6.out.c 11
      have e2 := H6.out.c 12
      have e3 := H6.out.c 13
      simp only [List.getElem?_toArray, List.getElem?_cons_zero, List.getElem?_cons_succ] at e0 e1 e2 e3
      have f0 := H6.out.f 10
      have f1 := H6.out.f 11
      have f2 := H6.out.f 12
      have f3 := H6.out.f 13
      go_wp2_with fail
      go_roundg (4 - (2 + 1))
      case measure => rw [HM.out]; omega
      case rel =>
        refine ⟨3, rfl, by omega, by go_num, (((HB6.out.setCell (p := ⟨w.heap.size + 1 + 1, 10, none⟩) (by show _ ≤ w.heap.size + 1 + 1; omega) _).setCell (p := ⟨w.heap.size + 1 + 1, 11, none⟩) (by show _ ≤ w.heap.size + 1 + 1; omega) _).setCell (p := ⟨w.heap.size + 1 + 1, 12, none⟩) (by show _ ≤ w.heap.size + 1 + 1; omega) _).setCell (p := ⟨w.heap.size + 1 + 1, 13, none⟩) (by show _ ≤ w.heap.size + 1 + 1; omega) _, ?_, ⟨?_⟩, H6.out.put2 q01⟩
        · rw [Below.heap_setCell _ _ _ _ (by show w.heap.size ≠ w.heap.size + 1 + 1; omega), Below.heap_setCell _ _ _ _ (by show w.heap.size ≠ w.heap.size + 1 + 1; omega), Below.heap_setCell _ _ _ _ (by show w.heap.size ≠ w.heap.size + 1 + 1; omega), Below.heap_setCell _ _ _ _ (by show w.heap.size ≠ w.heap.size + 1 + 1; omega)]
          exact HC6.out
        · rw [Below.heap_setCell _ _ _ _ (by show w.heap.size + 1 ≠ w.heap.size + 1 + 1; omega), Below.heap_setCell _ _ _ _ (by show w.heap.size + 1 ≠ w.heap.size + 1 + 1; omega), Below.heap_setCell _ _ _ _ (by show w.heap.size + 1 ≠ w.heap.size + 1 + 1; omega), Below.heap_setCell _ _ _ _ (by show w.heap.size + 1 ≠ w.heap.size + 1 + 1; omega)]
          exact H46.out.at_
    · have H5 : Hid (F20 wr (w.heap.size + 1 + 1) q00 q10 q01 r0) := h5
      clear h5
      go_wp2_with fail
      refine (H11.out _).mono ?_
      rintro e w1 ⟨rfl, hb⟩
      have H6 := Lib.hid (H5.out.later hb)
      have HB6 := Lib.hid (HB.out.trans (hb.mono HB.out.size))
      have HC6 := Lib.hid (keep8 HC.out hb)
      have H46 := Lib.hid (H4.out.later hb)
      clear hb c0 c1 c2 c3 c4
      have e0 := H6.out.c 15
      have e1 := H6.out.c 16
      have e2 := H6.out.c 17
      have e3 := H6.out.c 18
      simp only [List.getElem?_toArray, List.getElem?_cons_zero, List.getElem?_cons_succ] at e0 e1 e2 e3
      have f0 := H6.out.f 15
      have f1 := H6.out.f 16
      have f2 := H6.out.f 17
      have f3 := H6.out.f 18
      go_wp2_with fail
      go_roundg (4 - (3 + 1))
      case measure => rw [HM.out]; omega
      case rel =>
        refine ⟨4, rfl, by omega, by go_num, (((HB6.out.setCell (p := ⟨w.heap.size + 1 + 1, 15, none⟩) (by show _ ≤ w.heap.size + 1 + 1; omega) _).setCell (p := ⟨w.heap.size + 1 + 1, 16, none⟩) (by show _ ≤ w.heap.size + 1 + 1; omega) _).setCell (p := ⟨w.heap.size + 1 + 1, 17, none⟩) (by show _ ≤ w.heap.size + 1 + 1; omega) _).setCell (p := ⟨w.heap.size + 1 + 1, 18, none⟩) (by show _ ≤ w.heap.size + 1 + 1; omega) _, ?_, ⟨?_⟩, H6.out.put3 q11⟩
        · rw [Below.heap_setCell _ _ _ _ (by show w.heap.size ≠ w.heap.size + 1 + 1; omega), Below.heap_setCell _ _ _ _ (by show w.heap.size ≠ w.heap.size + 1 + 1; omega), Below.heap_setCell _ _ _ _ (by show w.heap.size ≠ w.heap.size + 1 + 1; omega), Below.heap_setCell _ _ _ _ (by show w.heap.size ≠ w.heap.size + 1 + 1; omega)]
          exact HC6.out
        · rw [Below.heap_setCell _ _ _ _ (by show w.heap.size + 1 ≠ w.heap.size + 1 + 1; omega), Below.heap_setCell _ _ _ _ (by show w.heap.size + 1 ≠ w.heap.size + 1 + 1; omega), Below.heap_setCell _ _ _ _ (by show w.heap.size + 1 ≠ w.heap.size + 1 + 1; omega), Below.heap_setCell _ _ _ _ (by show w.heap.size + 1 ≠ w.heap.size + 1 + 1; omega)]
          exact H46.out.at_
    · have H5 : Hid (F20 wr (w.heap.size + 1 + 1) q00 q10 q01 q11) := h5
      clear h5
      have hw1 : IntKind.i64.wrap (n : Int) = (n : Int) := IntWalk.i64_in _ (by omega)
      go_wp2_with fail
      refine (HSD.out _).mono ?_
      rintro e w1 ⟨rfl, hw1⟩
      rw [← hw1]
      clear hw1
      have hw2 : IntKind.i64.wrap (2 ^ n - 1) = (2 : Int) ^ n - 1 := IntWalk.i64_in _ (by omega)
      go_wp2_with fail
      go_loopg [33] 0 (fun m cnt wz => cnt = .int .i64 0 ∧ m = 0 ∧ wz = wr)
      case atStart => exact ⟨rfl, rfl, rfl⟩
      case round =>
        obtain ⟨rfl, rfl, rfl⟩ := hrel
        go_upto_region 14 with fail
        go_wp2_with (first
          | (refine wpList_load_row rfl 138 _ rfl (w.heap.size + 1 + 1) rfl 138 _ (0, 0) _ H5.out.at_ Tryz.underlying138 rfl (by as_aux_lemma => kernel_rfl) ?_)
          | (refine wpList_store_row rfl 138 _ _ rfl (w.heap.size + 1) _ rfl rfl 138 _ H4.out.at_ (by as_aux_lemma => kernel_rfl) rfl (by simp [Value.oneCell']) ?_)
          | fail)
        have H6 : Hid (F20 (wr.setRow (w.heap.size + 1) #[.int .i64 q00.x, .int .i64 q00.y, .int .i64 q00.X, .int .i64 q00.Y, .slice none 0 0, .int .i64 q10.x, .int .i64 q10.y, .int .i64 q10.X, .int .i64 q10.Y, .slice none 0 0, .int .i64 q01.x, .int .i64 q01.y, .int .i64 q01.X, .int .i64 q01.Y, .slice none 0 0, .int .i64 q11.x, .int .i64 q11.y, .int .i64 q11.X, .int .i64 q11.Y, .slice none 0 0]) (w.heap.size + 1) q00 q10 q01 q11) := ⟨setRow_heap _ _ _ _ _ _ H4.out.at_⟩
        have HB6 := Lib.hid (below_setRow HB.out (g := w.heap.size + 1) (by omega) #[.int .i64 q00.x, .int .i64 q00.y, .int .i64 q00.X, .int .i64 q00.Y, .slice none 0 0, .int .i64 q10.x, .int .i64 q10.y, .int .i64 q10.X, .int .i64 q10.Y, .slice none 0 0, .int .i64 q01.x, .int .i64 q01.y, .int .i64 q01.X, .int .i64 q01.Y, .slice none 0 0, .int .i64 q11.x, .int .i64 q11.y, .int .i64 q11.X, .int .i64 q11.Y, .slice none 0 0])
        generalize wr.setRow (w.heap.size + 1) #[.int .i64 q00.x, .int .i64 q00.y, .int .i64 q00.X, .int .i64 q00.Y, .slice none 0 0, .int .i64 q10.x, .int .i64 q10.y, .int .i64 q10.X, .int .i64 q10.Y, .slice none 0 0, .int .i64 q01.x, .int .i64 q01.y, .int .i64 q01.X, .int .i64 q01.Y, .slice none 0 0, .int .i64 q11.x, .int .i64 q11.y, .int .i64 q11.X, .int .i64 q11.Y, .slice none 0 0] = W9 at *
        refine bodyPost_ret (res_cell (i := 4) (t := 138) (ad := ⟨w.heap.size + 1, 0, none⟩) (v := fourV q00 q10 q01 q11) rfl rfl (run_loadVar_row _ _ _ _ _ (0, 0) _ H6.out.at_ Tryz.underlying138 rfl (by as_aux_lemma => kernel_rfl))) rfl ?_
        exact ⟨rfl, HB6.out⟩
end Go.Proofs.YtnfjmmkokhncoaaGreat
end

section
namespace Go.Proofs.YtnfjmmkokhncoaaGreat

/-- The cell at a place of a square of level n that has another one, of level n0, in the corner at the plane's middle; it is itself the plane's quarter A, B. -/
def Gi (N : List Nd) (n0 y : Nat) (A B : Bool) (n : Nat) (X Y : Int) : Nat := if inS n0 (X + off n A - 2 ^ n) && inS n0 (Y + off n B - 2 ^ n) then getZ N n0 y (X + off n A - 2 ^ n) (Y + off n B - 2 ^ n) else 0
def Fi (N : List Nd) (n0 y : Nat) (A B : Bool) (n : Nat) (r : R4) (c : Nat) : Int → Int → Nat := fun X Y => if r.has X Y then c else Gi N n0 y A B n X Y
theorem Gi_app {N : List Nd} (hw : Wf N) (E : List Nd) (hw' : Wf (N ++ E)) {n0 y : Nat} (h : Sq0 N n0 y) (A B : Bool) (n : Nat) : Gi (N ++ E) n0 y A B n = Gi N n0 y A B n := by
  funext X Y
  unfold Gi
  rw [h.get_app hw E hw']
theorem Fi_app {N : List Nd} (hw : Wf N) (E : List Nd) (hw' : Wf (N ++ E)) {n0 y : Nat} (h : Sq0 N n0 y) (A B : Bool) (n : Nat) (r : R4) (c : Nat) : Fi (N ++ E) n0 y A B n r c = Fi N n0 y A B n r c := by
  unfold Fi
  rw [Gi_app hw E hw' h]
theorem get_sub (N : List Nd) (n x : Nat) (X Y : Int) (A B : Bool) : getZ N n x (X + off n A - 2 ^ n) (Y + off n B - 2 ^ n) = getZ N n x X Y := by
  have e : ∀ (Z : Int) (C : Bool), ∃ k : Int, Z + off n C - 2 ^ n = Z + k * 2 ^ n := fun Z C => by
    cases C
    · exact ⟨-1, by simp [off]; omega⟩
    · exact ⟨0, by simp [off]⟩
  obtain ⟨k, e1⟩ := e X A
  obtain ⟨l, e2⟩ := e Y B
  rw [e1, e2, get_add]
theorem Fi_base (N : List Nd) (n y : Nat) (A B : Bool) (r : R4) (c : Nat) (X Y : Int) (hX : 0 ≤ X ∧ X < 2 ^ n) (hY : 0 ≤ Y ∧ Y < 2 ^ n) : Fi N n y A B n r c X Y = Tc N n y r c [] X Y := by
  unfold Fi Tc Gi
  have h1 : inS n (X + off n A - 2 ^ n) = true := by
    rw [inS_iff]
    rcases off_cases n A with e | e <;> rw [e] <;> omega
  have h2 : inS n (Y + off n B - 2 ^ n) = true := by
    rw [inS_iff]
    rcases off_cases n B with e | e <;> rw [e] <;> omega
  rw [h1, h2, get_sub]
  simp
theorem in_step (n : Nat) (A : Bool) (X : Int) : X + off n (!A) + off (n + 1) A - 2 ^ (n + 1) = X + off n A - 2 ^ n := by
  have h2 := pow_two2 n
  cases A <;> simp only [off, Bool.not_false, Bool.not_true, Bool.false_eq_true, if_true, if_false] <;> omega
theorem out_step (n n0 : Nat) (h0 : n0 ≤ n) (A : Bool) (X : Int) (hX : 0 ≤ X ∧ X < 2 ^ n) : inS n0 (X + off n A + off (n + 1) A - 2 ^ (n + 1)) = false := by
  have h2 := pow_two2 n
  have hp := pow_pos2 n
  have hp0 := pow_pos2 n0
  have hle : (2 : Int) ^ n0 ≤ 2 ^ n := by
    have h1 : (2 : Nat) ^ n0 ≤ 2 ^ n := Nat.pow_le_pow_right (by decide) h0
    have h2 := Int.ofNat_le.2 h1
    rw [Int.natCast_pow, Int.natCast_pow] at h2
    exact h2
  cases hh : inS n0 (X + off n A + off (n + 1) A - 2 ^ (n + 1)) with
  | false => rfl
  | true =>
    rw [inS_iff] at hh
    cases A <;> simp only [off, Bool.false_eq_true, if_true, if_false] at hh <;> omega
theorem Fi_in (N : List Nd) (n0 y n : Nat) (A B : Bool) (r : R4) (c : Nat) (X Y : Int) (hX : 0 ≤ X ∧ X < 2 ^ n) (hY : 0 ≤ Y ∧ Y < 2 ^ n) : Fi N n0 y A B n (qR r n (!A) (!B)) c X Y = qF (Fi N n0 y A B (n + 1) r c) n (!A) (!B) X Y := by
  unfold Fi qF Gi
  dsimp only
  rw [qR_has r n _ _ hX hY, in_step n A X, in_step n B Y]
theorem Fi_out (N : List Nd) (hw : Wf N) (n0 y n : Nat) (h0 : n0 ≤ n) (A B : Bool) (r : R4) (c : Nat) (a b : Bool) (hab : ¬(a = !A ∧ b = !B)) (X Y : Int) (hX : 0 ≤ X ∧ X < 2 ^ n) (hY : 0 ≤ Y ∧ Y < 2 ^ n) : Tc N n 0 (qR r n a b) c [] X Y = qF (Fi N n0 y A B (n + 1) r c) n a b X Y := by
  unfold Tc Fi qF Gi
  dsimp only
  rw [qR_has r n _ _ hX hY, get_dead hw]
  have hz : (inS n0 (X + off n a + off (n + 1) A - 2 ^ (n + 1)) && inS n0 (Y + off n b + off (n + 1) B - 2 ^ (n + 1))) = false := by
    by_cases ha : a = !A
    · have hb : b = B := by
        cases b <;> cases B <;> simp_all
      rw [hb, out_step n n0 h0 B Y hY, Bool.and_false]
    · have hb : a = A := by
        cases a <;> cases A <;> simp_all
      rw [hb, out_step n n0 h0 A X hX, Bool.false_and]
  rw [hz]
  simp
/-- The plane after a change: from the square's corner on. -/
def Fp (N : List Nd) (n0 : Nat) (k : K4) (n : Nat) (r : R4) (c : Nat) : Int → Int → Nat := fun X Y => if r.has X Y then c else if alK N n0 k (X - 2 ^ n) (Y - 2 ^ n) then 1 else 0
theorem Fp_q {N : List Nd} (hw : Wf N) {n0 : Nat} {k : K4} (hk : Fo N n0 k) (n : Nat) (r : R4) (c : Nat) (A B : Bool) (X Y : Int) (hX : 0 ≤ X ∧ X < 2 ^ n) (hY : 0 ≤ Y ∧ Y < 2 ^ n) : Fi N n0 (pick k A B) A B n (qR r n A B) c X Y = qF (Fp N n0 k n r c) n A B X Y := by
  unfold Fi Fp qF Gi
  dsimp only
  rw [qR_has r n _ _ hX hY]
  split
  · rfl
  · unfold alK
    have sg : ∀ (Z : Int) (C : Bool), 0 ≤ Z ∧ Z < 2 ^ n → decide (0 ≤ Z + off n C - 2 ^ n) = C := fun Z C hZ => by
      cases C <;> simp only [off, Bool.false_eq_true, if_true, if_false, decide_eq_true_eq, decide_eq_false_iff_not] <;> omega
    rw [sg X A hX, sg Y B hY]
    cases h1 : inS n0 (X + off n A - 2 ^ n) && inS n0 (Y + off n B - 2 ^ n)
    · simp
    · simp only [Bool.true_and, if_true]
      rcases get_cell hw (hk A B) (X + off n A - 2 ^ n) (Y + off n B - 2 ^ n) with e | e <;> rw [e] <;> simp
/-- A plane that has a function's cells. -/
theorem al_con {N : List Nd} {n x : Nat} {f : Int → Int → Nat} (h : Con N (n + 1) x f) (a b : Int) : alK N n (kidZ N x) a b = (inS n a && inS n b && (f (a + 2 ^ n) (b + 2 ^ n) == 1)) := by
  rw [al_root]
  cases h1 : inS n a && inS n b
  · simp
  · rw [Bool.and_eq_true] at h1
    have p1 := inS_iff.1 h1.1
    have p2 := inS_iff.1 h1.2
    have h2 := pow_two2 n
    rw [h.2 (a + 2 ^ n) (b + 2 ^ n) (by omega) (by omega)]
end Go.Proofs.YtnfjmmkokhncoaaGreat
end
