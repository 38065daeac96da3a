/- Package grid, as far as package quad calls it: points on the plane, a rectangle's points; numbers in blocks. -/
import Derived.Test.YtgciceogggldhaaSt
import Derived.IntWalk
import Derived.Below
import Derived.Handy
import Derived.BigRegion
import Derived.BigQuiet
import Derived.Deep.RegionWith
import Derived.Deep.RegionHeld3
namespace Go.Proofs.Ytgciceogggldhaa
open Go.RowKit

/-- Is a coordinate on the plane? -/
def onP (n : Int) : Bool := decide (-2305843009213693952 < n) && decide (n < 2305843009213693952)

theorem onPlane_any (n : Int) (w : World) :
    Calls Try.prog 19 #[.int .i64 n] w fun e w' => e = .returned (.bool (onP n)) ∧ w = w' := by
  by_cases h1 : -2305843009213693952 < n
  · have e : onP n = decide (n < 2305843009213693952) := by unfold onP; rw [decide_eq_true h1, Bool.true_and]
    rw [e]
    go_enter Try.func19, Try.ntmps19
    go_wp2
    go_ret
    exact ⟨rfl, rfl⟩
  · have e : onP n = false := by unfold onP; rw [decide_eq_false h1, Bool.false_and]
    rw [e]
    go_enter Try.func19, Try.ntmps19
    go_wp2
    go_ret
    exact ⟨rfl, rfl⟩
theorem pright_any (x y : Int) (w : World) :
    Calls Try.prog 6 #[.agg #[.int .i64 x, .int .i64 y]] w fun e w' => e = .returned (.bool (onP x && onP y)) ∧ Below w.heap.size w w' := by
  go_enter Try.func6, Try.ntmps6
  go_wp2_with fail
  refine (onPlane_any x _).mono ?_
  rintro e w' ⟨rfl, rfl⟩
  cases hx : onP x with
  | true =>
    go_wp2_with fail
    refine (onPlane_any y _).mono ?_
    rintro e w' ⟨rfl, rfl⟩
    go_wp2
    go_ret
    exact ⟨by rw [hx]; rfl, by go_grown⟩
  | false =>
    go_wp2
    go_ret
    exact ⟨by rw [hx]; rfl, by go_grown⟩

theorem blk_lt {w : World} {p : Addr} {v : Value} (h : w.cell? p = some v) : p.block < w.heap.size := by
  apply Classical.byContradiction
  intro hn
  simp [World.cell?, Array.getElem?_eq_none (Nat.le_of_not_lt hn)] at h
/-- Numbers in a block of the call's own. -/
def Nums (w : World) (b : Nat) (zs : List Int) : Prop := b < w.heap.size ∧ ∀ j z, zs[j]? = some z → w.cell? ⟨b, j, none⟩ = some (.int .i64 z) ∧ w.frozen? ⟨b, j, none⟩ = false
theorem Nums.later {w w' : World} {b : Nat} {zs : List Int} (h : Nums w b zs) (hb : Below w.heap.size w w') : Nums w' b zs :=
  ⟨Nat.lt_of_lt_of_le h.1 hb.size, fun j z hz => ⟨by rw [hb.cell (p := ⟨b, j, none⟩) h.1]; exact (h.2 j z hz).1, by rw [hb.frozen (p := ⟨b, j, none⟩) h.1]; exact (h.2 j z hz).2⟩⟩
theorem Nums.two {w : World} {b : Nat} {x y : Int} (h : Nums w b [x, y]) : w.cell? ⟨b, 0, none⟩ = some (.int .i64 x) ∧ w.cell? ⟨b, 1, none⟩ = some (.int .i64 y) ∧ w.frozen? ⟨b, 0, none⟩ = false ∧ w.frozen? ⟨b, 1, none⟩ = false :=
  ⟨(h.2 0 x rfl).1, (h.2 1 y rfl).1, (h.2 0 x rfl).2, (h.2 1 y rfl).2⟩
theorem Nums.four {w : World} {b : Nat} {x y X Y : Int} (h : Nums w b [x, y, X, Y]) : w.cell? ⟨b, 0, none⟩ = some (.int .i64 x) ∧ w.cell? ⟨b, 1, none⟩ = some (.int .i64 y) ∧ w.cell? ⟨b, 2, none⟩ = some (.int .i64 X) ∧ w.cell? ⟨b, 3, none⟩ = some (.int .i64 Y) ∧ w.frozen? ⟨b, 0, none⟩ = false ∧ w.frozen? ⟨b, 1, none⟩ = false ∧ w.frozen? ⟨b, 2, none⟩ = false ∧ w.frozen? ⟨b, 3, none⟩ = false :=
  ⟨(h.2 0 x rfl).1, (h.2 1 y rfl).1, (h.2 2 X rfl).1, (h.2 3 Y rfl).1, (h.2 0 x rfl).2, (h.2 1 y rfl).2, (h.2 2 X rfl).2, (h.2 3 Y rfl).2⟩
theorem pt_new (w : World) (x y : Int) (t : TypeId) : Nums (w.alloc (.cells #[.int .i64 x, .int .i64 y] t)) w.heap.size [x, y] := by
  refine ⟨by simp, fun j z hz => ?_⟩
  match j, hz with
  | 0, hz => obtain rfl : x = z := by simpa using hz
             exact ⟨by simp, by simp⟩
  | 1, hz => obtain rfl : y = z := by simpa using hz
             exact ⟨by simp, by simp⟩
  | j + 2, hz => simp at hz
theorem rc_new (w : World) (x y X Y : Int) (t : TypeId) : Nums (w.alloc (.cells #[.int .i64 x, .int .i64 y, .int .i64 X, .int .i64 Y] t)) w.heap.size [x, y, X, Y] := by
  refine ⟨by simp, fun j z hz => ?_⟩
  match j, hz with
  | 0, hz => obtain rfl : x = z := by simpa using hz
             exact ⟨by simp, by simp⟩
  | 1, hz => obtain rfl : y = z := by simpa using hz
             exact ⟨by simp, by simp⟩
  | 2, hz => obtain rfl : X = z := by simpa using hz
             exact ⟨by simp, by simp⟩
  | 3, hz => obtain rfl : Y = z := by simpa using hz
             exact ⟨by simp, by simp⟩
  | j + 4, hz => simp at hz
theorem put_two {w : World} {b B : Nat} {x y : Int} {w0 : World} (h : Nums w b [x, y]) (hb : Below B w0 w) (hB : B ≤ b) (x' y' : Int) : ∃ W, (w.setCell ⟨b, 0, none⟩ (.int .i64 x')).setCell ⟨b, 1, none⟩ (.int .i64 y') = W ∧ Below B w0 W ∧ Nums W b [x', y'] := by
  obtain ⟨c0, c1, f0, f1⟩ := h.two
  refine ⟨_, rfl, (hb.setCell (p := ⟨b, 0, none⟩) hB _).setCell (p := ⟨b, 1, none⟩) hB _, by simpa using h.1, fun j z hz => ?_⟩
  match j, hz with
  | 0, hz => obtain rfl : x' = z := by simpa using hz
             refine ⟨?_, by simpa using f0⟩
             rw [World.cell?_setCell_other _ _ _ _ (by simp)]
             exact World.cell?_setCell_same _ _ _ c0
  | 1, hz => obtain rfl : y' = z := by simpa using hz
             refine ⟨?_, by simpa using f1⟩
             exact World.cell?_setCell_same _ _ _ (by rw [World.cell?_setCell_other _ _ _ _ (by simp)]; exact c1)
  | j + 2, hz => simp at hz
theorem put_four {w : World} {b B : Nat} {x y X Y : Int} {w0 : World} (h : Nums w b [x, y, X, Y]) (hb : Below B w0 w) (hB : B ≤ b) (x' y' X' Y' : Int) : ∃ W, (((w.setCell ⟨b, 0, none⟩ (.int .i64 x')).setCell ⟨b, 1, none⟩ (.int .i64 y')).setCell ⟨b, 2, none⟩ (.int .i64 X')).setCell ⟨b, 3, none⟩ (.int .i64 Y') = W ∧ Below B w0 W ∧ Nums W b [x', y', X', Y'] := by
  obtain ⟨c0, c1, c2, c3, f0, f1, f2, f3⟩ := h.four
  refine ⟨_, rfl, (((hb.setCell (p := ⟨b, 0, none⟩) hB _).setCell (p := ⟨b, 1, none⟩) hB _).setCell (p := ⟨b, 2, none⟩) hB _).setCell (p := ⟨b, 3, none⟩) hB _, by simpa using h.1, fun j z hz => ?_⟩
  match j, hz with
  | 0, hz => obtain rfl : x' = z := by simpa using hz
             refine ⟨?_, by simpa using f0⟩
             rw [World.cell?_setCell_other _ _ _ _ (by simp), World.cell?_setCell_other _ _ _ _ (by simp), World.cell?_setCell_other _ _ _ _ (by simp)]
             exact World.cell?_setCell_same _ _ _ c0
  | 1, hz => obtain rfl : y' = z := by simpa using hz
             refine ⟨?_, by simpa using f1⟩
             rw [World.cell?_setCell_other _ _ _ _ (by simp), World.cell?_setCell_other _ _ _ _ (by simp)]
             exact World.cell?_setCell_same _ _ _ (by rw [World.cell?_setCell_other _ _ _ _ (by simp)]; exact c1)
  | 2, hz => obtain rfl : X' = z := by simpa using hz
             refine ⟨?_, by simpa using f2⟩
             rw [World.cell?_setCell_other _ _ _ _ (by simp)]
             exact World.cell?_setCell_same _ _ _ (by rw [World.cell?_setCell_other _ _ _ _ (by simp), World.cell?_setCell_other _ _ _ _ (by simp)]; exact c2)
  | 3, hz => obtain rfl : Y' = z := by simpa using hz
             refine ⟨?_, by simpa using f3⟩
             exact World.cell?_setCell_same _ _ _ (by rw [World.cell?_setCell_other _ _ _ _ (by simp), World.cell?_setCell_other _ _ _ _ (by simp), World.cell?_setCell_other _ _ _ _ (by simp)]; exact c3)
  | j + 4, hz => simp at hz

theorem row_four (w : World) (x y X Y : Int) (t : TypeId) : ∀ j z, [x, y, X, Y][j]? = some z → (w.alloc (.cells #[.int .i64 x, .int .i64 y, .int .i64 X, .int .i64 Y] t)).cell? ⟨w.heap.size, j, none⟩ = some (.int .i64 z) := fun j z hz => ((rc_new w x y X Y t).2 j z hz).1
theorem has_any (x y X Y a b : Int) (w : World) :
    Calls Try.prog 29 #[.agg #[.int .i64 x, .int .i64 y, .int .i64 X, .int .i64 Y], .agg #[.int .i64 a, .int .i64 b]] w fun e w' => e = .returned (.bool (decide (x ≤ a) && decide (a < X) && decide (y ≤ b) && decide (b < Y))) ∧ Below w.heap.size w w' := by
  by_cases h1 : x ≤ a
  · by_cases h2 : a < X
    · by_cases h3 : y ≤ b
      · rw [decide_eq_true h1, decide_eq_true h2, decide_eq_true h3, Bool.true_and, Bool.true_and]
        go_enter Try.func29, Try.ntmps29
        go_wp2
        go_ret
        exact ⟨rfl, by go_grown⟩
      · rw [decide_eq_true h1, decide_eq_true h2, decide_eq_false h3, Bool.true_and, Bool.true_and]
        go_enter Try.func29, Try.ntmps29
        go_wp2
        go_ret
        exact ⟨rfl, by go_grown⟩
    · rw [decide_eq_true h1, decide_eq_false h2, Bool.true_and, Bool.false_and]
      go_enter Try.func29, Try.ntmps29
      go_wp2
      go_ret
      exact ⟨rfl, by go_grown⟩
  · rw [decide_eq_false h1, Bool.false_and, Bool.false_and]
    go_enter Try.func29, Try.ntmps29
    go_wp2
    go_ret
    exact ⟨rfl, by go_grown⟩
end Go.Proofs.Ytgciceogggldhaa
