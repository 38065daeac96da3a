/- Package grid: points; the tables of math/bits; the zoom's bits; the document's Right: contracts. -/
import Derived.Test.YtlafbkehlglfoaaDoorProg
import Derived.WalkKit
import Derived.WalkLawsBesides
import Derived.Lib.Hide
import Derived.IntWalk
import Derived.Deep.LoopGhost
import Derived.Below
import Derived.Handy
import Derived.BigRegion
import Derived.BigQuiet
import Derived.Deep.RegionWith
import Derived.Deep.RegionHeld3
namespace Go.Proofs.YtlafbkehlglfoaaDoor
open Go.RowKit

/-- Is a coordinate on the plane? -/
def onP (n : Int) : Bool := decide (-2305843009213693952 < n) && decide (n < 2305843009213693952)

theorem onPlane_any (n : Int) (w : World) :
    Calls Tryd.prog 30 #[.int .i64 n] w fun e w' => e = .returned (.bool (onP n)) ∧ w = w' := by
  by_cases h1 : -2305843009213693952 < n
  · have e : onP n = decide (n < 2305843009213693952) := by unfold onP; rw [decide_eq_true h1, Bool.true_and]
    rw [e]
    go_enter Tryd.func30, Tryd.ntmps30
    go_wp2
    go_ret
    exact ⟨rfl, rfl⟩
  · have e : onP n = false := by unfold onP; rw [decide_eq_false h1, Bool.false_and]
    rw [e]
    go_enter Tryd.func30, Tryd.ntmps30
    go_wp2
    go_ret
    exact ⟨rfl, rfl⟩
theorem rright_any (n : Int) (w : World) :
    Calls Tryd.prog 8 #[.int .i64 n] w fun e w' => e = .returned (.bool (onP n)) ∧ w = w' := by
  by_cases h1 : n < 2305843009213693952
  · have e : onP n = decide (-2305843009213693952 < n) := by unfold onP; rw [decide_eq_true h1, Bool.and_true]
    rw [e]
    go_enter Tryd.func8, Tryd.ntmps8
    go_wp2
    go_ret
    exact ⟨rfl, rfl⟩
  · have e : onP n = false := by unfold onP; rw [decide_eq_false h1, Bool.and_false]
    rw [e]
    go_enter Tryd.func8, Tryd.ntmps8
    go_wp2
    go_ret
    exact ⟨rfl, rfl⟩
theorem pright_any (x y : Int) (w : World) :
    Calls Tryd.prog 10 #[.agg #[.int .i64 x, .int .i64 y]] w fun e w' => e = .returned (.bool (onP x && onP y)) ∧ Below w.heap.size w w' := by
  go_enter Tryd.func10, Tryd.ntmps10
  go_wp2_with fail
  refine (onPlane_any x _).mono ?_
  rintro e w' ⟨rfl, rfl⟩
  cases hx : onP x with
  | true =>
    go_wp2_with fail
    refine (onPlane_any y _).mono ?_
    rintro e w' ⟨rfl, rfl⟩
    go_wp2
    go_ret
    exact ⟨by rw [hx]; rfl, by go_grown⟩
  | false =>
    go_wp2
    go_ret
    exact ⟨by rw [hx]; rfl, by go_grown⟩

theorem blk_lt {w : World} {p : Addr} {v : Value} (h : w.cell? p = some v) : p.block < w.heap.size := by
  apply Classical.byContradiction
  intro hn
  simp [World.cell?, Array.getElem?_eq_none (Nat.le_of_not_lt hn)] at h
/-- math/bits' table of sixty-four numbers, at sixteen's place. -/
def Tab16 (w : World) : Prop := w.cell? ⟨1, 15, none⟩ = some (.int .u8 4)
theorem Tab16.later {w w' : World} {B : Nat} (h : Tab16 w) (hb : Below B w w') (hB : 1 < B) : Tab16 w' := by
  unfold Tab16
  rw [hb.cell (p := ⟨1, 15, none⟩) hB]; exact h
theorem Tab16.lt {w : World} (h : Tab16 w) : 1 < w.heap.size := blk_lt h
theorem tz64_any (w : World) (h : Tab16 w) :
    Calls Tryd.prog 41 #[.int .u64 16] w fun e w' => e = .returned (.int .i64 4) ∧ w = w' := by
  unfold Tab16 at h
  have h1 : IntKind.u64.wrap (-16) = 18446744073709551600 := by decide
  have h2 : bits .and .u64 16 18446744073709551600 = 16 := by decide
  go_enter Tryd.func41, Tryd.ntmps41
  go_wp2
  go_ret
  exact ⟨rfl, rfl⟩
theorem tz_any (w : World) (h : Tab16 w) :
    Calls Tryd.prog 37 #[.int .u64 16] w fun e w' => e = .returned (.int .i64 4) ∧ w = w' := by
  go_enter Tryd.func37, Tryd.ntmps37
  go_wp2_with fail
  refine (tz64_any _ h).mono ?_
  rintro e w' ⟨rfl, rfl⟩
  go_wp2
  go_ret
  exact ⟨rfl, rfl⟩
theorem side_any (z : Nat) (hz : z ≤ 16) (w : World) (h : Tab16 w) :
    Calls Tryd.prog 35 #[.int .i64 (z : Int)] w fun e w' => e = .returned (.int .u64 ((4 + z : Nat) : Int)) ∧ w = w' := by
  go_enter Tryd.func35, Tryd.ntmps35
  go_wp2_with fail
  refine (tz_any _ h).mono ?_
  rintro e w' ⟨rfl, rfl⟩
  go_wp2
  go_ret
  exact ⟨by simp, rfl⟩

theorem bel1 (w : World) (o : Obj) : Below w.heap.size w (w.alloc o) := (Below.refl _ _).alloc (Nat.le_refl _) o
/-- Numbers in a block of the call's own. -/
def Nums (w : World) (b : Nat) (zs : List Int) : Prop := b < w.heap.size ∧ ∀ j z, zs[j]? = some z → w.cell? ⟨b, j, none⟩ = some (.int .i64 z) ∧ w.frozen? ⟨b, j, none⟩ = false
theorem Nums.later {w w' : World} {b : Nat} {zs : List Int} (h : Nums w b zs) (hb : Below w.heap.size w w') : Nums w' b zs :=
  ⟨Nat.lt_of_lt_of_le h.1 hb.size, fun j z hz => ⟨by rw [hb.cell (p := ⟨b, j, none⟩) h.1]; exact (h.2 j z hz).1, by rw [hb.frozen (p := ⟨b, j, none⟩) h.1]; exact (h.2 j z hz).2⟩⟩
theorem Nums.two {w : World} {b : Nat} {x y : Int} (h : Nums w b [x, y]) : w.cell? ⟨b, 0, none⟩ = some (.int .i64 x) ∧ w.cell? ⟨b, 1, none⟩ = some (.int .i64 y) ∧ w.frozen? ⟨b, 0, none⟩ = false ∧ w.frozen? ⟨b, 1, none⟩ = false :=
  ⟨(h.2 0 x rfl).1, (h.2 1 y rfl).1, (h.2 0 x rfl).2, (h.2 1 y rfl).2⟩
theorem Nums.four {w : World} {b : Nat} {x y X Y : Int} (h : Nums w b [x, y, X, Y]) : w.cell? ⟨b, 0, none⟩ = some (.int .i64 x) ∧ w.cell? ⟨b, 1, none⟩ = some (.int .i64 y) ∧ w.cell? ⟨b, 2, none⟩ = some (.int .i64 X) ∧ w.cell? ⟨b, 3, none⟩ = some (.int .i64 Y) ∧ w.frozen? ⟨b, 0, none⟩ = false ∧ w.frozen? ⟨b, 1, none⟩ = false ∧ w.frozen? ⟨b, 2, none⟩ = false ∧ w.frozen? ⟨b, 3, none⟩ = false :=
  ⟨(h.2 0 x rfl).1, (h.2 1 y rfl).1, (h.2 2 X rfl).1, (h.2 3 Y rfl).1, (h.2 0 x rfl).2, (h.2 1 y rfl).2, (h.2 2 X rfl).2, (h.2 3 Y rfl).2⟩
theorem pt_new (w : World) (x y : Int) (t : TypeId) : Nums (w.alloc (.cells #[.int .i64 x, .int .i64 y] t)) w.heap.size [x, y] := by
  refine ⟨by simp, fun j z hz => ?_⟩
  match j, hz with
  | 0, hz => obtain rfl : x = z := by simpa using hz
             exact ⟨by simp, by simp⟩
  | 1, hz => obtain rfl : y = z := by simpa using hz
             exact ⟨by simp, by simp⟩
  | j + 2, hz => simp at hz
theorem rc_new (w : World) (x y X Y : Int) (t : TypeId) : Nums (w.alloc (.cells #[.int .i64 x, .int .i64 y, .int .i64 X, .int .i64 Y] t)) w.heap.size [x, y, X, Y] := by
  refine ⟨by simp, fun j z hz => ?_⟩
  match j, hz with
  | 0, hz => obtain rfl : x = z := by simpa using hz
             exact ⟨by simp, by simp⟩
  | 1, hz => obtain rfl : y = z := by simpa using hz
             exact ⟨by simp, by simp⟩
  | 2, hz => obtain rfl : X = z := by simpa using hz
             exact ⟨by simp, by simp⟩
  | 3, hz => obtain rfl : Y = z := by simpa using hz
             exact ⟨by simp, by simp⟩
  | j + 4, hz => simp at hz
theorem put_two {w : World} {b B : Nat} {x y : Int} {w0 : World} (h : Nums w b [x, y]) (hb : Below B w0 w) (hB : B ≤ b) (x' y' : Int) : ∃ W, (w.setCell ⟨b, 0, none⟩ (.int .i64 x')).setCell ⟨b, 1, none⟩ (.int .i64 y') = W ∧ Below B w0 W ∧ Nums W b [x', y'] := by
  obtain ⟨c0, c1, f0, f1⟩ := h.two
  refine ⟨_, rfl, (hb.setCell (p := ⟨b, 0, none⟩) hB _).setCell (p := ⟨b, 1, none⟩) hB _, by simpa using h.1, fun j z hz => ?_⟩
  match j, hz with
  | 0, hz => obtain rfl : x' = z := by simpa using hz
             refine ⟨?_, by simpa using f0⟩
             rw [World.cell?_setCell_other _ _ _ _ (by simp)]
             exact World.cell?_setCell_same _ _ _ c0
  | 1, hz => obtain rfl : y' = z := by simpa using hz
             refine ⟨?_, by simpa using f1⟩
             exact World.cell?_setCell_same _ _ _ (by rw [World.cell?_setCell_other _ _ _ _ (by simp)]; exact c1)
  | j + 2, hz => simp at hz
theorem put_four {w : World} {b B : Nat} {x y X Y : Int} {w0 : World} (h : Nums w b [x, y, X, Y]) (hb : Below B w0 w) (hB : B ≤ b) (x' y' X' Y' : Int) : ∃ W, (((w.setCell ⟨b, 0, none⟩ (.int .i64 x')).setCell ⟨b, 1, none⟩ (.int .i64 y')).setCell ⟨b, 2, none⟩ (.int .i64 X')).setCell ⟨b, 3, none⟩ (.int .i64 Y') = W ∧ Below B w0 W ∧ Nums W b [x', y', X', Y'] := by
  obtain ⟨c0, c1, c2, c3, f0, f1, f2, f3⟩ := h.four
  refine ⟨_, rfl, (((hb.setCell (p := ⟨b, 0, none⟩) hB _).setCell (p := ⟨b, 1, none⟩) hB _).setCell (p := ⟨b, 2, none⟩) hB _).setCell (p := ⟨b, 3, none⟩) hB _, by simpa using h.1, fun j z hz => ?_⟩
  match j, hz with
  | 0, hz => obtain rfl : x' = z := by simpa using hz
             refine ⟨?_, by simpa using f0⟩
             rw [World.cell?_setCell_other _ _ _ _ (by simp), World.cell?_setCell_other _ _ _ _ (by simp), World.cell?_setCell_other _ _ _ _ (by simp)]
             exact World.cell?_setCell_same _ _ _ c0
  | 1, hz => obtain rfl : y' = z := by simpa using hz
             refine ⟨?_, by simpa using f1⟩
             rw [World.cell?_setCell_other _ _ _ _ (by simp), World.cell?_setCell_other _ _ _ _ (by simp)]
             exact World.cell?_setCell_same _ _ _ (by rw [World.cell?_setCell_other _ _ _ _ (by simp)]; exact c1)
  | 2, hz => obtain rfl : X' = z := by simpa using hz
             refine ⟨?_, by simpa using f2⟩
             rw [World.cell?_setCell_other _ _ _ _ (by simp)]
             exact World.cell?_setCell_same _ _ _ (by rw [World.cell?_setCell_other _ _ _ _ (by simp), World.cell?_setCell_other _ _ _ _ (by simp)]; exact c2)
  | 3, hz => obtain rfl : Y' = z := by simpa using hz
             refine ⟨?_, by simpa using f3⟩
             exact World.cell?_setCell_same _ _ _ (by rw [World.cell?_setCell_other _ _ _ _ (by simp), World.cell?_setCell_other _ _ _ _ (by simp), World.cell?_setCell_other _ _ _ _ (by simp)]; exact c3)
  | j + 4, hz => simp at hz

/-- Has a rectangle no points? -/
def noPts (x y X Y : Int) : Bool := decide (X ≤ x) || decide (Y ≤ y)
theorem empty_any (x y X Y : Int) (w : World) :
    Calls Tryd.prog 19 #[.agg #[.int .i64 x, .int .i64 y, .int .i64 X, .int .i64 Y]] w fun e w' => e = .returned (.bool (noPts x y X Y)) ∧ Below w.heap.size w w' := by
  by_cases h1 : X ≤ x
  · have e : noPts x y X Y = true := by unfold noPts; rw [decide_eq_true h1, Bool.true_or]
    rw [e]
    go_enter Tryd.func19, Tryd.ntmps19
    go_wp2
    go_ret
    exact ⟨rfl, by go_grown⟩
  · have e : noPts x y X Y = decide (Y ≤ y) := by unfold noPts; rw [decide_eq_false h1, Bool.false_or]
    rw [e]
    go_enter Tryd.func19, Tryd.ntmps19
    go_wp2
    go_ret
    exact ⟨rfl, by go_grown⟩
theorem last_any (x y X Y : Int) (hX : -9223372036854775808 < X) (hY : -9223372036854775808 < Y) (hX' : X ≤ 9223372036854775807) (hY' : Y ≤ 9223372036854775807) (w : World) :
    Calls Tryd.prog 34 #[.agg #[.int .i64 x, .int .i64 y, .int .i64 X, .int .i64 Y]] w fun e w' => e = .returned (.agg #[.int .i64 (X - 1), .int .i64 (Y - 1)]) ∧ Below w.heap.size w w' := by
  go_enter Tryd.func34, Tryd.ntmps34
  go_wp2
  go_returns
  exact ⟨rfl, by go_grown⟩
/-- Has a rectangle points, all on the plane? -/
def rightR (x y X Y : Int) : Bool := !noPts x y X Y && (onP x && onP y) && (onP (X - 1) && onP (Y - 1))
set_option maxHeartbeats 1000000 in
theorem rectRight_any (x y X Y : Int) (hX : -9223372036854775808 < X) (hY : -9223372036854775808 < Y) (hX' : X ≤ 9223372036854775807) (hY' : Y ≤ 9223372036854775807) (w : World) :
    Calls Tryd.prog 22 #[.agg #[.int .i64 x, .int .i64 y, .int .i64 X, .int .i64 Y]] w fun e w' => e = .returned (.bool (rightR x y X Y)) ∧ Below w.heap.size w w' := by
  go_enter Tryd.func22, Tryd.ntmps22
  go_wp2_with fail
  refine (empty_any x y X Y _).mono ?_
  rintro e w1 ⟨rfl, hb⟩
  obtain ⟨c0, c1, c2, c3, _⟩ := ((rc_new w x y X Y 34).later hb).four
  have HB : Hid (Below w.heap.size w w1) := ((Below.refl _ w).alloc (Nat.le_refl _) _).trans (hb.mono (by simp))
  have H1 := Lib.hid hb
  clear hb
  cases he : noPts x y X Y with
  | true =>
    have e : rightR x y X Y = false := by unfold rightR; rw [he]; rfl
    go_wp2
    go_ret
    exact ⟨by rw [e]; rfl, HB.out⟩
  | false =>
    go_wp2_with fail
    refine (pright_any x y _).mono ?_
    rintro e w2 ⟨rfl, hb⟩
    obtain ⟨d0, d1, d2, d3, _⟩ := (((rc_new w x y X Y 34).later H1.out).later hb).four
    have HB2 : Hid (Below w.heap.size w w2) := HB.out.trans (hb.mono HB.out.size)
    clear hb c0 c1 c2 c3
    cases hp : onP x && onP y with
    | false =>
      have e : rightR x y X Y = false := by unfold rightR; rw [he, hp]; rfl
      go_wp2
      go_ret
      exact ⟨by rw [e]; rfl, HB2.out⟩
    | true =>
      have e : rightR x y X Y = (onP (X - 1) && onP (Y - 1)) := by unfold rightR; rw [he, hp]; rfl
      have HE := Lib.hid e
      clear e
      go_wp2_with fail
      refine (last_any x y X Y hX hY hX' hY' _).mono ?_
      rintro e w3 ⟨rfl, hb⟩
      have HB3 : Hid (Below w.heap.size w w3) := HB2.out.trans (hb.mono HB2.out.size)
      clear hb d0 d1 d2 d3
      go_wp2_with fail
      refine (pright_any (X - 1) (Y - 1) _).mono ?_
      rintro e w4 ⟨rfl, hb⟩
      have HB4 : Hid (Below w.heap.size w w4) := HB3.out.trans (hb.mono HB3.out.size)
      clear hb
      go_wp2
      go_ret
      exact ⟨by rw [HE.out]; rfl, HB4.out⟩

set_option maxHeartbeats 1000000 in
theorem tile_any (x y : Int) (z : Nat) (hz : z ≤ 16) (w : World) (h : Tab16 w) :
    Calls Tryd.prog 26 #[.agg #[.int .i64 x, .int .i64 y], .int .i64 (z : Int)] w fun e w' => e = .returned (.agg #[.int .i64 (x / 2 ^ (4 + z)), .int .i64 (y / 2 ^ (4 + z))]) ∧ Below w.heap.size w w' := by
  have hb0 : Below w.heap.size w ((w.alloc (.cells #[.int .i64 x, .int .i64 y] 23)).alloc (.cells #[.int .i64 0, .int .i64 0] 23)) := by go_grown
  have H0 := Lib.hid (h.later hb0 h.lt)
  clear hb0
  go_enter Tryd.func26, Tryd.ntmps26
  go_wp2_with fail
  refine (side_any z hz _ H0.out).mono ?_
  rintro e w' ⟨rfl, rfl⟩
  go_wp2
  go_returns
  exact ⟨rfl, by go_grown⟩

set_option maxHeartbeats 1000000 in
theorem lives4_any (w : World) (h : Tab16 w) :
    Calls Tryd.prog 7 #[] w fun e w' => e = .returned (.bool true) ∧ Below w.heap.size w w' := by
  have H0 := Lib.hid (tile_any (-1) 16 0 (by decide) w h)
  rw [show (-1 : Int) / 2 ^ (4 + 0) = -1 by decide, show (16 : Int) / 2 ^ (4 + 0) = 1 by decide] at H0
  have H1 := Lib.hid (fun w => rectRight_any 0 0 1 1 (by decide) (by decide) (by decide) (by decide) w)
  rw [show rightR 0 0 1 1 = true by decide] at H1
  go_enter Tryd.func7, Tryd.ntmps7
  go_wp2_with fail
  refine H0.out.mono ?_
  rintro e w1 ⟨rfl, hb⟩
  have HB := Lib.hid hb
  clear hb
  go_wp2_with fail
  refine (H1.out _).mono ?_
  rintro e w2 ⟨rfl, hb⟩
  have HB2 := Lib.hid (HB.out.trans (hb.mono HB.out.size))
  clear hb
  go_wp2
  go_ret
  exact ⟨rfl, HB2.out⟩
end Go.Proofs.YtlafbkehlglfoaaDoor
