-- M08
import Derived.Test.YtnfjmmkokhncoaaGreatM06
import Derived.Test.YtnfjmmkokhncoaaGreatM03
import Derived.Deep.DeepCutAuto
import Derived.Deep.CutRange
import Derived.Deep.CutBlock
import Derived.Deep.RegionWith
import Derived.Deep.RegionHeld3
import Derived.Handy
import Derived.Test.YtnfjmmkokhncoaaGreatM02
import Derived.Test.YtnfjmmkokhncoaaGreatM07
import Derived.Laws.StructEq
section
namespace Go.Proofs.YtnfjmmkokhncoaaGreat
open Go.RowKit

/-- Has a rectangle no points? -/
def noPts (x y X Y : Int) : Bool := decide (X ≤ x) || decide (Y ≤ y)
theorem rempty_any (x y X Y : Int) (w : World) :
    Calls Tryz.prog 40 #[.agg #[.int .i64 x, .int .i64 y, .int .i64 X, .int .i64 Y]] w fun e w' => e = .returned (.bool (noPts x y X Y)) ∧ Below w.heap.size w w' := by
  by_cases h1 : X ≤ x
  · have e : noPts x y X Y = true := by unfold noPts; rw [decide_eq_true h1, Bool.true_or]
    rw [e]
    go_enter Tryz.func40, Tryz.ntmps40
    go_wp2
    go_ret
    exact ⟨rfl, by go_grown⟩
  · have e : noPts x y X Y = decide (Y ≤ y) := by unfold noPts; rw [decide_eq_false h1, Bool.false_or]
    rw [e]
    go_enter Tryz.func40, Tryz.ntmps40
    go_wp2
    go_ret
    exact ⟨rfl, by go_grown⟩
theorem last_any (x y X Y : Int) (hX : -9223372036854775808 < X) (hY : -9223372036854775808 < Y) (hX' : X ≤ 9223372036854775807) (hY' : Y ≤ 9223372036854775807) (w : World) :
    Calls Tryz.prog 46 #[.agg #[.int .i64 x, .int .i64 y, .int .i64 X, .int .i64 Y]] w fun e w' => e = .returned (.agg #[.int .i64 (X - 1), .int .i64 (Y - 1)]) ∧ Below w.heap.size w w' := by
  go_enter Tryz.func46, Tryz.ntmps46
  go_wp2
  go_returns
  exact ⟨rfl, by go_grown⟩
/-- Has a rectangle points, all on the plane? -/
def rightR (x y X Y : Int) : Bool := !noPts x y X Y && (onP x && onP y) && (onP (X - 1) && onP (Y - 1))
set_option maxHeartbeats 1000000 in
theorem rectRight_any (x y X Y : Int) (hX : -9223372036854775808 < X) (hY : -9223372036854775808 < Y) (hX' : X ≤ 9223372036854775807) (hY' : Y ≤ 9223372036854775807) (w : World) :
    Calls Tryz.prog 20 #[.agg #[.int .i64 x, .int .i64 y, .int .i64 X, .int .i64 Y]] w fun e w' => e = .returned (.bool (rightR x y X Y)) ∧ Below w.heap.size w w' := by
  go_enter Tryz.func20, Tryz.ntmps20
  go_wp2_with fail
  refine (rempty_any x y X Y _).mono ?_
  rintro e w1 ⟨rfl, hb⟩
  obtain ⟨c0, c1, c2, c3, _⟩ := ((rc_new w x y X Y 42).later hb).four
  have HB : Hid (Below w.heap.size w w1) := ((Below.refl _ w).alloc (Nat.le_refl _) _).trans (hb.mono (by simp))
  have H1 := Lib.hid hb
  clear hb
  cases he : noPts x y X Y with
  | true =>
    have e : rightR x y X Y = false := by unfold rightR; rw [he]; rfl
    go_wp2
    go_ret
    exact ⟨by rw [e]; rfl, HB.out⟩
  | false =>
    go_wp2_with fail
    refine (pright_any x y _).mono ?_
    rintro e w2 ⟨rfl, hb⟩
    obtain ⟨d0, d1, d2, d3, _⟩ := (((rc_new w x y X Y 42).later H1.out).later hb).four
    have HB2 : Hid (Below w.heap.size w w2) := HB.out.trans (hb.mono HB.out.size)
    clear hb c0 c1 c2 c3
    cases hp : onP x && onP y with
    | false =>
      have e : rightR x y X Y = false := by unfold rightR; rw [he, hp]; rfl
      go_wp2
      go_ret
      exact ⟨by rw [e]; rfl, HB2.out⟩
    | true =>
      have e : rightR x y X Y = (onP (X - 1) && onP (Y - 1)) := by unfold rightR; rw [he, hp]; rfl
      have HE := Lib.hid e
      clear e
      go_wp2_with fail
      refine (last_any x y X Y hX hY hX' hY' _).mono ?_
      rintro e w3 ⟨rfl, hb⟩
      have HB3 : Hid (Below w.heap.size w w3) := HB2.out.trans (hb.mono HB2.out.size)
      clear hb d0 d1 d2 d3
      go_wp2_with fail
      refine (pright_any (X - 1) (Y - 1) _).mono ?_
      rintro e w4 ⟨rfl, hb⟩
      have HB4 : Hid (Below w.heap.size w w4) := HB3.out.trans (hb.mono HB3.out.size)
      clear hb
      go_wp2
      go_ret
      exact ⟨by rw [HE.out]; rfl, HB4.out⟩

theorem ret_i {a b : Int} (h : a = b) : Ending.returned (.int .i64 a) = .returned (.int .i64 b) := by rw [h]
theorem ret_pt {a b c d : Int} (h1 : a = c) (h2 : b = d) : Ending.returned (.agg #[.int .i64 a, .int .i64 b]) = .returned (.agg #[.int .i64 c, .int .i64 d]) := by rw [h1, h2]
theorem least_any (x y u v : Int) (w : World) :
    Calls Tryz.prog 62 #[.agg #[.int .i64 x, .int .i64 y], .agg #[.int .i64 u, .int .i64 v]] w fun e w' => e = .returned (.agg #[.int .i64 (min x u), .int .i64 (min y v)]) ∧ Below w.heap.size w w' := by
  go_enter Tryz.func62, Tryz.ntmps62
  go_wp2
  all_goals
    go_returns
    exact ⟨ret_pt (by omega) (by omega), by go_grown⟩
theorem greatest_any (x y u v : Int) (w : World) :
    Calls Tryz.prog 61 #[.agg #[.int .i64 x, .int .i64 y], .agg #[.int .i64 u, .int .i64 v]] w fun e w' => e = .returned (.agg #[.int .i64 (max x u), .int .i64 (max y v)]) ∧ Below w.heap.size w w' := by
  go_enter Tryz.func61, Tryz.ntmps61
  go_wp2
  all_goals
    go_returns
    exact ⟨ret_pt (by omega) (by omega), by go_grown⟩
/-- The blocks of And, Or: two rectangles, and the result's. -/
structure Held (w : World) (x y X Y a b c d : Int) (r : List Int) (W : World) : Prop where
  bel : Below w.heap.size w W
  one : Nums W w.heap.size [x, y, X, Y]
  two : Nums W (w.heap.size + 1) [a, b, c, d]
  res : Nums W (w.heap.size + 1 + 1) r
theorem Held.later {w W W' : World} {x y X Y a b c d : Int} {r : List Int} (h : Held w x y X Y a b c d r W) (hb : Below W.heap.size W W') : Held w x y X Y a b c d r W' :=
  ⟨h.bel.trans (hb.mono h.bel.size), h.one.later hb, h.two.later hb, h.res.later hb⟩
theorem Held.drewN {w W : World} {x y X Y a b c d : Int} {r : List Int} (h : Held w x y X Y a b c d r W) (q : Nat) : Held w x y X Y a b c d r (W.drewN q) :=
  ⟨⟨h.bel.os, h.bel.tape, h.bel.output, h.bel.size, h.bel.block⟩, h.one, h.two, h.res⟩
theorem held_start (w : World) (x y X Y a b c d : Int) (t : TypeId) : ∃ W, ((w.alloc (.cells #[.int .i64 x, .int .i64 y, .int .i64 X, .int .i64 Y] t)).alloc (.cells #[.int .i64 a, .int .i64 b, .int .i64 c, .int .i64 d] t)).alloc (.cells #[.int .i64 0, .int .i64 0, .int .i64 0, .int .i64 0] t) = W ∧ W.heap.size = w.heap.size + 3 ∧ Held w x y X Y a b c d [0, 0, 0, 0] W := by
  refine ⟨_, rfl, by simp, by go_grown, ((rc_new w x y X Y t).later (bel1 _ _)).later (bel1 _ _), ?_, ?_⟩
  · have := (rc_new (w.alloc (.cells #[.int .i64 x, .int .i64 y, .int .i64 X, .int .i64 Y] t)) a b c d t).later (bel1 _ (.cells #[.int .i64 0, .int .i64 0, .int .i64 0, .int .i64 0] t))
    simpa using this
  · have := rc_new ((w.alloc (.cells #[.int .i64 x, .int .i64 y, .int .i64 X, .int .i64 Y] t)).alloc (.cells #[.int .i64 a, .int .i64 b, .int .i64 c, .int .i64 d] t)) 0 0 0 0 t
    simpa using this

theorem or_done {w W : World} {x y X Y a b c d : Int} {r0 r1 r2 r3 : Int} (h : Held w x y X Y a b c d [r0, r1, r2, r3] W) {s0 s1 s2 s3 : Int} : Below w.heap.size w ((((W.setCell ⟨w.heap.size + 1 + 1, 0, none⟩ (.int .i64 s0)).setCell ⟨w.heap.size + 1 + 1, 1, none⟩ (.int .i64 s1)).setCell ⟨w.heap.size + 1 + 1, 2, none⟩ (.int .i64 s2)).setCell ⟨w.heap.size + 1 + 1, 3, none⟩ (.int .i64 s3)) ∧ Nums ((((W.setCell ⟨w.heap.size + 1 + 1, 0, none⟩ (.int .i64 s0)).setCell ⟨w.heap.size + 1 + 1, 1, none⟩ (.int .i64 s1)).setCell ⟨w.heap.size + 1 + 1, 2, none⟩ (.int .i64 s2)).setCell ⟨w.heap.size + 1 + 1, 3, none⟩ (.int .i64 s3)) (w.heap.size + 1 + 1) [s0, s1, s2, s3] := by
  obtain ⟨W', hW', hb, hn⟩ := put_four h.res h.bel (by omega) s0 s1 s2 s3
  rw [hW']
  exact ⟨hb, hn⟩

/-- What Or returns. -/
def orV (x y X Y a b c d : Int) : List Int :=
  if noPts x y X Y then (if noPts a b c d then [0, 0, 0, 0] else [a, b, c, d])
  else if noPts a b c d then [x, y, X, Y] else [min x a, min y b, max X c, max Y d]
/-- Four numbers, as a value. -/
def valOf (l : List Int) : Value := .agg (l.map (Value.int .i64)).toArray

set_option maxRecDepth 100000 in
set_option maxHeartbeats 4000000 in
theorem or_both (x y X Y a b c d : Int) (h1 : noPts x y X Y = false) (h2 : noPts a b c d = false) (w : World) :
    Calls Tryz.prog 75 #[.agg #[.int .i64 x, .int .i64 y, .int .i64 X, .int .i64 Y], .agg #[.int .i64 a, .int .i64 b, .int .i64 c, .int .i64 d]] w fun e w' => e = .returned (.agg #[.int .i64 (min x a), .int .i64 (min y b), .int .i64 (max X c), .int .i64 (max Y d)]) ∧ Below w.heap.size w w' := by
  obtain ⟨W0, hW0, hs0, hh0⟩ := held_start w x y X Y a b c d 42
  have H0 := Lib.hid hh0
  have HW := Lib.hid hW0
  have HE1 := Lib.hid (fun w => rempty_any x y X Y w)
  have HE2 := Lib.hid (fun w => rempty_any a b c d w)
  rw [h1] at HE1
  rw [h2] at HE2
  clear hs0 hh0 hW0 h1 h2
  go_enter Tryz.func75, Tryz.ntmps75
  go_wp2_with fail
  rw [HW.out]
  refine (HE1.out _).mono ?_
  rintro e w1 ⟨rfl, hb⟩
  have HH1 := Lib.hid (H0.out.later hb)
  clear hb H0 HW W0
  obtain ⟨c0, c1, c2, c3, _⟩ := HH1.out.one.four
  obtain ⟨d0, d1, d2, d3, _⟩ := HH1.out.two.four
  go_wp2_with fail
  refine (HE1.out _).mono ?_
  rintro e w2 ⟨rfl, hb⟩
  have HH2 := Lib.hid (HH1.out.later hb)
  clear hb HH1 c0 c1 c2 c3 d0 d1 d2 d3
  obtain ⟨c0, c1, c2, c3, _⟩ := HH2.out.one.four
  obtain ⟨d0, d1, d2, d3, _⟩ := HH2.out.two.four
  go_wp2_with fail
  refine (HE2.out _).mono ?_
  rintro e w3 ⟨rfl, hb⟩
  have HH3 := Lib.hid (HH2.out.later hb)
  clear hb HH2 c0 c1 c2 c3 d0 d1 d2 d3
  go_upto_region 7 with fail
  have hh := HH3.out.drewN 1
  obtain ⟨c0, c1, c2, c3, _⟩ := HH3.out.one.four
  obtain ⟨d0, d1, d2, d3, _⟩ := HH3.out.two.four
  have n1 : ¬ w.heap.size = w.heap.size + 1 + 1 := by omega
  have n2 : ¬ w.heap.size + 1 + 1 = w.heap.size := by omega
  go_cut [] (fun wx => Below w.heap.size w wx ∧ Nums wx (w.heap.size + 1 + 1) [min x a, min y b, max X c, max Y d])
  case first =>
    go_region_held3 (fun w' => w'.cell? ⟨w.heap.size, 0, none⟩ = some (.int .i64 x) ∧ w'.cell? ⟨w.heap.size, 1, none⟩ = some (.int .i64 y) ∧ w'.cell? ⟨w.heap.size, 2, none⟩ = some (.int .i64 X) ∧ w'.cell? ⟨w.heap.size, 3, none⟩ = some (.int .i64 Y) ∧ w'.cell? ⟨w.heap.size + 1, 0, none⟩ = some (.int .i64 a) ∧ w'.cell? ⟨w.heap.size + 1, 1, none⟩ = some (.int .i64 b) ∧ w'.cell? ⟨w.heap.size + 1, 2, none⟩ = some (.int .i64 c) ∧ w'.cell? ⟨w.heap.size + 1, 3, none⟩ = some (.int .i64 d)) (go_keep)
      (first
        | (go_at_call 62; refine (least_any x y a b _).mono ?_; rintro e wl ⟨rfl, hb⟩; have hl := Held.later (by assumption) hb; have k1 := hl.one.four; have k2 := hl.two.four; have k3 := hl.res.four; clear hb)
        | (go_at_call 61; refine (greatest_any X Y c d _).mono ?_; rintro e wg ⟨rfl, hb⟩; have hg := Held.later (by assumption) hb; have k1 := hg.one.four; have k2 := hg.two.four; have k3 := hg.res.four; clear hb))
    all_goals go_wp2_with fail
    all_goals go_meet
    all_goals first | exact or_done hg | exact or_done hl
  case rest =>
  obtain ⟨hbw, hn⟩ := hcut
  obtain ⟨q0, q1, q2, q3, _⟩ := hn.four
  go_wp2
  refine bodyPost_ret (v := _) (by simp [results, Tryz.results75, go_sem, q0, q1, q2, q3]; rfl) rfl ?_
  exact ⟨rfl, hbw⟩

set_option maxRecDepth 100000 in
set_option maxHeartbeats 4000000 in
theorem or_none (x y X Y a b c d : Int) (h1 : noPts x y X Y = true) (h2 : noPts a b c d = true) (w : World) :
    Calls Tryz.prog 75 #[.agg #[.int .i64 x, .int .i64 y, .int .i64 X, .int .i64 Y], .agg #[.int .i64 a, .int .i64 b, .int .i64 c, .int .i64 d]] w fun e w' => e = .returned (.agg #[.int .i64 0, .int .i64 0, .int .i64 0, .int .i64 0]) ∧ Below w.heap.size w w' := by
  obtain ⟨W0, hW0, hs0, hh0⟩ := held_start w x y X Y a b c d 42
  have H0 := Lib.hid hh0
  have HW := Lib.hid hW0
  have HE1 := Lib.hid (fun w => rempty_any x y X Y w)
  have HE2 := Lib.hid (fun w => rempty_any a b c d w)
  rw [h1] at HE1
  rw [h2] at HE2
  clear hs0 hh0 hW0 h1 h2
  go_enter Tryz.func75, Tryz.ntmps75
  go_wp2_with fail
  rw [HW.out]
  refine (HE1.out _).mono ?_
  rintro e w1 ⟨rfl, hb⟩
  have HH1 := Lib.hid (H0.out.later hb)
  clear hb H0 HW W0
  obtain ⟨c0, c1, c2, c3, _⟩ := HH1.out.one.four
  obtain ⟨d0, d1, d2, d3, _⟩ := HH1.out.two.four
  obtain ⟨_, _, _, _, f0, f1, f2, f3⟩ := HH1.out.res.four
  go_wp2_with fail
  refine (HE2.out _).mono ?_
  rintro e w2 ⟨rfl, hb⟩
  have HH2 := Lib.hid (HH1.out.later hb)
  clear hb HH1 c0 c1 c2 c3 d0 d1 d2 d3 f0 f1 f2 f3
  obtain ⟨c0, c1, c2, c3, _⟩ := HH2.out.one.four
  obtain ⟨d0, d1, d2, d3, _⟩ := HH2.out.two.four
  obtain ⟨r0, r1, r2, r3, f0, f1, f2, f3⟩ := HH2.out.res.four
  go_wp2
  obtain ⟨hbw, hn⟩ := or_done HH2.out (s0 := 0) (s1 := 0) (s2 := 0) (s3 := 0)
  obtain ⟨q0, q1, q2, q3, _⟩ := hn.four
  generalize (((w2.setCell ⟨w.heap.size + 1 + 1, 0, none⟩ (.int .i64 0)).setCell ⟨w.heap.size + 1 + 1, 1, none⟩ (.int .i64 0)).setCell ⟨w.heap.size + 1 + 1, 2, none⟩ (.int .i64 0)).setCell ⟨w.heap.size + 1 + 1, 3, none⟩ (.int .i64 0) = W9 at *
  refine bodyPost_ret (v := _) (by simp [results, Tryz.results75, go_sem, q0, q1, q2, q3]; rfl) rfl ?_
  exact ⟨rfl, hbw⟩

set_option maxRecDepth 100000 in
set_option maxHeartbeats 4000000 in
theorem or_second (x y X Y a b c d : Int) (h1 : noPts x y X Y = true) (h2 : noPts a b c d = false) (w : World) :
    Calls Tryz.prog 75 #[.agg #[.int .i64 x, .int .i64 y, .int .i64 X, .int .i64 Y], .agg #[.int .i64 a, .int .i64 b, .int .i64 c, .int .i64 d]] w fun e w' => e = .returned (.agg #[.int .i64 a, .int .i64 b, .int .i64 c, .int .i64 d]) ∧ Below w.heap.size w w' := by
  obtain ⟨W0, hW0, hs0, hh0⟩ := held_start w x y X Y a b c d 42
  have H0 := Lib.hid hh0
  have HW := Lib.hid hW0
  have HE1 := Lib.hid (fun w => rempty_any x y X Y w)
  have HE2 := Lib.hid (fun w => rempty_any a b c d w)
  rw [h1] at HE1
  rw [h2] at HE2
  clear hs0 hh0 hW0 h1 h2
  go_enter Tryz.func75, Tryz.ntmps75
  go_wp2_with fail
  rw [HW.out]
  refine (HE1.out _).mono ?_
  rintro e w1 ⟨rfl, hb⟩
  have HH1 := Lib.hid (H0.out.later hb)
  clear hb H0 HW W0
  obtain ⟨c0, c1, c2, c3, _⟩ := HH1.out.one.four
  obtain ⟨d0, d1, d2, d3, _⟩ := HH1.out.two.four
  obtain ⟨_, _, _, _, f0, f1, f2, f3⟩ := HH1.out.res.four
  go_wp2_with fail
  refine (HE2.out _).mono ?_
  rintro e w2 ⟨rfl, hb⟩
  have HH2 := Lib.hid (HH1.out.later hb)
  clear hb HH1 c0 c1 c2 c3 d0 d1 d2 d3 f0 f1 f2 f3
  obtain ⟨c0, c1, c2, c3, _⟩ := HH2.out.one.four
  obtain ⟨d0, d1, d2, d3, _⟩ := HH2.out.two.four
  obtain ⟨r0, r1, r2, r3, f0, f1, f2, f3⟩ := HH2.out.res.four
  go_wp2_with fail
  refine (HE1.out _).mono ?_
  rintro e w3 ⟨rfl, hb⟩
  have HH3 := Lib.hid (HH2.out.later hb)
  clear hb HH2 c0 c1 c2 c3 d0 d1 d2 d3 r0 r1 r2 r3 f0 f1 f2 f3
  obtain ⟨c0, c1, c2, c3, _⟩ := HH3.out.one.four
  obtain ⟨d0, d1, d2, d3, _⟩ := HH3.out.two.four
  obtain ⟨r0, r1, r2, r3, f0, f1, f2, f3⟩ := HH3.out.res.four
  go_wp2
  obtain ⟨hbw, hn⟩ := or_done HH3.out (s0 := a) (s1 := b) (s2 := c) (s3 := d)
  obtain ⟨q0, q1, q2, q3, _⟩ := hn.four
  generalize (((w3.setCell ⟨w.heap.size + 1 + 1, 0, none⟩ (.int .i64 a)).setCell ⟨w.heap.size + 1 + 1, 1, none⟩ (.int .i64 b)).setCell ⟨w.heap.size + 1 + 1, 2, none⟩ (.int .i64 c)).setCell ⟨w.heap.size + 1 + 1, 3, none⟩ (.int .i64 d) = W9 at *
  refine bodyPost_ret (v := _) (by simp [results, Tryz.results75, go_sem, q0, q1, q2, q3]; rfl) rfl ?_
  exact ⟨rfl, hbw⟩

set_option maxRecDepth 100000 in
set_option maxHeartbeats 4000000 in
theorem or_first (x y X Y a b c d : Int) (h1 : noPts x y X Y = false) (h2 : noPts a b c d = true) (w : World) :
    Calls Tryz.prog 75 #[.agg #[.int .i64 x, .int .i64 y, .int .i64 X, .int .i64 Y], .agg #[.int .i64 a, .int .i64 b, .int .i64 c, .int .i64 d]] w fun e w' => e = .returned (.agg #[.int .i64 x, .int .i64 y, .int .i64 X, .int .i64 Y]) ∧ Below w.heap.size w w' := by
  obtain ⟨W0, hW0, hs0, hh0⟩ := held_start w x y X Y a b c d 42
  have H0 := Lib.hid hh0
  have HW := Lib.hid hW0
  have HE1 := Lib.hid (fun w => rempty_any x y X Y w)
  have HE2 := Lib.hid (fun w => rempty_any a b c d w)
  rw [h1] at HE1
  rw [h2] at HE2
  clear hs0 hh0 hW0 h1 h2
  go_enter Tryz.func75, Tryz.ntmps75
  go_wp2_with fail
  rw [HW.out]
  refine (HE1.out _).mono ?_
  rintro e w1 ⟨rfl, hb⟩
  have HH1 := Lib.hid (H0.out.later hb)
  clear hb H0 HW W0
  obtain ⟨c0, c1, c2, c3, _⟩ := HH1.out.one.four
  obtain ⟨d0, d1, d2, d3, _⟩ := HH1.out.two.four
  obtain ⟨_, _, _, _, f0, f1, f2, f3⟩ := HH1.out.res.four
  go_wp2_with fail
  refine (HE1.out _).mono ?_
  rintro e w2 ⟨rfl, hb⟩
  have HH2 := Lib.hid (HH1.out.later hb)
  clear hb HH1 c0 c1 c2 c3 d0 d1 d2 d3 f0 f1 f2 f3
  obtain ⟨c0, c1, c2, c3, _⟩ := HH2.out.one.four
  obtain ⟨d0, d1, d2, d3, _⟩ := HH2.out.two.four
  obtain ⟨r0, r1, r2, r3, f0, f1, f2, f3⟩ := HH2.out.res.four
  go_wp2_with fail
  refine (HE2.out _).mono ?_
  rintro e w3 ⟨rfl, hb⟩
  have HH3 := Lib.hid (HH2.out.later hb)
  clear hb HH2 c0 c1 c2 c3 d0 d1 d2 d3 r0 r1 r2 r3 f0 f1 f2 f3
  obtain ⟨c0, c1, c2, c3, _⟩ := HH3.out.one.four
  obtain ⟨d0, d1, d2, d3, _⟩ := HH3.out.two.four
  obtain ⟨r0, r1, r2, r3, f0, f1, f2, f3⟩ := HH3.out.res.four
  go_wp2
  obtain ⟨hbw, hn⟩ := or_done HH3.out (s0 := x) (s1 := y) (s2 := X) (s3 := Y)
  obtain ⟨q0, q1, q2, q3, _⟩ := hn.four
  generalize (((w3.setCell ⟨w.heap.size + 1 + 1, 0, none⟩ (.int .i64 x)).setCell ⟨w.heap.size + 1 + 1, 1, none⟩ (.int .i64 y)).setCell ⟨w.heap.size + 1 + 1, 2, none⟩ (.int .i64 X)).setCell ⟨w.heap.size + 1 + 1, 3, none⟩ (.int .i64 Y) = W9 at *
  refine bodyPost_ret (v := _) (by simp [results, Tryz.results75, go_sem, q0, q1, q2, q3]; rfl) rfl ?_
  exact ⟨rfl, hbw⟩

theorem or_any (x y X Y a b c d : Int) (w : World) :
    Calls Tryz.prog 75 #[.agg #[.int .i64 x, .int .i64 y, .int .i64 X, .int .i64 Y], .agg #[.int .i64 a, .int .i64 b, .int .i64 c, .int .i64 d]] w fun e w' => e = .returned (valOf (orV x y X Y a b c d)) ∧ Below w.heap.size w w' := by
  unfold orV valOf
  cases h1 : noPts x y X Y <;> cases h2 : noPts a b c d
  · exact or_both x y X Y a b c d h1 h2 w
  · exact or_first x y X Y a b c d h1 h2 w
  · exact or_second x y X Y a b c d h1 h2 w
  · exact or_none x y X Y a b c d h1 h2 w

/-- A new rectangle's block. -/
def Fresh (w W : World) (nb : Nat) : Prop := Nums W nb [0, 0, 0, 0] ∧ w.heap.size + 1 + 1 < nb
theorem Held.alloc {w W : World} {x y X Y a b c d : Int} {r : List Int} (h : Held w x y X Y a b c d r W) (o : Obj) : Held w x y X Y a b c d r (W.alloc o) := h.later (bel1 W o)
theorem Fresh.new {w W : World} {x y X Y a b c d : Int} {r : List Int} (h : Held w x y X Y a b c d r W) : Fresh w (W.alloc (.cells #[.int .i64 0, .int .i64 0, .int .i64 0, .int .i64 0] 42)) W.heap.size := ⟨rc_new W 0 0 0 0 _, h.res.1⟩
theorem Fresh.later {w W W' : World} {nb : Nat} (h : Fresh w W nb) (hb : Below W.heap.size W W') : Fresh w W' nb := ⟨h.1.later hb, h.2⟩
theorem Fresh.ne {w W : World} {nb : Nat} (h : Fresh w W nb) : ¬ w.heap.size = nb ∧ ¬ nb = w.heap.size ∧ ¬ w.heap.size + 1 = nb ∧ ¬ nb = w.heap.size + 1 := by
  have := h.2
  omega
theorem Nums.other {w : World} {b b' i : Nat} {zs : List Int} {v : Value} (h : Nums w b zs) (hne : b ≠ b') : Nums (w.setCell ⟨b', i, none⟩ v) b zs := by
  refine ⟨by simpa using h.1, fun j z hz => ⟨?_, by simpa using (h.2 j z hz).2⟩⟩
  rw [World.cell?_setCell_other _ _ _ _ (by intro e; first | exact hne (congrArg Addr.block e) | exact hne (congrArg Addr.block e).symm)]
  exact (h.2 j z hz).1
/-- Behind And's first statement. -/
def AndAt (w : World) (r : List Int) (p : Value) (W : World) : Prop := ∃ nb, p = .pointer (some ⟨nb, 0, none⟩) ∧ w.heap.size ≤ nb ∧ Below w.heap.size w W ∧ Nums W nb r ∧ Nums W (w.heap.size + 1 + 1) [0, 0, 0, 0]
theorem and_put {w W : World} {x y X Y a b c d : Int} {nb : Nat} (h : Held w x y X Y a b c d [0, 0, 0, 0] W) (hz : Fresh w W nb) {s0 s1 s2 s3 : Int} : AndAt w [s0, s1, s2, s3] (.pointer (some ⟨nb, 0, none⟩)) ((((W.setCell ⟨nb, 0, none⟩ (.int .i64 s0)).setCell ⟨nb, 1, none⟩ (.int .i64 s1)).setCell ⟨nb, 2, none⟩ (.int .i64 s2)).setCell ⟨nb, 3, none⟩ (.int .i64 s3)) := by
  have hlt := hz.2
  obtain ⟨W', hW', hb, hn⟩ := put_four hz.1 h.bel (by omega) s0 s1 s2 s3
  refine ⟨nb, rfl, by omega, ?_, ?_, (((h.res.other (by omega)).other (by omega)).other (by omega)).other (by omega)⟩
  · rw [hW']; exact hb
  · rw [hW']; exact hn
theorem and_new {w W : World} {x y X Y a b c d : Int} (h : Held w x y X Y a b c d [0, 0, 0, 0] W) {s0 s1 s2 s3 : Int} : AndAt w [s0, s1, s2, s3] (.pointer (some ⟨W.heap.size, 0, none⟩)) (W.alloc (.cells #[.int .i64 s0, .int .i64 s1, .int .i64 s2, .int .i64 s3] 42)) :=
  ⟨W.heap.size, rfl, h.bel.size, h.bel.alloc h.bel.size _, rc_new W s0 s1 s2 s3 _, h.res.later (bel1 W _)⟩

/-- What And returns. -/
def andV (x y X Y a b c d : Int) : List Int := if noPts (max x a) (max y b) (min X c) (min Y d) then [0, 0, 0, 0] else [max x a, max y b, min X c, min Y d]

set_option maxRecDepth 100000 in
set_option maxHeartbeats 4000000 in
theorem and_any (x y X Y a b c d : Int) (w : World) :
    Calls Tryz.prog 33 #[.agg #[.int .i64 x, .int .i64 y, .int .i64 X, .int .i64 Y], .agg #[.int .i64 a, .int .i64 b, .int .i64 c, .int .i64 d]] w fun e w' => e = .returned (valOf (andV x y X Y a b c d)) ∧ Below w.heap.size w w' := by
  obtain ⟨W0, hW0, hs0, hh0⟩ := held_start w x y X Y a b c d 42
  have H0 := Lib.hid hh0
  have HW := Lib.hid hW0
  clear hs0 hh0 hW0
  go_enter Tryz.func33, Tryz.ntmps33
  go_upto_region 1 with fail
  rw [HW.out]
  clear HW
  have hh := H0.out.drewN 1
  have hh2 : Held w x y X Y a b c d [0, 0, 0, 0] (W0.alloc (.cells #[.int .i64 0, .int .i64 0, .int .i64 0, .int .i64 0] 42)).drew := (H0.out.alloc _).drewN 1
  have hz0 : Fresh w (W0.alloc (.cells #[.int .i64 0, .int .i64 0, .int .i64 0, .int .i64 0] 42)).drew W0.heap.size := Fresh.new H0.out
  obtain ⟨c0, c1, c2, c3, _⟩ := H0.out.one.four
  obtain ⟨d0, d1, d2, d3, _⟩ := H0.out.two.four
  have n1 : ¬ w.heap.size = w.heap.size + 1 + 1 := by omega
  have n2 : ¬ w.heap.size + 1 + 1 = w.heap.size := by omega
  go_cut [5] (fun p wx => AndAt w [max x a, max y b, min X c, min Y d] p wx)
  case first =>
    go_region_held3 (fun w' => w'.cell? ⟨w.heap.size, 0, none⟩ = some (.int .i64 x) ∧ w'.cell? ⟨w.heap.size, 1, none⟩ = some (.int .i64 y) ∧ w'.cell? ⟨w.heap.size, 2, none⟩ = some (.int .i64 X) ∧ w'.cell? ⟨w.heap.size, 3, none⟩ = some (.int .i64 Y) ∧ w'.cell? ⟨w.heap.size + 1, 0, none⟩ = some (.int .i64 a) ∧ w'.cell? ⟨w.heap.size + 1, 1, none⟩ = some (.int .i64 b) ∧ w'.cell? ⟨w.heap.size + 1, 2, none⟩ = some (.int .i64 c) ∧ w'.cell? ⟨w.heap.size + 1, 3, none⟩ = some (.int .i64 d)) (go_keep)
      (first
        | (go_at_call 62; refine (least_any X Y c d _).mono ?_; rintro e wl ⟨rfl, hb⟩; (have hl : Held w x y X Y a b c d [0, 0, 0, 0] wl := by first | exact Held.later ‹_› hb | exact Held.later (Held.alloc ‹_› _) hb); have k1 := hl.one.four; have k2 := hl.two.four; (first | (have hz := Fresh.later (by assumption) hb; have k4 := hz.1.four; have k5 := hz.ne) | (have hz := Fresh.later (Fresh.new (by assumption)) hb; have k4 := hz.1.four; have k5 := hz.ne) | skip); clear hb)
        | (go_at_call 61; refine (greatest_any x y a b _).mono ?_; rintro e wg ⟨rfl, hb⟩; (have hg : Held w x y X Y a b c d [0, 0, 0, 0] wg := by first | exact Held.later ‹_› hb | exact Held.later (Held.alloc ‹_› _) hb); have k1 := hg.one.four; have k2 := hg.two.four; (first | (have hz := Fresh.later (by assumption) hb; have k4 := hz.1.four; have k5 := hz.ne) | (have hz := Fresh.later (Fresh.new (by assumption)) hb; have k4 := hz.1.four; have k5 := hz.ne) | skip); clear hb))
    all_goals go_wp2_with fail
    all_goals go_meet
    all_goals first | exact and_put hl hz | exact and_new hl
  case rest =>
  obtain ⟨nb, rfl, hnb, hbw, hn, hr⟩ := hcut
  have HB := Lib.hid hbw
  have HN := Lib.hid hn
  have HR := Lib.hid hr
  obtain ⟨q0, q1, q2, q3, _⟩ := hn.four
  clear hbw hn hr
  go_wp2_with fail
  refine (rempty_any _ _ _ _ _).mono ?_
  rintro e w2 ⟨rfl, hb⟩
  have HB2 := Lib.hid (HB.out.trans (hb.mono HB.out.size))
  have HR2 := Lib.hid (HR.out.later hb)
  obtain ⟨p0, p1, p2, p3, _⟩ := (HN.out.later hb).four
  obtain ⟨r0, r1, r2, r3, f0, f1, f2, f3⟩ := (HR.out.later hb).four
  clear hb q0 q1 q2 q3 HB HN HR
  cases he : noPts (max x a) (max y b) (min X c) (min Y d) with
  | true =>
    go_wp2
    obtain ⟨W', hW', hbw, hn⟩ := put_four HR2.out HB2.out (by omega) 0 0 0 0
    rw [hW']
    obtain ⟨q0, q1, q2, q3, _⟩ := hn.four
    refine bodyPost_ret (v := _) (by simp [results, Tryz.results33, go_sem, q0, q1, q2, q3]; rfl) rfl ?_
    exact ⟨by unfold andV; rw [he]; rfl, hbw⟩
  | false =>
    go_wp2
    obtain ⟨W', hW', hbw, hn⟩ := put_four HR2.out HB2.out (by omega) (max x a) (max y b) (min X c) (min Y d)
    rw [hW']
    obtain ⟨q0, q1, q2, q3, _⟩ := hn.four
    refine bodyPost_ret (v := _) (by simp [results, Tryz.results33, go_sem, q0, q1, q2, q3]; rfl) rfl ?_
    exact ⟨by unfold andV; rw [he]; rfl, hbw⟩
end Go.Proofs.YtnfjmmkokhncoaaGreat
end

section
namespace Go.Proofs.YtnfjmmkokhncoaaGreat
open Go.RowKit Go.Maps
set_option maxRecDepth 100000

theorem pow_62 {n : Nat} (h : n ≤ 62) : (2 : Int) ^ n ≤ 4611686018427387904 := by
  have h1 : (2 : Nat) ^ n ≤ 2 ^ 62 := Nat.pow_le_pow_right (by decide) h
  have h2 : ((2 ^ n : Nat) : Int) ≤ ((2 ^ 62 : Nat) : Int) := Int.ofNat_le.2 h1
  rw [Int.natCast_pow] at h2
  exact h2
theorem side8_any (n : Nat) (h : n ≤ 62) (w : World) : Calls Tryz.prog 59 #[.int .i64 (n : Int)] w fun e w' => e = .returned (.int .i64 (2 ^ n)) ∧ w = w' := by
  have h0 := pow_pos2 n
  have h1 := pow_62 h
  have e1 : wrap64 (2 ^ n) = 2 ^ n := IntWalk.wrap64_in _ (by omega)
  go_enter Tryz.func59, Tryz.ntmps59
  go_wp2
  go_ret
  exact ⟨rfl, rfl⟩
/-- The same, at a level that is one less. -/
theorem side8_pred (n : Nat) (h : n ≤ 62) (w : World) : Calls Tryz.prog 59 #[.int .i64 ((n : Int) + 1 - 1)] w fun e w' => e = .returned (.int .i64 (2 ^ n)) ∧ w = w' := by
  rw [Int.add_sub_cancel]; exact side8_any n h w
theorem first_any (n : Nat) (h : n < 62) (c d : Bool) (w : World) : Calls Tryz.prog 65 #[.int .i64 ((n : Int) + 1), .int .i64 (pl c d : Int)] w fun e w' => e = .returned (.agg #[.int .i64 (off n c), .int .i64 (off n d)]) ∧ Below w.heap.size w w' := by
  have h0 := pow_pos2 n
  have h1 := pow_61 h
  have e1 : wrap64 (2 ^ n) = 2 ^ n := IntWalk.wrap64_in _ (by omega)
  have HSD := Lib.hid (side8_any n (by omega))
  cases c <;> cases d <;> simp only [pl, off, Bool.false_eq_true, if_false, if_true]
  all_goals
    go_enter Tryz.func65, Tryz.ntmps65
    go_wp2_with fail
    refine (HSD.out _).mono ?_
    rintro e W1 ⟨rfl, rfl⟩
    go_wp2
    refine bodyPost_ret (v := _) (by simp [results, Tryz.results65, go_sem]; rfl) rfl ?_
    exact ⟨rfl, by go_grown⟩
theorem span8_any (n : Nat) (h : n < 62) (w : World) : Calls Tryz.prog 31 #[.int .i64 ((n : Int) + 1)] w fun e w' => e = .returned (.agg #[.int .i64 (-2 ^ n), .int .i64 (-2 ^ n), .int .i64 (2 ^ n), .int .i64 (2 ^ n)]) ∧ Below w.heap.size w w' := by
  have h0 := pow_pos2 n
  have h1 := pow_61 h
  have e1 : wrap64 (2 ^ n) = 2 ^ n := IntWalk.wrap64_in _ (by omega)
  have e2 : wrap64 (-2 ^ n) = -2 ^ n := IntWalk.wrap64_in _ (by omega)
  have HSD := Lib.hid (side8_any n (by omega))
  go_enter Tryz.func31, Tryz.ntmps31
  go_wp2_with fail
  refine (HSD.out _).mono ?_
  rintro e W1 ⟨rfl, rfl⟩
  go_wp2
  refine bodyPost_ret (v := _) (by simp [results, Tryz.results31, go_sem]; rfl) rfl ?_
  exact ⟨rfl, by go_grown⟩
/-- Within int64. -/
def I64 (z : Int) : Prop := -9223372036854775808 ≤ z ∧ z ≤ 9223372036854775807
theorem plus_any (x y a b : Int) (h1 : I64 (x + a)) (h2 : I64 (y + b)) (w : World) : Calls Tryz.prog 60 #[.agg #[.int .i64 x, .int .i64 y], .agg #[.int .i64 a, .int .i64 b]] w fun e w' => e = .returned (.agg #[.int .i64 (x + a), .int .i64 (y + b)]) ∧ Below w.heap.size w w' := by
  have e1 : wrap64 (x + a) = x + a := IntWalk.wrap64_in _ (by unfold I64 at h1; omega)
  have e2 : wrap64 (y + b) = y + b := IntWalk.wrap64_in _ (by unfold I64 at h2; omega)
  clear h1 h2
  go_enter Tryz.func60, Tryz.ntmps60
  go_wp2
  go_returns
  exact ⟨rfl, by go_grown⟩
theorem minus_any (x y : Int) (h1 : I64 (-x)) (h2 : I64 (-y)) (w : World) : Calls Tryz.prog 34 #[.agg #[.int .i64 x, .int .i64 y]] w fun e w' => e = .returned (.agg #[.int .i64 (-x), .int .i64 (-y)]) ∧ Below w.heap.size w w' := by
  have e1 : wrap64 (-x) = -x := IntWalk.wrap64_in _ (by unfold I64 at h1; omega)
  have e2 : wrap64 (-y) = -y := IntWalk.wrap64_in _ (by unfold I64 at h2; omega)
  clear h1 h2
  go_enter Tryz.func34, Tryz.ntmps34
  go_wp2
  go_returns
  exact ⟨rfl, by go_grown⟩
theorem isPlane_any {w : World} {sb g tb cap most : Nat} {N : List Nd} (h : St w sb g tb cap most N) (x : Nat) (hx : x < 4294967296) : Calls Tryz.prog 29 #[.agg #[.pointer (some ⟨sb, 0, none⟩), .int .u32 (x : Int)]] w fun e w' => e = .returned (.bool (decide (3 ≤ lvZ N x))) ∧ Below w.heap.size w w' := by
  have HB := Lib.hid (bel1 w (.cells #[.pointer (some ⟨sb, 0, none⟩), .int .u32 (x : Int)] 32))
  have HS := Lib.hid (h.later HB.out)
  clear h
  go_enter Tryz.func29, Tryz.ntmps29
  go_wp2_with fail
  refine (level_any HS.out x hx).mono ?_
  rintro e W1 ⟨rfl, rfl⟩
  go_wp2
  go_ret
  exact ⟨rfl, HB.out⟩
theorem isPlane_nil (w : World) : Calls Tryz.prog 29 #[.agg #[.pointer none, .int .u32 0]] w fun e w' => e = .returned (.bool false) ∧ Below w.heap.size w w' := by
  have HLV := Lib.hid (fun w => level_nil 0 (by omega) w)
  go_enter Tryz.func29, Tryz.ntmps29
  go_wp2_with fail
  refine (HLV.out _).mono ?_
  rintro e W1 ⟨rfl, rfl⟩
  go_wp2
  go_ret
  exact ⟨rfl, by go_grown⟩
end Go.Proofs.YtnfjmmkokhncoaaGreat
end

section
namespace Go.Proofs.YtnfjmmkokhncoaaGreat
open Go.RowKit Go.Maps
set_option maxRecDepth 100000

/-- The blocks of moved: a rectangle, a point, the result. -/
structure Hm (w : World) (x y X Y a b : Int) (W : World) : Prop where
  bel : Below w.heap.size w W
  one : Nums W w.heap.size [x, y, X, Y]
  two : Nums W (w.heap.size + 1) [a, b]
  res : Nums W (w.heap.size + 1 + 1) [0, 0, 0, 0]
theorem Hm.later {w W W' : World} {x y X Y a b : Int} (h : Hm w x y X Y a b W) (hb : Below W.heap.size W W') : Hm w x y X Y a b W' :=
  ⟨h.bel.trans (hb.mono h.bel.size), h.one.later hb, h.two.later hb, h.res.later hb⟩
theorem Hm.drewN {w W : World} {x y X Y a b : Int} (h : Hm w x y X Y a b W) (q : Nat) : Hm w x y X Y a b (W.drewN q) :=
  ⟨⟨h.bel.os, h.bel.tape, h.bel.output, h.bel.size, h.bel.block⟩, h.one, h.two, h.res⟩
theorem hm_start (w : World) (x y X Y a b : Int) : ∃ W, ((w.alloc (.cells #[.int .i64 x, .int .i64 y, .int .i64 X, .int .i64 Y] 42)).alloc (.cells #[.int .i64 a, .int .i64 b] 24)).alloc (.cells #[.int .i64 0, .int .i64 0, .int .i64 0, .int .i64 0] 42) = W ∧ Hm w x y X Y a b W := by
  refine ⟨_, rfl, by go_grown, ((rc_new w x y X Y _).later (bel1 _ _)).later (bel1 _ _), ?_, ?_⟩
  · have := (pt_new (w.alloc (.cells #[.int .i64 x, .int .i64 y, .int .i64 X, .int .i64 Y] 42)) a b 24).later (bel1 _ (.cells #[.int .i64 0, .int .i64 0, .int .i64 0, .int .i64 0] 42))
    simpa using this
  · have := rc_new ((w.alloc (.cells #[.int .i64 x, .int .i64 y, .int .i64 X, .int .i64 Y] 42)).alloc (.cells #[.int .i64 a, .int .i64 b] 24)) 0 0 0 0 42
    simpa using this
theorem hm_done {w W : World} {x y X Y a b : Int} (h : Hm w x y X Y a b W) {s0 s1 s2 s3 : Int} : Below w.heap.size w ((((W.setCell ⟨w.heap.size + 1 + 1, 0, none⟩ (.int .i64 s0)).setCell ⟨w.heap.size + 1 + 1, 1, none⟩ (.int .i64 s1)).setCell ⟨w.heap.size + 1 + 1, 2, none⟩ (.int .i64 s2)).setCell ⟨w.heap.size + 1 + 1, 3, none⟩ (.int .i64 s3)) ∧ Nums ((((W.setCell ⟨w.heap.size + 1 + 1, 0, none⟩ (.int .i64 s0)).setCell ⟨w.heap.size + 1 + 1, 1, none⟩ (.int .i64 s1)).setCell ⟨w.heap.size + 1 + 1, 2, none⟩ (.int .i64 s2)).setCell ⟨w.heap.size + 1 + 1, 3, none⟩ (.int .i64 s3)) (w.heap.size + 1 + 1) [s0, s1, s2, s3] := by
  obtain ⟨W', hW', hb, hn⟩ := put_four h.res h.bel (by omega) s0 s1 s2 s3
  rw [hW']
  exact ⟨hb, hn⟩
set_option maxHeartbeats 4000000 in
theorem moved_any (x y X Y a b : Int) (h1 : I64 (x + a)) (h2 : I64 (y + b)) (h3 : I64 (X + a)) (h4 : I64 (Y + b)) (w : World) : Calls Tryz.prog 32 #[.agg #[.int .i64 x, .int .i64 y, .int .i64 X, .int .i64 Y], .agg #[.int .i64 a, .int .i64 b]] w fun e w' => e = .returned (.agg #[.int .i64 (x + a), .int .i64 (y + b), .int .i64 (X + a), .int .i64 (Y + b)]) ∧ Below w.heap.size w w' := by
  obtain ⟨W0, hW0, hh0⟩ := hm_start w x y X Y a b
  have H0 := Lib.hid hh0
  have HW := Lib.hid hW0
  clear hh0 hW0
  go_enter Tryz.func32, Tryz.ntmps32
  go_upto_region 1 with fail
  rw [HW.out]
  clear HW
  have hh := H0.out.drewN 1
  obtain ⟨c0, c1, c2, c3, _⟩ := H0.out.one.four
  obtain ⟨d0, d1, _⟩ := H0.out.two.two
  have n1 : ¬ w.heap.size = w.heap.size + 1 + 1 := by omega
  have n2 : ¬ w.heap.size + 1 + 1 = w.heap.size := by omega
  go_cut [] from 0 to 0 (fun wx => Below w.heap.size w wx ∧ Nums wx (w.heap.size + 1 + 1) [x + a, y + b, X + a, Y + b])
  case first =>
    go_region_held3 (fun w' => w'.cell? ⟨w.heap.size, 0, none⟩ = some (.int .i64 x) ∧ w'.cell? ⟨w.heap.size, 1, none⟩ = some (.int .i64 y) ∧ w'.cell? ⟨w.heap.size, 2, none⟩ = some (.int .i64 X) ∧ w'.cell? ⟨w.heap.size, 3, none⟩ = some (.int .i64 Y) ∧ w'.cell? ⟨w.heap.size + 1, 0, none⟩ = some (.int .i64 a) ∧ w'.cell? ⟨w.heap.size + 1, 1, none⟩ = some (.int .i64 b)) (go_keep)
      (first
        | (go_at_call 60; refine (plus_any _ _ _ _ (by assumption) (by assumption) _).mono ?_; rintro e wl ⟨rfl, hb⟩; have hl := Hm.later (by assumption) hb; have k1 := hl.one.four; have k2 := hl.two.two; have k3 := hl.res.four; clear hb))
    all_goals go_wp2_with fail
    all_goals go_meet
    all_goals first | exact hm_done hl | exact hm_done (by assumption)
  case rest =>
  obtain ⟨hbw, hn⟩ := hcut
  obtain ⟨q0, q1, q2, q3, _⟩ := hn.four
  go_wp2
  refine bodyPost_ret (v := _) (by simp [results, Tryz.results32, go_sem, q0, q1, q2, q3]; rfl) rfl ?_
  exact ⟨rfl, hbw⟩
end Go.Proofs.YtnfjmmkokhncoaaGreat
end
