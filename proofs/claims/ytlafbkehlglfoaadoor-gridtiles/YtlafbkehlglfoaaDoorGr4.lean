/- Package grid: tiles; the document's Floor and Side: contracts. -/
import Derived.Test.YtlafbkehlglfoaaDoorGr3
namespace Go.Proofs.YtlafbkehlglfoaaDoor
open Go.RowKit

theorem pow_step (i : Nat) : (16 : Int) * 2 ^ (i + 1) = 16 * 2 ^ i * 2 := by rw [Int.pow_succ, Int.mul_assoc]
theorem pow_pos' (i : Nat) : (1 : Int) ≤ 2 ^ i := by
  have : (0 : Int) < 2 ^ i := Int.pow_pos (by decide)
  omega
theorem pow_mono {i j : Nat} (h : i ≤ j) : (2 : Int) ^ i ≤ 2 ^ j := by
  obtain ⟨k, rfl⟩ := Nat.exists_eq_add_of_le h
  rw [Int.pow_add]
  have h1 := pow_pos' i
  have h2 := pow_pos' k
  have := Int.mul_le_mul_of_nonneg_left h2 (by omega : (0 : Int) ≤ 2 ^ i)
  omega
theorem side_bounds {z : Nat} (hz : z ≤ 16) {S : Int} (hS : (2 : Int) ^ (4 + z) = S) : 16 ≤ S ∧ S ≤ 1048576 := by
  have h1 := pow_mono (show 4 ≤ 4 + z by omega)
  have h2 := pow_mono (show 4 + z ≤ 20 by omega)
  rw [hS] at h1 h2
  exact ⟨by simpa using h1, by simpa using h2⟩
theorem side_eq {z : Nat} {S : Int} (hS : (2 : Int) ^ (4 + z) = S) : (16 : Int) * 2 ^ z = S := by rw [← hS, Int.pow_add]; rfl

set_option maxHeartbeats 1000000 in
theorem rside_any (z : Nat) (hz : z ≤ 16) (S : Int) (hS : (2 : Int) ^ (4 + z) = S) (w : World) :
    Calls Tryd.prog 25 #[.int .i64 (z : Int)] w fun e w' => e = .returned (.int .i64 S) ∧ w = w' := by
  have HS := Lib.hid (side_eq hS)
  clear hS
  go_enter Tryd.func25, Tryd.ntmps25
  go_wp2
  go_loopg [3, 4] z (fun k n i wr => ∃ j : Nat, k = z - j ∧ j ≤ z ∧ i = .int .i64 (j : Int) ∧ n = .int .i64 (16 * 2 ^ j) ∧ wr = w)
  case atStart => exact ⟨0, by omega, by omega, rfl, rfl, rfl⟩
  case round =>
    obtain ⟨j, hk, hj, rfl, rfl, rfl⟩ := hrel
    have HK := Lib.hid hk
    clear hk
    have hp1 := pow_pos' j
    have hp2 := pow_mono (show j ≤ 16 by omega)
    have hp3 : (2 : Int) ^ 16 = 65536 := by decide
    rw [hp3] at hp2
    clear hp3
    by_cases hlt : j < z
    · generalize hq : (2 : Int) ^ j = q at *
      have HQ := Lib.hid hq
      clear hq
      go_wp2
      go_roundg (z - (j + 1))
      case measure => rw [HK.out]; omega
      case rel => exact ⟨j + 1, rfl, by omega, by go_num, congrArg (Value.int .i64) (by have := HQ.out; omega), rfl⟩
    · obtain rfl : j = z := by omega
      rw [HS.out]
      go_wp2
      go_ret
      exact ⟨rfl, rfl⟩
theorem floor_nonneg (n by_ : Int) (h : 0 ≤ n) (hb : 1 ≤ by_) (h1 : n ≤ 9223372036854775807) (w : World) :
    Calls Tryd.prog 28 #[.int .i64 n, .int .i64 by_] w fun e w' => e = .returned (.int .i64 (n / by_)) ∧ w = w' := by
  have h2 : 0 ≤ n / by_ := Int.ediv_nonneg h (by omega)
  have h3 : n / by_ ≤ n := Int.ediv_le_self _ h
  have h4 : 0 ≤ n % by_ := Int.emod_nonneg _ (by omega)
  go_enter Tryd.func28, Tryd.ntmps28
  go_wp2
  go_ret
  exact ⟨rfl, rfl⟩
theorem mul_le_self {b q : Int} (hb : 1 ≤ b) (hq : q ≤ 0) : b * q ≤ q := by
  have := Int.mul_le_mul_of_nonpos_right hb hq
  omega
theorem floor_facts (n b : Int) (h : n < 0) (hb : 1 ≤ b) : (n.tmod b < 0 → n / b = n.tdiv b - 1) ∧ (¬ n.tmod b < 0 → n / b = n.tdiv b) ∧ n ≤ n / b ∧ n / b < 0 ∧ n.tdiv b ≤ 0 ∧ n ≤ n.tdiv b := by
  have e := Int.mul_tdiv_add_tmod n b
  have r0 : 0 ≤ (-n).tmod b := Int.tmod_nonneg _ (by omega)
  have r1 : (-n).tmod b < b := Int.tmod_lt_of_pos _ (by omega)
  have q0 : 0 ≤ (-n).tdiv b := Int.tdiv_nonneg (by omega) (by omega)
  rw [Int.neg_tmod] at r0 r1
  rw [Int.neg_tdiv] at q0
  have k1 : n.tmod b < 0 → n / b = n.tdiv b - 1 := fun hr => ((Int.ediv_emod_unique (a := n) (b := b) (r := n.tmod b + b) (q := n.tdiv b - 1) (by omega)).2 ⟨by rw [Int.mul_sub]; omega, by omega, by omega⟩).1
  have k2 : ¬ n.tmod b < 0 → n / b = n.tdiv b := fun hr => ((Int.ediv_emod_unique (a := n) (b := b) (r := n.tmod b) (q := n.tdiv b) (by omega)).2 ⟨by omega, by omega, by omega⟩).1
  have k3 : n / b < 0 := Int.ediv_neg_of_neg_of_pos h (by omega)
  have k4 : n ≤ n / b := by
    have e2 := Int.mul_ediv_add_emod n b
    have e3 : n % b < b := Int.emod_lt_of_pos _ (by omega)
    apply Classical.byContradiction
    intro hn
    have := mul_le_self (b := b) (q := n / b + 1) hb (by omega)
    rw [Int.mul_add] at this
    omega
  refine ⟨k1, k2, k4, k3, by omega, ?_⟩
  by_cases hr : n.tmod b < 0
  · have := k1 hr; omega
  · have := k2 hr; omega
theorem floor_neg (n by_ : Int) (h : n < 0) (hb : 1 ≤ by_) (h1 : -9223372036854775808 ≤ n) (w : World) :
    Calls Tryd.prog 28 #[.int .i64 n, .int .i64 by_] w fun e w' => e = .returned (.int .i64 (n / by_)) ∧ w = w' := by
  obtain ⟨k1, k2, k3, k4, k5, k6⟩ := floor_facts n by_ h hb
  by_cases hr : n.tmod by_ < 0
  · rw [k1 hr]
    have k7 := k1 hr
    have k8 : n < n.tdiv by_ := by omega
    clear k1 k2 k7 k3 k4
    go_enter Tryd.func28, Tryd.ntmps28
    go_wp2
    go_ret
    exact ⟨rfl, rfl⟩
  · rw [k2 hr]
    clear k1 k2 k3 k4
    go_enter Tryd.func28, Tryd.ntmps28
    go_wp2
    go_ret
    exact ⟨rfl, rfl⟩
theorem floor_any (n b : Int) (hb : 1 ≤ b) (h0 : -9223372036854775808 ≤ n) (h1 : n ≤ 9223372036854775807) (w : World) :
    Calls Tryd.prog 28 #[.int .i64 n, .int .i64 b] w fun e w' => e = .returned (.int .i64 (n / b)) ∧ w = w' := by
  by_cases h : 0 ≤ n
  · exact floor_nonneg n b h hb h1 w
  · exact floor_neg n b (by omega) hb h0 w
theorem area_any (x y S A B : Int) (z : Nat) (hz : z ≤ 16) (hS : (2 : Int) ^ (4 + z) = S) (hA : x * S = A) (hB : y * S = B) (a0 : -4611686018427387904 ≤ A) (a1 : A ≤ 4611686018427387904) (b0 : -4611686018427387904 ≤ B) (b1 : B ≤ 4611686018427387904) (x0 : -4611686018427387904 ≤ x) (x1 : x ≤ 4611686018427387904) (y0 : -4611686018427387904 ≤ y) (y1 : y ≤ 4611686018427387904) (w : World) (h : Tab16 w) :
    Calls Tryd.prog 27 #[.agg #[.int .i64 x, .int .i64 y], .int .i64 (z : Int)] w fun e w' => e = .returned (.agg #[.int .i64 A, .int .i64 B, .int .i64 (A + S), .int .i64 (B + S)]) ∧ Below w.heap.size w w' := by
  have hb0 : Below w.heap.size w ((w.alloc (.cells #[.int .i64 x, .int .i64 y] 23)).alloc (.cells #[.int .i64 0, .int .i64 0, .int .i64 0, .int .i64 0] 34)) := by go_grown
  have H0 := Lib.hid (h.later hb0 h.lt)
  obtain ⟨s0, s1⟩ := side_bounds hz hS
  have hA' : x * (2 : Int) ^ (4 + z) = A := by rw [hS, hA]
  have hB' : y * (2 : Int) ^ (4 + z) = B := by rw [hS, hB]
  have hA2 : (x + 1) * (2 : Int) ^ (4 + z) = A + S := by rw [hS, Int.add_mul, hA, Int.one_mul]
  have hB2 : (y + 1) * (2 : Int) ^ (4 + z) = B + S := by rw [hS, Int.add_mul, hB, Int.one_mul]
  clear hb0 hS hA hB
  go_enter Tryd.func27, Tryd.ntmps27
  go_wp2_with fail
  refine (side_any z hz _ H0.out).mono ?_
  rintro e w' ⟨rfl, rfl⟩
  go_wp2
  go_returns
  exact ⟨rfl, by go_grown⟩

theorem tileS (x y S : Int) (z : Nat) (hz : z ≤ 16) (hS : (2 : Int) ^ (4 + z) = S) (w : World) (h : Tab16 w) :
    Calls Tryd.prog 26 #[.agg #[.int .i64 x, .int .i64 y], .int .i64 (z : Int)] w fun e w' => e = .returned (.agg #[.int .i64 (x / S), .int .i64 (y / S)]) ∧ Below w.heap.size w w' := by
  have := tile_any x y z hz w h
  rw [hS] at this
  exact this
theorem div_bounds {n b : Int} (hb : 1 ≤ b) : (0 ≤ n → 0 ≤ n / b ∧ n / b ≤ n) ∧ (n < 0 → n ≤ n / b ∧ n / b < 0) := by
  refine ⟨fun h => ⟨Int.ediv_nonneg h (by omega), Int.ediv_le_self _ h⟩, fun h => ?_⟩
  obtain ⟨_, _, k3, k4, _⟩ := floor_facts n b h hb
  exact ⟨k3, k4⟩

theorem onP_bounds2 {n : Int} (h : onP n = true) : -2305843009213693952 < n ∧ n < 2305843009213693952 := by
  unfold onP at h
  simpa using h
/-- A quotient, and its product. -/
theorem floor_room {x S tx A : Int} (htx : x / S = tx) (hA : tx * S = A) (S0 : 16 ≤ S) (S1 : S ≤ 1048576) (x0 : -2305843009213693952 < x) (x1 : x < 2305843009213693952) : A ≤ x ∧ x < A + S ∧ -2305843009213693952 ≤ tx ∧ tx ≤ 2305843009213693952 := by
  have e1 := Int.mul_ediv_add_emod x S
  have e2 : 0 ≤ x % S := Int.emod_nonneg _ (by omega)
  have e3 : x % S < S := Int.emod_lt_of_pos _ (by omega)
  have hd := div_bounds (n := x) (b := S) (by omega)
  rw [htx] at e1 hd
  rw [Int.mul_comm, hA] at e1
  refine ⟨by omega, by omega, ?_, ?_⟩
  · by_cases h : 0 ≤ x <;> omega
  · by_cases h : 0 ≤ x <;> omega
theorem tiles_start (w : World) (x y X Y : Int) (t : TypeId) : ∃ W, (w.alloc (.cells #[.int .i64 x, .int .i64 y, .int .i64 X, .int .i64 Y] t)).alloc (.cells #[.int .i64 0, .int .i64 0, .int .i64 0, .int .i64 0] t) = W ∧ Below w.heap.size w W ∧ Nums W w.heap.size [x, y, X, Y] ∧ Nums W (w.heap.size + 1) [0, 0, 0, 0] := by
  refine ⟨_, rfl, by go_grown, (rc_new w x y X Y t).later (bel1 _ _), ?_⟩
  have := rc_new (w.alloc (.cells #[.int .i64 x, .int .i64 y, .int .i64 X, .int .i64 Y] t)) 0 0 0 0 t
  simpa using this

set_option maxRecDepth 100000 in
set_option maxHeartbeats 1000000 in
theorem tiles_none (x y X Y : Int) (z : Nat) (hn : noPts x y X Y = true) (w : World) :
    Calls Tryd.prog 29 #[.agg #[.int .i64 x, .int .i64 y, .int .i64 X, .int .i64 Y], .int .i64 (z : Int)] w fun e w' => e = .returned (.agg #[.int .i64 0, .int .i64 0, .int .i64 0, .int .i64 0]) ∧ Below w.heap.size w w' := by
  obtain ⟨W0, hW0, hb0, p0, p1⟩ := tiles_start w x y X Y 34
  have HW := Lib.hid hW0
  have H0 := Lib.hid (show _ ∧ _ ∧ _ from ⟨hb0, p0, p1⟩)
  have HE := Lib.hid (fun w => empty_any x y X Y w)
  rw [hn] at HE
  clear hW0 hb0 p0 p1 hn
  go_enter Tryd.func29, Tryd.ntmps29
  go_wp2_with fail
  rw [HW.out]
  refine (HE.out _).mono ?_
  rintro e w1 ⟨rfl, hb⟩
  have HB : Hid (Below w.heap.size w w1) := H0.out.1.trans (hb.mono H0.out.1.size)
  have HR : Hid (Nums w1 (w.heap.size + 1) [0, 0, 0, 0]) := H0.out.2.2.later hb
  clear hb H0 HW W0
  obtain ⟨r0, r1, r2, r3, f0, f1, f2, f3⟩ := HR.out.four
  go_wp2
  obtain ⟨W', hW', hbw, hn⟩ := put_four HR.out HB.out (by omega) 0 0 0 0
  rw [hW']
  obtain ⟨q0, q1, q2, q3, _⟩ := hn.four
  refine bodyPost_ret (v := _) (by simp [results, Tryd.results29, go_sem, q0, q1, q2, q3]; rfl) rfl ?_
  exact ⟨rfl, hbw⟩

/-- The blocks of Tiles. -/
structure HeldT (w : World) (x y X Y lx ly : Int) (lb : Nat) (W : World) : Prop where
  bel : Below w.heap.size w W
  one : Nums W w.heap.size [x, y, X, Y]
  res : Nums W (w.heap.size + 1) [0, 0, 0, 0]
  last : Nums W lb [lx, ly]
  lt : w.heap.size + 1 < lb
theorem HeldT.later {w W W' : World} {x y X Y lx ly : Int} {lb : Nat} (h : HeldT w x y X Y lx ly lb W) (hb : Below W.heap.size W W') : HeldT w x y X Y lx ly lb W' :=
  ⟨h.bel.trans (hb.mono h.bel.size), h.one.later hb, h.res.later hb, h.last.later hb, h.lt⟩
theorem HeldT.drewN {w W : World} {x y X Y lx ly : Int} {lb : Nat} (h : HeldT w x y X Y lx ly lb W) (q : Nat) : HeldT w x y X Y lx ly lb (W.drewN q) :=
  ⟨⟨h.bel.os, h.bel.tape, h.bel.output, h.bel.size, h.bel.block⟩, h.one, h.res, h.last, h.lt⟩
theorem tiles_done {w W : World} {x y X Y lx ly : Int} {lb : Nat} (h : HeldT w x y X Y lx ly lb W) {s0 s1 s2 s3 : Int} : Below w.heap.size w ((((W.setCell ⟨w.heap.size + 1, 0, none⟩ (.int .i64 s0)).setCell ⟨w.heap.size + 1, 1, none⟩ (.int .i64 s1)).setCell ⟨w.heap.size + 1, 2, none⟩ (.int .i64 s2)).setCell ⟨w.heap.size + 1, 3, none⟩ (.int .i64 s3)) ∧ Nums ((((W.setCell ⟨w.heap.size + 1, 0, none⟩ (.int .i64 s0)).setCell ⟨w.heap.size + 1, 1, none⟩ (.int .i64 s1)).setCell ⟨w.heap.size + 1, 2, none⟩ (.int .i64 s2)).setCell ⟨w.heap.size + 1, 3, none⟩ (.int .i64 s3)) (w.heap.size + 1) [s0, s1, s2, s3] := by
  obtain ⟨W', hW', hb, hn⟩ := put_four h.res h.bel (by omega) s0 s1 s2 s3
  rw [hW']
  exact ⟨hb, hn⟩

set_option maxRecDepth 100000 in
set_option maxHeartbeats 4000000 in
theorem tiles_some (x y X Y S : Int) (z : Nat) (hz : z ≤ 16) (hS : (2 : Int) ^ (4 + z) = S) (hn : noPts x y X Y = false) (X0 : -4611686018427387904 ≤ X) (X1 : X ≤ 4611686018427387904) (Y0 : -4611686018427387904 ≤ Y) (Y1 : Y ≤ 4611686018427387904) (w : World) (h : Tab16 w) :
    Calls Tryd.prog 29 #[.agg #[.int .i64 x, .int .i64 y, .int .i64 X, .int .i64 Y], .int .i64 (z : Int)] w fun e w' => e = .returned (.agg #[.int .i64 (x / S), .int .i64 (y / S), .int .i64 ((X - 1) / S + 1), .int .i64 ((Y - 1) / S + 1)]) ∧ Below w.heap.size w w' := by
  obtain ⟨W0, hW0, hb0, p0, p1⟩ := tiles_start w x y X Y 34
  have HW := Lib.hid hW0
  have H0 := Lib.hid (show _ ∧ _ ∧ _ from ⟨hb0, p0, p1⟩)
  have HE := Lib.hid (fun w => empty_any x y X Y w)
  rw [hn] at HE
  have HT := Lib.hid h
  have HTL := Lib.hid (fun w (h : Tab16 w) => tileS (X - 1) (Y - 1) S z hz hS w h)
  have HTF := Lib.hid (fun w (h : Tab16 w) => tileS x y S z hz hS w h)
  have hs1 := (side_bounds hz hS).1
  have hd1 := div_bounds (n := X - 1) (b := S) (by omega)
  have hd2 := div_bounds (n := Y - 1) (b := S) (by omega)
  have X2 : -4611686018427387905 ≤ (X - 1) / S := by by_cases h : 0 ≤ X - 1 <;> omega
  have X3 : (X - 1) / S ≤ 4611686018427387904 := by by_cases h : 0 ≤ X - 1 <;> omega
  have Y2 : -4611686018427387905 ≤ (Y - 1) / S := by by_cases h : 0 ≤ Y - 1 <;> omega
  have Y3 : (Y - 1) / S ≤ 4611686018427387904 := by by_cases h : 0 ≤ Y - 1 <;> omega
  generalize (X - 1) / S = lx at *
  generalize (Y - 1) / S = ly at *
  clear hW0 hb0 p0 p1 hn h hd1 hd2 hS hs1
  go_enter Tryd.func29, Tryd.ntmps29
  go_wp2_with fail
  rw [HW.out]
  refine (HE.out _).mono ?_
  rintro e w1 ⟨rfl, hb⟩
  have HB : Hid (Below w.heap.size w w1) := H0.out.1.trans (hb.mono H0.out.1.size)
  have HO : Hid (Nums w1 w.heap.size [x, y, X, Y]) := H0.out.2.1.later hb
  have HR : Hid (Nums w1 (w.heap.size + 1) [0, 0, 0, 0]) := H0.out.2.2.later hb
  clear hb H0 HW W0
  obtain ⟨c0, c1, c2, c3, _⟩ := HO.out.four
  go_wp2_with fail
  refine (last_any x y X Y (by omega) (by omega) (by omega) (by omega) _).mono ?_
  rintro e w2 ⟨rfl, hb⟩
  have HB2 : Hid (Below w.heap.size w w2) := HB.out.trans (hb.mono HB.out.size)
  have HO2 : Hid (Nums w2 w.heap.size [x, y, X, Y]) := HO.out.later hb
  have HR2 : Hid (Nums w2 (w.heap.size + 1) [0, 0, 0, 0]) := HR.out.later hb
  clear hb HB HO HR c0 c1 c2 c3
  go_wp2_with fail
  refine (HTL.out _ (HT.out.later HB2.out HT.out.lt)).mono ?_
  rintro e w3 ⟨rfl, hb⟩
  have hal := bel1 w3 (.cells #[.int .i64 lx, .int .i64 ly] 23)
  have HH : Hid (HeldT w x y X Y lx ly w3.heap.size (w3.alloc (.cells #[.int .i64 lx, .int .i64 ly] 23))) :=
    ⟨(HB2.out.trans (hb.mono HB2.out.size)).trans (hal.mono (HB2.out.trans (hb.mono HB2.out.size)).size), (HO2.out.later hb).later hal, (HR2.out.later hb).later hal, pt_new w3 lx ly _, (HR2.out.later hb).1⟩
  clear hb hal HB2 HO2 HR2
  go_upto_region 4 with fail
  generalize w3.alloc (.cells #[.int .i64 lx, .int .i64 ly] 23) = w4 at HH ⊢
  generalize w3.heap.size = lb at HH ⊢
  have hh := HH.out.drewN 1
  have hlt := HH.out.lt
  obtain ⟨c0, c1, c2, c3, _⟩ := HH.out.one.four
  obtain ⟨l0, l1, _⟩ := HH.out.last.two
  have HTF2 : Hid (∀ W, Below w.heap.size w W → Calls Tryd.prog 26 #[.agg #[.int .i64 x, .int .i64 y], .int .i64 (z : Int)] W fun e w' => e = .returned (.agg #[.int .i64 (x / S), .int .i64 (y / S)]) ∧ Below W.heap.size W w') := fun W hW => HTF.out W (HT.out.later hW HT.out.lt)
  clear HTF HTL HE HT
  have n1 : ¬ lb = w.heap.size + 1 := by omega
  have n2 : ¬ w.heap.size + 1 = lb := by omega
  have e1 : IntKind.i64.wrap (lx + 1) = lx + 1 := IntWalk.i64_in _ (by omega)
  have e2 : IntKind.i64.wrap (ly + 1) = ly + 1 := IntWalk.i64_in _ (by omega)
  go_cut [] from 13 to 24 (fun wx => Below w.heap.size w wx ∧ Nums wx (w.heap.size + 1) [x / S, y / S, lx + 1, ly + 1])
  case first =>
    go_region_held3 (fun w' => w'.cell? ⟨w.heap.size, 0, none⟩ = some (.int .i64 x) ∧ w'.cell? ⟨w.heap.size, 1, none⟩ = some (.int .i64 y) ∧ w'.cell? ⟨lb, 0, none⟩ = some (.int .i64 lx) ∧ w'.cell? ⟨lb, 1, none⟩ = some (.int .i64 ly)) (go_keep)
      (first
        | (go_at_call 26; refine (HTF2.out _ hh.bel).mono ?_; rintro e wl ⟨rfl, hb⟩; have hl := HeldT.later hh hb; have k1 := hl.one.four; have k2 := hl.last.two; have k3 := hl.res.four; clear hb))
    all_goals go_wp2_with fail
    all_goals go_meet
    all_goals exact tiles_done hl
  case rest =>
  obtain ⟨hbw, hn⟩ := hcut
  obtain ⟨q0, q1, q2, q3, _⟩ := hn.four
  go_wp2
  refine bodyPost_ret (v := _) (by simp [results, Tryd.results29, go_sem, q0, q1, q2, q3]; rfl) rfl ?_
  exact ⟨rfl, hbw⟩
end Go.Proofs.YtlafbkehlglfoaaDoor
