/- Package grid: rectangles; the law's own closures, the document's Line: contracts. -/
import Derived.Test.YtlafbkehlglfoaaDoorGr
namespace Go.Proofs.YtlafbkehlglfoaaDoor
open Go.RowKit

theorem none_any (x y X Y : Int) (w : World) :
    Calls Tryd.prog 14 #[.agg #[.int .i64 x, .int .i64 y, .int .i64 X, .int .i64 Y]] w fun e w' => e = .returned (.bool (noPts x y X Y)) ∧ Below w.heap.size w w' := by
  by_cases h1 : X ≤ x
  · have e : noPts x y X Y = true := by unfold noPts; rw [decide_eq_true h1, Bool.true_or]
    rw [e]
    go_enter Tryd.func14, Tryd.ntmps14
    go_wp2
    go_ret
    exact ⟨rfl, by go_grown⟩
  · have e : noPts x y X Y = decide (Y ≤ y) := by unfold noPts; rw [decide_eq_false h1, Bool.false_or]
    rw [e]
    go_enter Tryd.func14, Tryd.ntmps14
    go_wp2
    go_ret
    exact ⟨rfl, by go_grown⟩
theorem touches_any (n a b : Int) (w : World) :
    Calls Tryd.prog 23 #[.int .i64 n, .int .i64 a, .int .i64 b] w fun e w' => e = .returned (.bool (n == a || n == b)) ∧ w = w' := by
  cases h1 : n == a with
  | true =>
    go_enter Tryd.func23, Tryd.ntmps23
    go_wp2
    go_ret
    exact ⟨rfl, rfl⟩
  | false =>
    go_enter Tryd.func23, Tryd.ntmps23
    go_wp2
    go_ret
    exact ⟨by rw [Bool.false_or]; rfl, rfl⟩
theorem line_any (a b c d : Int) (w : World) :
    Calls Tryd.prog 13 #[.int .i64 a, .int .i64 b, .int .i64 c, .int .i64 d] w fun e w' => e = .returned (.tuple #[.int .i64 (max a c), .int .i64 (min b d)]) ∧ w = w' := by
  by_cases h1 : a < c
  · by_cases h2 : d < b
    · rw [show max a c = c by omega, show min b d = d by omega]
      go_enter Tryd.func13, Tryd.ntmps13
      go_wp2
      go_returns
      exact ⟨rfl, rfl⟩
    · rw [show max a c = c by omega, show min b d = b by omega]
      go_enter Tryd.func13, Tryd.ntmps13
      go_wp2
      go_returns
      exact ⟨rfl, rfl⟩
  · by_cases h2 : d < b
    · rw [show max a c = a by omega, show min b d = d by omega]
      go_enter Tryd.func13, Tryd.ntmps13
      go_wp2
      go_returns
      exact ⟨rfl, rfl⟩
    · rw [show max a c = a by omega, show min b d = b by omega]
      go_enter Tryd.func13, Tryd.ntmps13
      go_wp2
      go_returns
      exact ⟨rfl, rfl⟩
theorem ret_i {a b : Int} (h : a = b) : Ending.returned (.int .i64 a) = .returned (.int .i64 b) := by rw [h]
theorem ret_pt {a b c d : Int} (h1 : a = c) (h2 : b = d) : Ending.returned (.agg #[.int .i64 a, .int .i64 b]) = .returned (.agg #[.int .i64 c, .int .i64 d]) := by rw [h1, h2]
def inB (e n : Int) : Bool := decide (-e ≤ n) && decide (n ≤ e)
theorem inB_true {e n : Int} (h : inB e n = true) : -e ≤ n ∧ n ≤ e := by simpa [inB] using h
theorem inB_mk {e n : Int} (h1 : -e ≤ n) (h2 : n ≤ e) : inB e n = true := by simp [inB, h1, h2]
theorem row_four (w : World) (x y X Y : Int) (t : TypeId) : ∀ j z, [x, y, X, Y][j]? = some z → (w.alloc (.cells #[.int .i64 x, .int .i64 y, .int .i64 X, .int .i64 Y] t)).cell? ⟨w.heap.size, j, none⟩ = some (.int .i64 z) := fun j z hz => ((rc_new w x y X Y t).2 j z hz).1
theorem wide_any (x y X Y : Int) (h0 : -2305843009213693952 ≤ x) (h1 : x ≤ 2305843009213693952) (h2 : -2305843009213693952 ≤ X) (h3 : X ≤ 2305843009213693952) (w : World) :
    Calls Tryd.prog 17 #[.agg #[.int .i64 x, .int .i64 y, .int .i64 X, .int .i64 Y]] w fun e w' => e = .returned (.int .i64 (max 0 (X - x))) ∧ Below w.heap.size w w' := by
  go_enter Tryd.func17, Tryd.ntmps17
  go_wp2
  all_goals
    go_ret
    exact ⟨ret_i (by omega), by go_grown⟩
theorem high_any (x y X Y : Int) (h0 : -2305843009213693952 ≤ y) (h1 : y ≤ 2305843009213693952) (h2 : -2305843009213693952 ≤ Y) (h3 : Y ≤ 2305843009213693952) (w : World) :
    Calls Tryd.prog 18 #[.agg #[.int .i64 x, .int .i64 y, .int .i64 X, .int .i64 Y]] w fun e w' => e = .returned (.int .i64 (max 0 (Y - y))) ∧ Below w.heap.size w w' := by
  go_enter Tryd.func18, Tryd.ntmps18
  go_wp2
  all_goals
    go_ret
    exact ⟨ret_i (by omega), by go_grown⟩
theorem has_any (x y X Y a b : Int) (w : World) :
    Calls Tryd.prog 20 #[.agg #[.int .i64 x, .int .i64 y, .int .i64 X, .int .i64 Y], .agg #[.int .i64 a, .int .i64 b]] w fun e w' => e = .returned (.bool (decide (x ≤ a) && decide (a < X) && decide (y ≤ b) && decide (b < Y))) ∧ Below w.heap.size w w' := by
  by_cases h1 : x ≤ a
  · by_cases h2 : a < X
    · by_cases h3 : y ≤ b
      · rw [decide_eq_true h1, decide_eq_true h2, decide_eq_true h3, Bool.true_and, Bool.true_and]
        go_enter Tryd.func20, Tryd.ntmps20
        go_wp2
        go_ret
        exact ⟨rfl, by go_grown⟩
      · rw [decide_eq_true h1, decide_eq_true h2, decide_eq_false h3, Bool.true_and, Bool.true_and]
        go_enter Tryd.func20, Tryd.ntmps20
        go_wp2
        go_ret
        exact ⟨rfl, by go_grown⟩
    · rw [decide_eq_true h1, decide_eq_false h2, Bool.true_and, Bool.false_and]
      go_enter Tryd.func20, Tryd.ntmps20
      go_wp2
      go_ret
      exact ⟨rfl, by go_grown⟩
  · rw [decide_eq_false h1, Bool.false_and, Bool.false_and]
    go_enter Tryd.func20, Tryd.ntmps20
    go_wp2
    go_ret
    exact ⟨rfl, by go_grown⟩
theorem least_any (x y u v : Int) (w : World) :
    Calls Tryd.prog 32 #[.agg #[.int .i64 x, .int .i64 y], .agg #[.int .i64 u, .int .i64 v]] w fun e w' => e = .returned (.agg #[.int .i64 (min x u), .int .i64 (min y v)]) ∧ Below w.heap.size w w' := by
  go_enter Tryd.func32, Tryd.ntmps32
  go_wp2
  all_goals
    go_returns
    exact ⟨ret_pt (by omega) (by omega), by go_grown⟩
theorem greatest_any (x y u v : Int) (w : World) :
    Calls Tryd.prog 33 #[.agg #[.int .i64 x, .int .i64 y], .agg #[.int .i64 u, .int .i64 v]] w fun e w' => e = .returned (.agg #[.int .i64 (max x u), .int .i64 (max y v)]) ∧ Below w.heap.size w w' := by
  go_enter Tryd.func33, Tryd.ntmps33
  go_wp2
  all_goals
    go_returns
    exact ⟨ret_pt (by omega) (by omega), by go_grown⟩
set_option maxRecDepth 100000 in
set_option maxHeartbeats 1000000 in
theorem fits_any (x y X Y : Int) (w : World) :
    Calls Tryd.prog 12 #[.agg #[.int .i64 x, .int .i64 y, .int .i64 X, .int .i64 Y]] w fun e w' => e = .returned (.bool ([x, y, X, Y].all (inB 4611686018427387904))) ∧ Below w.heap.size w w' := by
  obtain ⟨zs, hzs⟩ : ∃ zs, [x, y, X, Y] = zs := ⟨_, rfl⟩
  have hr := row_four (w.alloc (.cells #[.int .i64 x, .int .i64 y, .int .i64 X, .int .i64 Y] 34)) x y X Y 2
  rw [hzs] at hr
  have hl : zs.length = 4 := by rw [← hzs]; rfl
  have HR := Lib.hid hr
  have HB : Hid (Below w.heap.size w ((w.alloc (.cells #[.int .i64 x, .int .i64 y, .int .i64 X, .int .i64 Y] 34)).alloc (.cells #[.int .i64 x, .int .i64 y, .int .i64 X, .int .i64 Y] 2))) := by show Below _ _ _; go_grown
  rw [hzs]
  have HL := Lib.hid hl
  clear hr hzs hl
  go_enter Tryd.func12, Tryd.ntmps12
  go_wp2
  generalize (w.alloc (.cells #[.int .i64 x, .int .i64 y, .int .i64 X, .int .i64 Y] 34)).alloc (.cells #[.int .i64 x, .int .i64 y, .int .i64 X, .int .i64 Y] 2) = W1 at *
  go_loopg [19] 4 (fun k i wr => ∃ j : Nat, k = 4 - j ∧ j ≤ 4 ∧ i = .int .i64 (j : Int) ∧ (zs.take j).all (inB 4611686018427387904) = true ∧ wr = W1)
  case atStart => exact ⟨0, by omega, by omega, rfl, by simp, rfl⟩
  case round =>
    obtain ⟨j, hk, hj, rfl, hn, rfl⟩ := hrel
    have HN := Lib.hid hn
    have HK := Lib.hid hk
    clear hn hk
    by_cases hlt : j < 4
    · obtain ⟨z, hzj⟩ : ∃ z, zs[j]? = some z := ⟨zs[j]'(by rw [HL.out]; exact hlt), List.getElem?_eq_getElem (by rw [HL.out]; exact hlt)⟩
      have hc := HR.out j z hzj
      simp only [World.size_alloc] at hc
      have HS : Hid ((zs.take (j + 1)).all (inB 4611686018427387904) = inB 4611686018427387904 z) := by
        show _ = _
        rw [List.take_add_one, hzj, List.all_append, HN.out]; simp
      have HD : Hid (zs.all (inB 4611686018427387904) = true → inB 4611686018427387904 z = true) := fun h => List.all_eq_true.1 h z (List.mem_of_getElem? hzj)
      clear hzj
      by_cases h1 : z < -4611686018427387904
      · go_wp2
        go_ret
        refine ⟨?_, HB.out⟩
        have : zs.all (inB 4611686018427387904) = false := by
          cases hh : zs.all (inB 4611686018427387904) with
          | false => rfl
          | true => have := inB_true (HD.out hh); omega
        rw [this]; rfl
      · by_cases h2 : 4611686018427387904 < z
        · have hd : decide (z < -4611686018427387904) = false := decide_eq_false h1
          go_wp2
          go_ret
          refine ⟨?_, HB.out⟩
          have : zs.all (inB 4611686018427387904) = false := by
            cases hh : zs.all (inB 4611686018427387904) with
            | false => rfl
            | true => have := inB_true (HD.out hh); omega
          rw [this]; rfl
        · have hd : decide (z < -4611686018427387904) = false := decide_eq_false h1
          have hd2 : decide (4611686018427387904 < z) = false := decide_eq_false h2
          go_wp2
          go_roundg (4 - (j + 1))
          case measure => rw [HK.out]; omega
          case rel => exact ⟨j + 1, rfl, by omega, by go_num, by rw [HS.out]; exact inB_mk (by omega) (by omega), rfl⟩
    · go_wp2
      go_ret
      refine ⟨?_, HB.out⟩
      rw [← HN.out, List.take_of_length_le (by rw [HL.out]; omega)]; rfl
set_option maxRecDepth 100000 in
set_option maxHeartbeats 1000000 in
theorem near_any (x y X Y : Int) (w : World) :
    Calls Tryd.prog 16 #[.agg #[.int .i64 x, .int .i64 y, .int .i64 X, .int .i64 Y]] w fun e w' => e = .returned (.bool ([x, y, X, Y].all (inB 2305843009213693952))) ∧ Below w.heap.size w w' := by
  obtain ⟨zs, hzs⟩ : ∃ zs, [x, y, X, Y] = zs := ⟨_, rfl⟩
  have hr := row_four (w.alloc (.cells #[.int .i64 x, .int .i64 y, .int .i64 X, .int .i64 Y] 34)) x y X Y 2
  rw [hzs] at hr
  have hl : zs.length = 4 := by rw [← hzs]; rfl
  have HR := Lib.hid hr
  have HB : Hid (Below w.heap.size w ((w.alloc (.cells #[.int .i64 x, .int .i64 y, .int .i64 X, .int .i64 Y] 34)).alloc (.cells #[.int .i64 x, .int .i64 y, .int .i64 X, .int .i64 Y] 2))) := by show Below _ _ _; go_grown
  rw [hzs]
  have HL := Lib.hid hl
  clear hr hzs hl
  go_enter Tryd.func16, Tryd.ntmps16
  go_wp2
  generalize (w.alloc (.cells #[.int .i64 x, .int .i64 y, .int .i64 X, .int .i64 Y] 34)).alloc (.cells #[.int .i64 x, .int .i64 y, .int .i64 X, .int .i64 Y] 2) = W1 at *
  go_loopg [19] 4 (fun k i wr => ∃ j : Nat, k = 4 - j ∧ j ≤ 4 ∧ i = .int .i64 (j : Int) ∧ (zs.take j).all (inB 2305843009213693952) = true ∧ wr = W1)
  case atStart => exact ⟨0, by omega, by omega, rfl, by simp, rfl⟩
  case round =>
    obtain ⟨j, hk, hj, rfl, hn, rfl⟩ := hrel
    have HN := Lib.hid hn
    have HK := Lib.hid hk
    clear hn hk
    by_cases hlt : j < 4
    · obtain ⟨z, hzj⟩ : ∃ z, zs[j]? = some z := ⟨zs[j]'(by rw [HL.out]; exact hlt), List.getElem?_eq_getElem (by rw [HL.out]; exact hlt)⟩
      have hc := HR.out j z hzj
      simp only [World.size_alloc] at hc
      have HS : Hid ((zs.take (j + 1)).all (inB 2305843009213693952) = inB 2305843009213693952 z) := by
        show _ = _
        rw [List.take_add_one, hzj, List.all_append, HN.out]; simp
      have HD : Hid (zs.all (inB 2305843009213693952) = true → inB 2305843009213693952 z = true) := fun h => List.all_eq_true.1 h z (List.mem_of_getElem? hzj)
      clear hzj
      by_cases h1 : z < -2305843009213693952
      · go_wp2
        go_ret
        refine ⟨?_, HB.out⟩
        have : zs.all (inB 2305843009213693952) = false := by
          cases hh : zs.all (inB 2305843009213693952) with
          | false => rfl
          | true => have := inB_true (HD.out hh); omega
        rw [this]; rfl
      · by_cases h2 : 2305843009213693952 < z
        · have hd : decide (z < -2305843009213693952) = false := decide_eq_false h1
          go_wp2
          go_ret
          refine ⟨?_, HB.out⟩
          have : zs.all (inB 2305843009213693952) = false := by
            cases hh : zs.all (inB 2305843009213693952) with
            | false => rfl
            | true => have := inB_true (HD.out hh); omega
          rw [this]; rfl
        · have hd : decide (z < -2305843009213693952) = false := decide_eq_false h1
          have hd2 : decide (2305843009213693952 < z) = false := decide_eq_false h2
          go_wp2
          go_roundg (4 - (j + 1))
          case measure => rw [HK.out]; omega
          case rel => exact ⟨j + 1, rfl, by omega, by go_num, by rw [HS.out]; exact inB_mk (by omega) (by omega), rfl⟩
    · go_wp2
      go_ret
      refine ⟨?_, HB.out⟩
      rw [← HN.out, List.take_of_length_le (by rw [HL.out]; omega)]; rfl
end Go.Proofs.YtlafbkehlglfoaaDoor
