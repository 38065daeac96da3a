/- The law StoreArgs: its walk. -/
import Derived.Test.YtjndfdhjipfijaaLv6
import Derived.Deep.DeepCutAuto
import Derived.Deep.CutBlock
import Derived.Deep.CutRange
namespace Go.Proofs.Ytjndfdhjipfijaa
open Go.RowKit Go.Maps
set_option maxRecDepth 100000

theorem cell_new0 (w : World) (v : Value) (t : TypeId) : (w.alloc (.cells #[v] t)).cell? ⟨w.heap.size, 0, none⟩ = some v := by rw [Lib.cell_of_heap (heap_alloc_new w _)]; rfl
theorem cell_new1 (w : World) (o : Obj) (v : Value) (t : TypeId) : ((w.alloc o).alloc (.cells #[v] t)).cell? ⟨w.heap.size + 1, 0, none⟩ = some v := by
  have := cell_new0 (w.alloc o) v t
  rw [World.size_alloc] at this
  exact this
theorem bel2 (w : World) (o p : Obj) : Below w.heap.size w ((w.alloc o).alloc p) := (bel1 w o).trans ((bel1 _ p).mono (by simp))
set_option maxHeartbeats 4000000 in
theorem sargs_any (most level : Int) (x : Nat) (hx : x < 4294967296) (w : World) :
    Calls Try.prog 3 #[.int .i64 most, .int .i64 level, .int .u32 (x : Int)] w fun e w' => e = .returned (.bool true) ∧ Below w.heap.size w w' := by
  have HX := Lib.hid hx
  clear hx
  go_enter Try.func3, Try.ntmps3
  go_wp2_with fail
  refine (lives6_any _).mono ?_
  rintro e W1 ⟨rfl, hb⟩
  have HB1 := Lib.hid hb
  clear hb
  go_upto_region 4 with fail
  go_cut [26] from 20 to 25 (fun v wx => (∃ b : Bool, v = .bool b) ∧ wx = W1)
  case first =>
    by_cases h1 : 5000 < most
    · have g0 : decide (5000 < most) = true := by simpa using h1
      by_cases h2 : most ≤ 1048576
      · have g1 : decide (most ≤ 1048576) = true := by simpa using h2
        go_wp2_with fail
        go_meet
        exact ⟨⟨_, rfl⟩, rfl⟩
      · have g1 : decide (most ≤ 1048576) = false := by simpa using h2
        go_wp2_with fail
        go_meet
        exact ⟨⟨_, rfl⟩, rfl⟩
    · have g0 : decide (5000 < most) = false := by simpa using h1
      go_wp2_with fail
      go_meet
      exact ⟨⟨_, rfl⟩, rfl⟩
  case rest =>
  obtain ⟨⟨b, rfl⟩, rfl⟩ := hcut
  go_upto_if 26 with fail
  go_cut [7] from 20 to 29 (fun v wx => (∃ z : Int, v = .int .i64 z) ∧ wx = wc)
  case first =>
    cases b with
    | false =>
      go_wp2_with fail
      go_meet
      exact ⟨⟨_, rfl⟩, rfl⟩
    | true =>
      go_wp2_with fail
      go_meet
      exact ⟨⟨_, rfl⟩, rfl⟩
  case rest =>
  obtain ⟨⟨z, rfl⟩, rfl⟩ := hcut
  clear b
  by_cases hz : 2 ≤ z ∧ z ≤ 1048576
  · obtain ⟨n, rfl⟩ : ∃ n : Nat, z = (n : Int) := ⟨z.toNat, by omega⟩
    have g1 : decide ((2 : Int) ≤ (n : Int)) = true := by simp; omega
    have g2 : decide ((n : Int) ≤ 1048576) = true := by simp; omega
    have HN : Hid (2 ≤ n ∧ n ≤ 1048576) := ⟨by omega, by omega⟩
    clear hz
    go_wp2_with fail
    refine (new_good n HN.out.1 HN.out.2 _).mono ?_
    rintro e W2 ⟨sb, g, tb, rfl, hS, hB, l1, l2, l3⟩
    have HB2 := Lib.hid (HB1.out.trans (hB.mono HB1.out.size))
    clear hS hB l1 l2 l3 HN
    go_upto_region 10 with fail
    go_wp2_with fail
    refine (back_nil 2 (by omega) _).mono ?_
    rintro e W3 ⟨rfl, rfl⟩
    go_wp2_with fail
    refine (make_nil (0, 0, 0, 0) inK0 _).mono ?_
    rintro e W3 ⟨rfl, hb⟩
    have HB3 := Lib.hid (HB2.out.trans (hb.mono HB2.out.size))
    clear hb HB2
    go_wp2_with fail
    refine (empty_nil level _).mono ?_
    rintro e W4 ⟨rfl, rfl⟩
    go_wp2_with fail
    refine (of_nil x HX.out _).mono ?_
    rintro e W4 ⟨rfl, hb⟩
    have HB4 := Lib.hid (HB3.out.trans (hb.mono HB3.out.size))
    clear hb HB3
    unfold kv
    go_wp2_with fail
    refine (fis_one 1 (by omega) _ _ _ (cell_new1 _ _ _ _)).mono ?_
    rintro e W5 ⟨rfl, hW5⟩
    have HB5 : Hid (Below w.heap.size w W5) := by show Below w.heap.size w W5; rw [← hW5]; exact HB4.out.trans ((bel2 W4 _ _).mono HB4.out.size)
    clear hW5 HB4
    go_wp2_with fail
    refine (fis_one 1 (by omega) _ _ _ (cell_new0 _ _ _)).mono ?_
    rintro e W6 ⟨rfl, hW6⟩
    have HB6 : Hid (Below w.heap.size w W6) := by show Below w.heap.size w W6; rw [← hW6]; exact HB5.out.trans ((bel1 W5 _).mono HB5.out.size)
    clear hW6 HB5
    go_wp2_with fail
    refine (len_nil _).mono ?_
    rintro e W7 ⟨rfl, rfl⟩
    go_wp2_with fail
    refine (room_nil _).mono ?_
    rintro e W7 ⟨rfl, rfl⟩
    go_wp2_with fail
    refine (is_nil 0 _ (by omega)).mono ?_
    rintro e W7 ⟨rfl, rfl⟩
    go_wp2_with fail
    refine (level_nil 0 (by omega) _).mono ?_
    rintro e W7 ⟨rfl, rfl⟩
    go_wp2_with fail
    refine (count_nil 1 (by omega) _).mono ?_
    rintro e W7 ⟨rfl, rfl⟩
    go_wp2_with fail
    refine (mark_nil _).mono ?_
    rintro e W7 ⟨rfl, rfl⟩
    go_wp2_with fail
    go_ret
    exact ⟨rfl, HB6.out⟩
  · have HZ : Hid (z < 2 ∨ 1048576 < z) := by show z < 2 ∨ 1048576 < z; omega
    have HBX := Lib.hid (HB1.out.trans ((bel1 wc (.cells #[.int .i64 1] 30)).mono HB1.out.size))
    by_cases h2 : 2 ≤ z
    · have g1 : decide ((2 : Int) ≤ z) = true := by simpa using h2
      have g2 : decide (z ≤ 1048576) = false := by simp; omega
      clear hz h2
      go_wp2_with fail
      refine (new_bad z HZ.out _).mono ?_
      rintro e W2 ⟨rfl, rfl⟩
      go_wp2_with fail
      refine (fis_one 1 (by omega) _ _ _ (cell_new0 _ _ _)).mono ?_
      rintro e W2 ⟨rfl, rfl⟩
      generalize wc.alloc (.cells #[.int .i64 1] 30) = W2 at *
      clear HZ g1 g2
      go_upto_region 10 with fail
      go_wp2_with fail
      refine (back_nil 2 (by omega) _).mono ?_
      rintro e W3 ⟨rfl, rfl⟩
      go_wp2_with fail
      refine (make_nil (0, 0, 0, 0) inK0 _).mono ?_
      rintro e W3 ⟨rfl, hb⟩
      have HB3 := Lib.hid (HBX.out.trans (hb.mono HBX.out.size))
      clear hb HBX
      go_wp2_with fail
      refine (empty_nil level _).mono ?_
      rintro e W4 ⟨rfl, rfl⟩
      go_wp2_with fail
      refine (of_nil x HX.out _).mono ?_
      rintro e W4 ⟨rfl, hb⟩
      have HB4 := Lib.hid (HB3.out.trans (hb.mono HB3.out.size))
      clear hb HB3
      unfold kv
      go_wp2_with fail
      refine (fis_one 1 (by omega) _ _ _ (cell_new1 _ _ _ _)).mono ?_
      rintro e W5 ⟨rfl, hW5⟩
      have HB5 : Hid (Below w.heap.size w W5) := by show Below w.heap.size w W5; rw [← hW5]; exact HB4.out.trans ((bel2 W4 _ _).mono HB4.out.size)
      clear hW5 HB4
      go_wp2_with fail
      refine (fis_one 1 (by omega) _ _ _ (cell_new0 _ _ _)).mono ?_
      rintro e W6 ⟨rfl, hW6⟩
      have HB6 : Hid (Below w.heap.size w W6) := by show Below w.heap.size w W6; rw [← hW6]; exact HB5.out.trans ((bel1 W5 _).mono HB5.out.size)
      clear hW6 HB5
      go_wp2_with fail
      refine (len_nil _).mono ?_
      rintro e W7 ⟨rfl, rfl⟩
      go_wp2_with fail
      refine (room_nil _).mono ?_
      rintro e W7 ⟨rfl, rfl⟩
      go_wp2_with fail
      refine (is_nil 0 _ (by omega)).mono ?_
      rintro e W7 ⟨rfl, rfl⟩
      go_wp2_with fail
      refine (level_nil 0 (by omega) _).mono ?_
      rintro e W7 ⟨rfl, rfl⟩
      go_wp2_with fail
      refine (count_nil 1 (by omega) _).mono ?_
      rintro e W7 ⟨rfl, rfl⟩
      go_wp2_with fail
      refine (mark_nil _).mono ?_
      rintro e W7 ⟨rfl, rfl⟩
      go_wp2_with fail
      go_ret
      exact ⟨rfl, HB6.out⟩
    · have g1 : decide ((2 : Int) ≤ z) = false := by simpa using h2
      clear hz h2
      go_wp2_with fail
      refine (new_bad z HZ.out _).mono ?_
      rintro e W2 ⟨rfl, rfl⟩
      go_wp2_with fail
      refine (fis_one 1 (by omega) _ _ _ (cell_new0 _ _ _)).mono ?_
      rintro e W2 ⟨rfl, rfl⟩
      generalize wc.alloc (.cells #[.int .i64 1] 30) = W2 at *
      clear HZ g1
      go_upto_region 10 with fail
      go_wp2_with fail
      refine (back_nil 2 (by omega) _).mono ?_
      rintro e W3 ⟨rfl, rfl⟩
      go_wp2_with fail
      refine (make_nil (0, 0, 0, 0) inK0 _).mono ?_
      rintro e W3 ⟨rfl, hb⟩
      have HB3 := Lib.hid (HBX.out.trans (hb.mono HBX.out.size))
      clear hb HBX
      go_wp2_with fail
      refine (empty_nil level _).mono ?_
      rintro e W4 ⟨rfl, rfl⟩
      go_wp2_with fail
      refine (of_nil x HX.out _).mono ?_
      rintro e W4 ⟨rfl, hb⟩
      have HB4 := Lib.hid (HB3.out.trans (hb.mono HB3.out.size))
      clear hb HB3
      unfold kv
      go_wp2_with fail
      refine (fis_one 1 (by omega) _ _ _ (cell_new1 _ _ _ _)).mono ?_
      rintro e W5 ⟨rfl, hW5⟩
      have HB5 : Hid (Below w.heap.size w W5) := by show Below w.heap.size w W5; rw [← hW5]; exact HB4.out.trans ((bel2 W4 _ _).mono HB4.out.size)
      clear hW5 HB4
      go_wp2_with fail
      refine (fis_one 1 (by omega) _ _ _ (cell_new0 _ _ _)).mono ?_
      rintro e W6 ⟨rfl, hW6⟩
      have HB6 : Hid (Below w.heap.size w W6) := by show Below w.heap.size w W6; rw [← hW6]; exact HB5.out.trans ((bel1 W5 _).mono HB5.out.size)
      clear hW6 HB5
      go_wp2_with fail
      refine (len_nil _).mono ?_
      rintro e W7 ⟨rfl, rfl⟩
      go_wp2_with fail
      refine (room_nil _).mono ?_
      rintro e W7 ⟨rfl, rfl⟩
      go_wp2_with fail
      refine (is_nil 0 _ (by omega)).mono ?_
      rintro e W7 ⟨rfl, rfl⟩
      go_wp2_with fail
      refine (level_nil 0 (by omega) _).mono ?_
      rintro e W7 ⟨rfl, rfl⟩
      go_wp2_with fail
      refine (count_nil 1 (by omega) _).mono ?_
      rintro e W7 ⟨rfl, rfl⟩
      go_wp2_with fail
      refine (mark_nil _).mono ?_
      rintro e W7 ⟨rfl, rfl⟩
      go_wp2_with fail
      go_ret
      exact ⟨rfl, HB6.out⟩
end Go.Proofs.Ytjndfdhjipfijaa
