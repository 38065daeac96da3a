/- Package evolve: fields; four: contract. -/
import Derived.Test.YtaapkngpnlnjeaaGreatDoorEv
import Derived.Test.YtaapkngpnlnjeaaGreatDoorP06
import Derived.Laws.Tables
import Derived.Laws.Rows
namespace Go.Proofs.YtaapkngpnlnjeaaGreatDoor
open Go.RowKit Go.Maps
set_option maxRecDepth 100000

theorem Oe.set {w : World} {sb g tb mb b : Nat} {fb : FbT} {k : K4} (h : Oe w sb g tb mb fb b (kO k)) {i : Nat} (hi : i < 4) (v : Nat) : Oe (w.setCell ⟨b, i, none⟩ (.int .u32 (v : Int))) sb g tb mb fb b (kO (mk4 fun j => if j = i then v else kAt k j)) :=
  ⟨k_set h.at_ hi v, h.sb_, h.g_, h.tb_, h.mb_, h.fb_⟩
/-- A field's cells: its side, its squares row by row. -/
def fdC (s : Nat) (q : Nat → Nat → Nat) : Array Value := #[.int .i64 (s : Int), .int .u32 (q 0 0 : Int), .int .u32 (q 0 1 : Int), .int .u32 (q 0 2 : Int), .int .u32 (q 0 3 : Int), .int .u32 (q 1 0 : Int), .int .u32 (q 1 1 : Int), .int .u32 (q 1 2 : Int), .int .u32 (q 1 3 : Int), .int .u32 (q 2 0 : Int), .int .u32 (q 2 1 : Int), .int .u32 (q 2 2 : Int), .int .u32 (q 2 3 : Int), .int .u32 (q 3 0 : Int), .int .u32 (q 3 1 : Int), .int .u32 (q 3 2 : Int), .int .u32 (q 3 3 : Int)]
def fdO (s : Nat) (q : Nat → Nat → Nat) : Obj := .cells (fdC s q) 166 (0, 0)
theorem four_cases {i : Nat} (h : i < 4) : i = 0 ∨ i = 1 ∨ i = 2 ∨ i = 3 := by omega
theorem fd_cell {w : World} {b s : Nat} {q : Nat → Nat → Nat} (h : w.heap[b]? = some (fdO s q)) {y x : Nat} (hy : y < 4) (hx : x < 4) : w.cell? ⟨b, 1 + y * 4 + x, none⟩ = some (.int .u32 (q y x : Int)) := by
  rw [Lib.cell_of_heap h]
  rcases four_cases hy with rfl | rfl | rfl | rfl <;> rcases four_cases hx with rfl | rfl | rfl | rfl <;> rfl
theorem fd_side {w : World} {b s : Nat} {q : Nat → Nat → Nat} (h : w.heap[b]? = some (fdO s q)) : w.cell? ⟨b, 0, none⟩ = some (.int .i64 (s : Int)) := by
  rw [Lib.cell_of_heap h]; rfl
def setQ (q : Nat → Nat → Nat) (y x v : Nat) : Nat → Nat → Nat := fun a b => if a = y ∧ b = x then v else q a b
theorem fd_set {w : World} {b s : Nat} {q : Nat → Nat → Nat} (h : w.heap[b]? = some (fdO s q)) {y x : Nat} (hy : y < 4) (hx : x < 4) (v : Nat) : (w.setCell ⟨b, 1 + y * 4 + x, none⟩ (.int .u32 (v : Int))).heap[b]? = some (fdO s (setQ q y x v)) := by
  rcases four_cases hy with rfl | rfl | rfl | rfl <;> rcases four_cases hx with rfl | rfl | rfl | rfl <;> simp only [World.setCell, Array.getElem?_modify, h, fdO, fdC, setQ] <;> simp
theorem fdC_ext {s : Nat} {q r : Nat → Nat → Nat} (h : ∀ y x, y < 4 → x < 4 → q y x = r y x) : fdC s q = fdC s r := by
  unfold fdC
  rw [h 0 0 (by omega) (by omega), h 0 1 (by omega) (by omega), h 0 2 (by omega) (by omega), h 0 3 (by omega) (by omega), h 1 0 (by omega) (by omega), h 1 1 (by omega) (by omega), h 1 2 (by omega) (by omega), h 1 3 (by omega) (by omega),
    h 2 0 (by omega) (by omega), h 2 1 (by omega) (by omega), h 2 2 (by omega) (by omega), h 2 3 (by omega) (by omega), h 3 0 (by omega) (by omega), h 3 1 (by omega) (by omega), h 3 2 (by omega) (by omega), h 3 3 (by omega) (by omega)]
/-- The squares that meet. -/
def fourQ (q : Nat → Nat → Nat) (y x : Nat) : K4 := (q y x, q y (x + 1), q (y + 1) x, q (y + 1) (x + 1))
set_option maxHeartbeats 1000000 in
theorem four10_any (s : Nat) (q : Nat → Nat → Nat) (x y : Nat) (hx : x < 3) (hy : y < 3) (w : World) : Calls Tryz.prog 107 #[.agg (fdC s q), .int .i64 (x : Int), .int .i64 (y : Int)] w fun e w' => e = .returned (kV (fourQ q y x)) ∧ Below w.heap.size w w' := by
  have HB := Lib.hid (bel2 w (.cells (fdC s q) 166) (.cells #[.int .u32 0, .int .u32 0, .int .u32 0, .int .u32 0] 63))
  have HF : Hid (_ = some (fdO s q)) := kept (heap_alloc_new w (.cells (fdC s q) 166)) (bel1 _ (.cells #[.int .u32 0, .int .u32 0, .int .u32 0, .int .u32 0] 63))
  have HK := Lib.hid (k_new (w.alloc (.cells (fdC s q) 166)) (0, 0, 0, 0))
  have c00 := fd_cell HF.out (show y < 4 by omega) (show x < 4 by omega)
  have c01 := fd_cell HF.out (show y < 4 by omega) (show x + 1 < 4 by omega)
  have c10 := fd_cell HF.out (show y + 1 < 4 by omega) (show x < 4 by omega)
  have c11 := fd_cell HF.out (show y + 1 < 4 by omega) (show x + 1 < 4 by omega)
  have w1 : IntKind.i64.wrap ((x : Int) + 1) = (x : Int) + 1 := IntWalk.i64_in _ (by omega)
  have w2 : IntKind.i64.wrap ((y : Int) + 1) = (y : Int) + 1 := IntWalk.i64_in _ (by omega)
  go_enter Tryz.func107, Tryz.ntmps107
  go_upto_region 1 with fail
  generalize ((w.alloc (.cells (fdC s q) 166)).alloc (.cells #[.int .u32 0, .int .u32 0, .int .u32 0, .int .u32 0] 63)) = W0 at *
  rw [show (w.alloc (.cells (fdC s q) 166)).heap.size = w.heap.size + 1 by simp] at HK
  obtain ⟨d0, d1, d2, d3, f0, f1, f2, f3⟩ := HK.out.cells
  have b1 : (0 : Int) ≤ (y : Int) := by omega
  have b2 : (y : Int) < 4 := by omega
  have b3 : (0 : Int) ≤ (x : Int) := by omega
  have b4 : (x : Int) < 4 := by omega
  have b5 : (0 : Int) ≤ (y : Int) + 1 := by omega
  have b6 : (y : Int) + 1 < 4 := by omega
  have b7 : (0 : Int) ≤ (x : Int) + 1 := by omega
  have b8 : (x : Int) + 1 < 4 := by omega
  have t1 : ((y : Int) + 1).toNat = y + 1 := by omega
  have t2 : ((x : Int) + 1).toNat = x + 1 := by omega
  refine region_sq 29 (fun W => W = W0.drew) [(0, 1), (1, 1), (2, 1), (3, 1), (4, 1), (5, 2), (6, 1), (7, 1), (8, 1), (9, 1), (10, 1), (11, 1), (12, 2), (13, 1), (14, 1), (15, 1), (16, 1), (17, 1), (18, 1), (19, 2), (20, 1), (21, 1), (22, 1), (23, 1), (24, 1), (25, 1), (26, 1), (27, 2), (28, 1), (29, 3)] (by kernel_rfl) (by kernel_rfl) rfl (by intro c a d v w h; cases d <;> exact h) (by kernel_rfl) rfl ?_
  refine ⟨_, ?_, rfl, by rfl, ?_, ?_⟩
  rotate_left
  · intro W; go_simp; first | done | rfl
  conv => arg 6; simp only [Act.put, List.setIfInBounds_toArray, List.set_cons_zero, List.set_cons_succ]
  refine ⟨_, ?_, rfl, by rfl, ?_, ?_⟩
  rotate_left
  · intro W; go_simp; first | done | rfl
  conv => arg 6; simp only [Act.put, List.setIfInBounds_toArray, List.set_cons_zero, List.set_cons_succ]
  refine ⟨_, ?_, rfl, by rfl, ?_, ?_⟩
  rotate_left
  · intro W; go_simp; first | done | rfl
  conv => arg 6; simp only [Act.put, List.setIfInBounds_toArray, List.set_cons_zero, List.set_cons_succ]
  refine ⟨_, ?_, rfl, by rfl, ?_, ?_⟩
  rotate_left
  · intro W; go_simp; first | done | rfl
  conv => arg 6; simp only [Act.put, List.setIfInBounds_toArray, List.set_cons_zero, List.set_cons_succ]
  refine ⟨_, ?_, rfl, by rfl, ?_, ?_⟩
  rotate_left
  · intro W; go_simp; first | done | rfl
  conv => arg 6; simp only [Act.put, List.setIfInBounds_toArray, List.set_cons_zero, List.set_cons_succ]
  refine ⟨_, ?_, rfl, by rfl, ?_, ?_⟩
  rotate_left
  · rintro W rfl
    skip
    go_simp; first | done | rfl
  conv => arg 6; simp only [Act.put, List.setIfInBounds_toArray, List.set_cons_zero, List.set_cons_succ]
  refine ⟨_, ?_, rfl, by rfl, ?_, ?_⟩
  rotate_left
  · intro W; go_simp; first | done | rfl
  conv => arg 6; simp only [Act.put, List.setIfInBounds_toArray, List.set_cons_zero, List.set_cons_succ]
  refine ⟨_, ?_, rfl, by rfl, ?_, ?_⟩
  rotate_left
  · intro W; go_simp; first | done | rfl
  conv => arg 6; simp only [Act.put, List.setIfInBounds_toArray, List.set_cons_zero, List.set_cons_succ]
  refine ⟨_, ?_, rfl, by rfl, ?_, ?_⟩
  rotate_left
  · intro W; go_simp; first | done | rfl
  conv => arg 6; simp only [Act.put, List.setIfInBounds_toArray, List.set_cons_zero, List.set_cons_succ]
  refine ⟨_, ?_, rfl, by rfl, ?_, ?_⟩
  rotate_left
  · intro W; go_simp; first | done | rfl
  conv => arg 6; simp only [Act.put, List.setIfInBounds_toArray, List.set_cons_zero, List.set_cons_succ]
  refine ⟨_, ?_, rfl, by rfl, ?_, ?_⟩
  rotate_left
  · intro W; go_simp; first | done | rfl
  conv => arg 6; simp only [Act.put, List.setIfInBounds_toArray, List.set_cons_zero, List.set_cons_succ]
  refine ⟨_, ?_, rfl, by rfl, ?_, ?_⟩
  rotate_left
  · intro W; go_simp; first | done | rfl
  conv => arg 6; simp only [Act.put, List.setIfInBounds_toArray, List.set_cons_zero, List.set_cons_succ]
  refine ⟨_, ?_, rfl, by rfl, ?_, ?_⟩
  rotate_left
  · rintro W rfl
    skip
    go_simp; first | done | rfl
  conv => arg 6; simp only [Act.put, List.setIfInBounds_toArray, List.set_cons_zero, List.set_cons_succ]
  refine ⟨_, ?_, rfl, by rfl, ?_, ?_⟩
  rotate_left
  · intro W; go_simp; first | done | rfl
  conv => arg 6; simp only [Act.put, List.setIfInBounds_toArray, List.set_cons_zero, List.set_cons_succ]
  refine ⟨_, ?_, rfl, by rfl, ?_, ?_⟩
  rotate_left
  · intro W; go_simp; first | done | rfl
  conv => arg 6; simp only [Act.put, List.setIfInBounds_toArray, List.set_cons_zero, List.set_cons_succ]
  refine ⟨_, ?_, rfl, by rfl, ?_, ?_⟩
  rotate_left
  · intro W; go_simp; first | done | rfl
  conv => arg 6; simp only [Act.put, List.setIfInBounds_toArray, List.set_cons_zero, List.set_cons_succ]
  refine ⟨_, ?_, rfl, by rfl, ?_, ?_⟩
  rotate_left
  · intro W; go_simp; first | done | rfl
  conv => arg 6; simp only [Act.put, List.setIfInBounds_toArray, List.set_cons_zero, List.set_cons_succ]
  refine ⟨_, ?_, rfl, by rfl, ?_, ?_⟩
  rotate_left
  · intro W; go_simp; first | done | rfl
  conv => arg 6; simp only [Act.put, List.setIfInBounds_toArray, List.set_cons_zero, List.set_cons_succ]
  refine ⟨_, ?_, rfl, by rfl, ?_, ?_⟩
  rotate_left
  · intro W; go_simp; first | done | rfl
  conv => arg 6; simp only [Act.put, List.setIfInBounds_toArray, List.set_cons_zero, List.set_cons_succ]
  refine ⟨_, ?_, rfl, by rfl, ?_, ?_⟩
  rotate_left
  · rintro W rfl
    skip
    go_simp; first | done | rfl
  conv => arg 6; simp only [Act.put, List.setIfInBounds_toArray, List.set_cons_zero, List.set_cons_succ]
  refine ⟨_, ?_, rfl, by rfl, ?_, ?_⟩
  rotate_left
  · intro W; go_simp; first | done | rfl
  conv => arg 6; simp only [Act.put, List.setIfInBounds_toArray, List.set_cons_zero, List.set_cons_succ]
  refine ⟨_, ?_, rfl, by rfl, ?_, ?_⟩
  rotate_left
  · intro W; go_simp; first | done | rfl
  conv => arg 6; simp only [Act.put, List.setIfInBounds_toArray, List.set_cons_zero, List.set_cons_succ]
  refine ⟨_, ?_, rfl, by rfl, ?_, ?_⟩
  rotate_left
  · intro W; go_simp; first | done | rfl
  conv => arg 6; simp only [Act.put, List.setIfInBounds_toArray, List.set_cons_zero, List.set_cons_succ]
  refine ⟨_, ?_, rfl, by rfl, ?_, ?_⟩
  rotate_left
  · intro W; go_simp; first | done | rfl
  conv => arg 6; simp only [Act.put, List.setIfInBounds_toArray, List.set_cons_zero, List.set_cons_succ]
  refine ⟨_, ?_, rfl, by rfl, ?_, ?_⟩
  rotate_left
  · intro W; go_simp; first | done | rfl
  conv => arg 6; simp only [Act.put, List.setIfInBounds_toArray, List.set_cons_zero, List.set_cons_succ]
  refine ⟨_, ?_, rfl, by rfl, ?_, ?_⟩
  rotate_left
  · intro W; go_simp; first | done | rfl
  conv => arg 6; simp only [Act.put, List.setIfInBounds_toArray, List.set_cons_zero, List.set_cons_succ]
  refine ⟨_, ?_, rfl, by rfl, ?_, ?_⟩
  rotate_left
  · intro W; go_simp; first | done | rfl
  conv => arg 6; simp only [Act.put, List.setIfInBounds_toArray, List.set_cons_zero, List.set_cons_succ]
  refine ⟨_, ?_, rfl, by rfl, ?_, ?_⟩
  rotate_left
  · rintro W rfl
    skip
    go_simp; first | done | rfl
  conv => arg 6; simp only [Act.put, List.setIfInBounds_toArray, List.set_cons_zero, List.set_cons_succ]
  refine ⟨_, ?_, rfl, by rfl, ?_, ?_⟩
  rotate_left
  · intro W; go_simp; first | done | rfl
  conv => arg 6; simp only [Act.put, List.setIfInBounds_toArray, List.set_cons_zero, List.set_cons_succ]
  refine ⟨_, rfl, by rfl, fun K hK => ?_⟩
  go_simp
  refine hK _ _ ?_
  clear hK K
  conv => arg 6; simp only [Act.put, List.setIfInBounds_toArray, List.set_cons_zero, List.set_cons_succ]
  unfold wpSq
  have HBD : Hid (Below w.heap.size w W0.drew) := ⟨HB.out.os, HB.out.tape, HB.out.output, HB.out.size, HB.out.block⟩
  obtain ⟨W', hW', hb', hk'⟩ := k_res2 HBD.out (show w.heap.size ≤ w.heap.size + 1 by omega) HK.out (fourQ q y x)
  obtain ⟨q0, q1, q2, q3⟩ := k_cells hk'
  have hW2 : ((((W0.setCell ⟨w.heap.size + 1, 0, none⟩ (.int .u32 (q y x : Int))).setCell ⟨w.heap.size + 1, 1, none⟩ (.int .u32 (q y (x + 1) : Int))).setCell ⟨w.heap.size + 1, 2, none⟩ (.int .u32 (q (y + 1) x : Int))).setCell ⟨w.heap.size + 1, 3, none⟩ (.int .u32 (q (y + 1) (x + 1) : Int))).drew = W' := hW'
  rw [hW2]
  go_wp2_with fail
  refine bodyPost_ret (v := _) (by simp [results, Tryz.results107, go_sem, q0, q1, q2, q3]; rfl) rfl ?_
  exact ⟨rfl, hb'⟩
end Go.Proofs.YtaapkngpnlnjeaaGreatDoor
