/- belvedereref07.Box: contract. -/
import Derived.Test.YtaapkngpnlnjeaaGreatM14
import Derived.Test.YtaapkngpnlnjeaaGreatM04
import Derived.Deep.DeepCutAuto
import Derived.Deep.CutRange
import Derived.Deep.CutBlock
namespace Go.Proofs.YtaapkngpnlnjeaaGreat
open Go.RowKit Go.Maps
set_option maxRecDepth 100000

def loP (a c : Int × Int) : Int × Int := (min a.1 c.1, min a.2 c.2)
def hiP (a c : Int × Int) : Int × Int := (max a.1 c.1, max a.2 c.2)
theorem min_ifR (x y : Int) : (if y < x then y else x) = min x y := by
  split <;> omega
theorem max_ifR (x y : Int) : (if x < y then y else x) = max x y := by
  split <;> omega
theorem ptR_cell {w : World} {b : Nat} {p q : Int} (h : w.heap[b]? = some (ptO7 p q)) : w.cell? ⟨b, 0, none⟩ = some (.int .i64 p) ∧ w.cell? ⟨b, 1, none⟩ = some (.int .i64 q) ∧ w.frozen? ⟨b, 0, none⟩ = false ∧ w.frozen? ⟨b, 1, none⟩ = false :=
  ⟨(pt_cells7 h).1, (pt_cells7 h).2, Lib.frozen_of_heap h 0, Lib.frozen_of_heap h 1⟩
theorem ptR_put {w : World} {b : Nat} {p q : Int} (h : w.heap[b]? = some (ptO7 p q)) (x y : Int) : ((w.setCell ⟨b, 0, none⟩ (.int .i64 x)).setCell ⟨b, 1, none⟩ (.int .i64 y)).heap[b]? = some (ptO7 x y) := by
  unfold ptO7 at *
  simp only [World.setCell, Array.getElem?_modify, h]
  simp
theorem ptR_other {w : World} {b c : Nat} {o : Obj} (h : w.heap[b]? = some o) (hne : b ≠ c) (u v : Value) : ((w.setCell ⟨c, 0, none⟩ u).setCell ⟨c, 1, none⟩ v).heap[b]? = some o := by
  rw [Below.heap_setCell _ _ _ _ hne, Below.heap_setCell _ _ _ _ hne]; exact h
/-- The blocks of Box: two results, the least and the greatest. -/
structure Bq (w : World) (lo hi : Int × Int) (W : World) : Prop where
  bel : Below w.heap.size w W
  r0 : W.heap[w.heap.size]? = some (ptO7 0 0)
  r1 : W.heap[w.heap.size + 1]? = some (ptO7 0 0)
  a : W.heap[w.heap.size + 1 + 1]? = some (ptO7 lo.1 lo.2)
  b : W.heap[w.heap.size + 1 + 1 + 1]? = some (ptO7 hi.1 hi.2)
theorem Bq.drewN {w W : World} {lo hi : Int × Int} (h : Bq w lo hi W) (q : Nat) : Bq w lo hi (W.drewN q) := ⟨⟨h.bel.os, h.bel.tape, h.bel.output, h.bel.size, h.bel.block⟩, h.r0, h.r1, h.a, h.b⟩
theorem Bq.putA {w W : World} {lo hi : Int × Int} (h : Bq w lo hi W) (d : Int × Int) : Bq w d hi ((W.setCell ⟨w.heap.size + 1 + 1, 0, none⟩ (.int .i64 d.1)).setCell ⟨w.heap.size + 1 + 1, 1, none⟩ (.int .i64 d.2)) :=
  ⟨(h.bel.setCell (p := ⟨w.heap.size + 1 + 1, 0, none⟩) (by show _ ≤ w.heap.size + 1 + 1; omega) _).setCell (p := ⟨w.heap.size + 1 + 1, 1, none⟩) (by show _ ≤ w.heap.size + 1 + 1; omega) _, ptR_other h.r0 (by omega) _ _, ptR_other h.r1 (by omega) _ _, ptR_put h.a _ _, ptR_other h.b (by omega) _ _⟩
theorem Bq.putB {w W : World} {lo hi : Int × Int} (h : Bq w lo hi W) (d : Int × Int) : Bq w lo d ((W.setCell ⟨w.heap.size + 1 + 1 + 1, 0, none⟩ (.int .i64 d.1)).setCell ⟨w.heap.size + 1 + 1 + 1, 1, none⟩ (.int .i64 d.2)) :=
  ⟨(h.bel.setCell (p := ⟨w.heap.size + 1 + 1 + 1, 0, none⟩) (by show _ ≤ w.heap.size + 1 + 1 + 1; omega) _).setCell (p := ⟨w.heap.size + 1 + 1 + 1, 1, none⟩) (by show _ ≤ w.heap.size + 1 + 1 + 1; omega) _, ptR_other h.r0 (by omega) _ _, ptR_other h.r1 (by omega) _ _, ptR_other h.a (by omega) _ _, ptR_put h.b _ _⟩
theorem bq_start (w : World) (c : Int × Int) : Bq w c c ((((w.alloc (.cells #[.int .i64 0, .int .i64 0] 45)).alloc (.cells #[.int .i64 0, .int .i64 0] 45)).alloc (.cells #[.int .i64 c.1, .int .i64 c.2] 45)).alloc (.cells #[.int .i64 c.1, .int .i64 c.2] 45)) := by
  have h1 := heap_alloc_new w (.cells #[.int .i64 0, .int .i64 0] 45)
  have h2 := heap_alloc_new (w.alloc (.cells #[.int .i64 0, .int .i64 0] 45)) (.cells #[.int .i64 0, .int .i64 0] 45)
  have h3 := heap_alloc_new ((w.alloc (.cells #[.int .i64 0, .int .i64 0] 45)).alloc (.cells #[.int .i64 0, .int .i64 0] 45)) (.cells #[.int .i64 c.1, .int .i64 c.2] 45)
  have h4 := heap_alloc_new (((w.alloc (.cells #[.int .i64 0, .int .i64 0] 45)).alloc (.cells #[.int .i64 0, .int .i64 0] 45)).alloc (.cells #[.int .i64 c.1, .int .i64 c.2] 45)) (.cells #[.int .i64 c.1, .int .i64 c.2] 45)
  simp only [World.size_alloc] at h2 h3 h4
  refine ⟨by go_grown, keptR (keptR (keptR h1 (bel1 _ _)) (bel1 _ _)) (bel1 _ _), keptR (keptR h2 (bel1 _ _)) (bel1 _ _), keptR h3 (bel1 _ _), h4⟩
theorem loP_take (r : List (Int × Int)) (c d : Int × Int) {j : Nat} (hd : r[j]? = some d) : (r.take (j + 1)).foldl loP c = loP ((r.take j).foldl loP c) d ∧ (r.take (j + 1)).foldl hiP c = hiP ((r.take j).foldl hiP c) d := by
  rw [List.take_add_one, hd]
  simp
theorem boxr_nil (a : Option Addr) (cap : Nat) (w : World) : Calls Tryz.prog 12 #[.slice a 0 cap] w fun e w' => e = .returned (.tuple #[.agg #[.int .i64 0, .int .i64 0], .agg #[.int .i64 0, .int .i64 0], .bool false]) ∧ Below w.heap.size w w' := by
  have h1 := heap_alloc_new w (.cells #[.int .i64 0, .int .i64 0] 45)
  have h2 := heap_alloc_new (w.alloc (.cells #[.int .i64 0, .int .i64 0] 45)) (.cells #[.int .i64 0, .int .i64 0] 45)
  simp only [World.size_alloc] at h2
  have HA : Hid (((w.alloc (.cells #[.int .i64 0, .int .i64 0] 45)).alloc (.cells #[.int .i64 0, .int .i64 0] 45)).heap[w.heap.size]? = some (ptO7 0 0)) := keptR h1 (bel1 _ _)
  have HC : Hid (((w.alloc (.cells #[.int .i64 0, .int .i64 0] 45)).alloc (.cells #[.int .i64 0, .int .i64 0] 45)).heap[w.heap.size + 1]? = some (ptO7 0 0)) := h2
  have HB := Lib.hid (bel2 w (.cells #[.int .i64 0, .int .i64 0] 45) (.cells #[.int .i64 0, .int .i64 0] 45))
  clear h1 h2
  go_enter Tryz.func12, Tryz.ntmps12
  go_upto_region 1 with fail
  generalize ((w.alloc (.cells #[.int .i64 0, .int .i64 0] 45)).alloc (.cells #[.int .i64 0, .int .i64 0] 45)) = W at *
  obtain ⟨a0, a1, a2, a3⟩ := ptR_cell HA.out
  obtain ⟨b0, b1, b2, b3⟩ := ptR_cell HC.out
  go_wp2_with fail
  have n0 := ptR_put HA.out 0 0
  have n1 := ptR_other HC.out (show w.heap.size + 1 ≠ w.heap.size by omega) (.int .i64 0) (.int .i64 0)
  have m0 := ptR_other n0 (show w.heap.size ≠ w.heap.size + 1 by omega) (.int .i64 0) (.int .i64 0)
  have m1 := ptR_put n1 0 0
  obtain ⟨y0, y1⟩ := pt_cells7 m0
  obtain ⟨y2, y3⟩ := pt_cells7 m1
  refine bodyPost_ret (v := _) (by simp [results, Tryz.results12, go_sem, y0, y1, y2, y3]; rfl) rfl ?_
  exact ⟨rfl, (((HB.out.setCell (p := ⟨w.heap.size, 0, none⟩) (Nat.le_refl _) _).setCell (p := ⟨w.heap.size, 1, none⟩) (Nat.le_refl _) _).setCell (p := ⟨w.heap.size + 1, 0, none⟩) (Nat.le_succ _) _).setCell (p := ⟨w.heap.size + 1, 1, none⟩) (Nat.le_succ _) _⟩
set_option maxHeartbeats 2000000 in
theorem boxr_any (c : Int × Int) (r : List (Int × Int)) (a : Option Addr) (cap : Nat) (w : World) (h : Ro w a (c :: r)) (hl : r.length ≤ 1000000) :
    Calls Tryz.prog 12 #[.slice a (r.length + 1) cap] w fun e w' => e = .returned (.tuple #[.agg #[.int .i64 (r.foldl loP c).1, .int .i64 (r.foldl loP c).2], .agg #[.int .i64 (r.foldl hiP c).1, .int .i64 (r.foldl hiP c).2], .bool true]) ∧ Below w.heap.size w w' := by
  obtain ⟨bk, ha, c0, c1⟩ := h 0 c rfl
  subst ha
  have HR := Lib.hid h
  have HC0 : Hid (∀ W, Below w.heap.size w W → W.cell? ⟨bk, 0, none⟩ = some (.int .i64 c.1) ∧ W.cell? ⟨bk, 1, none⟩ = some (.int .i64 c.2)) := fun W hW => by
    simp only [Nat.zero_mul, Nat.zero_add] at c0 c1
    exact ⟨by rw [hW.cell (blk_lt c0)]; exact c0, by rw [hW.cell (blk_lt c1)]; exact c1⟩
  clear h c0 c1
  have HQ0 := Lib.hid (bq_start w c)
  have g0 : (((r.length + 1 : Nat) : Int) == 0) = false := by simp; omega
  have g1 : (((r.length : Int) + 1) == 0) = false := by simp; omega
  have i1 : (0 : Int) < ((r.length + 1 : Nat) : Int) := by omega
  have i2 : (0 : Int) < (r.length : Int) + 1 := by omega
  obtain ⟨x0, x1⟩ := HC0.out _ (bel2 w (.cells #[.int .i64 0, .int .i64 0] 45) (.cells #[.int .i64 0, .int .i64 0] 45))
  obtain ⟨x2, x3⟩ := HC0.out _ (bel3 w (.cells #[.int .i64 0, .int .i64 0] 45) (.cells #[.int .i64 0, .int .i64 0] 45) (.cells #[.int .i64 c.1, .int .i64 c.2] 45))
  go_enter Tryz.func12, Tryz.ntmps12
  go_wp2_with fail
  clear x0 x1 x2 x3 g0 g1 i1 i2
  generalize (((w.alloc (.cells #[.int .i64 0, .int .i64 0] 45)).alloc (.cells #[.int .i64 0, .int .i64 0] 45)).alloc (.cells #[.int .i64 c.1, .int .i64 c.2] 45)).alloc (.cells #[.int .i64 c.1, .int .i64 c.2] 45) = W0 at *
  go_loopg [7] (r.length) (fun m v7 wr => ∃ j : Nat, m = r.length - j ∧ j ≤ r.length ∧ v7 = .int .i64 ((j : Int) + 1) ∧ Bq w ((r.take j).foldl loP c) ((r.take j).foldl hiP c) wr)
  case atStart => exact ⟨0, rfl, Nat.zero_le _, rfl, HQ0.out⟩
  case round =>
    obtain ⟨j, hm, hj, rfl, hq⟩ := hrel
    have HM := Lib.hid hm
    have HQ := Lib.hid hq
    clear hm hq HQ0
    by_cases hlt : j < r.length
    · obtain ⟨d, hd⟩ : ∃ d, r[j]? = some d := ⟨r[j], List.getElem?_eq_getElem hlt⟩
      obtain ⟨bk2, ha2, d0, d1⟩ := HR.out (j + 1) d (by rw [List.getElem?_cons_succ]; exact hd)
      cases ha2
      obtain ⟨e1, e2⟩ := loP_take r c d hd
      have HE := Lib.hid (And.intro e1 e2)
      clear e1 e2 hd
      generalize (r.take j).foldl loP c = lo at *
      generalize (r.take j).foldl hiP c = hi at *
      have HD : Hid (∀ W, Below w.heap.size w W → W.cell? ⟨bk, (j + 1) * 2, none⟩ = some (.int .i64 d.1) ∧ W.cell? ⟨bk, (j + 1) * 2 + 1, none⟩ = some (.int .i64 d.2)) := fun W hW => ⟨by rw [hW.cell (blk_lt d0)]; exact d0, by rw [hW.cell (blk_lt d1)]; exact d1⟩
      clear d0 d1
      have hg : decide ((j : Int) + 1 < ((r.length + 1 : Nat) : Int)) = true := by simp; omega
      have hg' : decide ((j : Int) + 1 < (r.length : Int) + 1) = true := by simp; omega
      have i1 : (0 : Int) ≤ (j : Int) + 1 := by omega
      have i2 : (j : Int) + 1 < ((r.length + 1 : Nat) : Int) := by omega
      have i3 : (j : Int) + 1 < (r.length : Int) + 1 := by omega
      go_upto_region 8 with fail
      refine region_sq 17 (fun W => W = wr.drew) [(0, 1), (1, 2), (2, 1), (3, 1), (4, 1), (5, 1), (6, 2), (7, 1), (8, 1), (9, 2), (10, 1), (11, 1), (12, 1), (13, 1), (14, 2), (15, 1), (16, 1), (17, 3)] (by kernel_rfl) (by kernel_rfl) rfl (by intro c a d v w h; cases d <;> exact h) (by kernel_rfl) rfl ?_
      refine ⟨_, ?_, rfl, by rfl, ?_, ?_⟩
      rotate_left
      · intro W; go_simp; first | done | rfl
      conv => arg 6; simp only [Act.put, List.setIfInBounds_toArray, List.set_cons_zero, List.set_cons_succ]
      refine ⟨_, ?_, rfl, by rfl, ?_, ?_⟩
      rotate_left
      · rintro W rfl
        have yq := HQ.out.drewN 1
        obtain ⟨y0, y1, _, _⟩ := ptR_cell yq.a
        have yd := HD.out (wr.drewN 1) yq.bel
        obtain ⟨y2, y3⟩ := yd
        have y0' : wr.drew.cell? ⟨w.heap.size + 1 + 1, 0, none⟩ = some (.int .i64 lo.1) := y0
        have y1' : wr.drew.cell? ⟨w.heap.size + 1 + 1, 1, none⟩ = some (.int .i64 lo.2) := y1
        have y2' : wr.drew.cell? ⟨bk, (j + 1) * 2, none⟩ = some (.int .i64 d.1) := y2
        have y3' : wr.drew.cell? ⟨bk, (j + 1) * 2 + 1, none⟩ = some (.int .i64 d.2) := y3
        clear y0 y1 y2 y3 yq
        go_simp; first | done | rfl
      conv => arg 6; simp only [Act.put, List.setIfInBounds_toArray, List.set_cons_zero, List.set_cons_succ]
      refine ⟨_, ?_, rfl, by rfl, ?_, ?_⟩
      rotate_left
      · intro W; go_simp; first | done | rfl
      conv => arg 6; simp only [Act.put, List.setIfInBounds_toArray, List.set_cons_zero, List.set_cons_succ]
      refine ⟨_, ?_, rfl, by rfl, ?_, ?_⟩
      rotate_left
      · intro W; go_simp; first | done | rfl
      conv => arg 6; simp only [Act.put, List.setIfInBounds_toArray, List.set_cons_zero, List.set_cons_succ]
      refine ⟨_, ?_, rfl, by rfl, ?_, ?_⟩
      rotate_left
      · intro W; go_simp; first | done | rfl
      conv => arg 6; simp only [Act.put, List.setIfInBounds_toArray, List.set_cons_zero, List.set_cons_succ]
      refine ⟨_, ?_, rfl, by rfl, ?_, ?_⟩
      rotate_left
      · intro W; go_simp; first | done | rfl
      conv => arg 6; simp only [Act.put, List.setIfInBounds_toArray, List.set_cons_zero, List.set_cons_succ]
      refine ⟨_, ?_, rfl, by rfl, ?_, ?_⟩
      rotate_left
      · rintro W rfl
        have yq := HQ.out.drewN 1
        obtain ⟨y0, y1, _, _⟩ := ptR_cell yq.a
        have yd := HD.out (wr.drewN 1) yq.bel
        obtain ⟨y2, y3⟩ := yd
        have y0' : wr.drew.cell? ⟨w.heap.size + 1 + 1, 0, none⟩ = some (.int .i64 lo.1) := y0
        have y1' : wr.drew.cell? ⟨w.heap.size + 1 + 1, 1, none⟩ = some (.int .i64 lo.2) := y1
        have y2' : wr.drew.cell? ⟨bk, (j + 1) * 2, none⟩ = some (.int .i64 d.1) := y2
        have y3' : wr.drew.cell? ⟨bk, (j + 1) * 2 + 1, none⟩ = some (.int .i64 d.2) := y3
        clear y0 y1 y2 y3 yq
        go_simp; first | done | rfl
      conv => arg 6; simp only [Act.put, List.setIfInBounds_toArray, List.set_cons_zero, List.set_cons_succ]
      refine ⟨_, ?_, rfl, by rfl, ?_, ?_⟩
      rotate_left
      · intro W; go_simp; first | done | rfl
      conv => arg 6; simp only [Act.put, List.setIfInBounds_toArray, List.set_cons_zero, List.set_cons_succ]
      refine ⟨_, ?_, rfl, by rfl, ?_, ?_⟩
      rotate_left
      · intro W; go_simp; first | done | rfl
      conv => arg 6; simp only [Act.put, List.setIfInBounds_toArray, List.set_cons_zero, List.set_cons_succ]
      refine ⟨_, ?_, rfl, by rfl, ?_, ?_⟩
      rotate_left
      · rintro W rfl
        have yq := HQ.out.drewN 1
        obtain ⟨y0, y1, _, _⟩ := ptR_cell yq.a
        have yd := HD.out (wr.drewN 1) yq.bel
        obtain ⟨y2, y3⟩ := yd
        have y0' : wr.drew.cell? ⟨w.heap.size + 1 + 1, 0, none⟩ = some (.int .i64 lo.1) := y0
        have y1' : wr.drew.cell? ⟨w.heap.size + 1 + 1, 1, none⟩ = some (.int .i64 lo.2) := y1
        have y2' : wr.drew.cell? ⟨bk, (j + 1) * 2, none⟩ = some (.int .i64 d.1) := y2
        have y3' : wr.drew.cell? ⟨bk, (j + 1) * 2 + 1, none⟩ = some (.int .i64 d.2) := y3
        clear y0 y1 y2 y3 yq
        go_simp; first | done | rfl
      conv => arg 6; simp only [Act.put, List.setIfInBounds_toArray, List.set_cons_zero, List.set_cons_succ]
      refine ⟨_, ?_, rfl, by rfl, ?_, ?_⟩
      rotate_left
      · intro W; go_simp; first | done | rfl
      conv => arg 6; simp only [Act.put, List.setIfInBounds_toArray, List.set_cons_zero, List.set_cons_succ]
      refine ⟨_, ?_, rfl, by rfl, ?_, ?_⟩
      rotate_left
      · intro W; go_simp; first | done | rfl
      conv => arg 6; simp only [Act.put, List.setIfInBounds_toArray, List.set_cons_zero, List.set_cons_succ]
      refine ⟨_, ?_, rfl, by rfl, ?_, ?_⟩
      rotate_left
      · intro W; go_simp; first | done | rfl
      conv => arg 6; simp only [Act.put, List.setIfInBounds_toArray, List.set_cons_zero, List.set_cons_succ]
      refine ⟨_, ?_, rfl, by rfl, ?_, ?_⟩
      rotate_left
      · intro W; go_simp; first | done | rfl
      conv => arg 6; simp only [Act.put, List.setIfInBounds_toArray, List.set_cons_zero, List.set_cons_succ]
      refine ⟨_, ?_, rfl, by rfl, ?_, ?_⟩
      rotate_left
      · rintro W rfl
        have yq := HQ.out.drewN 1
        obtain ⟨y0, y1, _, _⟩ := ptR_cell yq.a
        have yd := HD.out (wr.drewN 1) yq.bel
        obtain ⟨y2, y3⟩ := yd
        have y0' : wr.drew.cell? ⟨w.heap.size + 1 + 1, 0, none⟩ = some (.int .i64 lo.1) := y0
        have y1' : wr.drew.cell? ⟨w.heap.size + 1 + 1, 1, none⟩ = some (.int .i64 lo.2) := y1
        have y2' : wr.drew.cell? ⟨bk, (j + 1) * 2, none⟩ = some (.int .i64 d.1) := y2
        have y3' : wr.drew.cell? ⟨bk, (j + 1) * 2 + 1, none⟩ = some (.int .i64 d.2) := y3
        clear y0 y1 y2 y3 yq
        go_simp; first | done | rfl
      conv => arg 6; simp only [Act.put, List.setIfInBounds_toArray, List.set_cons_zero, List.set_cons_succ]
      refine ⟨_, ?_, rfl, by rfl, ?_, ?_⟩
      rotate_left
      · intro W; go_simp; first | done | rfl
      conv => arg 6; simp only [Act.put, List.setIfInBounds_toArray, List.set_cons_zero, List.set_cons_succ]
      refine ⟨_, ?_, rfl, by rfl, ?_, ?_⟩
      rotate_left
      · intro W; go_simp; first | done | rfl
      conv => arg 6; simp only [Act.put, List.setIfInBounds_toArray, List.set_cons_zero, List.set_cons_succ]
      refine ⟨_, rfl, by rfl, fun K hK => ?_⟩
      have z := ptR_cell HQ.out.a
      obtain ⟨z0, z1, z2, z3⟩ := z
      have z2' : wr.drew.frozen? ⟨w.heap.size + 1 + 1, 0, none⟩ = false := z2
      have z3' : wr.drew.frozen? ⟨w.heap.size + 1 + 1, 1, none⟩ = false := z3
      have z0' : wr.drew.cell? ⟨w.heap.size + 1 + 1, 0, none⟩ = some (.int .i64 lo.1) := z0
      have z1' : wr.drew.cell? ⟨w.heap.size + 1 + 1, 1, none⟩ = some (.int .i64 lo.2) := z1
      go_simp
      refine hK _ _ ?_
      clear hK K z0 z1 z2 z3 z0' z1' z2' z3'
      conv => arg 6; simp only [Act.put, List.setIfInBounds_toArray, List.set_cons_zero, List.set_cons_succ]
      unfold wpSq
      rw [min_ifR, min_ifR]
      have HQ1 : Hid (Bq w (loP lo d) hi ((wr.setCell ⟨w.heap.size + 1 + 1, 0, none⟩ (.int .i64 (min lo.1 d.1))).setCell ⟨w.heap.size + 1 + 1, 1, none⟩ (.int .i64 (min lo.2 d.2))).drew) := (HQ.out.putA (loP lo d)).drewN 1
      generalize ((wr.setCell ⟨w.heap.size + 1 + 1, 0, none⟩ (.int .i64 (min lo.1 d.1))).setCell ⟨w.heap.size + 1 + 1, 1, none⟩ (.int .i64 (min lo.2 d.2))).drew = w1 at *
      clear HQ
      go_wp2_with fail
      refine region_sq 17 (fun W => W = w1.drew) [(0, 1), (1, 2), (2, 1), (3, 1), (4, 1), (5, 1), (6, 2), (7, 1), (8, 1), (9, 2), (10, 1), (11, 1), (12, 1), (13, 1), (14, 2), (15, 1), (16, 1), (17, 3)] (by kernel_rfl) (by kernel_rfl) rfl (by intro c a d v w h; cases d <;> exact h) (by kernel_rfl) rfl ?_
      refine ⟨_, ?_, rfl, by rfl, ?_, ?_⟩
      rotate_left
      · intro W; go_simp; first | done | rfl
      conv => arg 6; simp only [Act.put, List.setIfInBounds_toArray, List.set_cons_zero, List.set_cons_succ]
      refine ⟨_, ?_, rfl, by rfl, ?_, ?_⟩
      rotate_left
      · rintro W rfl
        have yq := HQ1.out.drewN 1
        obtain ⟨y0, y1, _, _⟩ := ptR_cell yq.b
        have yd := HD.out (w1.drewN 1) yq.bel
        obtain ⟨y2, y3⟩ := yd
        have y0' : w1.drew.cell? ⟨w.heap.size + 1 + 1 + 1, 0, none⟩ = some (.int .i64 hi.1) := y0
        have y1' : w1.drew.cell? ⟨w.heap.size + 1 + 1 + 1, 1, none⟩ = some (.int .i64 hi.2) := y1
        have y2' : w1.drew.cell? ⟨bk, (j + 1) * 2, none⟩ = some (.int .i64 d.1) := y2
        have y3' : w1.drew.cell? ⟨bk, (j + 1) * 2 + 1, none⟩ = some (.int .i64 d.2) := y3
        clear y0 y1 y2 y3 yq
        go_simp; first | done | rfl
      conv => arg 6; simp only [Act.put, List.setIfInBounds_toArray, List.set_cons_zero, List.set_cons_succ]
      refine ⟨_, ?_, rfl, by rfl, ?_, ?_⟩
      rotate_left
      · intro W; go_simp; first | done | rfl
      conv => arg 6; simp only [Act.put, List.setIfInBounds_toArray, List.set_cons_zero, List.set_cons_succ]
      refine ⟨_, ?_, rfl, by rfl, ?_, ?_⟩
      rotate_left
      · intro W; go_simp; first | done | rfl
      conv => arg 6; simp only [Act.put, List.setIfInBounds_toArray, List.set_cons_zero, List.set_cons_succ]
      refine ⟨_, ?_, rfl, by rfl, ?_, ?_⟩
      rotate_left
      · intro W; go_simp; first | done | rfl
      conv => arg 6; simp only [Act.put, List.setIfInBounds_toArray, List.set_cons_zero, List.set_cons_succ]
      refine ⟨_, ?_, rfl, by rfl, ?_, ?_⟩
      rotate_left
      · intro W; go_simp; first | done | rfl
      conv => arg 6; simp only [Act.put, List.setIfInBounds_toArray, List.set_cons_zero, List.set_cons_succ]
      refine ⟨_, ?_, rfl, by rfl, ?_, ?_⟩
      rotate_left
      · rintro W rfl
        have yq := HQ1.out.drewN 1
        obtain ⟨y0, y1, _, _⟩ := ptR_cell yq.b
        have yd := HD.out (w1.drewN 1) yq.bel
        obtain ⟨y2, y3⟩ := yd
        have y0' : w1.drew.cell? ⟨w.heap.size + 1 + 1 + 1, 0, none⟩ = some (.int .i64 hi.1) := y0
        have y1' : w1.drew.cell? ⟨w.heap.size + 1 + 1 + 1, 1, none⟩ = some (.int .i64 hi.2) := y1
        have y2' : w1.drew.cell? ⟨bk, (j + 1) * 2, none⟩ = some (.int .i64 d.1) := y2
        have y3' : w1.drew.cell? ⟨bk, (j + 1) * 2 + 1, none⟩ = some (.int .i64 d.2) := y3
        clear y0 y1 y2 y3 yq
        go_simp; first | done | rfl
      conv => arg 6; simp only [Act.put, List.setIfInBounds_toArray, List.set_cons_zero, List.set_cons_succ]
      refine ⟨_, ?_, rfl, by rfl, ?_, ?_⟩
      rotate_left
      · intro W; go_simp; first | done | rfl
      conv => arg 6; simp only [Act.put, List.setIfInBounds_toArray, List.set_cons_zero, List.set_cons_succ]
      refine ⟨_, ?_, rfl, by rfl, ?_, ?_⟩
      rotate_left
      · intro W; go_simp; first | done | rfl
      conv => arg 6; simp only [Act.put, List.setIfInBounds_toArray, List.set_cons_zero, List.set_cons_succ]
      refine ⟨_, ?_, rfl, by rfl, ?_, ?_⟩
      rotate_left
      · rintro W rfl
        have yq := HQ1.out.drewN 1
        obtain ⟨y0, y1, _, _⟩ := ptR_cell yq.b
        have yd := HD.out (w1.drewN 1) yq.bel
        obtain ⟨y2, y3⟩ := yd
        have y0' : w1.drew.cell? ⟨w.heap.size + 1 + 1 + 1, 0, none⟩ = some (.int .i64 hi.1) := y0
        have y1' : w1.drew.cell? ⟨w.heap.size + 1 + 1 + 1, 1, none⟩ = some (.int .i64 hi.2) := y1
        have y2' : w1.drew.cell? ⟨bk, (j + 1) * 2, none⟩ = some (.int .i64 d.1) := y2
        have y3' : w1.drew.cell? ⟨bk, (j + 1) * 2 + 1, none⟩ = some (.int .i64 d.2) := y3
        clear y0 y1 y2 y3 yq
        go_simp; first | done | rfl
      conv => arg 6; simp only [Act.put, List.setIfInBounds_toArray, List.set_cons_zero, List.set_cons_succ]
      refine ⟨_, ?_, rfl, by rfl, ?_, ?_⟩
      rotate_left
      · intro W; go_simp; first | done | rfl
      conv => arg 6; simp only [Act.put, List.setIfInBounds_toArray, List.set_cons_zero, List.set_cons_succ]
      refine ⟨_, ?_, rfl, by rfl, ?_, ?_⟩
      rotate_left
      · intro W; go_simp; first | done | rfl
      conv => arg 6; simp only [Act.put, List.setIfInBounds_toArray, List.set_cons_zero, List.set_cons_succ]
      refine ⟨_, ?_, rfl, by rfl, ?_, ?_⟩
      rotate_left
      · intro W; go_simp; first | done | rfl
      conv => arg 6; simp only [Act.put, List.setIfInBounds_toArray, List.set_cons_zero, List.set_cons_succ]
      refine ⟨_, ?_, rfl, by rfl, ?_, ?_⟩
      rotate_left
      · intro W; go_simp; first | done | rfl
      conv => arg 6; simp only [Act.put, List.setIfInBounds_toArray, List.set_cons_zero, List.set_cons_succ]
      refine ⟨_, ?_, rfl, by rfl, ?_, ?_⟩
      rotate_left
      · rintro W rfl
        have yq := HQ1.out.drewN 1
        obtain ⟨y0, y1, _, _⟩ := ptR_cell yq.b
        have yd := HD.out (w1.drewN 1) yq.bel
        obtain ⟨y2, y3⟩ := yd
        have y0' : w1.drew.cell? ⟨w.heap.size + 1 + 1 + 1, 0, none⟩ = some (.int .i64 hi.1) := y0
        have y1' : w1.drew.cell? ⟨w.heap.size + 1 + 1 + 1, 1, none⟩ = some (.int .i64 hi.2) := y1
        have y2' : w1.drew.cell? ⟨bk, (j + 1) * 2, none⟩ = some (.int .i64 d.1) := y2
        have y3' : w1.drew.cell? ⟨bk, (j + 1) * 2 + 1, none⟩ = some (.int .i64 d.2) := y3
        clear y0 y1 y2 y3 yq
        go_simp; first | done | rfl
      conv => arg 6; simp only [Act.put, List.setIfInBounds_toArray, List.set_cons_zero, List.set_cons_succ]
      refine ⟨_, ?_, rfl, by rfl, ?_, ?_⟩
      rotate_left
      · intro W; go_simp; first | done | rfl
      conv => arg 6; simp only [Act.put, List.setIfInBounds_toArray, List.set_cons_zero, List.set_cons_succ]
      refine ⟨_, ?_, rfl, by rfl, ?_, ?_⟩
      rotate_left
      · intro W; go_simp; first | done | rfl
      conv => arg 6; simp only [Act.put, List.setIfInBounds_toArray, List.set_cons_zero, List.set_cons_succ]
      refine ⟨_, rfl, by rfl, fun K hK => ?_⟩
      have z := ptR_cell HQ1.out.b
      obtain ⟨z0, z1, z2, z3⟩ := z
      have z2' : w1.drew.frozen? ⟨w.heap.size + 1 + 1 + 1, 0, none⟩ = false := z2
      have z3' : w1.drew.frozen? ⟨w.heap.size + 1 + 1 + 1, 1, none⟩ = false := z3
      have z0' : w1.drew.cell? ⟨w.heap.size + 1 + 1 + 1, 0, none⟩ = some (.int .i64 hi.1) := z0
      have z1' : w1.drew.cell? ⟨w.heap.size + 1 + 1 + 1, 1, none⟩ = some (.int .i64 hi.2) := z1
      go_simp
      refine hK _ _ ?_
      clear hK K z0 z1 z2 z3 z0' z1' z2' z3'
      conv => arg 6; simp only [Act.put, List.setIfInBounds_toArray, List.set_cons_zero, List.set_cons_succ]
      unfold wpSq
      rw [max_ifR, max_ifR]
      have HQ2 : Hid (Bq w (loP lo d) (hiP hi d) ((w1.setCell ⟨w.heap.size + 1 + 1 + 1, 0, none⟩ (.int .i64 (max hi.1 d.1))).setCell ⟨w.heap.size + 1 + 1 + 1, 1, none⟩ (.int .i64 (max hi.2 d.2))).drew) := (HQ1.out.putB (hiP hi d)).drewN 1
      generalize ((w1.setCell ⟨w.heap.size + 1 + 1 + 1, 0, none⟩ (.int .i64 (max hi.1 d.1))).setCell ⟨w.heap.size + 1 + 1 + 1, 1, none⟩ (.int .i64 (max hi.2 d.2))).drew = w2 at *
      clear HQ1
      go_wp2_with fail
      go_roundg (r.length - (j + 1))
      case measure => rw [HM.out]; omega
      case rel => exact ⟨j + 1, rfl, hlt, by go_num, by rw [HE.out.1, HE.out.2]; exact HQ2.out⟩
    · obtain rfl : j = r.length := by omega
      have hg : decide ((r.length : Int) + 1 < ((r.length + 1 : Nat) : Int)) = false := by simp
      have hg' : decide ((r.length : Int) + 1 < (r.length : Int) + 1) = false := by simp
      rw [List.take_length] at HQ
      have HLO : Hid (r.foldl loP c = r.foldl loP c ∧ r.foldl hiP c = r.foldl hiP c) := ⟨rfl, rfl⟩
      obtain ⟨lo, hlo⟩ : ∃ lo, lo = r.foldl loP c := ⟨_, rfl⟩
      obtain ⟨hi, hhi⟩ : ∃ hi, hi = r.foldl hiP c := ⟨_, rfl⟩
      rw [← hlo, ← hhi] at HQ
      have HEQ := Lib.hid (And.intro hlo hhi)
      clear hlo hhi HLO
      obtain ⟨a0, a1, a2, a3⟩ := ptR_cell HQ.out.a
      obtain ⟨b0, b1, b2, b3⟩ := ptR_cell HQ.out.b
      obtain ⟨p0, p1, p2, p3⟩ := ptR_cell HQ.out.r0
      obtain ⟨q0, q1, q2, q3⟩ := ptR_cell HQ.out.r1
      go_upto_region 10 with fail
      go_region_with fail
      all_goals
        go_wp2_with fail
        have n0 := ptR_put HQ.out.r0 lo.1 lo.2
        have n1 := ptR_other HQ.out.r1 (show w.heap.size + 1 ≠ w.heap.size by omega) (.int .i64 lo.1) (.int .i64 lo.2)
        have m0 := ptR_other n0 (show w.heap.size ≠ w.heap.size + 1 by omega) (.int .i64 hi.1) (.int .i64 hi.2)
        have m1 := ptR_put n1 hi.1 hi.2
        obtain ⟨y0, y1⟩ := pt_cells7 m0
        obtain ⟨y2, y3⟩ := pt_cells7 m1
        refine bodyPost_ret (v := _) (by simp [results, Tryz.results12, go_sem, y0, y1, y2, y3]; rfl) rfl ?_
        rw [← HEQ.out.1, ← HEQ.out.2]
        exact ⟨rfl, below_drewN ((((HQ.out.bel.setCell (p := ⟨w.heap.size, 0, none⟩) (Nat.le_refl _) _).setCell (p := ⟨w.heap.size, 1, none⟩) (Nat.le_refl _) _).setCell (p := ⟨w.heap.size + 1, 0, none⟩) (Nat.le_succ _) _).setCell (p := ⟨w.heap.size + 1, 1, none⟩) (Nat.le_succ _) _) 1⟩
end Go.Proofs.YtaapkngpnlnjeaaGreat
