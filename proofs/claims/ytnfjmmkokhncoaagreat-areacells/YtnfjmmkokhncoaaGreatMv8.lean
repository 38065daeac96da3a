/- Package area: a change without cells, moved: contracts. -/
import Derived.Test.YtnfjmmkokhncoaaGreatIn8
namespace Go.Proofs.YtnfjmmkokhncoaaGreat
open Go.RowKit Go.Maps
set_option maxRecDepth 100000

theorem mk0 (w : World) : (Instr.makeSlice 36 (.int .i64 0) (.int .i64 0)).run Tryz.prog w = .ok (.slice (some ⟨w.heap.size, 0, none⟩) 0 0) (w.alloc (.cells #[] 24)) := by kernel_rfl
set_option maxHeartbeats 2000000 in
theorem movedCells_nil (a : Option Addr) (cp : Nat) (p q : Int) (w : World) : Calls Tryz.prog 53 #[.slice a 0 cp, .agg #[.int .i64 p, .int .i64 q]] w fun e w' => ∃ a' : Option Addr, e = .returned (.slice a' 0 0) ∧ Below w.heap.size w w' := by
  have hmk := fun W => mk0 W
  go_enter Tryz.func53, Tryz.ntmps53
  go_wp2_with fail
  go_loopg [13] 0 (fun m cnt wz => cnt = .int .i64 0 ∧ m = 0 ∧ Below w.heap.size w wz)
  case atStart => exact ⟨rfl, rfl, by go_grown⟩
  case round =>
    obtain ⟨rfl, rfl, hb⟩ := hrel
    have HB := Lib.hid hb
    clear hb
    go_wp2_with fail
    go_ret
    exact ⟨_, rfl, HB.out⟩
/-- The blocks of moved: a change, a point, the result. -/
structure Hc (w : World) (r : R4) (a : Option Addr) (cp : Nat) (p q : Int) (W : World) : Prop where
  bel : Below w.heap.size w W
  one : W.heap[w.heap.size]? = some (chO r (.slice a 0 cp))
  two : Nums W (w.heap.size + 1) [p, q]
  res : W.heap[w.heap.size + 1 + 1]? = some (chO ⟨0, 0, 0, 0⟩ (.slice none 0 0))
theorem Hc.later {w W W' : World} {r : R4} {a : Option Addr} {cp : Nat} {p q : Int} (h : Hc w r a cp p q W) (hb : Below W.heap.size W W') : Hc w r a cp p q W' :=
  ⟨h.bel.trans (hb.mono h.bel.size), keep8 h.one hb, h.two.later hb, keep8 h.res hb⟩
theorem Hc.drewN {w W : World} {r : R4} {a : Option Addr} {cp : Nat} {p q : Int} (h : Hc w r a cp p q W) (k : Nat) : Hc w r a cp p q (W.drewN k) :=
  ⟨⟨h.bel.os, h.bel.tape, h.bel.output, h.bel.size, h.bel.block⟩, h.one, h.two, h.res⟩
theorem Hc.cells {w W : World} {r : R4} {a : Option Addr} {cp : Nat} {p q : Int} (h : Hc w r a cp p q W) :
    (W.cell? ⟨w.heap.size, 0, none⟩ = some (.int .i64 r.x) ∧ W.cell? ⟨w.heap.size, 1, none⟩ = some (.int .i64 r.y) ∧ W.cell? ⟨w.heap.size, 2, none⟩ = some (.int .i64 r.X) ∧ W.cell? ⟨w.heap.size, 3, none⟩ = some (.int .i64 r.Y) ∧ W.cell? ⟨w.heap.size, 4, none⟩ = some (.slice a 0 cp)) ∧
    (W.cell? ⟨w.heap.size + 1, 0, none⟩ = some (.int .i64 p) ∧ W.cell? ⟨w.heap.size + 1, 1, none⟩ = some (.int .i64 q)) ∧
    (W.cell? ⟨w.heap.size + 1 + 1, 0, none⟩ = some (.int .i64 0) ∧ W.cell? ⟨w.heap.size + 1 + 1, 1, none⟩ = some (.int .i64 0) ∧ W.cell? ⟨w.heap.size + 1 + 1, 2, none⟩ = some (.int .i64 0) ∧ W.cell? ⟨w.heap.size + 1 + 1, 3, none⟩ = some (.int .i64 0) ∧ W.cell? ⟨w.heap.size + 1 + 1, 4, none⟩ = some (.slice none 0 0)) ∧
    W.frozen? ⟨w.heap.size + 1 + 1, 0, none⟩ = false ∧ W.frozen? ⟨w.heap.size + 1 + 1, 1, none⟩ = false ∧ W.frozen? ⟨w.heap.size + 1 + 1, 2, none⟩ = false ∧ W.frozen? ⟨w.heap.size + 1 + 1, 3, none⟩ = false ∧ W.frozen? ⟨w.heap.size + 1 + 1, 4, none⟩ = false := by
  obtain ⟨t0, t1, _⟩ := h.two.two
  exact ⟨ch_cells h.one, ⟨t0, t1⟩, ch_cells h.res, Lib.frozen_of_heap h.res 0, Lib.frozen_of_heap h.res 1, Lib.frozen_of_heap h.res 2, Lib.frozen_of_heap h.res 3, Lib.frozen_of_heap h.res 4⟩
theorem hc_done {w W : World} {r : R4} {a a' : Option Addr} {cp : Nat} {p q s0 s1 s2 s3 : Int} (h : Hc w r a cp p q W) : Below w.heap.size w (((((W.setCell ⟨w.heap.size + 1 + 1, 0, none⟩ (.int .i64 s0)).setCell ⟨w.heap.size + 1 + 1, 1, none⟩ (.int .i64 s1)).setCell ⟨w.heap.size + 1 + 1, 2, none⟩ (.int .i64 s2)).setCell ⟨w.heap.size + 1 + 1, 3, none⟩ (.int .i64 s3)).setCell ⟨w.heap.size + 1 + 1, 4, none⟩ (.slice a' 0 0)) ∧ (((((W.setCell ⟨w.heap.size + 1 + 1, 0, none⟩ (.int .i64 s0)).setCell ⟨w.heap.size + 1 + 1, 1, none⟩ (.int .i64 s1)).setCell ⟨w.heap.size + 1 + 1, 2, none⟩ (.int .i64 s2)).setCell ⟨w.heap.size + 1 + 1, 3, none⟩ (.int .i64 s3)).setCell ⟨w.heap.size + 1 + 1, 4, none⟩ (.slice a' 0 0)).heap[w.heap.size + 1 + 1]? = some (chO ⟨s0, s1, s2, s3⟩ (.slice a' 0 0)) := by
  refine ⟨(((((h.bel.setCell (p := ⟨w.heap.size + 1 + 1, 0, none⟩) (by show _ ≤ w.heap.size + 1 + 1; omega) _).setCell (p := ⟨w.heap.size + 1 + 1, 1, none⟩) (by show _ ≤ w.heap.size + 1 + 1; omega) _).setCell (p := ⟨w.heap.size + 1 + 1, 2, none⟩) (by show _ ≤ w.heap.size + 1 + 1; omega) _).setCell (p := ⟨w.heap.size + 1 + 1, 3, none⟩) (by show _ ≤ w.heap.size + 1 + 1; omega) _).setCell (p := ⟨w.heap.size + 1 + 1, 4, none⟩) (by show _ ≤ w.heap.size + 1 + 1; omega) _), ?_⟩
  have := h.res
  simp only [World.setCell, Array.getElem?_modify, this, chO]; simp
set_option maxHeartbeats 4000000 in
theorem cmoved_nil (r : R4) (a : Option Addr) (cp : Nat) (p q : Int) (h1 : I64 (r.x + p)) (h2 : I64 (r.y + q)) (h3 : I64 (r.X + p)) (h4 : I64 (r.Y + q)) (w : World) : Calls Tryz.prog 71 #[.agg #[.int .i64 r.x, .int .i64 r.y, .int .i64 r.X, .int .i64 r.Y, .slice a 0 cp], .agg #[.int .i64 p, .int .i64 q]] w fun e w' => ∃ a' : Option Addr, e = .returned (.agg #[.int .i64 (r.x + p), .int .i64 (r.y + q), .int .i64 (r.X + p), .int .i64 (r.Y + q), .slice a' 0 0]) ∧ Below w.heap.size w w' := by
  have hh0 : Hc w r a cp p q (((w.alloc (.cells #[.int .i64 r.x, .int .i64 r.y, .int .i64 r.X, .int .i64 r.Y, .slice a 0 cp] 92)).alloc (.cells #[.int .i64 p, .int .i64 q] 24)).alloc (.cells #[.int .i64 0, .int .i64 0, .int .i64 0, .int .i64 0, .slice none 0 0] 92)) := by
    refine ⟨by go_grown, keep8 (keep8 (heap_alloc_new w _) (bel1 _ _)) (bel1 _ _), ?_, ?_⟩
    · have := (pt_new (w.alloc (.cells #[.int .i64 r.x, .int .i64 r.y, .int .i64 r.X, .int .i64 r.Y, .slice a 0 cp] 92)) p q 24).later (bel1 _ (.cells #[.int .i64 0, .int .i64 0, .int .i64 0, .int .i64 0, .slice none 0 0] 92))
      simpa using this
    · exact new_3 w _ _ _
  have HMV := Lib.hid (fun W => moved_any r.x r.y r.X r.Y p q h1 h2 h3 h4 W)
  have HMC := Lib.hid (fun W => movedCells_nil a cp p q W)
  have H0 := Lib.hid hh0
  clear hh0 h1 h2 h3 h4
  generalize r.x + p = s0 at *
  generalize r.y + q = s1 at *
  generalize r.X + p = s2 at *
  generalize r.Y + q = s3 at *
  go_enter Tryz.func71, Tryz.ntmps71
  go_upto_region 1 with fail
  generalize ((w.alloc (.cells #[.int .i64 r.x, .int .i64 r.y, .int .i64 r.X, .int .i64 r.Y, .slice a 0 cp] 92)).alloc (.cells #[.int .i64 p, .int .i64 q] 24)).alloc (.cells #[.int .i64 0, .int .i64 0, .int .i64 0, .int .i64 0, .slice none 0 0] 92) = W0 at *
  have hh := H0.out.drewN 1
  obtain ⟨⟨c0, c1, c2, c3, c4⟩, ⟨d0, d1⟩, _⟩ := H0.out.cells
  have n1 : ¬ w.heap.size = w.heap.size + 1 + 1 := by omega
  have n2 : ¬ w.heap.size + 1 + 1 = w.heap.size := by omega
  go_cut [] from 0 to 0 (fun wx => ∃ a' : Option Addr, Below w.heap.size w wx ∧ wx.heap[w.heap.size + 1 + 1]? = some (chO ⟨s0, s1, s2, s3⟩ (.slice a' 0 0)))
  case first =>
    go_region_held3 (fun w' => (w'.cell? ⟨w.heap.size, 0, none⟩ = some (.int .i64 r.x) ∧ w'.cell? ⟨w.heap.size, 1, none⟩ = some (.int .i64 r.y) ∧ w'.cell? ⟨w.heap.size, 2, none⟩ = some (.int .i64 r.X) ∧ w'.cell? ⟨w.heap.size, 3, none⟩ = some (.int .i64 r.Y) ∧ w'.cell? ⟨w.heap.size, 4, none⟩ = some (.slice a 0 cp)) ∧ w'.cell? ⟨w.heap.size + 1, 0, none⟩ = some (.int .i64 p) ∧ w'.cell? ⟨w.heap.size + 1, 1, none⟩ = some (.int .i64 q)) (go_keep)
      (first
        | (go_at_call 32; refine (HMV.out _).mono ?_; rintro e wl ⟨rfl, hb⟩; have hl := Hc.later (by assumption) hb; have k1 := hl.cells; clear hb)
        | (go_at_call 53; refine (HMC.out _).mono ?_; rintro e wg ⟨a9, rfl, hb⟩; have hl := Hc.later (by assumption) hb; have k1 := hl.cells; clear hb))
    all_goals go_wp2_with fail
    all_goals go_meet
    all_goals first | exact ⟨a9, hc_done hl⟩ | exact ⟨a9, hc_done (by assumption)⟩
  case rest =>
  obtain ⟨a', hbw, hn⟩ := hcut
  obtain ⟨q0, q1, q2, q3, q4⟩ := ch_cells hn
  go_wp2
  refine bodyPost_ret (v := _) (by simp [results, Tryz.results71, go_sem, q0, q1, q2, q3, q4]; rfl) rfl ?_
  exact ⟨⟨a', rfl⟩, hbw⟩
end Go.Proofs.YtnfjmmkokhncoaaGreat
