/- Package area: moved, quarter, whole: contracts. -/
import Derived.Test.YtfohkbgacpokoaaA8
import Derived.Laws.StructEq
namespace Go.Proofs.Ytfohkbgacpokoaa
open Go.RowKit Go.Maps
set_option maxRecDepth 100000

/-- The blocks of moved: a rectangle, a point, the result. -/
structure Hm (w : World) (x y X Y a b : Int) (W : World) : Prop where
  bel : Below w.heap.size w W
  one : Nums W w.heap.size [x, y, X, Y]
  two : Nums W (w.heap.size + 1) [a, b]
  res : Nums W (w.heap.size + 1 + 1) [0, 0, 0, 0]
theorem Hm.later {w W W' : World} {x y X Y a b : Int} (h : Hm w x y X Y a b W) (hb : Below W.heap.size W W') : Hm w x y X Y a b W' :=
  ⟨h.bel.trans (hb.mono h.bel.size), h.one.later hb, h.two.later hb, h.res.later hb⟩
theorem Hm.drewN {w W : World} {x y X Y a b : Int} (h : Hm w x y X Y a b W) (q : Nat) : Hm w x y X Y a b (W.drewN q) :=
  ⟨⟨h.bel.os, h.bel.tape, h.bel.output, h.bel.size, h.bel.block⟩, h.one, h.two, h.res⟩
theorem hm_start (w : World) (x y X Y a b : Int) : ∃ W, ((w.alloc (.cells #[.int .i64 x, .int .i64 y, .int .i64 X, .int .i64 Y] 26)).alloc (.cells #[.int .i64 a, .int .i64 b] 23)).alloc (.cells #[.int .i64 0, .int .i64 0, .int .i64 0, .int .i64 0] 26) = W ∧ Hm w x y X Y a b W := by
  refine ⟨_, rfl, by go_grown, ((rc_new w x y X Y _).later (bel1 _ _)).later (bel1 _ _), ?_, ?_⟩
  · have := (pt_new (w.alloc (.cells #[.int .i64 x, .int .i64 y, .int .i64 X, .int .i64 Y] 26)) a b 23).later (bel1 _ (.cells #[.int .i64 0, .int .i64 0, .int .i64 0, .int .i64 0] 26))
    simpa using this
  · have := rc_new ((w.alloc (.cells #[.int .i64 x, .int .i64 y, .int .i64 X, .int .i64 Y] 26)).alloc (.cells #[.int .i64 a, .int .i64 b] 23)) 0 0 0 0 26
    simpa using this
theorem hm_done {w W : World} {x y X Y a b : Int} (h : Hm w x y X Y a b W) {s0 s1 s2 s3 : Int} : Below w.heap.size w ((((W.setCell ⟨w.heap.size + 1 + 1, 0, none⟩ (.int .i64 s0)).setCell ⟨w.heap.size + 1 + 1, 1, none⟩ (.int .i64 s1)).setCell ⟨w.heap.size + 1 + 1, 2, none⟩ (.int .i64 s2)).setCell ⟨w.heap.size + 1 + 1, 3, none⟩ (.int .i64 s3)) ∧ Nums ((((W.setCell ⟨w.heap.size + 1 + 1, 0, none⟩ (.int .i64 s0)).setCell ⟨w.heap.size + 1 + 1, 1, none⟩ (.int .i64 s1)).setCell ⟨w.heap.size + 1 + 1, 2, none⟩ (.int .i64 s2)).setCell ⟨w.heap.size + 1 + 1, 3, none⟩ (.int .i64 s3)) (w.heap.size + 1 + 1) [s0, s1, s2, s3] := by
  obtain ⟨W', hW', hb, hn⟩ := put_four h.res h.bel (by omega) s0 s1 s2 s3
  rw [hW']
  exact ⟨hb, hn⟩
set_option maxHeartbeats 4000000 in
theorem moved_any (x y X Y a b : Int) (h1 : I64 (x + a)) (h2 : I64 (y + b)) (h3 : I64 (X + a)) (h4 : I64 (Y + b)) (w : World) : Calls Try.prog 32 #[.agg #[.int .i64 x, .int .i64 y, .int .i64 X, .int .i64 Y], .agg #[.int .i64 a, .int .i64 b]] w fun e w' => e = .returned (.agg #[.int .i64 (x + a), .int .i64 (y + b), .int .i64 (X + a), .int .i64 (Y + b)]) ∧ Below w.heap.size w w' := by
  obtain ⟨W0, hW0, hh0⟩ := hm_start w x y X Y a b
  have H0 := Lib.hid hh0
  have HW := Lib.hid hW0
  clear hh0 hW0
  go_enter Try.func32, Try.ntmps32
  go_upto_region 1 with fail
  rw [HW.out]
  clear HW
  have hh := H0.out.drewN 1
  obtain ⟨c0, c1, c2, c3, _⟩ := H0.out.one.four
  obtain ⟨d0, d1, _⟩ := H0.out.two.two
  have n1 : ¬ w.heap.size = w.heap.size + 1 + 1 := by omega
  have n2 : ¬ w.heap.size + 1 + 1 = w.heap.size := by omega
  go_cut [] from 0 to 0 (fun wx => Below w.heap.size w wx ∧ Nums wx (w.heap.size + 1 + 1) [x + a, y + b, X + a, Y + b])
  case first =>
    go_region_held3 (fun w' => w'.cell? ⟨w.heap.size, 0, none⟩ = some (.int .i64 x) ∧ w'.cell? ⟨w.heap.size, 1, none⟩ = some (.int .i64 y) ∧ w'.cell? ⟨w.heap.size, 2, none⟩ = some (.int .i64 X) ∧ w'.cell? ⟨w.heap.size, 3, none⟩ = some (.int .i64 Y) ∧ w'.cell? ⟨w.heap.size + 1, 0, none⟩ = some (.int .i64 a) ∧ w'.cell? ⟨w.heap.size + 1, 1, none⟩ = some (.int .i64 b)) (go_keep)
      (first
        | (go_at_call 51; refine (plus_any _ _ _ _ (by assumption) (by assumption) _).mono ?_; rintro e wl ⟨rfl, hb⟩; have hl := Hm.later (by assumption) hb; have k1 := hl.one.four; have k2 := hl.two.two; have k3 := hl.res.four; clear hb))
    all_goals go_wp2_with fail
    all_goals go_meet
    all_goals first | exact hm_done hl | exact hm_done (by assumption)
  case rest =>
  obtain ⟨hbw, hn⟩ := hcut
  obtain ⟨q0, q1, q2, q3, _⟩ := hn.four
  go_wp2
  refine bodyPost_ret (v := _) (by simp [results, Try.results32, go_sem, q0, q1, q2, q3]; rfl) rfl ?_
  exact ⟨rfl, hbw⟩
end Go.Proofs.Ytfohkbgacpokoaa
