/- The law GridRects: its walk. -/
import Derived.Test.YtlafbkehlglfoaaDoorGr3
namespace Go.Proofs.YtlafbkehlglfoaaDoor
open Go.RowKit

/-- The law's variables, in memory. -/
structure RS (w : World) (r o p an oo : List Int) (b11 b13 : Nat) (W : World) : Prop where
  bel : Below w.heap.size w W
  r : Nums W w.heap.size r
  o : Nums W (w.heap.size + 1) o
  p : Nums W (w.heap.size + 1 + 1) p
  an : Nums W b11 an
  oo : Nums W b13 oo
  l11 : w.heap.size ≤ b11
  l13 : w.heap.size ≤ b13
theorem RS.later {w W W' : World} {r o p an oo : List Int} {b11 b13 : Nat} (h : RS w r o p an oo b11 b13 W) (hb : Below W.heap.size W W') : RS w r o p an oo b11 b13 W' :=
  ⟨h.bel.trans (hb.mono h.bel.size), h.r.later hb, h.o.later hb, h.p.later hb, h.an.later hb, h.oo.later hb, h.l11, h.l13⟩
theorem RS.drewN {w W : World} {r o p an oo : List Int} {b11 b13 : Nat} (h : RS w r o p an oo b11 b13 W) (q : Nat) : RS w r o p an oo b11 b13 (W.drewN q) :=
  ⟨⟨h.bel.os, h.bel.tape, h.bel.output, h.bel.size, h.bel.block⟩, h.r, h.o, h.p, h.an, h.oo, h.l11, h.l13⟩
/-- Ahead of the law's variables and, or. -/
structure RS0 (w : World) (r o p : List Int) (W : World) : Prop where
  bel : Below w.heap.size w W
  r : Nums W w.heap.size r
  o : Nums W (w.heap.size + 1) o
  p : Nums W (w.heap.size + 1 + 1) p
theorem RS0.later {w W W' : World} {r o p : List Int} (h : RS0 w r o p W) (hb : Below W.heap.size W W') : RS0 w r o p W' :=
  ⟨h.bel.trans (hb.mono h.bel.size), h.r.later hb, h.o.later hb, h.p.later hb⟩
theorem rs_start (w : World) (x y X Y a b c d u v : Int) (t t' : TypeId) : ∃ W, ((w.alloc (.cells #[.int .i64 x, .int .i64 y, .int .i64 X, .int .i64 Y] t)).alloc (.cells #[.int .i64 a, .int .i64 b, .int .i64 c, .int .i64 d] t)).alloc (.cells #[.int .i64 u, .int .i64 v] t') = W ∧ RS0 w [x, y, X, Y] [a, b, c, d] [u, v] W := by
  refine ⟨_, rfl, by go_grown, ((rc_new w x y X Y t).later (bel1 _ _)).later (bel1 _ _), ?_, ?_⟩
  · have := (rc_new (w.alloc (.cells #[.int .i64 x, .int .i64 y, .int .i64 X, .int .i64 Y] t)) a b c d t).later (bel1 _ (.cells #[.int .i64 u, .int .i64 v] t'))
    simpa using this
  · have := pt_new ((w.alloc (.cells #[.int .i64 x, .int .i64 y, .int .i64 X, .int .i64 Y] t)).alloc (.cells #[.int .i64 a, .int .i64 b, .int .i64 c, .int .i64 d] t)) u v t'
    simpa using this

set_option maxRecDepth 100000 in
set_option maxHeartbeats 4000000 in
theorem grects_out (x y X Y a b c d u v : Int) (w : World) (h : Tab16 w) (hf : ([x, y, X, Y].all (inB 4611686018427387904) && [a, b, c, d].all (inB 4611686018427387904)) = false) :
    Calls Tryd.prog 4 #[.agg #[.int .i64 x, .int .i64 y, .int .i64 X, .int .i64 Y], .agg #[.int .i64 a, .int .i64 b, .int .i64 c, .int .i64 d], .agg #[.int .i64 u, .int .i64 v]] w fun e w' => e = .returned (.bool true) ∧ Below w.heap.size w w' := by
  obtain ⟨W0, hW0, hh0⟩ := rs_start w x y X Y a b c d u v 34 23
  have H0 := Lib.hid hh0
  have HW := Lib.hid hW0
  have HT := Lib.hid h
  have HF1 := Lib.hid (fun w => fits_any x y X Y w)
  have HF2 := Lib.hid (fun w => fits_any a b c d w)
  generalize [x, y, X, Y].all (inB 4611686018427387904) = f1 at *
  generalize [a, b, c, d].all (inB 4611686018427387904) = f2 at *
  clear hh0 hW0 h
  have ht := HT.out.lt
  go_enter Tryd.func4, Tryd.ntmps4
  go_wp2_with fail
  rw [HW.out]
  refine (lives4_any _ (HT.out.later H0.out.bel ht)).mono ?_
  rintro e w1 ⟨rfl, hb⟩
  have HH1 := Lib.hid (H0.out.later hb)
  clear hb H0 HW W0
  obtain ⟨c0, c1, c2, c3, _⟩ := HH1.out.r.four
  go_wp2_with fail
  refine (HF1.out _).mono ?_
  rintro e w2 ⟨rfl, hb⟩
  have HH2 := Lib.hid (HH1.out.later hb)
  clear hb HH1 c0 c1 c2 c3
  obtain ⟨d0, d1, d2, d3, _⟩ := HH2.out.o.four
  cases f1 with
  | false =>
    go_wp2_with fail
    refine (lives4_any _ (HT.out.later HH2.out.bel ht)).mono ?_
    rintro e w3 ⟨rfl, hb⟩
    have HH3 := Lib.hid (HH2.out.later hb)
    clear hb
    go_wp2
    go_ret
    exact ⟨rfl, HH3.out.bel⟩
  | true =>
    obtain rfl : f2 = false := by simpa using hf
    go_wp2_with fail
    refine (HF2.out _).mono ?_
    rintro e w3 ⟨rfl, hb⟩
    have HH3 := Lib.hid (HH2.out.later hb)
    clear hb HH2 d0 d1 d2 d3
    go_wp2_with fail
    refine (lives4_any _ (HT.out.later HH3.out.bel ht)).mono ?_
    rintro e w4 ⟨rfl, hb⟩
    have HH4 := Lib.hid (HH3.out.later hb)
    clear hb
    go_wp2
    go_ret
    exact ⟨rfl, HH4.out.bel⟩
end Go.Proofs.YtlafbkehlglfoaaDoor
