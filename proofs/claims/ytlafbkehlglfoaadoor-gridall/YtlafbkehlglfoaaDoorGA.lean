/- The law GridAll: its walk. -/
import Derived.Test.YtlafbkehlglfoaaDoorGrAll
namespace Go.Proofs.YtlafbkehlglfoaaDoor
open Go.RowKit Go.Shelf

attribute [local go_sem] Oper.semAt_some

theorem Nums.one {w : World} {b : Nat} {x : Int} (h : Nums w b [x]) : w.cell? ⟨b, 0, none⟩ = some (.int .i64 x) ∧ w.frozen? ⟨b, 0, none⟩ = false := ⟨(h.2 0 x rfl).1, (h.2 0 x rfl).2⟩
theorem Nums.other' {w : World} {b b' i : Nat} {zs : List Int} {v : Value} (h : Nums w b zs) (hne : b ≠ b') : Nums (w.setCell ⟨b', i, none⟩ v) b zs := by
  refine ⟨by simpa using h.1, fun j z hz => ⟨?_, by simpa using (h.2 j z hz).2⟩⟩
  rw [World.cell?_setCell_other _ _ _ _ (by intro e; first | exact hne (congrArg Addr.block e) | exact hne (congrArg Addr.block e).symm)]
  exact (h.2 j z hz).1
theorem put_one {w : World} {b : Nat} {x x' : Int} (h : Nums w b [x]) : Nums (w.setCell ⟨b, 0, none⟩ (.int .i64 x')) b [x'] := by
  refine ⟨by simpa using h.1, fun j z hz => ?_⟩
  match j, hz with
  | 0, hz => obtain rfl : x' = z := by simpa using hz
             exact ⟨World.cell?_setCell_same _ _ _ h.one.1, by simpa using h.one.2⟩
  | j + 1, hz => simp at hz

theorem num_new (w : World) (x : Int) (t : TypeId) : Nums (w.alloc (.cells #[.int .i64 x] t)) w.heap.size [x] := by
  refine ⟨by simp, fun j z hz => ?_⟩
  match j, hz with
  | 0, hz => obtain rfl : x = z := by simpa using hz
             exact ⟨by simp, by simp⟩
  | j + 1, hz => simp at hz
/-- The law's variables, in memory. -/
structure AS (w : World) (x y wz X Y k : Int) (b7 b8 : Nat) (W : World) : Prop where
  bel : Below w.heap.size w W
  p : Nums W w.heap.size [x, y]
  wd : W.cell? ⟨w.heap.size + 1, 0, none⟩ = some (.int .u8 wz)
  res : W.cell? ⟨w.heap.size + 1 + 1, 0, none⟩ = some (.bool false)
  fr : W.frozen? ⟨w.heap.size + 1 + 1, 0, none⟩ = false
  r : Nums W b7 [x, y, X, Y]
  n : Nums W b8 [k]
theorem AS.kept {w W W' : World} {x y wz X Y k : Int} {b7 b8 D : Nat} (h : AS w x y wz X Y k b7 b8 W) (hb : Below w.heap.size w W') (he : ∀ b, b < D → W'.heap[b]? = W.heap[b]?) (hd : w.heap.size + 1 + 1 < D) (h7 : b7 < D) (h8 : b8 < D) : AS w x y wz X Y k b7 b8 W' :=
  ⟨hb, h.p.of_block (he _ (by omega)), (World.cell?_of_block (a := ⟨w.heap.size + 1, 0, none⟩) (he (w.heap.size + 1) (by omega))).trans h.wd, (World.cell?_of_block (a := ⟨w.heap.size + 1 + 1, 0, none⟩) (he _ hd)).trans h.res,
    (World.frozen?_of_block (a := ⟨w.heap.size + 1 + 1, 0, none⟩) (he _ hd)).trans h.fr, h.r.of_block (he _ h7), h.n.of_block (he _ h8)⟩
theorem AS.lt {w W : World} {x y wz X Y k : Int} {b7 b8 : Nat} (h : AS w x y wz X Y k b7 b8 W) : w.heap.size + 1 + 1 < W.heap.size ∧ b7 < W.heap.size ∧ b8 < W.heap.size := ⟨blk_lt h.res, h.r.1, h.n.1⟩
theorem AS.later {w W W' : World} {x y wz X Y k : Int} {b7 b8 : Nat} (h : AS w x y wz X Y k b7 b8 W) (hb : Below W.heap.size W W') : AS w x y wz X Y k b7 b8 W' :=
  h.kept (h.bel.trans (hb.mono h.bel.size)) hb.block h.lt.1 h.lt.2.1 h.lt.2.2
theorem AS.putObj {w W : World} {x y wz X Y k : Int} {b7 b8 D l : Nat} {o : Obj} (h : AS w x y wz X Y k b7 b8 W) (hl : D ≤ l) (hd : w.heap.size + 1 + 1 < D) (h7 : b7 < D) (h8 : b8 < D) : AS w x y wz X Y k b7 b8 (W.putObj l o) :=
  have hB : Below w.heap.size W (W.putObj l o) := ⟨rfl, rfl, rfl, by simp, fun b hb => World.putObj_heap_other (by omega)⟩
  h.kept (D := D) (h.bel.trans hB) (fun b hb => World.putObj_heap_other (by omega)) hd h7 h8
theorem AS.drewN {w W : World} {x y wz X Y k : Int} {b7 b8 : Nat} (h : AS w x y wz X Y k b7 b8 W) (q : Nat) : AS w x y wz X Y k b7 b8 (W.drewN q) :=
  ⟨⟨h.bel.os, h.bel.tape, h.bel.output, h.bel.size, h.bel.block⟩, h.p, h.wd, h.res, h.fr, h.r, h.n⟩
theorem AS.count {w W : World} {x y wz X Y k k' : Int} {b7 b8 : Nat} (h : AS w x y wz X Y k b7 b8 W) (h8 : w.heap.size + 1 + 1 < b8) (h78 : b7 ≠ b8) : AS w x y wz X Y k' b7 b8 (W.setCell ⟨b8, 0, none⟩ (.int .i64 k')) :=
  ⟨h.bel.setCell (p := ⟨b8, 0, none⟩) (by show w.heap.size ≤ b8; omega) _, h.p.other' (by omega), by rw [World.cell?_setCell_other _ _ _ _ (by intro e; have := congrArg Addr.block e; simp at this; omega)]; exact h.wd, by rw [World.cell?_setCell_other _ _ _ _ (by intro e; have := congrArg Addr.block e; simp at this; omega)]; exact h.res,
    by simpa using h.fr, h.r.other' h78, put_one h.n⟩

/-- Ahead of r and n. -/
structure AS0 (w : World) (x y wz : Int) (W : World) : Prop where
  bel : Below w.heap.size w W
  p : Nums W w.heap.size [x, y]
  wd : W.cell? ⟨w.heap.size + 1, 0, none⟩ = some (.int .u8 wz)
  res : W.cell? ⟨w.heap.size + 1 + 1, 0, none⟩ = some (.bool false)
  fr : W.frozen? ⟨w.heap.size + 1 + 1, 0, none⟩ = false
theorem AS0.lt {w W : World} {x y wz : Int} (h : AS0 w x y wz W) : w.heap.size + 1 + 1 < W.heap.size := blk_lt h.res
theorem AS0.later {w W W' : World} {x y wz : Int} (h : AS0 w x y wz W) (hb : Below W.heap.size W W') : AS0 w x y wz W' :=
  have hl := h.lt
  ⟨h.bel.trans (hb.mono h.bel.size), h.p.later hb, (World.cell?_of_block (a := ⟨w.heap.size + 1, 0, none⟩) (hb.block (w.heap.size + 1) (by omega))).trans h.wd, (World.cell?_of_block (a := ⟨w.heap.size + 1 + 1, 0, none⟩) (hb.block _ hl)).trans h.res,
    (World.frozen?_of_block (a := ⟨w.heap.size + 1 + 1, 0, none⟩) (hb.block _ hl)).trans h.fr⟩
theorem as_start (w : World) (x y wz : Int) (t t' t'' : TypeId) : ∃ W, ((w.alloc (.cells #[.int .i64 x, .int .i64 y] t)).alloc (.cells #[.int .u8 wz] t')).alloc (.cells #[.bool false] t'') = W ∧ W.heap.size = w.heap.size + 3 ∧ AS0 w x y wz W := by
  refine ⟨_, rfl, by simp, by go_grown, ((pt_new w x y t).later (bel1 _ _)).later (bel1 _ _), ?_, ?_, ?_⟩
  · have h1 := cell_of_row ((w.alloc (.cells #[.int .i64 x, .int .i64 y] t)).alloc (.cells #[.int .u8 wz] t')) (w.heap.size + 1) 0 _ t' (0, 0) (by have := heap_alloc_new (w.alloc (.cells #[.int .i64 x, .int .i64 y] t)) (.cells #[.int .u8 wz] t'); rw [World.size_alloc] at this; exact this)
    refine (World.cell?_of_block (a := ⟨w.heap.size + 1, 0, none⟩) ((bel1 _ _).block _ (by simp))).trans ?_
    rw [h1]; rfl
  · have h1 := cell_of_row (((w.alloc (.cells #[.int .i64 x, .int .i64 y] t)).alloc (.cells #[.int .u8 wz] t')).alloc (.cells #[.bool false] t'')) (w.heap.size + 1 + 1) 0 _ t'' (0, 0) (by have := heap_alloc_new ((w.alloc (.cells #[.int .i64 x, .int .i64 y] t)).alloc (.cells #[.int .u8 wz] t')) (.cells #[.bool false] t''); rw [World.size_alloc, World.size_alloc] at this; exact this)
    rw [h1]; rfl
  · have h : ∀ W : World, (W.alloc (.cells #[.bool false] t'')).frozen? ⟨W.heap.size, 0, none⟩ = false := fun W => by simp
    have := h ((w.alloc (.cells #[.int .i64 x, .int .i64 y] t)).alloc (.cells #[.int .u8 wz] t'))
    rw [World.size_alloc, World.size_alloc] at this
    exact this

/-- The law's end: the answer is stored, the loops' marks are taken up. -/
theorem gall_end {w W : World} {tmps : Array Value} {D D' : Nat} (hb : Below w.heap.size w W) (hc : W.cell? ⟨w.heap.size + 1 + 1, 0, none⟩ = some (.bool false)) (h1 : w.heap.size + 1 + 1 < D) (h2 : D < D') (hd' : W.heap[D']? = some (.deferred (some []))) (hd : W.heap[D]? = some (.deferred (some []))) (ht : tmps[6]?.getD undef = .pointer (some ⟨w.heap.size + 1 + 1, 0, none⟩)) :
    bodyPostM Fence.wide 9 Tryd.prog Tryd.f5 (fun e w' => e = .returned (.bool true) ∧ Below w.heap.size w w') Exit.ret { tmps := tmps, defers := [{ target := .collected D', args := #[] }, { target := .collected D, args := #[] }] } (W.setCell ⟨w.heap.size + 1 + 1, 0, none⟩ (.bool true)) := by
  have hhs : ∀ b, b ≠ w.heap.size + 1 + 1 → (W.setCell ⟨w.heap.size + 1 + 1, 0, none⟩ (.bool true)).heap[b]? = W.heap[b]? := fun b hb => Below.heap_setCell _ _ _ b hb
  have e1 : (W.setCell ⟨w.heap.size + 1 + 1, 0, none⟩ (.bool true)).heap[D']? = some (.deferred (some [])) := (hhs D' (by omega)).trans hd'
  have e2 : ((W.setCell ⟨w.heap.size + 1 + 1, 0, none⟩ (.bool true)).putObj D' (.deferred none)).heap[D]? = some (.deferred (some [])) := (World.putObj_heap_other (k := D) (r := D') (by omega)).trans ((hhs D (by omega)).trans hd)
  have ec : (((W.setCell ⟨w.heap.size + 1 + 1, 0, none⟩ (.bool true)).putObj D' (.deferred none)).putObj D (.deferred none)).cell? ⟨w.heap.size + 1 + 1, 0, none⟩ = some (.bool true) :=
    (World.cell?_of_block (a := ⟨w.heap.size + 1 + 1, 0, none⟩) ((World.putObj_heap_other (by show w.heap.size + 1 + 1 ≠ D; omega)).trans (World.putObj_heap_other (by show w.heap.size + 1 + 1 ≠ D'; omega)))).trans (World.cell?_setCell_same _ _ _ hc)
  refine ⟨by simp, .inl ⟨_, _, rfl, run_takeDeferred e1, ?_⟩⟩
  refine ⟨by simp, .inl ⟨_, _, rfl, run_takeDeferred e2, ?_⟩⟩
  refine ⟨.bool true, ?_, rfl, ?_⟩
  · simp [results, Tryd.results5, go_sem, ht, ec]
  · have b1 := hb.setCell (p := ⟨w.heap.size + 1 + 1, 0, none⟩) (show w.heap.size ≤ w.heap.size + 1 + 1 by omega) (.bool true)
    have b2 : ∀ (V : World) (l : Nat) (o : Obj), w.heap.size ≤ l → Below w.heap.size V (V.putObj l o) := fun V l o hl => ⟨rfl, rfl, rfl, by simp, fun b hb => World.putObj_heap_other (by omega)⟩
    exact (b1.trans (b2 _ D' _ (by omega))).trans (b2 _ D _ (by omega))

set_option maxRecDepth 100000 in
set_option maxHeartbeats 4000000 in
theorem gall_in (x y wz hz : Int) (wd hg : Nat) (w : World) (h : Tab16 w) (w0 : 0 ≤ wz) (w1 : wz ≤ 255) (h0 : 0 ≤ hz) (h1 : hz ≤ 255) (hwd : wz % 40 = (wd : Int)) (hhg : hz % 40 = (hg : Int)) (hw : 1 ≤ wd) (hh : 1 ≤ hg)
    (x0 : -2305843009213693952 ≤ x) (x1 : x ≤ 2305843009213693952) (y0 : -2305843009213693952 ≤ y) (y1 : y ≤ 2305843009213693952) :
    Calls Tryd.prog 5 #[.agg #[.int .i64 x, .int .i64 y], .int .u8 wz, .int .u8 hz] w fun e w' => e = .returned (.bool true) ∧ Below w.heap.size w w' := by
  obtain ⟨W0, hW0, hs0, hA0⟩ := as_start w x y wz 23 5 4
  have HW := Lib.hid hW0
  have HA0 := Lib.hid hA0
  have HT := Lib.hid h
  clear h hW0 hA0 hs0
  refine (callsIn_wide (n := 9)).1 ?_
  refine callsIn_of_wp_marks Tryd.func5 rfl trivial ?_ rfl
  simp only [Tryd.ntmps5, List.size_toArray, List.length_cons, List.length_nil, Nat.reduceAdd, Nat.reduceSub, Array.replicate_succ, Array.replicate_zero, List.push_toArray, List.append_toArray, List.nil_append, List.cons_append]
  gi_wp2_with fail
  rw [HW.out]
  refine ⟨trivial, CallsIn.mono ((callsIn_wide (n := 8)).2 (lives4_any _ (HT.out.later HA0.out.bel HT.out.lt))) ?_⟩
  rintro e w2 ⟨rfl, hb⟩
  have HA1 := Lib.hid (HA0.out.later hb)
  clear hb HW HA0
  obtain ⟨c0, c1, _⟩ := HA1.out.p.two
  have cw := HA1.out.wd
  have hl0 := HA1.out.p.1
  have hl1 := HA1.out.lt
  have hx0 : decide (2305843009213693952 < x) = false := decide_eq_false (by omega)
  have hx1 : decide (2305843009213693952 < y) = false := decide_eq_false (by omega)
  have hx2 : decide (x < -2305843009213693952) = false := decide_eq_false (by omega)
  have hx3 : decide (y < -2305843009213693952) = false := decide_eq_false (by omega)
  gi_wp2_with fail
  have HA5 : Hid (AS w x y wz (x + wd) (y + hg) 0 w2.heap.size (w2.heap.size + 1) ((w2.alloc (.cells #[.int .i64 x, .int .i64 y, .int .i64 (x + wd), .int .i64 (y + hg)] 34)).alloc (.cells #[.int .i64 0] 2))) := by
    have h1 := (HA1.out.later (bel1 w2 (.cells #[.int .i64 x, .int .i64 y, .int .i64 (x + wd), .int .i64 (y + hg)] 34))).later (bel1 _ (.cells #[.int .i64 0] 2))
    have h2 := (rc_new w2 x y (x + wd) (y + hg) 34).later (bel1 _ (.cells #[.int .i64 0] 2))
    have h3 := num_new (w2.alloc (.cells #[.int .i64 x, .int .i64 y, .int .i64 (x + wd), .int .i64 (y + hg)] 34)) 0 2
    rw [World.size_alloc] at h3
    exact ⟨h1.bel, h1.p, h1.wd, h1.res, h1.fr, h2, h3⟩
  have hb7 := HA1.out.lt
  have hsz : ((w2.alloc (.cells #[.int .i64 x, .int .i64 y, .int .i64 (x + wd), .int .i64 (y + hg)] 34)).alloc (.cells #[.int .i64 0] 2)).heap.size = w2.heap.size + 2 := by simp
  have HSZ := Lib.hid hsz
  clear HA1 c0 c1 cw hl0 hl1 hx0 hx1 hx2 hx3 hsz
  generalize (w2.alloc (.cells #[.int .i64 x, .int .i64 y, .int .i64 (x + wd), .int .i64 (y + hg)] 34)).alloc (.cells #[.int .i64 0] 2) = W5 at HA5 HSZ ⊢
  generalize w2.heap.size = b7 at HA5 HSZ hb7 ⊢
  refine range_meth (by decide) (gf := 24) (first := #[.agg #[.int .i64 x, .int .i64 y, .int .i64 (x + wd), .int .i64 (y + hg)]]) rfl (enters_of Tryd.func24 (by kernel_rfl) rfl) ?_
  intro r W1 hrs hrp hrt hrps hra hrb hW1
  have hDl : b7 + 1 < W5.heap.size := by have := HSZ.out; omega
  have hB1 : W1.heap.size = W5.heap.size + 2 := by rw [hW1]; simp
  refine CallsIn.mono (all_iter x y (x + wd) (y + hg) wd hg 8 hw hh rfl rfl (by omega) (by omega) (by omega) (by omega) (W5.heap.size + 1) (W5.heap.size + 2)
    (fun k W => AS w x y wz (x + wd) (y + hg) (k : Int) b7 (b7 + 1) W ∧ W.heap[W5.heap.size + 1]? = some (.loop r) ∧ W.heap[W5.heap.size]? = some (.deferred (some []))) (fun _ _ => False) ?abide ?round W1 hB1 ?start) ?behind
  case abide =>
    rintro k W W' ⟨h1, h2, h3⟩ hb
    exact ⟨h1.later hb, (hb.block _ (Array.getElem?_eq_some_iff.1 h2).1).trans h2, (hb.block _ (Array.getElem?_eq_some_iff.1 h3).1).trans h3⟩
  case start =>
    have hb1 : Below W5.heap.size W5 W1 := by rw [hW1]; go_grown
    refine ⟨HA5.out.later hb1, ?_, ?_⟩
    · rw [hW1]
      have := World.alloc_heap_new (W5.alloc (.deferred (some []))) (.loop r)
      rw [World.size_alloc] at this
      exact this
    · rw [hW1]
      exact (Below.heap_alloc _ _ _ (by simp)).trans (World.alloc_heap_new W5 _)
  case round =>
    intro i j W hi hj hBW hJ
    obtain ⟨h1, h2, h3⟩ := hJ
    refine yield_round h2 hrs (by rw [hrps]; rfl) ?_
    rw [hra, hrb, hrps, hrt]
    have HJ1 := Lib.hid h1
    have HJ2 := Lib.hid h2
    have HJ3 := Lib.hid h3
    have HRS := Lib.hid hrs
    have HRP := Lib.hid hrp
    have hk0 : ((wd * j + i : Nat) : Int) % (wd : Int) = (i : Int) := by rw [← Int.natCast_emod, Nat.mul_add_mod, Nat.mod_eq_of_lt hi]
    have hk1 : ((wd * j + i : Nat) : Int) / (wd : Int) = (j : Int) := by rw [← Int.natCast_ediv, Nat.mul_add_div (by omega), Nat.div_eq_of_lt hi, Nat.add_zero]
    have hkm : wd * j + i < 1600 := by
      have : wd * j ≤ 39 * 39 := Nat.mul_le_mul (by omega) (by omega)
      omega
    clear h1 h2 h3 hra hrb hrps hrt hrs hrp hW1 hB1
    generalize hk : wd * j + i = k at *
    have HK := Lib.hid hk
    clear hk
    have hlt := HJ1.out.lt
    gi_wp2_with fail
    have hal := bel1 W (.cells #[.int .i64 (x + i), .int .i64 (y + j)] 23)
    have hl2 : (W.alloc (.cells #[.int .i64 (x + i), .int .i64 (y + j)] 23)).heap[W5.heap.size + 1]? = some (.loop r) := (hal.block _ (Array.getElem?_eq_some_iff.1 HJ2.out).1).trans HJ2.out
    refine ⟨hl2, ?_⟩
    obtain ⟨W2, hW2⟩ : ∃ W2, (W.alloc (.cells #[.int .i64 (x + i), .int .i64 (y + j)] 23)).putObj (W5.heap.size + 1) (.loop (busyL r)) = W2 := ⟨_, rfl⟩
    rw [hW2]
    have HA2 : Hid (AS w x y wz (x + wd) (y + hg) (k : Int) b7 (b7 + 1) W2) := by
      show AS _ _ _ _ _ _ _ _ _ _
      rw [← hW2]
      exact (HJ1.out.later hal).putObj (D := W5.heap.size) (by omega) (by omega) (by omega) (by omega)
    have HQ2 : Hid (Nums W2 W.heap.size [x + i, y + j]) := by
      show Nums _ _ _
      rw [← hW2]
      exact (pt_new W (x + i) (y + j) _).of_block (World.putObj_heap_other (by omega))
    have HL2 : Hid (W2.heap[W5.heap.size + 1]? = some (.loop (busyL r))) := by
      show _ = _
      rw [← hW2]
      exact World.putObj_heap_same (Array.getElem?_eq_some_iff.1 hl2).1
    have HD2 : Hid (W2.heap[W5.heap.size]? = some (.deferred (some []))) := by
      show _ = _
      rw [← hW2]
      exact (World.putObj_heap_other (by omega)).trans ((hal.block _ (Array.getElem?_eq_some_iff.1 HJ3.out).1).trans HJ3.out)
    have HB2 : Hid (W2.heap[W5.heap.size + 2]? = W.heap[W5.heap.size + 2]? ∧ W.heap.size ≤ W2.heap.size) := by
      show _ ∧ _
      rw [← hW2]
      exact ⟨(World.putObj_heap_other (by omega)).trans (hal.block _ hBW), by simp⟩
    clear hl2 hal hW2 HJ1 HJ2 HJ3
    obtain ⟨p0, p1, _⟩ := HA2.out.p.two
    have pw := HA2.out.wd
    obtain ⟨n0, n1⟩ := HA2.out.n.one
    obtain ⟨q0, q1, _⟩ := HQ2.out.two
    gi_wp2_with fail
    refine region_round (fun w' => ∃ q, w' = W2.drewN q) (by kernel_rfl) (by kernel_rfl) (by kernel_rfl) ⟨1, rfl⟩ ?_
    repeat (go_big_quiet_step (fail))
    refine wpQuiet_nil ?_
    rintro w3 ⟨nq, hw3⟩
    have HA3 : Hid (AS w x y wz (x + wd) (y + hg) (k : Int) b7 (b7 + 1) w3) := by show AS _ _ _ _ _ _ _ _ _ _; rw [hw3]; exact HA2.out.drewN nq
    have HL3 : Hid (w3.heap[W5.heap.size + 1]? = some (.loop (busyL r))) := by show _ = _; rw [hw3]; exact HL2.out
    have HD3 : Hid (w3.heap[W5.heap.size]? = some (.deferred (some []))) := by show _ = _; rw [hw3]; exact HD2.out
    have HB3 : Hid (w3.heap[W5.heap.size + 2]? = W.heap[W5.heap.size + 2]? ∧ W.heap.size ≤ w3.heap.size) := by show _ ∧ _; rw [hw3]; exact HB2.out
    clear hw3 HA2 HL2 HD2 HB2 HQ2 p0 p1 pw n0 n1 q0 q1
    obtain ⟨n0, n1⟩ := HA3.out.n.one
    gi_wp2_with fail
    have hhs : ∀ b, b ≠ b7 + 1 → (w3.setCell ⟨b7 + 1, 0, none⟩ (.int .i64 ((k : Int) + 1))).heap[b]? = w3.heap[b]? := fun b hb => Below.heap_setCell _ _ _ b hb
    have hln : W5.heap.size + 1 < (w3.setCell ⟨b7 + 1, 0, none⟩ (.int .i64 ((k : Int) + 1))).heap.size := by
      have := (Array.getElem?_eq_some_iff.1 HL3.out).1
      simpa using this
    refine leftBy_normal ((hhs _ (by omega)).trans HL3.out) (Or.inl ⟨rfl, ⟨?_, ?_, ?_⟩, ?_⟩)
    · rw [show ((k + 1 : Nat) : Int) = (k : Int) + 1 by omega]
      exact (HA3.out.count (by omega) (by omega)).putObj (D := W5.heap.size) (by omega) (by omega) (by omega) (by omega)
    · rw [World.putObj_heap_same hln, readyL_eq HRS.out HRP.out]
    · exact (World.putObj_heap_other (by omega)).trans ((hhs _ (by omega)).trans HD3.out)
    · exact (World.putObj_heap_other (by omega)).trans ((hhs _ (by omega)).trans HB3.out.1)
  case behind =>
    rintro e W2 ⟨hv, (⟨h1, h2, h3⟩ | ⟨k, hx⟩)⟩
    · have HA6 : Hid (AS w x y wz (x + wd) (y + hg) ((wd * hg : Nat) : Int) b7 (b7 + 1) (W2.putObj (W5.heap.size + 1) (.loop (overL r)))) := h1.putObj (D := W5.heap.size) (by omega) (by omega) (by omega) (by omega)
      have HD6 : Hid ((W2.putObj (W5.heap.size + 1) (.loop (overL r))).heap[W5.heap.size]? = some (.deferred (some []))) := (World.putObj_heap_other (by omega)).trans h3
      refine ⟨hv, .inl ⟨h2, ?_⟩⟩
      clear h1 h2 h3 hra hrb hrps hrt hrs hrp hW1 hB1 hv
      generalize W2.putObj (W5.heap.size + 1) (.loop (overL r)) = W6 at HA6 HD6 ⊢
      obtain ⟨r0, r1, r2, r3, _⟩ := HA6.out.r.four
      have hlt6 := HA6.out.lt
      gi_wp2_with fail
      have hal := bel1 W6 (.cells #[.int .i64 0] 2)
      have HA7 := Lib.hid (HA6.out.later hal)
      have HD7 : Hid ((W6.alloc (.cells #[.int .i64 0] 2)).heap[W5.heap.size]? = some (.deferred (some []))) := (hal.block _ (Array.getElem?_eq_some_iff.1 HD6.out).1).trans HD6.out
      have HF7 : Hid (Nums (W6.alloc (.cells #[.int .i64 0] 2)) W6.heap.size [0]) := num_new W6 0 _
      have hD6 := (Array.getElem?_eq_some_iff.1 HD6.out).1
      have hs7 : W6.heap.size < (W6.alloc (.cells #[.int .i64 0] 2)).heap.size := by simp
      clear hal HA6 HD6 HA5 HSZ r0 r1 r2 r3 hlt6
      generalize W6.alloc (.cells #[.int .i64 0] 2) = W7 at HA7 HD7 HF7 hs7 ⊢
      generalize W6.heap.size = b10 at HF7 hD6 hs7 ⊢
      refine range_meth (by decide) (gf := 24) (first := #[.agg #[.int .i64 x, .int .i64 y, .int .i64 (x + wd), .int .i64 (y + hg)]]) rfl (enters_of Tryd.func24 (by kernel_rfl) rfl) ?_
      intro r' W8 hrs hrp hrt hrps hra hrb hW8
      have hB8 : W8.heap.size = W7.heap.size + 2 := by rw [hW8]; simp
      refine CallsIn.mono (all_iter x y (x + wd) (y + hg) wd hg 8 hw hh rfl rfl (by omega) (by omega) (by omega) (by omega) (W7.heap.size + 1) (W7.heap.size + 2)
        (fun k W => k = 0 ∧ AS w x y wz (x + wd) (y + hg) ((wd * hg : Nat) : Int) b7 (b7 + 1) W ∧ W.heap[W5.heap.size]? = some (.deferred (some [])) ∧ Nums W b10 [0] ∧ W.heap[W7.heap.size + 1]? = some (.loop r') ∧ W.heap[W7.heap.size]? = some (.deferred (some [])))
        (fun _ W => AS w x y wz (x + wd) (y + hg) ((wd * hg : Nat) : Int) b7 (b7 + 1) W ∧ W.heap[W5.heap.size]? = some (.deferred (some [])) ∧ Nums W b10 [1] ∧ W.heap[W7.heap.size + 1]? = some (.loop (doneL r' (.exit 2))) ∧ W.heap[W7.heap.size]? = some (.deferred (some []))) ?abide2 ?round2 W8 hB8 ?start2) ?behind2
      case abide2 =>
        rintro k W W' ⟨h0, h1, h2, h3, h4, h5⟩ hb
        exact ⟨h0, h1.later hb, (hb.block _ (Array.getElem?_eq_some_iff.1 h2).1).trans h2, h3.later hb, (hb.block _ (Array.getElem?_eq_some_iff.1 h4).1).trans h4, (hb.block _ (Array.getElem?_eq_some_iff.1 h5).1).trans h5⟩
      case start2 =>
        have hb1 : Below W7.heap.size W7 W8 := by rw [hW8]; go_grown
        refine ⟨rfl, HA7.out.later hb1, (hb1.block _ (Array.getElem?_eq_some_iff.1 HD7.out).1).trans HD7.out, HF7.out.later hb1, ?_, ?_⟩
        · rw [hW8]
          have := World.alloc_heap_new (W7.alloc (.deferred (some []))) (.loop r')
          rw [World.size_alloc] at this
          exact this
        · rw [hW8]
          exact (Below.heap_alloc _ _ _ (by simp)).trans (World.alloc_heap_new W7 _)
      case round2 =>
        intro i j W hi hj hBW hJ
        obtain ⟨h0, h1, h2, h3, h4, h5⟩ := hJ
        refine yield_round h4 hrs (by rw [hrps]; rfl) ?_
        rw [hra, hrb, hrps, hrt]
        obtain ⟨W9, hW9⟩ : ∃ W9, W.putObj (W7.heap.size + 1) (.loop (busyL r')) = W9 := ⟨_, rfl⟩
        have HA9 : Hid (AS w x y wz (x + wd) (y + hg) ((wd * hg : Nat) : Int) b7 (b7 + 1) W9) := by
          show AS _ _ _ _ _ _ _ _ _ _
          rw [← hW9]
          exact h1.putObj (D := W5.heap.size) (by omega) (by omega) (by omega) (by omega)
        have HF9 : Hid (Nums W9 b10 [0]) := by show Nums _ _ _; rw [← hW9]; exact h3.of_block (World.putObj_heap_other (by omega))
        have HL9 : Hid (W9.heap[W7.heap.size + 1]? = some (.loop (busyL r'))) := by
          show _ = _
          rw [← hW9]
          exact World.putObj_heap_same (Array.getElem?_eq_some_iff.1 h4).1
        have HD9 : Hid (W9.heap[W7.heap.size]? = some (.deferred (some [])) ∧ W9.heap[W5.heap.size]? = some (.deferred (some []))) := by
          show _ ∧ _
          rw [← hW9]
          exact ⟨(World.putObj_heap_other (by omega)).trans h5, (World.putObj_heap_other (by omega)).trans h2⟩
        have HW9 := Lib.hid hW9
        have H4 := Lib.hid h4
        clear h0 h1 h2 h3 h4 h5 hra hrb hrps hrt hrs hrp hW8 hB8 hW9
        obtain ⟨n0, n1⟩ := HF9.out.one
        gi_wp2_with fail
        refine ⟨H4.out, ?_⟩
        rw [HW9.out]
        clear HW9 H4
        gi_wp2_with fail
        have hhs : ∀ b, b ≠ b10 → (W9.setCell ⟨b10, 0, none⟩ (.int .i64 1)).heap[b]? = W9.heap[b]? := fun b hb => Below.heap_setCell _ _ _ b hb
        have hln : W7.heap.size + 1 < (W9.setCell ⟨b10, 0, none⟩ (.int .i64 1)).heap.size := by
          have := (Array.getElem?_eq_some_iff.1 HL9.out).1
          simpa using this
        refine leftBy_exit ((hhs _ (by omega)).trans HL9.out) (Or.inr ⟨rfl, ?_, ?_, ?_, ?_, ?_⟩)
        · exact (HA9.out.kept (D := W5.heap.size) (HA9.out.bel.setCell (p := ⟨b10, 0, none⟩) (by show w.heap.size ≤ b10; omega) _) (fun b hb => hhs b (by omega)) (by omega) (by omega) (by omega)).putObj (D := W5.heap.size) (by omega) (by omega) (by omega) (by omega)
        · exact (World.putObj_heap_other (by omega)).trans ((hhs _ (by omega)).trans HD9.out.2)
        · exact (put_one HF9.out).of_block (World.putObj_heap_other (by omega))
        · exact World.putObj_heap_same hln
        · exact (World.putObj_heap_other (by omega)).trans ((hhs _ (by omega)).trans HD9.out.1)
      case behind2 =>
        rintro e W9 ⟨hv, (⟨h0, _⟩ | ⟨k, h1, h2, h3, h4, h5⟩)⟩
        · exact absurd h0 (Nat.ne_of_gt (Nat.mul_pos hw hh))
        · have HA9 : Hid (AS w x y wz (x + wd) (y + hg) ((wd * hg : Nat) : Int) b7 (b7 + 1) (W9.putObj (W7.heap.size + 1) (.loop (overL (doneL r' (.exit 2)))))) := h1.putObj (D := W5.heap.size) (by omega) (by omega) (by omega) (by omega)
          have HF9 : Hid (Nums (W9.putObj (W7.heap.size + 1) (.loop (overL (doneL r' (.exit 2))))) b10 [1]) := h3.of_block (World.putObj_heap_other (by omega))
          have HD9 : Hid ((W9.putObj (W7.heap.size + 1) (.loop (overL (doneL r' (.exit 2))))).heap[W7.heap.size]? = some (.deferred (some [])) ∧ (W9.putObj (W7.heap.size + 1) (.loop (overL (doneL r' (.exit 2))))).heap[W5.heap.size]? = some (.deferred (some []))) := ⟨(World.putObj_heap_other (by omega)).trans h5, (World.putObj_heap_other (by omega)).trans h2⟩
          refine ⟨hv, .inr ⟨.exit 2, h4, ?_⟩⟩
          have hpos := Nat.mul_pos hw hh
          have hkm : wd * hg ≤ 39 * 39 := Nat.mul_le_mul (by omega) (by omega)
          clear h1 h2 h3 h4 h5 hra hrb hrps hrt hrs hrp hW8 hB8 hv HA7 HD7 HF7
          generalize W9.putObj (W7.heap.size + 1) (.loop (overL (doneL r' (.exit 2)))) = W10 at HA9 HF9 HD9 ⊢
          rw [Int.natCast_mul] at HA9
          have hkk : (wd : Int) * (hg : Int) = ((wd * hg : Nat) : Int) := (Int.natCast_mul _ _).symm
          have k0 : 1 ≤ (wd : Int) * (hg : Int) := by rw [hkk]; omega
          have k1 : (wd : Int) * (hg : Int) ≤ 1521 := by rw [hkk]; omega
          clear hkk hpos hkm
          generalize hkk : (wd : Int) * (hg : Int) = kk at HA9 k0 k1
          have hmin : (if 1 < kk then 1 else kk) = 1 := by omega
          obtain ⟨n0, n1⟩ := HA9.out.n.one
          obtain ⟨m0, m1⟩ := HF9.out.one
          have pw := HA9.out.wd
          have pr := HA9.out.res
          have pf := HA9.out.fr
          gi_wp2_with fail
          exact gall_end HA9.out.bel HA9.out.res (by omega) (by omega) HD9.out.1 HD9.out.2 rfl
    · exact hx.elim

set_option maxRecDepth 100000 in
set_option maxHeartbeats 4000000 in
theorem gall_none (x y wz hz : Int) (wd hg : Nat) (w : World) (h : Tab16 w) (w0 : 0 ≤ wz) (w1 : wz ≤ 255) (h0 : 0 ≤ hz) (h1 : hz ≤ 255) (hwd : wz % 40 = (wd : Int)) (hhg : hz % 40 = (hg : Int)) (hw : wd = 0 ∨ hg = 0)
    (x0 : -2305843009213693952 ≤ x) (x1 : x ≤ 2305843009213693952) (y0 : -2305843009213693952 ≤ y) (y1 : y ≤ 2305843009213693952) :
    Calls Tryd.prog 5 #[.agg #[.int .i64 x, .int .i64 y], .int .u8 wz, .int .u8 hz] w fun e w' => e = .returned (.bool true) ∧ Below w.heap.size w w' := by
  obtain ⟨W0, hW0, hs0, hA0⟩ := as_start w x y wz 23 5 4
  have HW := Lib.hid hW0
  have HA0 := Lib.hid hA0
  have HT := Lib.hid h
  have HN := Lib.hid (show noPts x y (x + wd) (y + hg) = true by unfold noPts; simp only [Bool.or_eq_true, decide_eq_true_eq]; omega)
  have HP := Lib.hid (show (wd : Int) * (hg : Int) = 0 by rcases hw with h | h <;> simp [h])
  clear h hW0 hA0 hs0
  refine (callsIn_wide (n := 9)).1 ?_
  refine callsIn_of_wp_marks Tryd.func5 rfl trivial ?_ rfl
  simp only [Tryd.ntmps5, List.size_toArray, List.length_cons, List.length_nil, Nat.reduceAdd, Nat.reduceSub, Array.replicate_succ, Array.replicate_zero, List.push_toArray, List.append_toArray, List.nil_append, List.cons_append]
  gi_wp2_with fail
  rw [HW.out]
  refine ⟨trivial, CallsIn.mono ((callsIn_wide (n := 8)).2 (lives4_any _ (HT.out.later HA0.out.bel HT.out.lt))) ?_⟩
  rintro e w2 ⟨rfl, hb⟩
  have HA1 := Lib.hid (HA0.out.later hb)
  clear hb HW HA0
  obtain ⟨c0, c1, _⟩ := HA1.out.p.two
  have cw := HA1.out.wd
  have hl0 := HA1.out.p.1
  have hl1 := HA1.out.lt
  have hx0 : decide (2305843009213693952 < x) = false := decide_eq_false (by omega)
  have hx1 : decide (2305843009213693952 < y) = false := decide_eq_false (by omega)
  have hx2 : decide (x < -2305843009213693952) = false := decide_eq_false (by omega)
  have hx3 : decide (y < -2305843009213693952) = false := decide_eq_false (by omega)
  gi_wp2_with fail
  have HA5 : Hid (AS w x y wz (x + wd) (y + hg) 0 w2.heap.size (w2.heap.size + 1) ((w2.alloc (.cells #[.int .i64 x, .int .i64 y, .int .i64 (x + wd), .int .i64 (y + hg)] 34)).alloc (.cells #[.int .i64 0] 2))) := by
    have h1 := (HA1.out.later (bel1 w2 (.cells #[.int .i64 x, .int .i64 y, .int .i64 (x + wd), .int .i64 (y + hg)] 34))).later (bel1 _ (.cells #[.int .i64 0] 2))
    have h2 := (rc_new w2 x y (x + wd) (y + hg) 34).later (bel1 _ (.cells #[.int .i64 0] 2))
    have h3 := num_new (w2.alloc (.cells #[.int .i64 x, .int .i64 y, .int .i64 (x + wd), .int .i64 (y + hg)] 34)) 0 2
    rw [World.size_alloc] at h3
    exact ⟨h1.bel, h1.p, h1.wd, h1.res, h1.fr, h2, h3⟩
  have hb7 := HA1.out.lt
  have hsz : ((w2.alloc (.cells #[.int .i64 x, .int .i64 y, .int .i64 (x + wd), .int .i64 (y + hg)] 34)).alloc (.cells #[.int .i64 0] 2)).heap.size = w2.heap.size + 2 := by simp
  have HSZ := Lib.hid hsz
  clear HA1 c0 c1 cw hl0 hl1 hx0 hx1 hx2 hx3 hsz
  generalize (w2.alloc (.cells #[.int .i64 x, .int .i64 y, .int .i64 (x + wd), .int .i64 (y + hg)] 34)).alloc (.cells #[.int .i64 0] 2) = W5 at HA5 HSZ ⊢
  generalize w2.heap.size = b7 at HA5 HSZ hb7 ⊢
  refine range_meth (by decide) (gf := 24) (first := #[.agg #[.int .i64 x, .int .i64 y, .int .i64 (x + wd), .int .i64 (y + hg)]]) rfl (enters_of Tryd.func24 (by kernel_rfl) rfl) ?_
  intro r W1 hrs hrp hrt hrps hra hrb hW1
  have hDl : b7 + 1 < W5.heap.size := by have := HSZ.out; omega
  have hb1 : Below W5.heap.size W5 W1 := by rw [hW1]; go_grown
  have hl1 : W1.heap[W5.heap.size + 1]? = some (.loop r) := by
    rw [hW1]
    have := World.alloc_heap_new (W5.alloc (.deferred (some []))) (.loop r)
    rw [World.size_alloc] at this
    exact this
  have hd1 : W1.heap[W5.heap.size]? = some (.deferred (some [])) := by
    rw [hW1]
    exact (Below.heap_alloc _ _ _ (by simp)).trans (World.alloc_heap_new W5 _)
  refine CallsIn.mono ((callsIn_wide (n := 8)).2 (all_none x y (x + wd) (y + hg) HN.out (W5.heap.size + 1) W1)) ?_
  rintro e W2 ⟨hv, hb2⟩
  have h1' := (HA5.out.later hb1).later hb2
  have h2' := (hb2.block _ (Array.getElem?_eq_some_iff.1 hl1).1).trans hl1
  have h3' := (hb2.block _ (Array.getElem?_eq_some_iff.1 hd1).1).trans hd1
  have HA6 : Hid (AS w x y wz (x + wd) (y + hg) 0 b7 (b7 + 1) (W2.putObj (W5.heap.size + 1) (.loop (overL r)))) := h1'.putObj (D := W5.heap.size) (by omega) (by omega) (by omega) (by omega)
  have HD6 : Hid ((W2.putObj (W5.heap.size + 1) (.loop (overL r))).heap[W5.heap.size]? = some (.deferred (some []))) := (World.putObj_heap_other (by omega)).trans h3'
  refine ⟨hv, .inl ⟨h2', ?_⟩⟩
  clear h1' h2' h3' hra hrb hrps hrt hrs hrp hW1 hv hb1 hb2 hl1 hd1
  generalize W2.putObj (W5.heap.size + 1) (.loop (overL r)) = W6 at HA6 HD6 ⊢
  obtain ⟨r0, r1, r2, r3, _⟩ := HA6.out.r.four
  have hlt6 := HA6.out.lt
  gi_wp2_with fail
  have hal := bel1 W6 (.cells #[.int .i64 0] 2)
  have HA7 := Lib.hid (HA6.out.later hal)
  have HD7 : Hid ((W6.alloc (.cells #[.int .i64 0] 2)).heap[W5.heap.size]? = some (.deferred (some []))) := (hal.block _ (Array.getElem?_eq_some_iff.1 HD6.out).1).trans HD6.out
  have HF7 : Hid (Nums (W6.alloc (.cells #[.int .i64 0] 2)) W6.heap.size [0]) := num_new W6 0 _
  have hD6 := (Array.getElem?_eq_some_iff.1 HD6.out).1
  have hs7 : W6.heap.size < (W6.alloc (.cells #[.int .i64 0] 2)).heap.size := by simp
  clear hal HA6 HD6 HA5 HSZ r0 r1 r2 r3 hlt6
  generalize W6.alloc (.cells #[.int .i64 0] 2) = W7 at HA7 HD7 HF7 hs7 ⊢
  generalize W6.heap.size = b10 at HF7 hD6 hs7 ⊢
  refine range_meth (by decide) (gf := 24) (first := #[.agg #[.int .i64 x, .int .i64 y, .int .i64 (x + wd), .int .i64 (y + hg)]]) rfl (enters_of Tryd.func24 (by kernel_rfl) rfl) ?_
  intro r' W8 hrs hrp hrt hrps hra hrb hW8
  have hb1 : Below W7.heap.size W7 W8 := by rw [hW8]; go_grown
  have hl1 : W8.heap[W7.heap.size + 1]? = some (.loop r') := by
    rw [hW8]
    have := World.alloc_heap_new (W7.alloc (.deferred (some []))) (.loop r')
    rw [World.size_alloc] at this
    exact this
  have hd1 : W8.heap[W7.heap.size]? = some (.deferred (some [])) := by
    rw [hW8]
    exact (Below.heap_alloc _ _ _ (by simp)).trans (World.alloc_heap_new W7 _)
  refine CallsIn.mono ((callsIn_wide (n := 8)).2 (all_none x y (x + wd) (y + hg) HN.out (W7.heap.size + 1) W8)) ?_
  rintro e W9 ⟨hv, hb2⟩
  have hb12 : Below W7.heap.size W7 W9 := hb1.trans (hb2.mono hb1.size)
  have h2' := (hb2.block _ (Array.getElem?_eq_some_iff.1 hl1).1).trans hl1
  have h3' := (hb2.block _ (Array.getElem?_eq_some_iff.1 hd1).1).trans hd1
  have HA9 : Hid (AS w x y wz (x + wd) (y + hg) 0 b7 (b7 + 1) (W9.putObj (W7.heap.size + 1) (.loop (overL r')))) := (HA7.out.later hb12).putObj (D := W5.heap.size) (by omega) (by omega) (by omega) (by omega)
  have HF9 : Hid (Nums (W9.putObj (W7.heap.size + 1) (.loop (overL r'))) b10 [0]) := (HF7.out.later hb12).of_block (World.putObj_heap_other (by omega))
  have HD9 : Hid ((W9.putObj (W7.heap.size + 1) (.loop (overL r'))).heap[W7.heap.size]? = some (.deferred (some [])) ∧ (W9.putObj (W7.heap.size + 1) (.loop (overL r'))).heap[W5.heap.size]? = some (.deferred (some []))) := ⟨(World.putObj_heap_other (by omega)).trans h3', (World.putObj_heap_other (by omega)).trans ((hb12.block _ (Array.getElem?_eq_some_iff.1 HD7.out).1).trans HD7.out)⟩
  refine ⟨hv, .inl ⟨h2', ?_⟩⟩
  clear h2' h3' hra hrb hrps hrt hrs hrp hW8 hv hb1 hb2 hb12 hl1 hd1 HA7 HD7 HF7
  generalize W9.putObj (W7.heap.size + 1) (.loop (overL r')) = W10 at HA9 HF9 HD9 ⊢
  have hkk := HP.out
  obtain ⟨n0, n1⟩ := HA9.out.n.one
  obtain ⟨m0, m1⟩ := HF9.out.one
  have pw := HA9.out.wd
  have pr := HA9.out.res
  have pf := HA9.out.fr
  gi_wp2_with fail
  exact gall_end HA9.out.bel HA9.out.res (by omega) (by omega) HD9.out.1 HD9.out.2 rfl

set_option maxRecDepth 100000 in
set_option maxHeartbeats 1000000 in
theorem gall_out (x y wz hz : Int) (w : World) (h : Tab16 w) (hp : ¬ (-2305843009213693952 ≤ x ∧ x ≤ 2305843009213693952 ∧ -2305843009213693952 ≤ y ∧ y ≤ 2305843009213693952)) :
    Calls Tryd.prog 5 #[.agg #[.int .i64 x, .int .i64 y], .int .u8 wz, .int .u8 hz] w fun e w' => e = .returned (.bool true) ∧ Below w.heap.size w w' := by
  obtain ⟨W0, hW0, hs0, hA0⟩ := as_start w x y wz 23 5 4
  have HW := Lib.hid hW0
  have HA0 := Lib.hid hA0
  have HT := Lib.hid h
  clear h hW0 hA0 hs0
  go_enter Tryd.func5, Tryd.ntmps5
  go_wp2_with fail
  rw [HW.out]
  refine (lives4_any _ (HT.out.later HA0.out.bel HT.out.lt)).mono ?_
  rintro e w2 ⟨rfl, hb⟩
  have HA1 := Lib.hid (HA0.out.later hb)
  clear hb HW HA0
  obtain ⟨c0, c1, _⟩ := HA1.out.p.two
  by_cases g1 : 2305843009213693952 < x
  · go_wp2_with fail
    refine (lives4_any _ (HT.out.later HA1.out.bel HT.out.lt)).mono ?_
    rintro e w3 ⟨rfl, hb⟩
    have HA2 := Lib.hid (HA1.out.later hb)
    clear hb
    have pr := HA2.out.res
    have pf := HA2.out.fr
    go_wp2
    have ec := World.cell?_setCell_same w3 ⟨w.heap.size + 1 + 1, 0, none⟩ (.bool true) pr
    refine bodyPost_ret (v := _) (by simp [results, Tryd.results5, go_sem, ec]; rfl) rfl ?_
    exact ⟨rfl, HA2.out.bel.setCell (p := ⟨w.heap.size + 1 + 1, 0, none⟩) (show w.heap.size ≤ w.heap.size + 1 + 1 by omega) _⟩
  · have d1 : decide (2305843009213693952 < x) = false := decide_eq_false g1
    by_cases g2 : 2305843009213693952 < y
    · go_wp2_with fail
      refine (lives4_any _ (HT.out.later HA1.out.bel HT.out.lt)).mono ?_
      rintro e w3 ⟨rfl, hb⟩
      have HA2 := Lib.hid (HA1.out.later hb)
      clear hb
      have pr := HA2.out.res
      have pf := HA2.out.fr
      go_wp2
      have ec := World.cell?_setCell_same w3 ⟨w.heap.size + 1 + 1, 0, none⟩ (.bool true) pr
      refine bodyPost_ret (v := _) (by simp [results, Tryd.results5, go_sem, ec]; rfl) rfl ?_
      exact ⟨rfl, HA2.out.bel.setCell (p := ⟨w.heap.size + 1 + 1, 0, none⟩) (show w.heap.size ≤ w.heap.size + 1 + 1 by omega) _⟩
    · have d2 : decide (2305843009213693952 < y) = false := decide_eq_false g2
      by_cases g3 : x < -2305843009213693952
      · go_wp2_with fail
        refine (lives4_any _ (HT.out.later HA1.out.bel HT.out.lt)).mono ?_
        rintro e w3 ⟨rfl, hb⟩
        have HA2 := Lib.hid (HA1.out.later hb)
        clear hb
        have pr := HA2.out.res
        have pf := HA2.out.fr
        go_wp2
        have ec := World.cell?_setCell_same w3 ⟨w.heap.size + 1 + 1, 0, none⟩ (.bool true) pr
        refine bodyPost_ret (v := _) (by simp [results, Tryd.results5, go_sem, ec]; rfl) rfl ?_
        exact ⟨rfl, HA2.out.bel.setCell (p := ⟨w.heap.size + 1 + 1, 0, none⟩) (show w.heap.size ≤ w.heap.size + 1 + 1 by omega) _⟩
      · have d3 : decide (x < -2305843009213693952) = false := decide_eq_false g3
        by_cases g4 : y < -2305843009213693952
        · go_wp2_with fail
          refine (lives4_any _ (HT.out.later HA1.out.bel HT.out.lt)).mono ?_
          rintro e w3 ⟨rfl, hb⟩
          have HA2 := Lib.hid (HA1.out.later hb)
          clear hb
          have pr := HA2.out.res
          have pf := HA2.out.fr
          go_wp2
          have ec := World.cell?_setCell_same w3 ⟨w.heap.size + 1 + 1, 0, none⟩ (.bool true) pr
          refine bodyPost_ret (v := _) (by simp [results, Tryd.results5, go_sem, ec]; rfl) rfl ?_
          exact ⟨rfl, HA2.out.bel.setCell (p := ⟨w.heap.size + 1 + 1, 0, none⟩) (show w.heap.size ≤ w.heap.size + 1 + 1 by omega) _⟩
        · exact absurd ⟨by omega, by omega, by omega, by omega⟩ hp

theorem gall_any (x y wz hz : Int) (w : World) (h : Tab16 w) (w0 : 0 ≤ wz) (w1 : wz ≤ 255) (h0 : 0 ≤ hz) (h1 : hz ≤ 255) :
    Calls Tryd.prog 5 #[.agg #[.int .i64 x, .int .i64 y], .int .u8 wz, .int .u8 hz] w fun e w' => e = .returned (.bool true) ∧ Below w.heap.size w w' := by
  by_cases hp : -2305843009213693952 ≤ x ∧ x ≤ 2305843009213693952 ∧ -2305843009213693952 ≤ y ∧ y ≤ 2305843009213693952
  · obtain ⟨x0, x1, y0, y1⟩ := hp
    have e1 : wz % 40 = ((wz % 40).toNat : Int) := by omega
    have e2 : hz % 40 = ((hz % 40).toNat : Int) := by omega
    by_cases hw : (wz % 40).toNat = 0 ∨ (hz % 40).toNat = 0
    · exact gall_none x y wz hz _ _ w h w0 w1 h0 h1 e1 e2 hw x0 x1 y0 y1
    · exact gall_in x y wz hz _ _ w h w0 w1 h0 h1 e1 e2 (by omega) (by omega) x0 x1 y0 y1
  · exact gall_out x y wz hz w h hp
end Go.Proofs.YtlafbkehlglfoaaDoor
