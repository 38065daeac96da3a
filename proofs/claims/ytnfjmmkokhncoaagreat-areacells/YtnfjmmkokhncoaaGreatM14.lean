-- M14
import Derived.Test.YtnfjmmkokhncoaaGreatBx9
import Derived.Test.YtnfjmmkokhncoaaGreatM05
section
namespace Go.Proofs.YtnfjmmkokhncoaaGreat
open Go.RowKit Go.Maps
set_option maxRecDepth 100000

theorem res_cell2 {P : Program} {fn : Func} {tmps : Array Value} {w : World} {i j : Nat} {t : TypeId} {ad : Addr} {v u : Value} (hr : fn.results = #[.cell i t, .tmp j]) (ha : tmps.getD i undef = .pointer (some ad)) (hj : tmps.getD j undef = u) (hl : (loadVar t ad).run P w = .ok v w) : (results fn tmps).run P w = .ok (.tuple #[v, u]) w := by
  unfold results
  rw [hr]
  rw [Array.getD_eq_getD_getElem?] at ha hj
  simp [ha, hj, asAddr, hl]
theorem rc_ret2 {fn : Func} {tmps : Array Value} {w : World} {i j b : Nat} {q : R4} {u : Value} (hr : fn.results = #[.cell i 42, .tmp j]) (ha : tmps.getD i undef = .pointer (some ⟨b, 0, none⟩)) (hj : tmps.getD j undef = u) (h : w.heap[b]? = some (rcO8 q)) : (results fn tmps).run Tryz.prog w = .ok (.tuple #[.agg #[.int .i64 q.x, .int .i64 q.y, .int .i64 q.X, .int .i64 q.Y], u]) w :=
  res_cell2 hr ha hj (run_loadVar_row w b 42 42 _ (0, 0) _ h Tryz.underlying42 rfl (by as_aux_lemma => kernel_rfl))
set_option maxHeartbeats 1000000 in
theorem find_any {w : World} {sb g tb cap most : Nat} {N : List Nd} (h : St w sb g tb cap most N) : Calls Tryz.prog 30 #[.pointer (some ⟨sb, 0, none⟩)] w fun e w' => ∃ cb bb fb : Nat, e = .returned (.pointer (some ⟨fb, 0, none⟩)) ∧ Fn w' sb g tb cb bb fb most N ∧ Below w.heap.size w w' ∧ w.heap.size ≤ bb := by
  obtain ⟨l1, l2, l3⟩ := h.lt
  have hmm := @run_makeMap Tryz.prog
  have HB := Lib.hid (bel3 w (.map #[] 0) (.map #[] 0) (.cells #[.pointer (some ⟨sb, 0, none⟩), .map (some w.heap.size), .map (some (w.heap.size + 1))] 121))
  have hfn : Fn (((w.alloc (.map #[] 0)).alloc (.map #[] 0)).alloc (.cells #[.pointer (some ⟨sb, 0, none⟩), .map (some w.heap.size), .map (some (w.heap.size + 1))] 121)) sb g tb w.heap.size (w.heap.size + 1) (w.heap.size + 1 + 1) most N := by
    have hm := (gmap_new mkB (w.alloc (.map #[] 0))).later (bel1 _ (.cells #[.pointer (some ⟨sb, 0, none⟩), .map (some w.heap.size), .map (some (w.heap.size + 1))] 121))
    rw [show (w.alloc (.map #[] 0)).heap.size = w.heap.size + 1 by simp] at hm
    exact ⟨⟨cap, h.later HB.out⟩, new_3 w _ _ _, ⟨_, hm, fun x v hv => by cases hv⟩, by omega, by omega, by omega⟩
  have HF := Lib.hid hfn
  clear h hfn
  go_enter Tryz.func30, Tryz.ntmps30
  go_wp2_with fail
  go_ret
  exact ⟨_, _, _, rfl, HF.out, HB.out, Nat.le_succ _⟩
set_option maxHeartbeats 1000000 in
theorem box8_nil (w : World) : Calls Tryz.prog 15 #[.agg #[.pointer none, .int .u32 0]] w fun e w' => e = .returned (.tuple #[.agg #[.int .i64 0, .int .i64 0, .int .i64 0, .int .i64 0], .bool false]) ∧ Below w.heap.size w w' := by
  have HIP := Lib.hid (fun W => isPlane_nil W)
  have hz : ((w.alloc (.cells #[.pointer none, .int .u32 0] 32)).alloc (.cells #[.int .i64 0, .int .i64 0, .int .i64 0, .int .i64 0] 42)).heap[w.heap.size + 1]? = some (rcO8 zeR) := new_2 w _ _
  have HZ := Lib.hid hz
  have HB := Lib.hid (bel2 w (.cells #[.pointer none, .int .u32 0] 32) (.cells #[.int .i64 0, .int .i64 0, .int .i64 0, .int .i64 0] 42))
  clear hz
  go_enter Tryz.func15, Tryz.ntmps15
  go_wp2_with fail
  refine (HIP.out _).mono ?_
  rintro e W1 ⟨rfl, hb⟩
  have HB1 := Lib.hid (HB.out.trans (hb.mono HB.out.size))
  have HZ1 := Lib.hid (keep8 HZ.out hb)
  clear hb HB HZ
  obtain ⟨r0, r1, r2, r3⟩ := rc_cells8 HZ1.out
  have z0 := Lib.frozen_of_heap HZ1.out 0
  have z1 := Lib.frozen_of_heap HZ1.out 1
  have z2 := Lib.frozen_of_heap HZ1.out 2
  have z3 := Lib.frozen_of_heap HZ1.out 3
  go_wp2_with fail
  refine bodyPost_ret (rc_ret2 (i := 2) (j := 3) rfl rfl rfl (rc_put8 HZ1.out zeR)) rfl ?_
  exact ⟨rfl, (((HB1.out.setCell (p := ⟨w.heap.size + 1, 0, none⟩) (by show _ ≤ w.heap.size + 1; omega) _).setCell (p := ⟨w.heap.size + 1, 1, none⟩) (by show _ ≤ w.heap.size + 1; omega) _).setCell (p := ⟨w.heap.size + 1, 2, none⟩) (by show _ ≤ w.heap.size + 1; omega) _).setCell (p := ⟨w.heap.size + 1, 3, none⟩) (by show _ ≤ w.heap.size + 1; omega) _⟩
/-- The blocks of Box: the plane, the result. -/
structure Kx (w : World) (sb x : Nat) (W : World) : Prop where
  bel : Below w.heap.size w W
  pl : W.heap[w.heap.size]? = some (plO sb x)
  res : W.heap[w.heap.size + 1]? = some (rcO8 zeR)
theorem Kx.later {w W W' : World} {sb x : Nat} (h : Kx w sb x W) (hb : Below W.heap.size W W') : Kx w sb x W' := ⟨h.bel.trans (hb.mono h.bel.size), keep8 h.pl hb, keep8 h.res hb⟩
theorem Kx.drewN {w W : World} {sb x : Nat} (h : Kx w sb x W) (q : Nat) : Kx w sb x (W.drewN q) := ⟨⟨h.bel.os, h.bel.tape, h.bel.output, h.bel.size, h.bel.block⟩, h.pl, h.res⟩
theorem Kx.call {w W W' : World} {sb x bb : Nat} (h : Kx w sb x W) (hr : Frm [bb] W W') (hb : w.heap.size + 1 < bb) : Kx w sb x W' := by
  refine ⟨⟨hr.os.trans h.bel.os, hr.tape.trans h.bel.tape, hr.output.trans h.bel.output, Nat.le_trans h.bel.size hr.size, fun b hlt => ?_⟩, ?_, ?_⟩
  · rw [hr.block b (Nat.lt_of_lt_of_le hlt h.bel.size) (by simp; omega)]; exact h.bel.block b hlt
  · rw [hr.block _ (Array.getElem?_eq_some_iff.1 h.pl).1 (by simp; omega)]; exact h.pl
  · rw [hr.block _ (Array.getElem?_eq_some_iff.1 h.res).1 (by simp; omega)]; exact h.res
theorem Kx.lt {w W : World} {sb x : Nat} (h : Kx w sb x W) : w.heap.size + 1 < W.heap.size := (Array.getElem?_eq_some_iff.1 h.res).1
/-- A new rectangle's block. -/
def Fz (W : World) (nb : Nat) : Prop := W.heap[nb]? = some (rcO8 zeR)
theorem Fz.new (W : World) : Fz (W.alloc (.cells #[.int .i64 0, .int .i64 0, .int .i64 0, .int .i64 0] 42)) W.heap.size := heap_alloc_new W _
theorem Fz.lt {W : World} {nb : Nat} (h : Fz W nb) : nb < W.heap.size := (Array.getElem?_eq_some_iff.1 h).1
theorem Fz.later {W W' : World} {nb : Nat} (h : Fz W nb) (hb : Below W.heap.size W W') : Fz W' nb := keep8 h hb
theorem Fz.call {W W' : World} {nb bb : Nat} (h : Fz W nb) (hr : Frm [bb] W W') (hn : nb ≠ bb) : Fz W' nb := by
  show _ = _
  rw [hr.block _ h.lt (by simp [hn])]; exact h
theorem Fz.cells {W : World} {nb : Nat} (h : Fz W nb) : (W.cell? ⟨nb, 0, none⟩ = some (.int .i64 0) ∧ W.cell? ⟨nb, 1, none⟩ = some (.int .i64 0) ∧ W.cell? ⟨nb, 2, none⟩ = some (.int .i64 0) ∧ W.cell? ⟨nb, 3, none⟩ = some (.int .i64 0)) ∧ W.frozen? ⟨nb, 0, none⟩ = false ∧ W.frozen? ⟨nb, 1, none⟩ = false ∧ W.frozen? ⟨nb, 2, none⟩ = false ∧ W.frozen? ⟨nb, 3, none⟩ = false :=
  ⟨rc_cells8 h, Lib.frozen_of_heap h 0, Lib.frozen_of_heap h 1, Lib.frozen_of_heap h 2, Lib.frozen_of_heap h 3⟩
theorem Kx.set {w W : World} {sb x b : Nat} (h : Kx w sb x W) (hb : w.heap.size + 1 < b) (i : Nat) (v : Value) : Kx w sb x (W.setCell ⟨b, i, none⟩ v) :=
  ⟨h.bel.setCell (p := ⟨b, i, none⟩) (by show _ ≤ b; omega) v, by rw [Below.heap_setCell _ _ _ _ (by show w.heap.size ≠ b; omega)]; exact h.pl, by rw [Below.heap_setCell _ _ _ _ (by show w.heap.size + 1 ≠ b; omega)]; exact h.res⟩
def AtB (w : World) (sb x : Nat) (bz : R4) (v : Value) (wx : World) : Prop := ∃ nb, v = .pointer (some ⟨nb, 0, none⟩) ∧ Kx w sb x wx ∧ wx.heap[nb]? = some (rcO8 bz)
theorem atB_put {w W : World} {sb x nb : Nat} (h : Kx w sb x W) (hz : Fz W nb) (hn : w.heap.size + 1 < nb) (q : R4) : AtB w sb x q (.pointer (some ⟨nb, 0, none⟩)) ((((W.setCell ⟨nb, 0, none⟩ (.int .i64 q.x)).setCell ⟨nb, 1, none⟩ (.int .i64 q.y)).setCell ⟨nb, 2, none⟩ (.int .i64 q.X)).setCell ⟨nb, 3, none⟩ (.int .i64 q.Y)) :=
  ⟨nb, rfl, (((h.set hn _ _).set hn _ _).set hn _ _).set hn _ _, rc_put8 hz q⟩
theorem atB_new {w W : World} {sb x : Nat} (h : Kx w sb x W) (q : R4) : AtB w sb x q (.pointer (some ⟨W.heap.size, 0, none⟩)) (W.alloc (.cells #[.int .i64 q.x, .int .i64 q.y, .int .i64 q.X, .int .i64 q.Y] 42)) :=
  ⟨W.heap.size, rfl, h.later (bel1 _ _), heap_alloc_new W _⟩
/-- What Box returns. -/
def bxP (N : List Nd) (n0 x : Nat) : R4 := if ctZ N x = 0 then zeR else mvR (bxZ N (n0 + 1) x) (-2 ^ n0) (-2 ^ n0)
set_option maxHeartbeats 4000000 in
theorem box8_any {w : World} {sb g tb cap most : Nat} {N : List Nd} (h : St w sb g tb cap most N) {n0 x : Nat} (hx : Sq N (n0 + 1) x) (h2 : 2 ≤ n0) :
    Calls Tryz.prog 15 #[.agg #[.pointer (some ⟨sb, 0, none⟩), .int .u32 (x : Int)]] w fun e w' => e = .returned (.tuple #[.agg #[.int .i64 (bxP N n0 x).x, .int .i64 (bxP N n0 x).y, .int .i64 (bxP N n0 x).X, .int .i64 (bxP N n0 x).Y], .bool (!decide (ctZ N x = 0))]) ∧ Below w.heap.size w w' := by
  have hxu := Sq.u32 h hx
  have hn62 := hx.le62 h.wf
  have HB := Lib.hid (bel2 w (.cells #[.pointer (some ⟨sb, 0, none⟩), .int .u32 (x : Int)] 32) (.cells #[.int .i64 0, .int .i64 0, .int .i64 0, .int .i64 0] 42))
  have hk0 : Kx w sb x ((w.alloc (.cells #[.pointer (some ⟨sb, 0, none⟩), .int .u32 (x : Int)] 32)).alloc (.cells #[.int .i64 0, .int .i64 0, .int .i64 0, .int .i64 0] 42)) := ⟨HB.out, keep8 (heap_alloc_new w _) (bel1 _ _), new_2 w _ _⟩
  have HK := Lib.hid hk0
  have HIP := Lib.hid (isPlane_any (h.later HB.out) x hxu)
  rw [show decide (3 ≤ lvZ N x) = true by rw [show lvZ N x = ((n0 + 1 : Nat) : Int) from hx]; simp; omega] at HIP
  have HCT := Lib.hid (fun W (hb : Below w.heap.size w W) => count_any (h.later hb) x hxu)
  have HLV := Lib.hid (fun W (hb : Below w.heap.size w W) => level_any (h.later hb) x hxu)
  rw [show lvZ N x = (n0 : Int) + 1 from hx] at HLV
  have HFI := Lib.hid (fun W (hb : Kx w sb x W) => find_any (h.later hb.bel))
  have HBC := Lib.hid (fun cb bb fb W (hf : Fn W sb g tb cb bb fb most N) => box_any sb g tb cb bb fb most N (n0 + 1) hf hx)
  have HRB := Lib.hid (rb_bx N (n0 + 1) x)
  have HSP := Lib.hid (fun W => span8_any n0 hn62 W)
  clear h hx hk0
  obtain ⟨p0, p1⟩ := pl_cells HK.out.pl
  have HBP : Hid (bxP N n0 x = if ctZ N x = 0 then zeR else mvR (bxZ N (n0 + 1) x) (-2 ^ n0) (-2 ^ n0)) := rfl
  generalize bxP N n0 x = bv at *
  generalize bxZ N (n0 + 1) x = bz at *
  generalize ctZ N x = ct at *
  go_enter Tryz.func15, Tryz.ntmps15
  go_wp2_with fail
  generalize (w.alloc (.cells #[.pointer (some ⟨sb, 0, none⟩), .int .u32 (x : Int)] 32)).alloc (.cells #[.int .i64 0, .int .i64 0, .int .i64 0, .int .i64 0] 42) = W0 at *
  refine HIP.out.mono ?_
  clear HIP
  rintro e W1 ⟨rfl, hb⟩
  have HK1 := Lib.hid (HK.out.later hb)
  clear hb HK HB p0 p1
  obtain ⟨p0, p1⟩ := pl_cells HK1.out.pl
  go_wp2_with fail
  refine (HCT.out _ HK1.out.bel).mono ?_
  rintro e W2 ⟨rfl, hW2⟩
  rw [← hW2]
  clear hW2 W2
  by_cases h0 : ct = 0
  · subst h0
    obtain ⟨r0, r1, r2, r3⟩ := rc_cells8 HK1.out.res
    have z0 := Lib.frozen_of_heap HK1.out.res 0
    have z1 := Lib.frozen_of_heap HK1.out.res 1
    have z2 := Lib.frozen_of_heap HK1.out.res 2
    have z3 := Lib.frozen_of_heap HK1.out.res 3
    go_wp2_with fail
    refine bodyPost_ret (rc_ret2 (i := 2) (j := 3) rfl rfl rfl (rc_put8 HK1.out.res zeR)) rfl ?_
    rw [show bv = zeR from HBP.out.trans (if_pos trivial)]
    exact ⟨rfl, (((HK1.out.bel.setCell (p := ⟨w.heap.size + 1, 0, none⟩) (by show _ ≤ w.heap.size + 1; omega) _).setCell (p := ⟨w.heap.size + 1, 1, none⟩) (by show _ ≤ w.heap.size + 1; omega) _).setCell (p := ⟨w.heap.size + 1, 2, none⟩) (by show _ ≤ w.heap.size + 1; omega) _).setCell (p := ⟨w.heap.size + 1, 3, none⟩) (by show _ ≤ w.heap.size + 1; omega) _⟩
  · have hc0 : ((ct : Int) == 0) = false := by rw [beq_eq_false_iff_ne]; omega
    go_upto_region 3 with fail
    have hk : Kx w sb x W1.drew := HK1.out.drewN 1
    have hk2 : Kx w sb x (W1.alloc (.cells #[.int .i64 0, .int .i64 0, .int .i64 0, .int .i64 0] 42)).drew := (HK1.out.later (bel1 _ _)).drewN 1
    have hz0 : Fz (W1.alloc (.cells #[.int .i64 0, .int .i64 0, .int .i64 0, .int .i64 0] 42)).drew W1.heap.size := Fz.new W1
    have hk0lt := HK1.out.lt
    have n1 : ¬ w.heap.size = W1.heap.size := by omega
    have n2 : ¬ W1.heap.size = w.heap.size := by omega
    go_cut [4] from 17 to 22 (fun v4 wx => AtB w sb x bz v4 wx)
    case first =>
      go_region_held3 (fun w' => w'.cell? ⟨w.heap.size, 0, none⟩ = some (.pointer (some ⟨sb, 0, none⟩)) ∧ w'.cell? ⟨w.heap.size, 1, none⟩ = some (.int .u32 (x : Int))) (go_keep)
        (first
          | (go_at_call 30; refine (HFI.out _ (by assumption)).mono ?_; rintro e wl ⟨cb, bb, fb, rfl, hfn, hb, hbb⟩; have hl : Kx w sb x wl := Kx.later (by assumption) hb; have k1 := pl_cells hl.pl; have hbl := hfn.lt; have hll := hl.lt; have m1 : ¬ w.heap.size = wl.heap.size := (by omega); have m2 : ¬ wl.heap.size = w.heap.size := (by omega); (first | (have hbb' : W1.heap.size + 1 ≤ bb := (by simpa using hbb)) | (have hbb' : W1.heap.size ≤ bb := hbb)); (first | (have hz1 : Fz wl W1.heap.size := Fz.later (by assumption) hb; have k2 := hz1.cells) | skip); clear hb)
          | (go_at_call 42; refine (HBC.out _ _ _ _ (by first | exact hfn | exact hfn.later (bel1 _ _))).mono ?_; rintro e wm ⟨rfl, hfn2, hfr⟩; (have hm : Kx w sb x wm := (by first | exact Kx.call hl hfr (by omega) | exact Kx.call (hl.later (bel1 _ _)) hfr (by omega))); have k3 := pl_cells hm.pl; have hmm := hm.lt; have m3 : ¬ w.heap.size = wm.heap.size := (by omega); have m4 : ¬ wm.heap.size = w.heap.size := (by omega); (first | (have hz2 : Fz wm W1.heap.size := Fz.call hz1 hfr (by omega); have k4 := hz2.cells) | (have hz2 : Fz wm wl.heap.size := Fz.call (Fz.new wl) hfr (by omega); have k4 := hz2.cells) | skip)))
      all_goals go_wp2_with fail
      all_goals go_meet
      all_goals have hwl := hl.lt
      all_goals first | exact atB_put hm hz2 (by omega) bz | exact atB_new hm bz
    case rest =>
      obtain ⟨nb, rfl, hkx, hnb⟩ := hcut
      have HK2 := Lib.hid hkx
      have HNB := Lib.hid hnb
      clear hkx hnb hk hk2 hz0 hk0lt p0 p1 HFI HBC HK1 n1 n2
      rw [if_neg h0] at HBP
      have hp := pow_pos2 n0
      have hp61 := pow_61 hn62
      have h22 := pow_two2 n0
      have hrb := HRB.out
      have HMV := Lib.hid (fun W => moved_any bz.x bz.y bz.X bz.Y (-2 ^ n0) (-2 ^ n0) (by unfold RB at hrb; unfold I64; omega) (by unfold RB at hrb; unfold I64; omega) (by unfold RB at hrb; unfold I64; omega) (by unfold RB at hrb; unfold I64; omega) W)
      unfold mvR at HBP
      have HLV3 : Hid (∀ W, W = wc.drew → Calls Tryz.prog 24 #[.pointer (some ⟨sb, 0, none⟩), .int .u32 (x : Int)] W fun e w' => e = .returned (.int .i64 ((n0 : Int) + 1)) ∧ W = w') := fun W hW => HLV.out W (by rw [hW]; exact below_drewN HK2.out.bel 1)
      clear hrb h22 hp61 hp HLV
      obtain ⟨p0, p1⟩ := pl_cells HK2.out.pl
      obtain ⟨c0, c1, c2, c3⟩ := rc_cells8 HNB.out
      go_upto_region 4 with fail
      refine region_sq 8 (fun W => Below wc.heap.size wc W) [(0, 2), (1, 1), (2, 2), (3, 1), (4, 2), (5, 0), (6, 0), (7, 1), (8, 3), (9, 3), (10, 1)] (by kernel_rfl) (by kernel_rfl) rfl (by intro c a d v w h; cases d <;> exact h) (by kernel_rfl) (below_drewN (Below.refl _ wc) 1) ?_
      refine ⟨_, ?_, rfl, by rfl, ?_, ?_⟩
      rotate_left
      · intro W hW
        have y := pl_cells (HK2.out.later hW).pl
        obtain ⟨y0, y1⟩ := y
        have yc := rc_cells8 (keep8 HNB.out hW)
        obtain ⟨yc0, yc1, yc2, yc3⟩ := yc
        go_simp; first | done | rfl
      conv => arg 6; simp only [Act.put, List.setIfInBounds_toArray, List.set_cons_zero, List.set_cons_succ]
      refine ⟨_, ?_, rfl, by rfl, ?_, ?_⟩
      rotate_left
      · intro W; go_simp; first | done | rfl
      conv => arg 6; simp only [Act.put, List.setIfInBounds_toArray, List.set_cons_zero, List.set_cons_succ]
      refine ⟨_, ?_, rfl, by rfl, ?_, ?_⟩
      rotate_left
      · intro W hW
        have y := pl_cells (HK2.out.later hW).pl
        obtain ⟨y0, y1⟩ := y
        have yc := rc_cells8 (keep8 HNB.out hW)
        obtain ⟨yc0, yc1, yc2, yc3⟩ := yc
        go_simp; first | done | rfl
      conv => arg 6; simp only [Act.put, List.setIfInBounds_toArray, List.set_cons_zero, List.set_cons_succ]
      refine ⟨_, ?_, rfl, by rfl, ?_, ?_⟩
      rotate_left
      · intro W; go_simp; first | done | rfl
      conv => arg 6; simp only [Act.put, List.setIfInBounds_toArray, List.set_cons_zero, List.set_cons_succ]
      refine ⟨_, ?_, rfl, by rfl, ?_, ?_⟩
      rotate_left
      · intro W hW
        have y := pl_cells (HK2.out.later hW).pl
        obtain ⟨y0, y1⟩ := y
        have yc := rc_cells8 (keep8 HNB.out hW)
        obtain ⟨yc0, yc1, yc2, yc3⟩ := yc
        go_simp; first | done | rfl
      conv => arg 6; simp only [Act.put, List.setIfInBounds_toArray, List.set_cons_zero, List.set_cons_succ]
      refine ⟨_, rfl, by rfl, fun K hK => ?_⟩
      go_simp
      refine (HLV3.out _ rfl).mono ?_
      rintro e w7 ⟨rfl, rfl⟩
      refine hK _ _ (below_drewN (Below.refl _ wc) 1) ?_
      clear hK K
      conv => arg 6; simp only [Act.put, List.setIfInBounds_toArray, List.set_cons_zero, List.set_cons_succ]
      refine ⟨_, rfl, by rfl, fun K hK => ?_⟩
      go_simp
      refine (HSP.out _).mono ?_
      rintro e w8 ⟨rfl, hb8⟩
      have HB8 : Hid (Below wc.heap.size wc w8) := ⟨hb8.os, hb8.tape, hb8.output, hb8.size, hb8.block⟩
      clear hb8
      refine hK _ _ HB8.out ?_
      clear hK K
      conv => arg 6; simp only [Act.put, List.setIfInBounds_toArray, List.set_cons_zero, List.set_cons_succ]
      refine ⟨_, ?_, rfl, by rfl, ?_, ?_⟩
      rotate_left
      · intro W; go_simp; first | done | rfl
      conv => arg 6; simp only [Act.put, List.setIfInBounds_toArray, List.set_cons_zero, List.set_cons_succ]
      refine ⟨_, rfl, by rfl, fun K hK => ?_⟩
      go_simp
      refine (HMV.out _).mono ?_
      rintro e w9 ⟨rfl, hb9⟩
      have HK9 := Lib.hid (HK2.out.later (HB8.out.trans (hb9.mono HB8.out.size)))
      clear hb9
      refine hK _ _ ?_
      clear hK K
      conv => arg 6; simp only [Act.put, List.setIfInBounds_toArray, List.set_cons_zero, List.set_cons_succ]
      refine ⟨_, rfl, by rfl, fun K hK => ?_⟩
      obtain ⟨r0, r1, r2, r3⟩ := rc_cells8 HK9.out.res
      have z0 := Lib.frozen_of_heap HK9.out.res 0
      have z1 := Lib.frozen_of_heap HK9.out.res 1
      have z2 := Lib.frozen_of_heap HK9.out.res 2
      have z3 := Lib.frozen_of_heap HK9.out.res 3
      go_simp
      refine hK _ _ ?_
      clear hK K
      conv => arg 6; simp only [Act.put, List.setIfInBounds_toArray, List.set_cons_zero, List.set_cons_succ]
      refine ⟨_, ?_, rfl, by rfl, ?_, ?_⟩
      rotate_left
      · intro W; go_simp; first | done | rfl
      conv => arg 6; simp only [Act.put, List.setIfInBounds_toArray, List.set_cons_zero, List.set_cons_succ]
      unfold wpSq
      go_wp2_with fail
      refine bodyPost_ret (rc_ret2 (i := 2) (j := 3) rfl rfl rfl (rc_put8 HK9.out.res ⟨bz.x + -2 ^ n0, bz.y + -2 ^ n0, bz.X + -2 ^ n0, bz.Y + -2 ^ n0⟩)) rfl ?_
      rw [HBP.out]
      have hd0 : (!decide (ct = 0)) = true := by simp [h0]
      rw [hd0]
      exact ⟨rfl, (((HK9.out.bel.setCell (p := ⟨w.heap.size + 1, 0, none⟩) (by show _ ≤ w.heap.size + 1; omega) _).setCell (p := ⟨w.heap.size + 1, 1, none⟩) (by show _ ≤ w.heap.size + 1; omega) _).setCell (p := ⟨w.heap.size + 1, 2, none⟩) (by show _ ≤ w.heap.size + 1; omega) _).setCell (p := ⟨w.heap.size + 1, 3, none⟩) (by show _ ≤ w.heap.size + 1; omega) _⟩
end Go.Proofs.YtnfjmmkokhncoaaGreat
end

section
namespace Go.Proofs.YtnfjmmkokhncoaaGreat
open Go.RowKit

/-- Where a piece of a square may lie. -/
def Al (n j : Nat) (A B : Int) : Prop := j ≤ n ∧ (0 ≤ A ∧ A + 2 ^ j ≤ 2 ^ n ∧ A % 2 ^ j = 0) ∧ (0 ≤ B ∧ B + 2 ^ j ≤ 2 ^ n ∧ B % 2 ^ j = 0)
/-- As many squares are new as there are pieces that differ. -/
theorem new8_le {N N' : List Nd} {n : Nat} {f : Int → Int → Nat} (hw : Wf N') (h : New8 N n f N') (code : Nat → Int → Int → Nat) (M : Nat) (hM : ∀ j A B, Al n j A B → code j A B < M)
    (hc : ∀ j A B j' A' B', Al n j A B → Al n j' A' B' → code j A B = code j' A' B' → j = j' ∧ ∀ X Y, 0 ≤ X ∧ X < 2 ^ j → 0 ≤ Y ∧ Y < 2 ^ j → f (X + A) (Y + B) = f (X + A') (Y + B')) : N'.length ≤ N.length + M := by
  have hp : ∀ y, ∃ c : Nat, N.length ≤ y → y < N'.length → ∃ j A B, Al n j A B ∧ Con N' j y (fun X Y => f (X + A) (Y + B)) ∧ c = code j A B := fun y => by
    by_cases hy : N.length ≤ y ∧ y < N'.length
    · obtain ⟨j, A, B, h1, h2, h3, h4⟩ := h.2 y hy.1 hy.2
      exact ⟨code j A B, fun _ _ => ⟨j, A, B, ⟨h1, h2, h3⟩, h4, rfl⟩⟩
    · exact ⟨0, fun a b => absurd ⟨a, b⟩ hy⟩
  obtain ⟨κ, hκ⟩ := Classical.axiomOfChoice hp
  obtain ⟨E, hE⟩ := h.1
  have hl : N'.length = N.length + E.length := by rw [hE, List.length_append]
  have hmem : ∀ y, y ∈ (List.range E.length).map (· + N.length) → N.length ≤ y ∧ y < N'.length := fun y hy => by
    obtain ⟨i, hi, rfl⟩ := List.mem_map.1 hy
    have := List.mem_range.1 hi
    omega
  have hnd : ((List.range E.length).map (· + N.length)).Nodup := map_nodup List.nodup_range fun x _ y _ e => by omega
  have h1 := nat_few M (((List.range E.length).map (· + N.length)).map κ) (map_nodup hnd fun x hx y hy e => by
    obtain ⟨x1, x2⟩ := hmem x hx
    obtain ⟨y1, y2⟩ := hmem y hy
    obtain ⟨j, A, B, a1, a2, a3⟩ := hκ x x1 x2
    obtain ⟨j', A', B', b1, b2, b3⟩ := hκ y y1 y2
    obtain ⟨rfl, hf⟩ := hc j A B j' A' B' a1 b1 (by rw [← a3, ← b3]; exact e)
    exact (a2.of fun X Y hX hY => hf X Y hX hY).inj hw b2) (fun c hc' => by
    obtain ⟨y, hy, rfl⟩ := List.mem_map.1 hc'
    obtain ⟨y1, y2⟩ := hmem y hy
    obtain ⟨j, A, B, a1, a2, a3⟩ := hκ y y1 y2
    rw [a3]; exact hM j A B a1)
  simp only [List.length_map, List.length_range] at h1
  omega
/-- Squares that are all alike. -/
theorem new8_flat {N N' : List Nd} {n : Nat} {f : Int → Int → Nat} (hw : Wf N') (h : New8 N n f N') (v : Nat) (hf : ∀ X Y, 0 ≤ X ∧ X < 2 ^ n → 0 ≤ Y ∧ Y < 2 ^ n → f X Y = v) : N'.length ≤ N.length + (n + 1) := by
  refine new8_le hw h (fun j _ _ => j) (n + 1) (fun j A B ha => by have := ha.1; omega) (fun j A B j' A' B' ha hb e => ?_)
  subst e
  refine ⟨rfl, fun X Y hX hY => ?_⟩
  obtain ⟨_, a2, a3⟩ := ha
  obtain ⟨_, b2, b3⟩ := hb
  rw [hf _ _ (by omega) (by omega), hf _ _ (by omega) (by omega)]
theorem cut_lo {j : Nat} {P A A' X : Int} (_ : 0 ≤ X ∧ X < 2 ^ j) (ha : A % 2 ^ j = 0) (hb : A' % 2 ^ j = 0) (h : decide (P ≤ A) = decide (P ≤ A')) (h1 : P < A + 2 ^ j) (h2 : P < A' + 2 ^ j) : (P ≤ X + A ↔ P ≤ X + A') := by
  have hp := pow_pos2 j
  rw [decide_eq_decide] at h
  by_cases hPA : P ≤ A
  · have := h.1 hPA; omega
  · have hPB : ¬ P ≤ A' := fun e => hPA (h.2 e)
    have e1 : P % 2 ^ j = P - A := by
      have : (P - A) % 2 ^ j = P % 2 ^ j := by rw [Int.sub_emod, ha]; simp
      rw [← this]; exact Int.emod_eq_of_lt (by omega) (by omega)
    have e2 : P % 2 ^ j = P - A' := by
      have : (P - A') % 2 ^ j = P % 2 ^ j := by rw [Int.sub_emod, hb]; simp
      rw [← this]; exact Int.emod_eq_of_lt (by omega) (by omega)
    omega
theorem cut_hi {j : Nat} {P A A' X : Int} (_ : 0 ≤ X ∧ X < 2 ^ j) (ha : A % 2 ^ j = 0) (hb : A' % 2 ^ j = 0) (h : decide (A + 2 ^ j ≤ P) = decide (A' + 2 ^ j ≤ P)) (h1 : A < P) (h2 : A' < P) : (X + A < P ↔ X + A' < P) := by
  have hp := pow_pos2 j
  rw [decide_eq_decide] at h
  by_cases hPA : A + 2 ^ j ≤ P
  · have := h.1 hPA; omega
  · have hPB : ¬ A' + 2 ^ j ≤ P := fun e => hPA (h.2 e)
    have e1 : P % 2 ^ j = P - A := by
      have : (P - A) % 2 ^ j = P % 2 ^ j := by rw [Int.sub_emod, ha]; simp
      rw [← this]; exact Int.emod_eq_of_lt (by omega) (by omega)
    have e2 : P % 2 ^ j = P - A' := by
      have : (P - A') % 2 ^ j = P % 2 ^ j := by rw [Int.sub_emod, hb]; simp
      rw [← this]; exact Int.emod_eq_of_lt (by omega) (by omega)
    omega
/-- Does a piece have points of a rectangle? -/
def mt (r : R4) (j : Nat) (A B : Int) : Bool := decide (r.x < A + 2 ^ j) && decide (A < r.X) && (decide (r.y < B + 2 ^ j) && decide (B < r.Y))
def codeR (r : R4) (j : Nat) (A B : Int) : Nat := j * 32 + (if mt r j A B then b2n (decide (r.x ≤ A)) + 2 * (b2n (decide (A + 2 ^ j ≤ r.X)) + 2 * (b2n (decide (r.y ≤ B)) + 2 * b2n (decide (B + 2 ^ j ≤ r.Y)))) else 16)
/-- A rectangle on a plane without living cells. -/
theorem new8_rect {N N' : List Nd} {n : Nat} {f : Int → Int → Nat} (hw : Wf N') (h : New8 N n f N') (r : R4) (c : Nat) (hf : ∀ X Y, 0 ≤ X ∧ X < 2 ^ n → 0 ≤ Y ∧ Y < 2 ^ n → f X Y = if r.has X Y then c else 0) : N'.length ≤ N.length + (n + 1) * 32 := by
  refine new8_le hw h (codeR r) ((n + 1) * 32) (fun j A B ha => ?_) (fun j A B j' A' B' ha hb e => ?_)
  · have := ha.1
    unfold codeR
    have h1 := b2n_le (decide (r.x ≤ A))
    have h2 := b2n_le (decide (A + 2 ^ j ≤ r.X))
    have h3 := b2n_le (decide (r.y ≤ B))
    have h4 := b2n_le (decide (B + 2 ^ j ≤ r.Y))
    split <;> omega
  · unfold codeR at e
    have a1 := b2n_le (decide (r.x ≤ A))
    have a2 := b2n_le (decide (A + 2 ^ j ≤ r.X))
    have a3 := b2n_le (decide (r.y ≤ B))
    have a4 := b2n_le (decide (B + 2 ^ j ≤ r.Y))
    have b1 := b2n_le (decide (r.x ≤ A'))
    have b2 := b2n_le (decide (A' + 2 ^ j' ≤ r.X))
    have b3 := b2n_le (decide (r.y ≤ B'))
    have b4 := b2n_le (decide (B' + 2 ^ j' ≤ r.Y))
    have hj : j = j' := by split at e <;> split at e <;> omega
    subst hj
    refine ⟨rfl, fun X Y hX hY => ?_⟩
    obtain ⟨g1, g2, g3⟩ := ha
    obtain ⟨k1, k2, k3⟩ := hb
    rw [hf _ _ (by omega) (by omega), hf _ _ (by omega) (by omega)]
    have key : r.has (X + A) (Y + B) = r.has (X + A') (Y + B') := by
      cases m1 : mt r j A B <;> cases m2 : mt r j A' B' <;> rw [m1, m2] at e <;> simp only [if_true, if_false, Bool.false_eq_true] at e
      · have z : ∀ A B, mt r j A B = false → ¬ (r.has (X + A) (Y + B) = true) := fun A B hm hh => by
          rw [R4.has_iff] at hh
          have : mt r j A B = true := by
            unfold mt
            simp only [Bool.and_eq_true, decide_eq_true_eq]
            omega
          rw [hm] at this; cases this
        rw [Bool.eq_iff_iff]
        exact ⟨fun hh => absurd hh (z A B m1), fun hh => absurd hh (z A' B' m2)⟩
      · omega
      · omega
      · unfold mt at m1 m2
        simp only [Bool.and_eq_true, decide_eq_true_eq] at m1 m2
        have e1 := b2n_inj (show b2n (decide (r.x ≤ A)) = b2n (decide (r.x ≤ A')) by omega)
        have e2 := b2n_inj (show b2n (decide (A + 2 ^ j ≤ r.X)) = b2n (decide (A' + 2 ^ j ≤ r.X)) by omega)
        have e3 := b2n_inj (show b2n (decide (r.y ≤ B)) = b2n (decide (r.y ≤ B')) by omega)
        have e4 := b2n_inj (show b2n (decide (B + 2 ^ j ≤ r.Y)) = b2n (decide (B' + 2 ^ j ≤ r.Y)) by omega)
        rw [Bool.eq_iff_iff, R4.has_iff, R4.has_iff, cut_lo hX g2.2.2 k2.2.2 e1 m1.1.1 m2.1.1, cut_hi hX g2.2.2 k2.2.2 e2 m1.1.2 m2.1.2, cut_lo hY g3.2.2 k3.2.2 e3 m1.2.1 m2.2.1, cut_hi hY g3.2.2 k3.2.2 e4 m1.2.2 m2.2.2]
    rw [key]
theorem shR_has (r : R4) (n : Nat) (a b : Int) : (shR r n).has (a + 2 ^ n) (b + 2 ^ n) = r.has a b := by
  rw [Bool.eq_iff_iff, R4.has_iff, R4.has_iff]
  unfold shR; simp only; omega
/-- The cells of a plane that was filled. -/
theorem al_fill {N N' : List Nd} {n0 n x y c : Nat} {r : R4} (hn : n0 ≤ n) (hr : inR n r) (h : Con N' (n + 1) y (Fp N n0 (kidZ N x) n (shR r n) c)) (a b : Int) : alK N' n (kidZ N' y) a b = if r.has a b then c == 1 else alK N n0 (kidZ N x) a b := by
  rw [al_con h]
  unfold Fp
  rw [shR_has, Int.add_sub_cancel, Int.add_sub_cancel]
  cases hh : r.has a b
  · cases ha : alK N n0 (kidZ N x) a b
    · simp
    · have hin : (inS n0 a && inS n0 b) = true := by
        unfold alK at ha
        simp only [Bool.and_eq_true] at ha ⊢
        exact ha.1
      rw [Bool.and_eq_true] at hin
      rw [inS_mono hn hin.1, inS_mono hn hin.2]
      simp
  · have := R4.has_iff.1 hh
    obtain ⟨⟨h1, h2⟩, h3, h4⟩ := hr
    rw [show inS n a = true by rw [inS_iff]; omega, show inS n b = true by rw [inS_iff]; omega]
    simp
theorem liv_al {N : List Nd} {n x : Nat} (X Y : Int) : livP N (n + 1) x (X - -2 ^ n) (Y - -2 ^ n) ↔ alK N n (kidZ N x) X Y = true := by
  have h2 := pow_two2 n
  rw [al_root]
  unfold livP
  simp only [Bool.and_eq_true, inS_iff, beq_iff_eq, Int.sub_neg]
  constructor
  · rintro ⟨a, b, c⟩
    exact ⟨⟨by omega, by omega⟩, c⟩
  · rintro ⟨⟨a, b⟩, c⟩
    exact ⟨by omega, by omega, c⟩
theorem isB_plane {N : List Nd} (hw : Wf N) {n x : Nat} (hx : Sq N (n + 1) x) : IsB (fun X Y => alK N n (kidZ N x) X Y = true) (mvR (bxZ N (n + 1) x) (-2 ^ n) (-2 ^ n)) :=
  (isB_mv (bx_is hw hx) (-2 ^ n) (-2 ^ n)).of liv_al
theorem isB_rect {r : R4} (hr : r.no = false) : IsB (fun X Y => r.has X Y = true) r := by
  have hlt := R4.no_not.1 hr
  refine ⟨fun X Y h => h, fun _ => ⟨⟨r.y, ?_⟩, ⟨r.y, ?_⟩, ⟨r.x, ?_⟩, ⟨r.x, ?_⟩⟩, fun h => absurd (R4.has_iff.2 ⟨⟨Int.le_refl r.x, hlt.1⟩, Int.le_refl r.y, hlt.2⟩) (h _ _)⟩ <;> rw [R4.has_iff] <;> omega
theorem ct_al {N : List Nd} (hw : Wf N) {n x : Nat} (hx : Sq N (n + 1) x) : ctZ N x = 0 ↔ ∀ a b, alK N n (kidZ N x) a b = false := by
  rw [ct_zero hw hx]
  constructor
  · intro h a b
    rw [al_root, h]; simp
  · intro h X Y
    rw [← get_mod N (n + 1) x X Y]
    have hp := pow_pos2 (n + 1)
    have h2 := pow_two2 n
    have e0 := Int.emod_nonneg X (show (2 : Int) ^ (n + 1) ≠ 0 by omega)
    have e1 := Int.emod_lt_of_pos X hp
    have e2 := Int.emod_nonneg Y (show (2 : Int) ^ (n + 1) ≠ 0 by omega)
    have e3 := Int.emod_lt_of_pos Y hp
    generalize X % 2 ^ (n + 1) = P at *
    generalize Y % 2 ^ (n + 1) = Q at *
    have := h (P - 2 ^ n) (Q - 2 ^ n)
    rw [al_root, Int.sub_add_cancel, Int.sub_add_cancel, show inS n (P - 2 ^ n) = true by rw [inS_iff]; omega, show inS n (Q - 2 ^ n) = true by rw [inS_iff]; omega] at this
    rcases get_cell hw hx P Q with e | e
    · exact e
    · rw [e] at this; simp at this
/-- The box of a plane whose cells are a rectangle. -/
theorem bx_rect {N : List Nd} (hw : Wf N) {n x : Nat} (hx : Sq N (n + 1) x) {r : R4} (hr : r.no = false) (h : ∀ a b, alK N n (kidZ N x) a b = r.has a b) : bxP N n x = r ∧ ctZ N x ≠ 0 := by
  have hlt := R4.no_not.1 hr
  have hin : r.has r.x r.y = true := R4.has_iff.2 ⟨⟨Int.le_refl _, hlt.1⟩, Int.le_refl _, hlt.2⟩
  have hne : ctZ N x ≠ 0 := fun e => by
    have := (ct_al hw hx).1 e r.x r.y
    rw [h, hin] at this; cases this
  refine ⟨?_, hne⟩
  unfold bxP
  rw [if_neg hne]
  refine (isB_plane hw hx).uniq ((isB_rect hr).of fun X Y => by rw [h]) ⟨r.x, r.y, by rw [h]; exact hin⟩
end Go.Proofs.YtnfjmmkokhncoaaGreat
end
