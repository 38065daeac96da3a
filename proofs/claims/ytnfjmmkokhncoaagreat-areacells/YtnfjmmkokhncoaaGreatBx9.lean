/- Package area: the finder's box: the walk. -/
import Derived.Test.YtnfjmmkokhncoaaGreatM13
namespace Go.Proofs.YtnfjmmkokhncoaaGreat
open Go.RowKit Go.Maps
set_option maxRecDepth 100000

theorem rc_ret {fn : Func} {tmps : Array Value} {w : World} {i b : Nat} {q : R4} (hr : fn.results = #[.cell i 42]) (ha : tmps.getD i undef = .pointer (some ⟨b, 0, none⟩)) (h : w.heap[b]? = some (rcO8 q)) : (results fn tmps).run Tryz.prog w = .ok (.agg #[.int .i64 q.x, .int .i64 q.y, .int .i64 q.X, .int .i64 q.Y]) w :=
  res_cell hr ha (run_loadVar_row w b 42 42 _ (0, 0) _ h Tryz.underlying42 rfl (by as_aux_lemma => kernel_rfl))
set_option maxHeartbeats 8000000 in
theorem box_any (sb g tb cb bb fb most : Nat) (N : List Nd) : ∀ (n : Nat) {w : World} (_ : Fn w sb g tb cb bb fb most N) {x : Nat} (_ : Sq N n x),
    Calls Tryz.prog 42 #[.pointer (some ⟨fb, 0, none⟩), .int .u32 (x : Int)] w fun e w' => e = .returned (.agg #[.int .i64 (bxZ N n x).x, .int .i64 (bxZ N n x).y, .int .i64 (bxZ N n x).X, .int .i64 (bxZ N n x).Y]) ∧ Fn w' sb g tb cb bb fb most N ∧ Frm [bb] w w' := by
  intro n
  induction n with
  | zero =>
    intro w h x hx
    obtain ⟨cap, hs⟩ := h.st
    have hxu := Sq.u32 hs hx
    have HB := Lib.hid (bel1 w (.cells #[.int .i64 0, .int .i64 0, .int .i64 0, .int .i64 0] 42))
    have HF := Lib.hid (h.later HB.out)
    have hz0 : (w.alloc (.cells #[.int .i64 0, .int .i64 0, .int .i64 0, .int .i64 0] 42)).heap[w.heap.size]? = some (rcO8 zeR) := heap_alloc_new w _
    have HZ := Lib.hid hz0
    have HL := h.lt
    have HLV := Lib.hid (level_any (hs.later HB.out) x hxu)
    rw [show lvZ N x = ((0 : Nat) : Int) from hx, show ((0 : Nat) : Int) = 0 from rfl] at HLV
    have HCT := Lib.hid (count_any (hs.later HB.out) x hxu)
    obtain ⟨f0, f1, f2⟩ := fn_cells HF.out.ft
    obtain ⟨r0, r1, r2, r3⟩ := rc_cells8 HZ.out
    have z0 := Lib.frozen_of_heap HZ.out 0
    have z1 := Lib.frozen_of_heap HZ.out 1
    have z2 := Lib.frozen_of_heap HZ.out 2
    have z3 := Lib.frozen_of_heap HZ.out 3
    have HBX : Hid (bxZ N 0 x = if ctZ N x = 0 then zeR else ⟨0, 0, 1, 1⟩) := rfl
    clear h hx hs hz0
    generalize ctZ N x = ct at *
    go_enter Tryz.func42, Tryz.ntmps42
    go_wp2_with fail
    generalize w.alloc (.cells #[.int .i64 0, .int .i64 0, .int .i64 0, .int .i64 0] 42) = W0 at *
    refine HLV.out.mono ?_
    rintro e W1 ⟨rfl, hW1⟩
    rw [← hW1]
    clear hW1 HLV W1
    go_wp2_with fail
    refine HCT.out.mono ?_
    rintro e W1 ⟨rfl, hW1⟩
    rw [← hW1]
    clear hW1 HCT W1
    have hd : ∀ (q : R4), Fn ((((W0.setCell ⟨w.heap.size, 0, none⟩ (.int .i64 q.x)).setCell ⟨w.heap.size, 1, none⟩ (.int .i64 q.y)).setCell ⟨w.heap.size, 2, none⟩ (.int .i64 q.X)).setCell ⟨w.heap.size, 3, none⟩ (.int .i64 q.Y)) sb g tb cb bb fb most N ∧ Frm [bb] w ((((W0.setCell ⟨w.heap.size, 0, none⟩ (.int .i64 q.x)).setCell ⟨w.heap.size, 1, none⟩ (.int .i64 q.y)).setCell ⟨w.heap.size, 2, none⟩ (.int .i64 q.X)).setCell ⟨w.heap.size, 3, none⟩ (.int .i64 q.Y)) := fun q => by
      have hs : w.heap.size ≠ sb ∧ w.heap.size ≠ g ∧ w.heap.size ≠ tb ∧ w.heap.size ≠ bb ∧ w.heap.size ≠ fb := by omega
      have hf0 : Frm [bb] w W0 := Frm.of_below HB.out
      exact ⟨(((HF.out.set hs _).set hs _).set hs _).set hs _, (((hf0.set4 (Nat.le_refl _) _ _).set4 (Nat.le_refl _) _ _).set4 (Nat.le_refl _) _ _).set4 (Nat.le_refl _) _ _⟩
    have HD := Lib.hid hd
    clear hd
    by_cases h0 : ct = 0
    · subst h0
      rw [if_pos rfl] at HBX
      go_wp2_with fail
      refine bodyPost_ret (rc_ret (i := 4) rfl rfl (rc_put8 HZ.out zeR)) rfl ?_
      rw [HBX.out]
      exact ⟨rfl, HD.out zeR⟩
    · rw [if_neg h0] at HBX
      have hc0 : ((ct : Int) == 0) = false := by rw [beq_eq_false_iff_ne]; omega
      go_wp2_with fail
      refine bodyPost_ret (rc_ret (i := 4) rfl rfl (rc_put8 HZ.out ⟨0, 0, 1, 1⟩)) rfl ?_
      rw [HBX.out]
      exact ⟨rfl, HD.out ⟨0, 0, 1, 1⟩⟩
  | succ n ih =>
    intro w h x hx
    obtain ⟨cap, hs⟩ := h.st
    have hxu := Sq.u32 hs hx
    have hn62 := hx.le62 hs.wf
    have HX := Lib.hid hx
    have HWF := Lib.hid hs.wf
    have HB := Lib.hid (bel1 w (.cells #[.int .i64 0, .int .i64 0, .int .i64 0, .int .i64 0] 42))
    have HF := Lib.hid (h.later HB.out)
    have hz0 : (w.alloc (.cells #[.int .i64 0, .int .i64 0, .int .i64 0, .int .i64 0] 42)).heap[w.heap.size]? = some (rcO8 zeR) := heap_alloc_new w _
    have HZ := Lib.hid hz0
    have HL := Lib.hid h.lt
    have HLV := Lib.hid (level_any (hs.later HB.out) x hxu)
    rw [show lvZ N x = ((n + 1 : Nat) : Int) from hx, show ((n + 1 : Nat) : Int) = (n : Int) + 1 by omega] at HLV
    have HCT := Lib.hid (count_any (hs.later HB.out) x hxu)
    have HOF := Lib.hid (fun W (hb : Below w.heap.size w W) => of_sqk (hs.later hb) hx)
    have HFK := Lib.hid (hx.kid hs.wf)
    obtain ⟨f0, f1, f2⟩ := fn_cells HF.out.ft
    have HBX : Hid (bxZ N (n + 1) x = if ctZ N x = 0 then zeR else bxJ n (fun i => bxZ N n (kAt (kidZ N x) i)) 4) := rfl
    have HRB := Lib.hid (fun i => rb_bxJ N n x i)
    clear h hx hs hz0
    generalize kidZ N x = k0 at *
    obtain ⟨bz, hbz⟩ : ∃ bz, bz = bxZ N (n + 1) x := ⟨_, rfl⟩
    have HBZ := Lib.hid hbz
    rw [← hbz] at HBX ⊢
    clear hbz
    generalize ctZ N x = ct at *
    go_enter Tryz.func42, Tryz.ntmps42
    go_wp2_with fail
    generalize w.alloc (.cells #[.int .i64 0, .int .i64 0, .int .i64 0, .int .i64 0] 42) = W0 at *
    refine HLV.out.mono ?_
    rintro e W1 ⟨rfl, hW1⟩
    rw [← hW1]
    clear hW1 HLV W1
    go_wp2_with fail
    refine HCT.out.mono ?_
    rintro e W1 ⟨rfl, hW1⟩
    rw [← hW1]
    clear hW1 HCT W1
    have hne : w.heap.size ≠ sb ∧ w.heap.size ≠ g ∧ w.heap.size ≠ tb ∧ w.heap.size ≠ bb ∧ w.heap.size ≠ fb := by have := HL.out; omega
    have HNE := Lib.hid hne
    clear hne
    by_cases h0 : ct = 0
    · subst h0
      rw [if_pos rfl] at HBX
      obtain ⟨r0, r1, r2, r3⟩ := rc_cells8 HZ.out
      have z0 := Lib.frozen_of_heap HZ.out 0
      have z1 := Lib.frozen_of_heap HZ.out 1
      have z2 := Lib.frozen_of_heap HZ.out 2
      have z3 := Lib.frozen_of_heap HZ.out 3
      go_wp2_with fail
      refine bodyPost_ret (rc_ret (i := 4) rfl rfl (rc_put8 HZ.out zeR)) rfl ?_
      rw [HBX.out]
      have hf0 : Frm [bb] w W0 := Frm.of_below HB.out
      exact ⟨rfl, (((HF.out.set HNE.out _).set HNE.out _).set HNE.out _).set HNE.out _, (((hf0.set4 (Nat.le_refl _) _ _).set4 (Nat.le_refl _) _ _).set4 (Nat.le_refl _) _ _).set4 (Nat.le_refl _) _ _⟩
    · rw [if_neg h0] at HBX
      have hc0 : ((ct : Int) == 0) = false := by rw [beq_eq_false_iff_ne]; omega
      have hl0 : ((n : Int) + 1 == 0) = false := by rw [beq_eq_false_iff_ne]; omega
      obtain ⟨b0, ok, hlk, hok⟩ := HF.out.look HX.out
      have HOK := Lib.hid hok
      clear hok
      rw [← HBZ.out] at HOK
      have hzz : (W0.alloc (.cells #[.int .i64 b0.x, .int .i64 b0.y, .int .i64 b0.X, .int .i64 b0.Y] 42)).heap[w.heap.size]? = some (rcO8 zeR) := keep8 HZ.out (bel1 _ _)
      have hbb : (W0.alloc (.cells #[.int .i64 b0.x, .int .i64 b0.y, .int .i64 b0.X, .int .i64 b0.Y] 42)).heap[W0.heap.size]? = some (rcO8 b0) := heap_alloc_new W0 _
      have HB2 := Lib.hid (HB.out.trans ((bel1 W0 (.cells #[.int .i64 b0.x, .int .i64 b0.y, .int .i64 b0.X, .int .i64 b0.Y] 42)).mono HB.out.size))
      have HF2 := Lib.hid (HF.out.later (bel1 W0 (.cells #[.int .i64 b0.x, .int .i64 b0.y, .int .i64 b0.X, .int .i64 b0.Y] 42)))
      have HZ2 := Lib.hid hzz
      have HB0 := Lib.hid hbb
      clear hzz hbb
      go_upto_region 7 with fail
      generalize W0.alloc (.cells #[.int .i64 b0.x, .int .i64 b0.y, .int .i64 b0.X, .int .i64 b0.Y] 42) = W2 at *
      clear HB HF HZ f0 f1 f2 hlk
      cases ok with
      | true =>
        obtain ⟨r0, r1, r2, r3⟩ := rc_cells8 HZ2.out
        have z0 := Lib.frozen_of_heap HZ2.out 0
        have z1 := Lib.frozen_of_heap HZ2.out 1
        have z2 := Lib.frozen_of_heap HZ2.out 2
        have z3 := Lib.frozen_of_heap HZ2.out 3
        obtain ⟨s0, s1, s2, s3⟩ := rc_cells8 HB0.out
        go_wp2_with fail
        refine bodyPost_ret (rc_ret (i := 4) rfl rfl (rc_put8 HZ2.out b0)) rfl ?_
        have hf0 : Frm [bb] w W2 := Frm.of_below HB2.out
        rw [HOK.out trivial]
        exact ⟨rfl, (((HF2.out.set HNE.out _).set HNE.out _).set HNE.out _).set HNE.out _, (((hf0.set4 (Nat.le_refl _) _ _).set4 (Nat.le_refl _) _ _).set4 (Nat.le_refl _) _ _).set4 (Nat.le_refl _) _ _⟩
      | false =>
        clear HOK HB0
        have HXB : Hid (w.heap.size < W2.heap.size) := by
          show _ < _
          exact (Array.getElem?_eq_some_iff.1 HZ2.out).1
        have hL2 := HF2.out.lt
        have HXN : Hid (W2.heap.size ≠ sb ∧ W2.heap.size ≠ g ∧ W2.heap.size ≠ tb ∧ W2.heap.size ≠ fb ∧ W2.heap.size ≠ bb) := by show _ ∧ _; omega
        clear hL2
        have HB3 := Lib.hid (HB2.out.trans ((bel1 W2 (.cells #[.int .i64 0, .int .i64 0, .int .i64 0, .int .i64 0] 42)).mono HB2.out.size))
        have hh3 : Hb8 w sb g tb cb bb fb most N W2.heap.size zeR (W2.alloc (.cells #[.int .i64 0, .int .i64 0, .int .i64 0, .int .i64 0] 42)) :=
          ⟨HF2.out.later (bel1 _ _), Frm.of_below HB3.out, keep8 HZ2.out (bel1 _ _), heap_alloc_new W2 _, HXB.out, HXN.out.2.2.2.2, HNE.out.2.2.2.1⟩
        have HH3 := Lib.hid hh3
        have HOF3 := Lib.hid (HOF.out _ HB3.out)
        obtain ⟨f0, f1, f2⟩ := fn_cells HH3.out.fn.ft
        clear hh3 HOF
        go_wp2_with fail
        generalize W2.alloc (.cells #[.int .i64 0, .int .i64 0, .int .i64 0, .int .i64 0] 42) = W3 at *
        generalize W2.heap.size = xb at *
        refine HOF3.out.mono ?_
        clear HOF3 f0 f1 f2
        rintro e w5 ⟨rfl, hb⟩
        have HH5 := Lib.hid (HH3.out.later hb)
        clear hb
        have HH6 := Lib.hid (HH5.out.later (bel1 w5 (.cells #[.int .u32 (k0.1 : Int), .int .u32 (k0.2.1 : Int), .int .u32 (k0.2.2.1 : Int), .int .u32 (k0.2.2.2 : Int)] 96)))
        obtain ⟨k1, k2, k3, k4⟩ := k_cells (k_new w5 k0)
        go_wp2_with fail
        generalize w5.alloc (.cells #[.int .u32 (k0.1 : Int), .int .u32 (k0.2.1 : Int), .int .u32 (k0.2.2.1 : Int), .int .u32 (k0.2.2.2 : Int)] 96) = W6 at *
        clear k1 k2 k3 k4 HH5 HH3 HB3 HB2 HF2 HZ2
        go_loopg [11, 12, 52] 4 (fun m v11 v12 cnt wr => ∃ j : Nat, m = 4 - j ∧ j ≤ 4 ∧ cnt = .int .i64 (j : Int) ∧ Hb8 w sb g tb cb bb fb most N xb (bxJ n (fun i => bxZ N n (kAt k0 i)) j) wr)
        case atStart => exact ⟨0, rfl, Nat.zero_le _, rfl, HH6.out⟩
        case round =>
          obtain ⟨j, hm, hj, rfl, hh⟩ := hrel
          have HM := Lib.hid hm
          have HH := Lib.hid hh
          clear hm hh HH6
          by_cases hlt : j < 4
          · have hgj : decide ((j : Int) < 4) = true := by simp; omega
            have hix := kix k0 hlt
            obtain ⟨a, b, hjp⟩ := pl_of hlt
            have hfi := fun W => first_any n hn62 a b W
            rw [← hjp] at hfi
            have HFI := Lib.hid hfi
            have HSQ : Hid (Sq N n (kAt k0 j)) := by
              show Sq _ _ _
              have := HFK.out a b
              rw [pick_kAt, ← hjp] at this
              exact this
            have HJ1 : Hid (bxJ n (fun i => bxZ N n (kAt k0 i)) (j + 1) = orR (bxJ n (fun i => bxZ N n (kAt k0 i)) j) (mvR (bxZ N n (kAt k0 j)) (off n a) (off n b))) := by
              show _ = _
              show orR _ (mvR _ (off n (decide (j % 2 = 1))) (off n (decide (2 ≤ j)))) = _
              rw [hjp, (pl_dec a b).1, (pl_dec a b).2]
            have hrb := rb_bx N n (kAt k0 j)
            have ho1 := off_rng n a
            have ho2 := off_rng n b
            have hp61 := pow_61 hn62
            have hmv := fun W => moved_any (bxZ N n (kAt k0 j)).x (bxZ N n (kAt k0 j)).y (bxZ N n (kAt k0 j)).X (bxZ N n (kAt k0 j)).Y (off n a) (off n b) (by unfold RB at hrb; unfold I64; omega) (by unfold RB at hrb; unfold I64; omega) (by unfold RB at hrb; unfold I64; omega) (by unfold RB at hrb; unfold I64; omega) W
            have HMV := Lib.hid hmv
            clear hfi hjp hrb ho1 ho2 hp61 hmv
            generalize hacc : bxJ n (fun i => bxZ N n (kAt k0 i)) j = acc at *
            have HOR := Lib.hid (fun W => or_R4 acc (mvR (bxZ N n (kAt k0 j)) (off n a) (off n b)) W)
            have HBC := Lib.hid (fun W (h : Fn W sb g tb cb bb fb most N) => ih h HSQ.out)
            unfold mvR at HOR HJ1
            simp only at HOR HJ1
            generalize bxZ N n (kAt k0 j) = bk at *
            generalize kAt k0 j = y1 at *
            generalize off n a = oa at *
            generalize off n b = ob at *
            clear hacc
            obtain ⟨⟨c0, c1, c2, c3⟩, z0, z1, z2, z3⟩ := HH.out.cells
            have hh := HH.out.drewN 1
            have i1 : (0 : Int) ≤ (j : Int) := by omega
            have i2 : (j : Int) < 4 := by omega
            go_upto_region 14 with fail
            go_region_with
              (first
                | (go_at_call 42; refine (HBC.out _ (Hb8.fn (by assumption))).mono ?_; rintro e wl ⟨rfl, hfn, hfr⟩; have hl := Hb8.call (by assumption) hfn hfr; have k1 := hl.cells; clear hfn hfr)
                | (go_at_call 65; refine (HFI.out _).mono ?_; rintro e wl ⟨rfl, hb⟩; have hl := Hb8.later (by assumption) hb; have k1 := hl.cells; clear hb)
                | (go_at_call 32; refine (HMV.out _).mono ?_; rintro e wl ⟨rfl, hb⟩; have hl := Hb8.later (by assumption) hb; have k1 := hl.cells; clear hb)
                | (go_at_call 75; refine (HOR.out _).mono ?_; rintro e wl ⟨rfl, hb⟩; have hl := Hb8.later (by assumption) hb; have k1 := hl.cells; clear hb))
            all_goals
              go_wp2_with fail
              go_roundg (4 - (j + 1))
              case measure => rw [HM.out]; omega
              case rel => exact ⟨j + 1, rfl, by omega, by go_num, by rw [HJ1.out]; exact hl.put ⟨HXN.out.1, HXN.out.2.1, HXN.out.2.2.1, HXN.out.2.2.2.1⟩ _⟩
          · obtain rfl : j = 4 := by omega
            have hgs : decide (((4 : Nat) : Int) < 4) = false := by simp
            generalize bxJ n (fun i => bxZ N n (kAt k0 i)) 4 = acc at *
            have HACC : Hid (acc = bz) := HBX.out.symm
            obtain ⟨⟨c0, c1, c2, c3⟩, _⟩ := HH.out.cells
            obtain ⟨f0, f1, f2⟩ := fn_cells HH.out.fn.ft
            have hd : Hb8 w sb g tb cb bb fb most N xb acc wr.drew := HH.out.drewN 1
            obtain ⟨wm, hput, hfn, hfr⟩ := hd.fn.put HX.out acc (HACC.out.trans HBZ.out)
            have HH8 := Lib.hid (hd.call hfn hfr)
            clear hd
            clear hfn hfr
            go_upto_region 16 with fail
            go_region_with fail
            all_goals
              obtain ⟨⟨d0, d1, d2, d3⟩, _⟩ := HH8.out.cells
              obtain ⟨r0, r1, r2, r3⟩ := rc_cells8 HH8.out.res
              have z0 := Lib.frozen_of_heap HH8.out.res 0
              have z1 := Lib.frozen_of_heap HH8.out.res 1
              have z2 := Lib.frozen_of_heap HH8.out.res 2
              have z3 := Lib.frozen_of_heap HH8.out.res 3
              go_wp2_with fail
              refine bodyPost_ret (rc_ret (i := 4) rfl rfl (rc_put8 HH8.out.res acc)) rfl ?_
              rw [← HACC.out]
              exact ⟨rfl, (((HH8.out.fn.set HNE.out _).set HNE.out _).set HNE.out _).set HNE.out _, (((HH8.out.frm.set4 (Nat.le_refl _) _ _).set4 (Nat.le_refl _) _ _).set4 (Nat.le_refl _) _ _).set4 (Nat.le_refl _) _ _⟩
end Go.Proofs.YtnfjmmkokhncoaaGreat
