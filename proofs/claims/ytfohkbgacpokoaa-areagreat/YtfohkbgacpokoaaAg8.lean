/- The law AreaGreat: its walk. -/
import Derived.Test.YtfohkbgacpokoaaLv8
namespace Go.Proofs.Ytfohkbgacpokoaa
open Go.RowKit Go.Maps
set_option maxRecDepth 100000

theorem has_R4 (r : R4) (a b : Int) (W : World) : Calls Try.prog 10 #[.agg #[.int .i64 r.x, .int .i64 r.y, .int .i64 r.X, .int .i64 r.Y], .agg #[.int .i64 a, .int .i64 b]] W fun e w' => e = .returned (.bool (r.has a b)) ∧ Below W.heap.size W w' := has_any r.x r.y r.X r.Y a b W
theorem great_right {a b c d : Int} (h1 : (onP a && onP b) = true) (h2 : (onP c && onP d) = true) : rightR (min a c) (min b d) (max a c + 1) (max b d + 1) = true ∧ ((-2305843009213693952 < min a c ∧ min a c ≤ max a c) ∧ max a c < 2305843009213693952) ∧ (-2305843009213693952 < min b d ∧ min b d ≤ max b d) ∧ max b d < 2305843009213693952 := by
  unfold onP at h1 h2
  simp only [Bool.and_eq_true, decide_eq_true_eq] at h1 h2
  unfold rightR noPts onP
  simp only [Bool.and_eq_true, Bool.not_eq_true', Bool.or_eq_false_iff, decide_eq_true_eq, decide_eq_false_iff_not]
  omega
/-- A world behind a law's rectangle. -/
structure Gx (w : World) (r : R4) (rb : Nat) (W : World) : Prop where
  bel : Below w.heap.size w W
  rc : W.heap[rb]? = some (rcO8 r)
theorem Gx.later {w W W' : World} {r : R4} {rb : Nat} (h : Gx w r rb W) (hb : Below W.heap.size W W') : Gx w r rb W' := ⟨h.bel.trans (hb.mono h.bel.size), keep8 h.rc hb⟩
theorem Gx.drew {w W : World} {r : R4} {rb : Nat} (h : Gx w r rb W) : Gx w r rb W.drew := ⟨below_drewN h.bel 1, h.rc⟩
theorem Gx.lt {w W : World} {r : R4} {rb : Nat} (h : Gx w r rb W) : rb < W.heap.size := (Array.getElem?_eq_some_iff.1 h.rc).1
/-- Four numbers in a block. -/
def Four (W : World) (b : Nat) : Prop := b < W.heap.size ∧ ∀ i : Nat, i < 4 → ∃ z : Int, W.cell? ⟨b, i, none⟩ = some (.int .i64 z)
theorem Four.later {W W' : World} {b : Nat} (h : Four W b) (hb : Below W.heap.size W W') : Four W' b :=
  ⟨Nat.lt_of_lt_of_le h.1 hb.size, fun i hi => by
    obtain ⟨z, hz⟩ := h.2 i hi
    exact ⟨z, by rw [hb.cell (p := ⟨b, i, none⟩) h.1]; exact hz⟩⟩
theorem four_new (W : World) (z0 z1 z2 z3 : Int) (t : TypeId) : Four (W.alloc (.cells #[.int .i64 z0, .int .i64 z1, .int .i64 z2, .int .i64 z3] t)) W.heap.size := by
  refine ⟨by simp, fun i hi => ?_⟩
  have : i = 0 ∨ i = 1 ∨ i = 2 ∨ i = 3 := by omega
  rcases this with rfl | rfl | rfl | rfl
  · exact ⟨z0, by simp⟩
  · exact ⟨z1, by simp⟩
  · exact ⟨z2, by simp⟩
  · exact ⟨z3, by simp⟩
set_option maxHeartbeats 8000000 in
theorem agreat_any (a b c d : Int) (w : World) : Calls Try.prog 3 #[.agg #[.int .i64 a, .int .i64 b], .agg #[.int .i64 c, .int .i64 d]] w fun e w' => e = .returned (.bool true) ∧ Below w.heap.size w w' := by
  have HB := Lib.hid (bel2 w (.cells #[.int .i64 a, .int .i64 b] 23) (.cells #[.int .i64 c, .int .i64 d] 23))
  have hq1 : ((w.alloc (.cells #[.int .i64 a, .int .i64 b] 23)).alloc (.cells #[.int .i64 c, .int .i64 d] 23)).heap[w.heap.size]? = some (ptO a b) := keep8 (heap_alloc_new w _) (bel1 _ _)
  have hq2 : ((w.alloc (.cells #[.int .i64 a, .int .i64 b] 23)).alloc (.cells #[.int .i64 c, .int .i64 d] 23)).heap[w.heap.size + 1]? = some (ptO c d) := new_2 w _ _
  have HQ := Lib.hid (And.intro hq1 hq2)
  clear hq1 hq2
  have HLI := Lib.hid (fun W => lives8_any W)
  have HR1 := Lib.hid (fun W => pright_any a b W)
  have HR2 := Lib.hid (fun W => pright_any c d W)
  go_enter Try.func3, Try.ntmps3
  go_wp2_with fail
  generalize (w.alloc (.cells #[.int .i64 a, .int .i64 b] 23)).alloc (.cells #[.int .i64 c, .int .i64 d] 23) = W0 at *
  refine (HLI.out _).mono ?_
  rintro e W1 ⟨rfl, hb⟩
  have HB1 := Lib.hid (HB.out.trans (hb.mono HB.out.size))
  have HQ1 := Lib.hid (And.intro (keep8 HQ.out.1 hb) (keep8 HQ.out.2 hb))
  clear hb HB HQ
  obtain ⟨q0, q1⟩ := pt_cells HQ1.out.1
  go_wp2_with fail
  refine (HR1.out _).mono ?_
  rintro e W2 ⟨rfl, hb⟩
  have HB2 := Lib.hid (HB1.out.trans (hb.mono HB1.out.size))
  have HQ2 := Lib.hid (And.intro (keep8 HQ1.out.1 hb) (keep8 HQ1.out.2 hb))
  clear hb HB1 HQ1 HR1 q0 q1
  cases hA : (onP a && onP b) with
  | false =>
    clear hA
    go_wp2_with fail
    refine (HLI.out _).mono ?_
    rintro e W3 ⟨rfl, hb⟩
    have HB3 := Lib.hid (HB2.out.trans (hb.mono HB2.out.size))
    clear hb
    go_wp2_with fail
    go_ret
    exact ⟨rfl, HB3.out⟩
  | true =>
    obtain ⟨q0, q1⟩ := pt_cells HQ2.out.2
    have HA := Lib.hid hA
    clear hA
    go_wp2_with fail
    refine (HR2.out _).mono ?_
    rintro e W3 ⟨rfl, hb⟩
    have HB3 := Lib.hid (HB2.out.trans (hb.mono HB2.out.size))
    have HQ3 := Lib.hid (And.intro (keep8 HQ2.out.1 hb) (keep8 HQ2.out.2 hb))
    clear hb HB2 HQ2 HR2 q0 q1
    cases hC : (onP c && onP d) with
    | false =>
      clear hC
      go_wp2_with fail
      refine (HLI.out _).mono ?_
      rintro e W4 ⟨rfl, hb⟩
      have HB4 := Lib.hid (HB3.out.trans (hb.mono HB3.out.size))
      clear hb
      go_wp2_with fail
      go_ret
      exact ⟨rfl, HB4.out⟩
    | true =>
      obtain ⟨hrr, b1, b2⟩ := great_right HA.out hC
      clear hC HA HLI
      obtain ⟨q0, q1⟩ := pt_cells HQ3.out.1
      obtain ⟨s0, s1⟩ := pt_cells HQ3.out.2
      have e1 : (if c < a then c else a) = min a c := by split <;> omega
      have e2 : (if d < b then d else b) = min b d := by split <;> omega
      have e3 : (if a < c then c else a) = max a c := by split <;> omega
      have e4 : (if b < d then d else b) = max b d := by split <;> omega
      have e5 : (if a < c then a else c) = min a c := by split <;> omega
      have e6 : (if b < d then b else d) = min b d := by split <;> omega
      have e7 : (if c < a then a else c) = max a c := by split <;> omega
      have e8 : (if d < b then b else d) = max b d := by split <;> omega
      generalize min a c = X0 at *
      generalize min b d = Y0 at *
      generalize max a c = X1 at *
      generalize max b d = Y1 at *
      have w1 : IntKind.i64.wrap (X1 + 1) = X1 + 1 := IntWalk.i64_in _ (by omega)
      have w2 : IntKind.i64.wrap (Y1 + 1) = Y1 + 1 := IntWalk.i64_in _ (by omega)
      have w3 : IntKind.i64.wrap (X0 - 1) = X0 - 1 := IntWalk.i64_in _ (by omega)
      have w4 : IntKind.i64.wrap (Y0 - 1) = Y0 - 1 := IntWalk.i64_in _ (by omega)
      have w5 : IntKind.i64.wrap (X1 + 1 - 1) = X1 + 1 - 1 := IntWalk.i64_in _ (by omega)
      have w6 : IntKind.i64.wrap (Y1 + 1 - 1) = Y1 + 1 - 1 := IntWalk.i64_in _ (by omega)
      go_upto_region 4 with fail
      have HBL : Hid (Below w.heap.size w (W3.alloc (.cells #[.int .i64 X0, .int .i64 Y0, .int .i64 (X1 + 1), .int .i64 (Y1 + 1)] 26))) := HB3.out.trans ((bel1 W3 _).mono HB3.out.size)
      have hg0 : Gx w ⟨X0, Y0, X1 + 1, Y1 + 1⟩ W3.heap.size (W3.alloc (.cells #[.int .i64 X0, .int .i64 Y0, .int .i64 (X1 + 1), .int .i64 (Y1 + 1)] 26)) := ⟨HBL.out, heap_alloc_new W3 _⟩
      have HG0 := Lib.hid hg0
      have hrb : w.heap.size ≤ W3.heap.size := HB3.out.size
      clear hg0 HBL HB3 HQ3 q0 q1 s0 s1
      generalize W3.alloc (.cells #[.int .i64 X0, .int .i64 Y0, .int .i64 (X1 + 1), .int .i64 (Y1 + 1)] 26) = W4 at *
      generalize W3.heap.size = rb at *
      obtain ⟨R, hR⟩ : ∃ R : R4, R = ⟨X0, Y0, X1 + 1, Y1 + 1⟩ := ⟨_, rfl⟩
      have HRE : Hid (R = ⟨X0, Y0, X1 + 1, Y1 + 1⟩) := hR
      have hrr' : rightR R.x R.y R.X R.Y = true := by rw [hR]; exact hrr
      have HRR := Lib.hid hrr'
      have hgr : Gx w R rb W4 := by rw [hR]; exact HG0.out
      have HG := Lib.hid hgr
      clear hrr hrr' hgr HG0 hR
      have HPN := Lib.hid (fun W => plane8_any W)
      have hrc := rc_cells8 HG.out.rc
      rw [HRE.out] at hrc
      obtain ⟨c0, c1, c2, c3⟩ := hrc
      have hk : Gx w R rb W4.drew := HG.out.drew
      have hk2 : Gx w R rb (W4.alloc (.cells #[.pointer none, .int .u32 0] 31)).drew := (HG.out.later (bel1 _ _)).drew
      have hz0 : (W4.alloc (.cells #[.pointer none, .int .u32 0] 31)).drew.heap[W4.heap.size]? = some zeO8 := heap_alloc_new W4 _
      have hlt4 := HG.out.lt
      have n1 : ¬ rb = W4.heap.size := by omega
      have n2 : ¬ W4.heap.size = rb := by omega
      have HFL : Hid (∀ (sb g tb x1 : Nat) (N : List Nd) (W : World), Lp w sb g tb 131072 N W → Em N 3 x1 → N.length ≤ 5 → Calls Try.prog 7 #[.agg #[.pointer (some ⟨sb, 0, none⟩), .int .u32 (x1 : Int)], .agg #[.int .i64 X0, .int .i64 Y0, .int .i64 (X1 + 1), .int .i64 (Y1 + 1)], .bool true] W fun e w' => ∃ (g' n y : Nat) (N' : List Nd), e = .returned (.tuple #[.agg #[.pointer (some ⟨sb, 0, none⟩), .int .u32 (y : Int)], .nilIface]) ∧ Nx sb tb 131072 W g N 2016 w' g' N' ∧ Sq N' (n + 1) y ∧ 2 ≤ n ∧ n ≤ 61 ∧ (∀ a b, alK N' n (kidZ N' y) a b = R.has a b)) := fun sb g tb x1 N W hW hem hlen => by
        obtain ⟨cap', hs⟩ := hW.st
        have := fill_law hs (n0 := 2) hem (by omega) R HRR.out (by omega)
        rw [HRE.out] at this ⊢
        exact this
      go_cut [6, 7] from 55 to 60 (fun v6 v7 wx => v7 = .nilIface ∧ ∃ (sb g' tb n y : Nat) (N' : List Nd), PlAt w sb g' tb 131072 N' y v6 wx ∧ Ob wx sb g' tb rb (rcO8 R) ∧ (∀ nb, v6 = .pointer (some ⟨nb, 0, none⟩) → nb ≠ rb) ∧ Sq N' (n + 1) y ∧ (2 ≤ n ∧ n ≤ 61 ∧ ∀ a b, alK N' n (kidZ N' y) a b = R.has a b) ∧ N'.length ≤ 2021)
      case first =>
        go_region_held3 (fun w' => w'.cell? ⟨rb, 0, none⟩ = some (.int .i64 X0) ∧ w'.cell? ⟨rb, 1, none⟩ = some (.int .i64 Y0) ∧ w'.cell? ⟨rb, 2, none⟩ = some (.int .i64 (X1 + 1)) ∧ w'.cell? ⟨rb, 3, none⟩ = some (.int .i64 (Y1 + 1))) (go_keep)
          (first
            | (go_at_call 8; refine (HPN.out _).mono ?_; rintro e wl ⟨sb, g, tb, cap, x1, N, rfl, hS, hem, hlen, hb, l1, l2, l3⟩; have hgl : Gx w R rb wl := Gx.later (by assumption) hb; (have hga : ∃ wq : World, Gx w R rb wq ∧ wq.heap.size ≤ sb ∧ wq.heap.size ≤ g ∧ wq.heap.size ≤ tb := ⟨_, (by assumption), l1, l2, l3⟩); obtain ⟨wq, hgq, l1', l2', l3'⟩ := hga; have hgqlt := hgq.lt; have hgqs := hgq.bel.size; (have hl : Lp w sb g tb 131072 N wl := ⟨⟨cap, hS⟩, hgl.bel, by omega, by omega, by omega⟩); (have hrl : Ob wl sb g tb rb (rcO8 R) := ⟨hgl.rc, by omega, by omega, by omega⟩); (have k1 := (by have h := rc_cells8 hgl.rc; rw [HRE.out] at h; exact h : wl.cell? ⟨rb, 0, none⟩ = some (.int .i64 X0) ∧ wl.cell? ⟨rb, 1, none⟩ = some (.int .i64 Y0) ∧ wl.cell? ⟨rb, 2, none⟩ = some (.int .i64 (X1 + 1)) ∧ wl.cell? ⟨rb, 3, none⟩ = some (.int .i64 (Y1 + 1)))); have hll := hgl.lt; have m1 : ¬ rb = wl.heap.size := (by omega); have m2 : ¬ wl.heap.size = rb := (by omega); (first | (have hz1 : Ob wl sb g tb W4.heap.size zeO8 := ⟨keep8 hz0 hb, (by have : W4.heap.size + 1 ≤ sb := (by simpa using l1); omega), (by have : W4.heap.size + 1 ≤ g := (by simpa using l2); omega), (by have : W4.heap.size + 1 ≤ tb := (by simpa using l3); omega)⟩; have k2 := ze_cells8 hz1.at_) | skip); clear hb)
            | (go_at_call 7; refine (HFL.out _ _ _ _ _ _ (by first | exact hl | exact hl.later (bel1 _ _)) hem hlen).mono ?_; rintro e wm ⟨g9, n9, y9, M9, rfl, hnx, hsq9, hf9⟩; (first | have hm : Lp w sb g9 tb 131072 M9 wm := Lp.nx hl hnx | have hm : Lp w sb g9 tb 131072 M9 wm := Lp.nx (hl.later (bel1 _ _)) hnx); (first | have hrm : Ob wm sb g9 tb rb (rcO8 R) := Ob.nx hrl hnx | have hrm : Ob wm sb g9 tb rb (rcO8 R) := Ob.nx (hrl.later (bel1 _ _)) hnx); (have k3 := (by have h := rc_cells8 hrm.at_; rw [HRE.out] at h; exact h : wm.cell? ⟨rb, 0, none⟩ = some (.int .i64 X0) ∧ wm.cell? ⟨rb, 1, none⟩ = some (.int .i64 Y0) ∧ wm.cell? ⟨rb, 2, none⟩ = some (.int .i64 (X1 + 1)) ∧ wm.cell? ⟨rb, 3, none⟩ = some (.int .i64 (Y1 + 1)))); have hmm := hrm.lt; have hl9 := nx_len8 hnx; have m3 : ¬ rb = wm.heap.size := (by omega); have m4 : ¬ wm.heap.size = rb := (by omega); (first | (have hz2 : Ob wm sb g9 tb W4.heap.size zeO8 := Ob.nx hz1 hnx; have k4 := ze_cells8 hz2.at_) | (have hz2 : Ob wm sb g9 tb wl.heap.size zeO8 := Ob.nx (ob_new8 hl _ _) hnx; have k4 := ze_cells8 hz2.at_) | skip)))
        all_goals go_wp2_with fail
        all_goals go_meet
        all_goals first
          | exact ⟨rfl, sb, g9, tb, n9, y9, M9, plAt_put hm hz2 (by omega) y9, ⟨by rw [Below.heap_setCell _ _ _ _ (by first | (show rb ≠ W4.heap.size; omega) | (show rb ≠ wl.heap.size; omega)), Below.heap_setCell _ _ _ _ (by first | (show rb ≠ W4.heap.size; omega) | (show rb ≠ wl.heap.size; omega))]; exact hrm.at_, hrm.sb_, hrm.g_, hrm.tb_⟩, (fun nb h => by cases h; omega), hsq9, hf9, by omega⟩
          | exact ⟨rfl, sb, g9, tb, n9, y9, M9, plAt_new hm y9, hrm.later (bel1 _ _), (fun nb h => by cases h; omega), hsq9, hf9, by omega⟩
      case rest =>
        obtain ⟨rfl, sb, g, tb, n, y, N, ⟨pb, rfl, hpb, hlp, hpl⟩, hrc, hne, hsq, ⟨hn2, hn61, hal⟩, hlen⟩ := hcut
        have HLP := Lib.hid hlp
        have HPL := Lib.hid hpl
        have HRC := Lib.hid hrc
        have HSQ := Lib.hid hsq
        have HAL := Lib.hid hal
        have hpr : pb ≠ rb := hne pb rfl
        clear hlp hpl hrc hne hsq hal hk hk2 hz0 hlt4 n1 n2 HFL HPN HG c0 c1 c2 c3
        have hrc := rc_cells8 HRC.out.at_
        rw [HRE.out] at hrc
        obtain ⟨c0, c1, c2, c3⟩ := hrc
        have HNL := Lib.hid hlen
        clear hlen
        have hwf : Wf N := by obtain ⟨_, hs⟩ := HLP.out.st; exact hs.wf
        have HWF := Lib.hid hwf
        clear hwf
        go_wp2_with fail
        go_loopg [9, 11, 12, 79] 4 (fun m v9 v11 v12 cnt wr => ∃ i : Nat, m = 4 - i ∧ i ≤ 4 ∧ cnt = .int .i64 (i : Int) ∧ Lp w sb g tb 131072 N wr ∧ Ob wr sb g tb pb (plO sb y) ∧ Ob wr sb g tb rb (rcO8 R) ∧ Four wr wc.heap.size)
        case atStart => exact ⟨0, rfl, Nat.zero_le _, rfl, HLP.out.later (bel1 _ _), HPL.out.later (bel1 _ _), HRC.out.later (bel1 _ _), four_new wc _ _ _ _ _⟩
        case round =>
          obtain ⟨i, hm, hi, rfl, hlp, hpl, hrc, hfo⟩ := hrel
          have HM := Lib.hid hm
          have HLP1 := Lib.hid hlp
          have HPL1 := Lib.hid hpl
          have HRC1 := Lib.hid hrc
          have HFO := Lib.hid hfo
          clear hm hlp hpl hrc hfo c0 c1 c2 c3
          have hrc := rc_cells8 HRC1.out.at_
          rw [HRE.out] at hrc
          obtain ⟨c0, c1, c2, c3⟩ := hrc
          by_cases hlt : i < 4
          · have hgi : decide ((i : Int) < 4) = true := by simp; omega
            obtain ⟨z, hz⟩ := HFO.out.2 i hlt
            have i1 : (0 : Int) ≤ (i : Int) := by omega
            have i2 : (i : Int) < 4 := by omega
            go_wp2_with fail
            go_loopg [11, 12, 99] 4 (fun m v11 v12 cnt wq => ∃ j : Nat, m = 4 - j ∧ j ≤ 4 ∧ cnt = .int .i64 (j : Int) ∧ Lp w sb g tb 131072 N wq ∧ Ob wq sb g tb pb (plO sb y) ∧ Ob wq sb g tb rb (rcO8 R) ∧ Four wq wc.heap.size ∧ Four wq wr.heap.size)
            case atStart => exact ⟨0, rfl, Nat.zero_le _, rfl, HLP1.out.later (bel1 _ _), HPL1.out.later (bel1 _ _), HRC1.out.later (bel1 _ _), HFO.out.later (bel1 _ _), four_new wr _ _ _ _ _⟩
            case round =>
              obtain ⟨j, hm, hj, rfl, hlp, hpl, hrc, hfo, hfo2⟩ := hrel
              have HM2 := Lib.hid hm
              have HLP2 := Lib.hid hlp
              have HPL2 := Lib.hid hpl
              have HRC2 := Lib.hid hrc
              have HFO2 := Lib.hid hfo
              have HFO3 := Lib.hid hfo2
              clear hm hlp hpl hrc hfo hfo2 c0 c1 c2 c3 hz
              by_cases hlt2 : j < 4
              · have hgj : decide ((j : Int) < 4) = true := by simp; omega
                obtain ⟨z2, hz2⟩ := HFO3.out.2 j hlt2
                have j1 : (0 : Int) ≤ (j : Int) := by omega
                have j2 : (j : Int) < 4 := by omega
                have HBP := Lib.hid (bel1 wr (.cells #[.int .i64 z, .int .i64 z2] 23))
                have hpt : (wr.alloc (.cells #[.int .i64 z, .int .i64 z2] 23)).heap[wr.heap.size]? = some (ptO z z2) := heap_alloc_new wr _
                have HLP3 := Lib.hid (HLP2.out.later HBP.out)
                have HPL3 := Lib.hid (HPL2.out.later HBP.out)
                have HRC3 := Lib.hid (HRC2.out.later HBP.out)
                obtain ⟨p0, p1⟩ := pl_cells HPL3.out.at_
                obtain ⟨q0, q1⟩ := pt_cells hpt
                have hrc := rc_cells8 HRC3.out.at_
                rw [HRE.out] at hrc
                obtain ⟨c0, c1, c2, c3⟩ := hrc
                clear hpt
                go_upto_region 14 with fail
                generalize wr.alloc (.cells #[.int .i64 z, .int .i64 z2] 23) = W5 at *
                clear hz2
                have hme := Up.me W5
                have hGE : ∀ W, Below W5.heap.size W5 W → Calls Try.prog 9 #[.agg #[.pointer (some ⟨sb, 0, none⟩), .int .u32 (y : Int)], .agg #[.int .i64 z, .int .i64 z2]] W fun e w' => e = .returned (.bool (R.has z z2)) ∧ Below W.heap.size W w' := fun W hW => by
                  obtain ⟨cap', hs⟩ := (HLP3.out.later hW).st
                  have := get_any hs HSQ.out hn2 z z2
                  rw [HAL.out] at this
                  exact this
                have hHA : ∀ W, Below W5.heap.size W5 W → Calls Try.prog 10 #[.agg #[.int .i64 X0, .int .i64 Y0, .int .i64 (X1 + 1), .int .i64 (Y1 + 1)], .agg #[.int .i64 z, .int .i64 z2]] W fun e w' => e = .returned (.bool (R.has z z2)) ∧ Below W.heap.size W w' := fun W _ => by
                  have := has_R4 R z z2 W
                  rw [HRE.out] at this ⊢
                  exact this
                have HGE := Lib.hid (fun z : Up W5 => Up.calls hGE z)
                have HHA := Lib.hid (fun z : Up W5 => Up.calls hHA z)
                clear hGE hHA
                generalize R.has z z2 = rh at *
                have g0 := fun z : Up W5 => Up.cell p0 z
                have g1 := fun z : Up W5 => Up.cell p1 z
                have g2 := fun z : Up W5 => Up.cell q0 z
                have g3 := fun z : Up W5 => Up.cell q1 z
                have s0 := fun z : Up W5 => Up.cell c0 z
                have s1 := fun z : Up W5 => Up.cell c1 z
                have s2 := fun z : Up W5 => Up.cell c2 z
                have s3 := fun z : Up W5 => Up.cell c3 z
                have hbb : (rh != rh) = false := by simp
                refine region_up (by kernel_rfl) (by kernel_rfl) ?_
                repeat (go_big_quiet_step ((first | (go_at_call 9; with_reducible exact HGE.out _) | (go_at_call 10; with_reducible exact HHA.out _))))
                refine wpQuiet_nil ?_
                rintro w6 ⟨⟨W6, hW6⟩, hw6⟩
                obtain rfl : w6 = W6 := hw6
                have HW6 := Lib.hid hW6
                clear hW6 g0 g1 g2 g3 s0 s1 s2 s3 hme HGE HHA p0 p1 q0 q1 c0 c1 c2 c3
                go_wp2_with fail
                go_roundg (4 - (j + 1))
                case measure => rw [HM2.out]; omega
                case rel => exact ⟨j + 1, rfl, by omega, by go_num, HLP3.out.later HW6.out, HPL3.out.later HW6.out, HRC3.out.later HW6.out, (HFO2.out.later HBP.out).later HW6.out, (HFO3.out.later HBP.out).later HW6.out⟩
              · obtain rfl : j = 4 := by omega
                have hgs : decide (((4 : Nat) : Int) < 4) = false := by simp
                go_wp2_with fail
                go_roundg (4 - (i + 1))
                case measure => rw [HM.out]; omega
                case rel => exact ⟨i + 1, rfl, by omega, by go_num, HLP2.out, HPL2.out, HRC2.out, HFO2.out⟩
          · obtain rfl : i = 4 := by omega
            have hgs : decide (((4 : Nat) : Int) < 4) = false := by simp
            have hno : R.no = false := (right_bounds HRR.out).1
            obtain ⟨hbx, hct⟩ := bx_rect HWF.out HSQ.out hno HAL.out
            have HBX : Hid (Calls Try.prog 11 #[.agg #[.pointer (some ⟨sb, 0, none⟩), .int .u32 (y : Int)]] wr fun e w' => e = .returned (.tuple #[.agg #[.int .i64 X0, .int .i64 Y0, .int .i64 (X1 + 1), .int .i64 (Y1 + 1)], .bool true]) ∧ Below wr.heap.size wr w') := by
              obtain ⟨cap', hs⟩ := HLP1.out.st
              have := box8_any hs HSQ.out hn2
              rw [hbx, decide_eq_false hct, HRE.out] at this
              exact this
            have HFC : Hid (∀ W, Lp w sb g tb 131072 N W → Calls Try.prog 7 #[.agg #[.pointer (some ⟨sb, 0, none⟩), .int .u32 (y : Int)], .agg #[.int .i64 X0, .int .i64 Y0, .int .i64 (X1 + 1), .int .i64 (Y1 + 1)], .bool false] W fun e w' => ∃ (g' n y' : Nat) (N' : List Nd), e = .returned (.tuple #[.agg #[.pointer (some ⟨sb, 0, none⟩), .int .u32 (y' : Int)], .nilIface]) ∧ Nx sb tb 131072 W g N 63 w' g' N' ∧ Sq N' (n + 1) y' ∧ ctZ N' y' = 0) := fun W hW => by
              obtain ⟨cap', hs⟩ := hW.st
              have := fill_law0 hs HSQ.out hn2 R HRR.out HAL.out (by have := HNL.out; omega)
              rw [HRE.out] at this
              exact this
            clear hbx hct hno
            obtain ⟨p0, p1⟩ := pl_cells HPL1.out.at_
            go_wp2_with fail
            refine HBX.out.mono ?_
            rintro e w6 ⟨rfl, hb⟩
            have hb6 := hb.trans ((bel1 w6 (.cells #[.int .i64 X0, .int .i64 Y0, .int .i64 (X1 + 1), .int .i64 (Y1 + 1)] 26)).mono hb.size)
            have HLP6 := Lib.hid (HLP1.out.later hb6)
            have HPL6 := Lib.hid (HPL1.out.later hb6)
            have HRC6 := Lib.hid (HRC1.out.later hb6)
            have HBO6 := Lib.hid (ob_new8 (HLP1.out.later hb) #[.int .i64 X0, .int .i64 Y0, .int .i64 (X1 + 1), .int .i64 (Y1 + 1)] 26)
            clear hb hb6 HBX p0 p1 c0 c1 c2 c3
            obtain ⟨p0, p1⟩ := pl_cells HPL6.out.at_
            have hrc := rc_cells8 HRC6.out.at_
            rw [HRE.out] at hrc
            obtain ⟨c0, c1, c2, c3⟩ := hrc
            go_wp2_with fail
            generalize w6.alloc (.cells #[.int .i64 X0, .int .i64 Y0, .int .i64 (X1 + 1), .int .i64 (Y1 + 1)] 26) = W7 at *
            generalize w6.heap.size = bx at *
            refine (HFC.out _ HLP6.out).mono ?_
            rintro e w8 ⟨g8, n8, y8, N8, rfl, hnx, hsq8, hct8⟩
            have HLP8 := Lib.hid (HLP6.out.nx hnx)
            have HRC8 := Lib.hid (HRC6.out.nx hnx)
            have HBO8 := Lib.hid (HBO6.out.nx hnx)
            have hyu : y8 < 4294967296 := by obtain ⟨_, hs⟩ := hnx.st; exact Sq.u32 hs hsq8
            have HLP9 := Lib.hid (HLP8.out.later (bel1 w8 (.cells #[.pointer (some ⟨sb, 0, none⟩), .int .u32 (y8 : Int)] 31)))
            have HP9 := Lib.hid (ob_new8 HLP8.out #[.pointer (some ⟨sb, 0, none⟩), .int .u32 (y8 : Int)] 31)
            have HRC9 := Lib.hid (HRC8.out.later (bel1 w8 (.cells #[.pointer (some ⟨sb, 0, none⟩), .int .u32 (y8 : Int)] 31)))
            have HBO9 := Lib.hid (HBO8.out.later (bel1 w8 (.cells #[.pointer (some ⟨sb, 0, none⟩), .int .u32 (y8 : Int)] 31)))
            have HCT : Hid (Calls Try.prog 12 #[.pointer (some ⟨sb, 0, none⟩), .int .u32 (y8 : Int)] (w8.alloc (.cells #[.pointer (some ⟨sb, 0, none⟩), .int .u32 (y8 : Int)] 31)) fun e w' => e = .returned (.int .u64 0) ∧ (w8.alloc (.cells #[.pointer (some ⟨sb, 0, none⟩), .int .u32 (y8 : Int)] 31)) = w') := by
              obtain ⟨cap', hs⟩ := HLP9.out.st
              have := count_any hs y8 hyu
              rw [hct8] at this
              exact this
            clear hnx hsq8 hct8 p0 p1 c0 c1 c2 c3 HFC
            obtain ⟨p0, p1⟩ := pl_cells HP9.out.at_
            have hrc := rc_cells8 HRC9.out.at_
            rw [HRE.out] at hrc
            obtain ⟨c0, c1, c2, c3⟩ := hrc
            obtain ⟨d0, d1, d2, d3⟩ := rc_cells8 (r := ⟨X0, Y0, X1 + 1, Y1 + 1⟩) HBO9.out.at_
            have heq := fun W => eqR8 X0 Y0 (X1 + 1) (Y1 + 1) X0 Y0 (X1 + 1) (Y1 + 1) W
            simp only [beq_self_eq_true, Bool.and_true] at heq
            go_wp2_with fail
            refine HCT.out.mono ?_
            rintro e w9 ⟨rfl, hw9⟩
            have HBE : Hid (Below w.heap.size w w9) := by
              show Below _ _ _
              rw [← hw9]; exact HLP9.out.bel
            clear hw9 HCT
            go_wp2_with fail
            go_ret
            exact ⟨rfl, HBE.out⟩
theorem agreat_walk (a b c d : Int) (w : World) : Calls Try.prog 3 #[.agg #[.int .i64 a, .int .i64 b], .agg #[.int .i64 c, .int .i64 d]] w fun e w' => e = .returned (.bool true) ∧ Below w.heap.size w w' := agreat_any a b c d w
end Go.Proofs.Ytfohkbgacpokoaa
