/- Layer 8's law's step: Fill of a rectangle of the plane. -/
import Derived.Test.YtnfjmmkokhncoaaGreatM18
import Derived.Test.YtnfjmmkokhncoaaGreatM20
import Derived.Test.YtnfjmmkokhncoaaGreatM24
import Derived.Test.YtnfjmmkokhncoaaGreatSqp
import Derived.Deep.CutBlock
import Derived.Deep.DeepCutAuto
import Derived.Deep.CutRange
namespace Go.Proofs.YtnfjmmkokhncoaaGreat
open Go.RowKit Go.Maps Go.Shelf
set_option maxRecDepth 100000

theorem Nx.fit {w w' : World} {sb tb most g g' c c' : Nat} {N N' : List Nd} (h : Nx sb tb most w g N c w' g' N') (hl : N'.length ≤ N.length + c') : Nx sb tb most w g N c' w' g' N' := by
  obtain ⟨E, hE, _⟩ := h.ext
  refine ⟨h.st, h.frm, h.gin, E, hE, ?_⟩
  rw [hE, List.length_append] at hl
  omega
attribute [local go_sem] Oper.semAt_some
set_option maxHeartbeats 4000000 in
theorem step8_good {w : World} {sb g tb cap most : Nat} {M : List Nd} (h : St w sb g tb cap most M) {n x : Nat} {l : List (Int × Int)} (hpl : Pl8 M n x l) (a : Option Addr) (cap' : Nat) (hr : Rv8 w sb g tb a l) (hl : l.length ≤ 5000) (T : List Place) (hT : Cov T (fun p q => (p, q) ∈ l)) (hroom : M.length + T.length + 3300 ≤ most) (k W H : Nat) (hk : k < 256) (hW : W < 256) (hH : H < 256) (p q : Int) (hp : -2305843009213693952 ≤ p ∧ p ≤ 2305843009213693952) (hq : -2305843009213693952 ≤ q ∧ q ≤ 2305843009213693952) (sl : Value) (over : Bool) (hk4 : k % 4 ≤ 1) (h3 : W % 24 ≠ 0 ∧ H % 24 ≠ 0) (h4 : rightR p q (p + ((W % 24 : Nat) : Int)) (q + ((H % 24 : Nat) : Int)) = true) :
    Calls Tryz.prog 7 #[.agg #[.pointer (some ⟨sb, 0, none⟩), .int .u32 (x : Int)], .slice a l.length cap', .agg #[.int .u8 (k : Int), .int .i64 p, .int .i64 q, .int .u8 (W : Int), .int .u8 (H : Int), sl, .bool over]] w fun e w' => Out8 w sb g tb most M l a T e w' := by
  have hxu := Sq.u32 h hpl.sq
  have hn61 : n ≤ 61 := by have := hpl.sq.le62 h.wf; omega
  have HS0 := Lib.hid h
  have HPL := Lib.hid hpl
  have HRV := Lib.hid hr
  have HT := Lib.hid hT
  obtain ⟨W0, hW0, hb0, hs0, hsz0⟩ := s8_start h x (.slice a l.length cap') #[.int .u8 (k : Int), .int .i64 p, .int .i64 q, .int .u8 (W : Int), .int .u8 (H : Int), sl, .bool over] 38
  have HW0 := Lib.hid hW0
  have HB0 := Lib.hid hb0
  have HX0 : Hid (S8x W0 sb g tb w.heap.size x (acO8 k p q W H sl over) (.slice a l.length cap')) := hs0
  clear h hpl hr hT hW0 hb0 hs0
  have m1 : IntKind.u8.wrap ((W : Int).tmod 24) = (W : Int) % 24 := by rw [Int.tmod_eq_emod_of_nonneg (by omega)]; exact IntWalk.u8_in _ (by omega)
  have m2 : IntKind.u8.wrap ((H : Int).tmod 24) = (H : Int) % 24 := by rw [Int.tmod_eq_emod_of_nonneg (by omega)]; exact IntWalk.u8_in _ (by omega)
  have m3 : IntKind.i64.wrap ((W : Int) % 24) = (W : Int) % 24 := IntWalk.i64_in _ (by omega)
  have m4 : IntKind.i64.wrap ((H : Int) % 24) = (H : Int) % 24 := IntWalk.i64_in _ (by omega)
  obtain ⟨q0, q1, q2, q3, q4, q5, q6⟩ := ac_cells8 HX0.out.ac.at_
  refine (callsIn_wide (n := 9)).1 ?_
  refine callsIn_of_wp_marks Tryz.func7 rfl trivial ?_ rfl
  simp only [Tryz.ntmps7, List.size_toArray, List.length_cons, List.length_nil, Nat.reduceAdd, Nat.reduceSub, Array.replicate_succ, Array.replicate_zero, List.push_toArray, List.append_toArray, List.nil_append, List.cons_append]
  refine wpIn_wide.2 ?_
  go_upto_region 1 with fail
  rw [HW0.out]
  go_quiet (fail)
  have hbq := below_drewN8 (Below.refl W0.heap.size W0) nq
  have HX1 := Lib.hid (HX0.out.later hbq)
  have HB1 := Lib.hid (HB0.out.trans (hbq.mono HB0.out.size))
  clear hbq HX0 HB0 m1 m2 m3 m4 q0 q1 q2 q3 q4 q5 q6
  clear HW0
  generalize W0.drewN nq = W1 at *
  clear hsz0 W0
  obtain ⟨wd, hwd⟩ : ∃ wd : Nat, wd = W % 24 := ⟨_, rfl⟩
  obtain ⟨hd, hhd⟩ : ∃ hd : Nat, hd = H % 24 := ⟨_, rfl⟩
  rw [show (W : Int) % 24 = (wd : Int) by omega, show (H : Int) % 24 = (hd : Int) by omega]
  have hwd24 : wd < 24 := by omega
  have hhd24 : hd < 24 := by omega
  replace h3 : wd ≠ 0 ∧ hd ≠ 0 := by omega
  replace h4 : rightR p q (p + (wd : Int)) (q + (hd : Int)) = true := by rw [hwd, hhd]; exact h4
  clear hwd hhd
  have HRE := Lib.hid (rect8_any p q (wd : Int) (hd : Int) (by unfold I64; omega) (by unfold I64; omega) W1)
  obtain ⟨q0, q1, q2, q3, q4, q5, q6⟩ := ac_cells8 HX1.out.ac.at_
  go_wp2_with fail
  refine HRE.out.mono ?_
  rintro e W2 ⟨rfl, hb⟩
  have hba := hb.trans ((bel1 W2 (.cells #[.int .i64 p, .int .i64 q, .int .i64 (p + (wd : Int)), .int .i64 (q + (hd : Int))] 42)).mono hb.size)
  have HX3 := Lib.hid (HX1.out.later hba)
  have HB3 := Lib.hid (HB1.out.trans (hba.mono HB1.out.size))
  have HRC : Hid (Ob (W2.alloc (.cells #[.int .i64 p, .int .i64 q, .int .i64 (p + (wd : Int)), .int .i64 (q + (hd : Int))] 42)) sb g tb W2.heap.size (rcO8 ⟨p, q, p + (wd : Int), q + (hd : Int)⟩)) := Ob.new (HS0.out.later (HB1.out.trans (hb.mono HB1.out.size))) _ _
  have hrb : w.heap.size + 1 + 1 + 1 < W2.heap.size := by have := HX1.out.lt; have := hb.size; omega
  have HRB := Lib.hid hrb
  clear hb hba HRE HX1 HB1 hrb q0 q1 q2 q3 q4 q5 q6
  obtain ⟨q0, q1, q2, q3, q4, q5, q6⟩ := ac_cells8 HX3.out.ac.at_
  go_upto_region 3 with fail
  generalize W2.alloc (.cells #[.int .i64 p, .int .i64 q, .int .i64 (p + (wd : Int)), .int .i64 (q + (hd : Int))] 42) = W3 at *
  generalize W2.heap.size = rb at *
  clear W2
  have HS3 := Lib.hid (HS0.out.later HB3.out)
  have HN3 := Lib.hid (Nx.of_below HS0.out HB3.out)
  have HRV3 := Lib.hid (HRV.out.later HB3.out)
  obtain ⟨bz, hbz1, hbz2⟩ : ∃ bz : Bool, ((k : Int) % 4 == 0) = bz ∧ (bz = false → ((k : Int) % 4 == 1) = true) := by
    refine ⟨_, rfl, fun hh => ?_⟩
    simp at hh ⊢
    omega
  have HBZ2 := Lib.hid hbz2
  have HTB : Hid (((k : Int).tmod 4 == 0) = bz) := by
    show _ = _
    rw [← hbz1, Int.tmod_eq_emod_of_nonneg (by omega)]
  clear hbz2
  go_upto_if 44 with fail
  go_cut [44] from 45 to 48 (fun v44 wx => v44 = .bool true ∧ wx = W3)
  case first =>
    cases bz
    · have hb1 := HBZ2.out rfl
      go_wp2_with fail
      go_meet
      exact ⟨rfl, rfl⟩
    · go_wp2_with fail
      go_meet
      exact ⟨rfl, rfl⟩
  case rest =>
  obtain ⟨rfl, hwc⟩ := hcut
  subst hwc
  obtain ⟨p0, p1⟩ := pl_cells HX3.out.pl.at_
  obtain ⟨c0, c1, c2, c3⟩ := rc_cells8 HRC.out.at_
  have hw0 : ((wd : Int) == 0) = decide (wd = 0) := by rw [Bool.eq_iff_iff]; simp
  have hh0 : ((hd : Int) == 0) = decide (hd = 0) := by rw [Bool.eq_iff_iff]; simp
  have hno : (R4.mk p q (p + (wd : Int)) (q + (hd : Int))).no = false := R4.no_not.2 (by simp only; omega)
  have HFL := Lib.hid (fill8_any HS3.out HPL.out.sq HPL.out.two ⟨p, q, p + (wd : Int), q + (hd : Int)⟩ h4 bz)
  go_wp2_with fail
  refine HFL.out.mono ?_
  clear HFL
  rintro e W4 ⟨g4, M4, n4, ⟨hn1, hn2, hn3, hn4⟩, hnx, hnew, hres⟩
  have hlen := fill_room hnx.wf HPL.out HT.out hwd24 hhd24 hn2 hnew
  rcases hres with ⟨y, rfl, hcon⟩ | ⟨rfl, hfull⟩
  case inr => exact absurd hfull (by omega)
  have hnx4 := hnx.fit (c' := T.length + 3209) (by omega)
  have HCON := Lib.hid hcon
  have HLV4 := Lib.hid (And.intro hn1 (And.intro hn2 (And.intro hn3 hn4)))
  have hb1 := bel1 W4 (.cells #[.pointer (some ⟨sb, 0, none⟩), .int .u32 (y : Int)] 32)
  have HN5 := Lib.hid ((HN3.out.trans hnx4).trans (Nx.of_below hnx4.st.choose_spec hb1))
  have HX5 := Lib.hid ((HX3.out.nx hnx4).later hb1)
  have HRC5 := Lib.hid ((HRC.out.nx hnx4).later hb1)
  have HRV5 := Lib.hid ((HRV3.out.nx hnx4).later hb1)
  have HNB : Hid (Ob (W4.alloc (.cells #[.pointer (some ⟨sb, 0, none⟩), .int .u32 (y : Int)] 32)) sb g4 tb W4.heap.size (plO sb y)) := by
    obtain ⟨cap4, hs4⟩ := hnx4.st
    exact Ob.new hs4 _ _
  have hrb9 := HRB.out
  have hnb : w.heap.size + 1 + 1 + 1 < W4.heap.size := by have := HX3.out.lt; have := hnx4.frm.size; omega
  have hnb2 : rb < W4.heap.size := by have := HRC.out.lt; have := hnx4.frm.size; omega
  clear HX3 HRC HRV3 HN3 HS3 p0 p1 c0 c1 c2 c3 hb1 hnx hnx4 hnew hcon hlen hn1 hn2 hn3 hn4
  clear q0 q1 q2 q3 q4 q5 q6
  obtain ⟨c0, c1, c2, c3⟩ := rc_cells8 HRC5.out.at_
  go_upto_region 7 with fail
  generalize W4.alloc (.cells #[.pointer (some ⟨sb, 0, none⟩), .int .u32 (y : Int)] 32) = W5 at *
  generalize W4.heap.size = nb at *
  clear W4
  have e1 : decide (wd = 0) = false := by simp; omega
  have e2 : decide (hd = 0) = false := by simp; omega
  have HRR := Lib.hid (rectRight_any p q (p + (wd : Int)) (q + (hd : Int)) (by omega) (by omega) (by omega) (by omega) W5)
  rw [h4] at HRR
  go_wp2_with fail
  refine HRR.out.mono ?_
  rintro e W7 ⟨rfl, hb7⟩
  have hs5 : ∃ cap5, St W5 sb g4 tb cap5 most M4 := HN5.out.st
  replace HN5 := Lib.hid (HN5.out.trans (Nx.of_below hs5.choose_spec hb7))
  replace HNB := Lib.hid (HNB.out.later hb7)
  replace HX5 := Lib.hid (HX5.out.later hb7)
  replace HRV5 := Lib.hid (HRV5.out.later hb7)
  replace HRC5 := Lib.hid (HRC5.out.later hb7)
  clear hb7 HRR c0 c1 c2 c3 hs5
  clear W5
  obtain ⟨c0, c1, c2, c3⟩ := rc_cells8 HRC5.out.at_
  go_wp2_with fail
  have hcn := Lib.hid (lt_of_some HX5.out.res.at_)
  obtain ⟨cap7, hs7⟩ := HN5.out.st
  have HST7 := Lib.hid hs7
  clear hs7 c0 c1 c2 c3
  have hab : ∀ bk off, a = some ⟨bk, off, none⟩ → bk < w.heap.size := fun bk off e => (HRV.out.2 bk off e).2.2.2
  have HAB := Lib.hid hab
  clear hab
  have hrt4 := h4
  unfold rightR onP at hrt4
  simp only [Bool.and_eq_true, decide_eq_true_eq] at hrt4
  refine wpIn_wide.1 (range_meth (n := 9) (by decide) (gf := 21) (first := #[.agg #[.int .i64 p, .int .i64 q, .int .i64 (p + (wd : Int)), .int .i64 (q + (hd : Int))]]) rfl (enters_of Tryz.func21 (by kernel_rfl) rfl) ?_)
  intro r W8 hrs hrp hrt hrps hra hrb hW8
  have hB8 : W8.heap.size = W7.heap.size + 2 := by rw [hW8]; simp
  refine CallsIn.mono (all_iter p q (p + (wd : Int)) (q + (hd : Int)) wd hd 8 (by omega) (by omega) rfl rfl (by omega) (by omega) (by omega) (by omega) (W7.heap.size + 1) (W7.heap.size + 2)
    (fun kk Wk => Jd8 w sb g tb most (T.length + 3209) M x (acO8 k p q W H sl over) g4 M4 rb (rcO8 ⟨p, q, p + (wd : Int), q + (hd : Int)⟩) nb (plO sb y) a (setA l (ptsU p q wd kk) bz) W7.heap.size r Wk) (fun _ _ => False) ?abide ?round W8 hB8 ?start) ?behind
  case abide =>
    intro k W W' h1 hb
    exact h1.later hb
  case start =>
    have hb1 : Below W7.heap.size W7 W8 := by rw [hW8]; go_grown
    obtain ⟨l1, l2, l3⟩ := HST7.out.lt
    refine ⟨⟨.slice a l.length cap', HX5.out.later hb1, ⟨a, cap', rfl, HRV5.out.later hb1, Or.inl rfl⟩⟩, (HN5.out.trans (Nx.of_below HST7.out hb1)).mono (by omega), HRC5.out.later hb1, HNB.out.later hb1, ⟨?_, by omega, by omega, by omega⟩, ?_⟩
    · rw [hW8]
      have := World.alloc_heap_new (W7.alloc (.deferred (some []))) (.loop r)
      rw [World.size_alloc] at this
      exact this
    · rw [hW8]
      exact (Below.heap_alloc _ _ _ (by simp)).trans (World.alloc_heap_new W7 _)
  case round =>
    intro i j Wr hi hj hBW hJ
    refine yield_round hJ.lp.at_ hrs (by rw [hrps]; rfl) ?_
    rw [hra, hrb, hrps, hrt]
    have HJ1 := Lib.hid hJ
    have HRS := Lib.hid hrs
    have HRP := Lib.hid hrp
    have hk0 : (wd * j + i) % wd = i := by rw [Nat.mul_add_mod, Nat.mod_eq_of_lt hi]
    have hk1 : (wd * j + i) / wd = j := by rw [Nat.mul_add_div (by omega), Nat.div_eq_of_lt hi, Nat.add_zero]
    have HK := Lib.hid (And.intro hk0 hk1)
    have hkm : wd * j + i < 600 := by
      have : wd * j ≤ 23 * 23 := Nat.mul_le_mul (by omega) (by omega)
      omega
    clear hJ hra hrb hrps hrt hrs hrp hW8 hB8 hk0 hk1
    generalize wd * j + i = kk at *
    have hlt : W7.heap.size + 1 < Wr.heap.size := HJ1.out.lp.lt
    gi_wp2_with fail
    have hal := bel1 Wr (.cells #[.int .i64 (p + (i : Int)), .int .i64 (q + (j : Int))] 24)
    refine ⟨(HJ1.out.later hal).lp.at_, ?_⟩
    have hdd : w.heap.size + 1 + 1 + 1 < W7.heap.size ∧ rb < W7.heap.size ∧ nb < W7.heap.size := ⟨hcn.out, HRC5.out.lt, HNB.out.lt⟩
    have HJ2 := Lib.hid ((HJ1.out.later hal).put hdd (busyL r))
    have hq2 : ((Wr.alloc (.cells #[.int .i64 (p + (i : Int)), .int .i64 (q + (j : Int))] 24)).putObj (W7.heap.size + 1) (.loop (busyL r))).heap[Wr.heap.size]? = some (ptO (p + (i : Int)) (q + (j : Int))) := (World.putObj_heap_other (by omega)).trans (heap_alloc_new Wr _)
    have hbb : ((Wr.alloc (.cells #[.int .i64 (p + (i : Int)), .int .i64 (q + (j : Int))] 24)).putObj (W7.heap.size + 1) (.loop (busyL r))).heap[W7.heap.size + 2]? = Wr.heap[W7.heap.size + 2]? := (World.putObj_heap_other (by omega)).trans (hal.block _ hBW)
    have hb2 : W7.heap.size + 2 < ((Wr.alloc (.cells #[.int .i64 (p + (i : Int)), .int .i64 (q + (j : Int))] 24)).putObj (W7.heap.size + 1) (.loop (busyL r))).heap.size := by simp; omega
    have HQ2 := Lib.hid hq2
    have HBB := Lib.hid hbb
    clear hal hq2 hbb HJ1
    generalize (Wr.alloc (.cells #[.int .i64 (p + (i : Int)), .int .i64 (q + (j : Int))] 24)).putObj (W7.heap.size + 1) (.loop (busyL r)) = W2 at *
    obtain ⟨v, hv1, a0, c0, rfl, hv2, hv3⟩ := HJ2.out.v
    have HV1 := Lib.hid hv1
    have HV2 := Lib.hid hv2
    have HV3 := Lib.hid hv3
    clear hv1 hv2 hv3
    have hll : (setA l (ptsU p q wd kk) bz).length ≤ 1000000 := by have := setA_len bz (ptsU p q wd kk) l; rw [ptsU_len] at this; omega
    gi_wp2_with fail
    refine region_sq_round 8 (fun W' => W'.heap[w.heap.size + 1]? = some (lbO (.slice a0 (setA l (ptsU p q wd kk) bz).length c0)) ∧ W'.heap[w.heap.size + 1 + 1]? = some (acO8 k p q W H sl over) ∧ W'.heap[Wr.heap.size]? = some (ptO (p + (i : Int)) (q + (j : Int)))) [(0, 2), (1, 2), (3, 1), (4, 2), (5, 1), (6, 1), (2, 0), (7, 0), (8, 3)] (by kernel_rfl) (fun ⟨_, _, h⟩ => h) (by kernel_rfl) (by kernel_rfl) rfl (by intro c a d v w h; cases d <;> exact h) (by kernel_rfl) ⟨HV1.out.lb.at_, HV1.out.ac.at_, HQ2.out⟩ ?_
    refine ⟨_, ?_, rfl, by rfl, ?_, ?_⟩
    rotate_left
    · intro W hW
      have x := lb_cell hW.1
      obtain ⟨x0, _⟩ := x
      have y := ac_cells8 hW.2.1
      obtain ⟨y0, _⟩ := y
      have z := pt_cells hW.2.2
      obtain ⟨z0, z1⟩ := z
      go_simp; first | done | rfl
    conv => arg 6; simp only [Act.put, List.setIfInBounds_toArray, List.set_cons_zero, List.set_cons_succ]
    refine ⟨_, ?_, rfl, by rfl, ?_, ?_⟩
    rotate_left
    · intro W hW
      have x := lb_cell hW.1
      obtain ⟨x0, _⟩ := x
      have y := ac_cells8 hW.2.1
      obtain ⟨y0, _⟩ := y
      have z := pt_cells hW.2.2
      obtain ⟨z0, z1⟩ := z
      go_simp; first | done | rfl
    conv => arg 6; simp only [Act.put, List.setIfInBounds_toArray, List.set_cons_zero, List.set_cons_succ]
    refine ⟨_, ?_, rfl, by rfl, ?_, ?_⟩
    rotate_left
    · intro W; go_simp; first | done | rfl
    conv => arg 6; simp only [Act.put, List.setIfInBounds_toArray, List.set_cons_zero, List.set_cons_succ]
    refine ⟨_, ?_, rfl, by rfl, ?_, ?_⟩
    rotate_left
    · intro W hW
      have x := lb_cell hW.1
      obtain ⟨x0, _⟩ := x
      have y := ac_cells8 hW.2.1
      obtain ⟨y0, _⟩ := y
      have z := pt_cells hW.2.2
      obtain ⟨z0, z1⟩ := z
      go_simp; first | done | rfl
    conv => arg 6; simp only [Act.put, List.setIfInBounds_toArray, List.set_cons_zero, List.set_cons_succ]
    refine ⟨_, ?_, rfl, by rfl, ?_, ?_⟩
    rotate_left
    · intro W; go_simp; first | done | rfl
    conv => arg 6; simp only [Act.put, List.setIfInBounds_toArray, List.set_cons_zero, List.set_cons_succ]
    refine ⟨_, ?_, rfl, by rfl, ?_, ?_⟩
    rotate_left
    · intro W; go_simp; first | done | rfl
    conv => arg 6; simp only [Act.put, List.setIfInBounds_toArray, List.set_cons_zero, List.set_cons_succ]
    refine ⟨_, rfl, by rfl, fun K hK => ?_⟩
    go_simp
    refine (of8_law _ _ _).mono ?_
    rintro e w3 ⟨rfl, hb3⟩
    have HJ3 := Lib.hid (HJ2.out.drew.later hb3)
    have HV4 : Hid (S8x w3 sb g4 tb w.heap.size x (acO8 k p q W H sl over) (.slice a0 (setA l (ptsU p q wd kk) bz).length c0)) := S8x.later (W := W2.drew) ⟨HV1.out.pl.drew, HV1.out.lb.drew, HV1.out.ac.drew, HV1.out.res.drew⟩ hb3
    have HV5 : Hid (Rv8 w3 sb g4 tb a0 (setA l (ptsU p q wd kk) bz)) := Rv8.later (w := W2.drew) HV2.out hb3
    have HQ3 : Hid (w3.heap[Wr.heap.size]? = some (ptO (p + (i : Int)) (q + (j : Int)))) := keep8 (w := W2.drew) HQ2.out hb3
    have HBB3 : Hid (w3.heap[W7.heap.size + 2]? = Wr.heap[W7.heap.size + 2]?) := (hb3.block _ hb2).trans HBB.out
    have hb32 : W7.heap.size + 2 < w3.heap.size := Nat.lt_of_lt_of_le hb2 hb3.size
    refine hK _ _ ⟨HV4.out.lb.at_, HV4.out.ac.at_, HQ3.out⟩ ?_
    clear hK K hb3
    conv => arg 6; simp only [Act.put, List.setIfInBounds_toArray, List.set_cons_zero, List.set_cons_succ]
    refine ⟨_, rfl, by rfl, fun K hK => ?_⟩
    go_simp
    rw [HTB.out]
    refine (set_refB _ _ _ _ _ bz _ HV5.out.1 hll).mono ?_
    rintro e w4 ⟨u, rfl, hu, hb4⟩
    obtain ⟨a1, c1, hu1, _, _⟩ := hu.ro
    generalize (setL (setA l (ptsU p q wd kk) bz) (p + (i : Int), q + (j : Int)) bz).length = n1 at hu1
    subst hu1
    have HJ5 := Lib.hid (HJ3.out.later hb4)
    have HLW : Hid (Lst w w4 sb g4 tb a (.slice a1 n1 c1) (setA l (ptsU p q wd (kk + 1)) bz)) := by
      show Lst _ _ _ _ _ _ _ _
      rw [ptsU_succ, setA_snoc, HK.out.1, HK.out.2]
      exact lst_set HJ3.out.nx.st.choose_spec hu HV4.out.lt
    have HBB4 : Hid (w4.heap[W7.heap.size + 2]? = Wr.heap[W7.heap.size + 2]?) := (hb4.block _ hb32).trans HBB3.out
    have hv6 := HV4.out.later hb4
    have HQ4 := keep8 HQ3.out hb4
    refine hK _ _ ⟨hv6.lb.at_, hv6.ac.at_, HQ4⟩ ?_
    clear hK K hb4 hu
    obtain ⟨x0, x1⟩ := lb_cell hv6.lb.at_
    conv => arg 6; simp only [Act.put, List.setIfInBounds_toArray, List.set_cons_zero, List.set_cons_succ]
    refine ⟨_, rfl, by rfl, fun K hK => ?_⟩
    go_simp
    refine hK _ _ ?_
    clear hK K
    go_simp
    conv => arg 6; simp only [Act.put, List.setIfInBounds_toArray, List.set_cons_zero, List.set_cons_succ]
    unfold wpSq
    have HJ6 := Jd8.list HJ5.out ⟨hrb9, hnb, hcn.out⟩ HAB.out _ HLW.out
    refine inb_left HJ6.lp.at_ (Or.inl ⟨rfl, ?_, ?_⟩)
    · rw [readyL_eq HRS.out HRP.out]
      exact HJ6.put hdd r
    · refine (World.putObj_heap_other (by omega)).trans ((Below.heap_setCell _ _ _ _ (by show W7.heap.size + 2 ≠ w.heap.size + 1; have := hcn.out; omega)).trans HBB4.out)
  case behind =>
    rintro e W9 ⟨hv, (hJ | ⟨_, hx⟩)⟩
    · have hdd : w.heap.size + 1 + 1 + 1 < W7.heap.size ∧ rb < W7.heap.size ∧ nb < W7.heap.size := ⟨hcn.out, HRC5.out.lt, HNB.out.lt⟩
      have HJ9 := Lib.hid (hJ.put hdd (overL r))
      refine ⟨hv, .inl ⟨hJ.lp.at_, ?_⟩⟩
      clear hJ hra hrb hrps hrt hrs hrp hW8 hB8 hv
      generalize W9.putObj (W7.heap.size + 1) (.loop (overL r)) = W10 at *
      clear W9 W8
      obtain ⟨l', hl'⟩ : ∃ l', l' = setA l (ptsU p q wd (wd * hd)) bz := ⟨_, rfl⟩
      rw [← hl'] at HJ9
      have hmm : ∀ u z, (u, z) ∈ l' ↔ (if (R4.mk p q (p + (wd : Int)) (q + (hd : Int))).has u z = true then bz = true else (u, z) ∈ l) := fun u z => by
        rw [hl', setA_mem]
        simp only [ptsU_mem p q wd hd (by omega)]
      have hnd : l'.Nodup := by rw [hl']; exact setA_nodup bz _ _ HPL.out.nd
      have hln : l'.length ≤ l.length + 529 := by
        rw [hl']
        have h1 := setA_len bz (ptsU p q wd (wd * hd)) l
        rw [ptsU_len] at h1
        have : wd * hd ≤ 23 * 23 := Nat.mul_le_mul (by omega) (by omega)
        omega
      have HPL9 : Hid (Pl8 M4 n4 y l') := fill_pl8 HPL.out HLV4.out.1 HLV4.out.2.2.1 h4 HCON.out hnd hmm
      have HMM := Lib.hid hmm
      have HLN := Lib.hid hln
      clear hmm hnd hl' hln
      obtain ⟨v, hv1, a0, c0, rfl, hv2, hv3⟩ := HJ9.out.v
      have HV1 := Lib.hid hv1
      have HV2 := Lib.hid hv2
      have HV3 := Lib.hid hv3
      obtain ⟨cap10, hs10⟩ := HJ9.out.nx.st
      have HST := Lib.hid hs10
      have HLX : Hid (lvZ M4 x = ((n : Int) + 1)) := by
        show _ = _
        obtain ⟨E, hE, _⟩ := HJ9.out.nx.ext
        rw [hE]
        have := HPL.out.sq.app E
        unfold Sq at this
        rw [this]; omega
      have HLY : Hid (lvZ M4 y = ((n4 : Int) + 1)) := by
        show _ = _
        have := HPL9.out.sq
        unfold Sq at this
        rw [this]; omega
      have hfi : ∀ m : Nat, fitB m [(p, q), (p + (wd : Int) - 1, q + (hd : Int) - 1)] = true ↔ inR m ⟨p, q, p + (wd : Int), q + (hd : Int)⟩ := fun m => by
        unfold fitB inR
        simp only [List.all_cons, List.all_nil, Bool.and_true, Bool.and_eq_true, inS, decide_eq_true_eq]
        omega
      have HFA : Hid (n4 = 61 ∨ fitB n4 [(p, q), (p + (wd : Int) - 1, q + (hd : Int) - 1)] = true) := Or.inr ((hfi n4).2 HLV4.out.2.2.1)
      have HFB : Hid (∀ i, n ≤ i → i < n4 → fitB i [(p, q), (p + (wd : Int) - 1, q + (hd : Int) - 1)] = false) := fun i h1 h2 => by
        rw [← Bool.not_eq_true, hfi i]
        exact HLV4.out.2.2.2 i h1 h2
      have HWX : Hid (IntKind.i64.wrap (p + (wd : Int) - 1) = p + (wd : Int) - 1) := IntWalk.i64_in _ (by omega)
      have HWY : Hid (IntKind.i64.wrap (q + (hd : Int) - 1) = q + (hd : Int) - 1) := IntWalk.i64_in _ (by omega)
      clear hv1 hv2 hv3 hs10 hfi
      go_wp2_with fail
      refine wp_np ?_
      refine region_sp 20 (fun W => Below W10.heap.size W10 W) [(0, 1), (1, 2), (3, 1), (4, 1), (5, 2), (6, 1), (7, 1), (8, 1), (9, 2), (10, 1), (11, 1), (14, 1), (15, 2), (16, 1), (17, 2), (2, 0), (12, 0)] 13 18 [(19, 0), (20, 3)] (by kernel_rfl) (by kernel_rfl) rfl (fun _ _ _ _ _ h => h) (by kernel_rfl) (below_drewN8 (Below.refl _ W10) 1) ?_
      refine ⟨_, ?_, rfl, by rfl, ?_, ?_⟩
      rotate_left
      · intro W; go_simp; first | done | rfl
      conv => arg 7; simp only [Act.put, List.setIfInBounds_toArray, List.set_cons_zero, List.set_cons_succ]
      refine ⟨_, ?_, rfl, by rfl, ?_, ?_⟩
      rotate_left
      · intro W hW
        have ra := rc_cells8 (HJ9.out.rc.later hW).at_
        obtain ⟨r0, r1, r2, r3⟩ := ra
        have pa := pl_cells (HV1.out.pl.later hW).at_
        obtain ⟨p0, p1⟩ := pa
        go_simp; first | done | rfl
      conv => arg 7; simp only [Act.put, List.setIfInBounds_toArray, List.set_cons_zero, List.set_cons_succ]
      refine ⟨_, ?_, rfl, by rfl, ?_, ?_⟩
      rotate_left
      · intro W; go_simp; first | done | rfl
      conv => arg 7; simp only [Act.put, List.setIfInBounds_toArray, List.set_cons_zero, List.set_cons_succ]
      refine ⟨_, ?_, rfl, by rfl, ?_, ?_⟩
      rotate_left
      · intro W; go_simp; first | done | rfl
      conv => arg 7; simp only [Act.put, List.setIfInBounds_toArray, List.set_cons_zero, List.set_cons_succ]
      refine ⟨_, ?_, rfl, by rfl, ?_, ?_⟩
      rotate_left
      · intro W hW
        have ra := rc_cells8 (HJ9.out.rc.later hW).at_
        obtain ⟨r0, r1, r2, r3⟩ := ra
        have pa := pl_cells (HV1.out.pl.later hW).at_
        obtain ⟨p0, p1⟩ := pa
        go_simp; first | done | rfl
      conv => arg 7; simp only [Act.put, List.setIfInBounds_toArray, List.set_cons_zero, List.set_cons_succ]
      refine ⟨_, ?_, rfl, by rfl, ?_, ?_⟩
      rotate_left
      · intro W; go_simp; first | done | rfl
      conv => arg 7; simp only [Act.put, List.setIfInBounds_toArray, List.set_cons_zero, List.set_cons_succ]
      refine ⟨_, ?_, rfl, by rfl, ?_, ?_⟩
      rotate_left
      · intro W; go_simp; first | done | rfl
      conv => arg 7; simp only [Act.put, List.setIfInBounds_toArray, List.set_cons_zero, List.set_cons_succ]
      refine ⟨_, ?_, rfl, by rfl, ?_, ?_⟩
      rotate_left
      · intro W; go_simp; first | done | rfl
      conv => arg 7; simp only [Act.put, List.setIfInBounds_toArray, List.set_cons_zero, List.set_cons_succ]
      refine ⟨_, ?_, rfl, by rfl, ?_, ?_⟩
      rotate_left
      · intro W hW
        have ra := rc_cells8 (HJ9.out.rc.later hW).at_
        obtain ⟨r0, r1, r2, r3⟩ := ra
        have pa := pl_cells (HV1.out.pl.later hW).at_
        obtain ⟨p0, p1⟩ := pa
        go_simp; first | done | rfl
      conv => arg 7; simp only [Act.put, List.setIfInBounds_toArray, List.set_cons_zero, List.set_cons_succ]
      refine ⟨_, ?_, rfl, by rfl, ?_, ?_⟩
      rotate_left
      · intro W; go_simp; first | done | rfl
      conv => arg 7; simp only [Act.put, List.setIfInBounds_toArray, List.set_cons_zero, List.set_cons_succ]
      refine ⟨_, ?_, rfl, by rfl, ?_, ?_⟩
      rotate_left
      · intro W; go_simp; first | done | rfl
      conv => arg 7; simp only [Act.put, List.setIfInBounds_toArray, List.set_cons_zero, List.set_cons_succ]
      refine ⟨_, ?_, rfl, by rfl, ?_, ?_⟩
      rotate_left
      · intro W; go_simp; first | done | rfl
      conv => arg 7; simp only [Act.put, List.setIfInBounds_toArray, List.set_cons_zero, List.set_cons_succ]
      refine ⟨_, ?_, rfl, by rfl, ?_, ?_⟩
      rotate_left
      · intro W hW
        have ra := rc_cells8 (HJ9.out.rc.later hW).at_
        obtain ⟨r0, r1, r2, r3⟩ := ra
        have pa := pl_cells (HV1.out.pl.later hW).at_
        obtain ⟨p0, p1⟩ := pa
        go_simp; first | done | rfl
      conv => arg 7; simp only [Act.put, List.setIfInBounds_toArray, List.set_cons_zero, List.set_cons_succ]
      refine ⟨_, ?_, rfl, by rfl, ?_, ?_⟩
      rotate_left
      · intro W; go_simp; first | done | rfl
      conv => arg 7; simp only [Act.put, List.setIfInBounds_toArray, List.set_cons_zero, List.set_cons_succ]
      refine ⟨_, ?_, rfl, by rfl, ?_, ?_⟩
      rotate_left
      · intro W hW
        have ra := rc_cells8 (HJ9.out.rc.later hW).at_
        obtain ⟨r0, r1, r2, r3⟩ := ra
        have pa := pl_cells (HV1.out.pl.later hW).at_
        obtain ⟨p0, p1⟩ := pa
        go_simp; first | done | rfl
      conv => arg 7; simp only [Act.put, List.setIfInBounds_toArray, List.set_cons_zero, List.set_cons_succ]
      refine ⟨_, rfl, by rfl, fun K hK => ?_⟩
      go_simp
      refine (of8_law _ _ _).mono ?_
      rintro e w11 ⟨rfl, hb11⟩
      have HB11 : Hid (Below W10.heap.size W10 w11) := ⟨hb11.os, hb11.tape, hb11.output, hb11.size, hb11.block⟩
      clear hb11
      refine hK _ _ HB11.out ?_
      clear hK K
      conv => arg 7; simp only [Act.put, List.setIfInBounds_toArray, List.set_cons_zero, List.set_cons_succ]
      refine ⟨_, rfl, by rfl, fun K hK => ?_⟩
      go_simp
      rw [HWX.out, HWY.out]
      refine (of8_law _ _ _).mono ?_
      rintro e w12 ⟨rfl, hb12⟩
      have HB12 := Lib.hid (HB11.out.trans (hb12.mono HB11.out.size))
      clear hb12
      refine hK _ _ HB12.out ?_
      clear hK K
      conv => arg 7; simp only [Act.put, List.setIfInBounds_toArray, List.set_cons_zero, List.set_cons_succ]
      have HB13 := Lib.hid (HB12.out.trans ((bel1 w12 (.cells #[.int .i64 p, .int .i64 q, .int .i64 (p + (wd : Int) - 1), .int .i64 (q + (hd : Int) - 1)] 45)).mono HB12.out.size))
      have hbd : Below W10.heap.size W10 (w12.alloc (.cells #[.int .i64 p, .int .i64 q, .int .i64 (p + (wd : Int) - 1), .int .i64 (q + (hd : Int) - 1)] 45)) := HB13.out
      have hbe : Below W10.heap.size W10 w12 := HB12.out
      refine ⟨_, _, rfl, rfl, by rfl, by rfl, fun K hK => ?_⟩
      refine (fun hk => ⟨?b1, ?b2⟩ : K ?aa ?ww → _) (hK ?aa ?ww ?hd ?hr)
      case b1 =>
        go_simp
        first
          | (refine ⟨hbd, by rfl, ?_⟩; go_simp)
          | (refine ⟨hbd, ?_⟩; go_simp)
          | skip
        refine (level_any (HST.out.later HB13.out) x hxu).mono ?_
        rintro e w18 ⟨rfl, rfl⟩
        rw [HLX.out]
        exact hk
      case b2 =>
        go_simp
        refine (level_any (HST.out.later HB12.out) x hxu).mono ?_
        rintro e w18 ⟨rfl, rfl⟩
        rw [HLX.out]
        first
          | (refine ⟨hbe, by rfl, ?_⟩; go_simp)
          | (refine ⟨hbe, ?_⟩; go_simp)
          | skip
        exact hk
      case hd =>
        exact HB13.out
      clear hK K hbd hbe
      conv => arg 6; simp only [Act.put, List.setIfInBounds_toArray, List.set_cons_zero, List.set_cons_succ]
      refine ⟨_, rfl, by rfl, fun K hK => ?_⟩
      go_simp
      have hlr : Calls Tryz.prog 23 #[.slice (some ⟨w12.heap.size, 0, none⟩) 2 2, .int .i64 ((n : Int) + 1)] (w12.alloc (.cells #[.int .i64 p, .int .i64 q, .int .i64 (p + (wd : Int) - 1), .int .i64 (q + (hd : Int) - 1)] 45)) fun e w' => e = .returned (.int .i64 ((n4 : Int) + 1)) ∧ w12.alloc (.cells #[.int .i64 p, .int .i64 q, .int .i64 (p + (wd : Int) - 1), .int .i64 (q + (hd : Int) - 1)] 45) = w' := level_ref [(p, q), (p + (wd : Int) - 1, q + (hd : Int) - 1)] (some ⟨w12.heap.size, 0, none⟩) 2 n n4 HLV4.out.1 HLV4.out.2.1 HFA.out HFB.out _ (ro_two w12 p q _ _ 45) (by simp)
      have HLR := Lib.hid hlr
      clear hlr
      refine HLR.out.mono ?_
      clear HLR
      rintro e w19 ⟨rfl, rfl⟩
      refine hK _ _ HB13.out ?_
      clear hK K
      conv => arg 6; simp only [Act.put, List.setIfInBounds_toArray, List.set_cons_zero, List.set_cons_succ]
      refine ⟨_, rfl, by rfl, fun K hK => ?_⟩
      go_simp
      refine hK _ _ ?_
      clear hK K
      conv => arg 6; simp only [Act.put, List.setIfInBounds_toArray, List.set_cons_zero, List.set_cons_succ]
      unfold wpSq
      refine noPan_n ?_
      generalize (w12.alloc (.cells #[.int .i64 p, .int .i64 q, .int .i64 (p + (wd : Int) - 1), .int .i64 (q + (hd : Int) - 1)] 45)) = W13 at *
      have HX13 := Lib.hid (HV1.out.later HB13.out)
      have HNB13 := Lib.hid (HJ9.out.nb.later HB13.out)
      have HST13 := Lib.hid (HST.out.later HB13.out)
      have HN13 := Lib.hid (HJ9.out.nx.trans (Nx.of_below HST.out HB13.out))
      have HRV13 := Lib.hid (HV2.out.later HB13.out)
      have HDF13 : Hid (W13.heap[W7.heap.size]? = some (.deferred (some []))) := (HB13.out.block _ (lt_of_some HJ9.out.df)).trans HJ9.out.df
      have hyu := Sq.u32 HST.out HPL9.out.sq
      have h13 : w.heap.size + 1 + 1 + 1 < W13.heap.size := HX13.out.lt
      have hw7 := hcn.out
      obtain ⟨l1, l2, l3⟩ := HST7.out.lt
      go_wp2_with fail
      refine wp_np ?_
      refine region_sq 15 (fun W => W.heap[nb]? = some (plO sb y) ∧ W.heap[w.heap.size + 1]? = some (lbO (.slice a0 l'.length c0))) [(0, 2), (1, 2), (2, 1), (3, 1), (4, 1), (5, 1), (6, 2), (7, 1), (8, 2), (10, 1), (9, 0), (11, 1), (12, 1), (13, 0), (14, 0), (15, 3)] (by kernel_rfl) (by kernel_rfl) rfl (by intro c a d v w h; cases d <;> exact h) (by kernel_rfl) ⟨HNB13.out.at_, HX13.out.lb.at_⟩ ?_
      refine ⟨_, ?_, rfl, by rfl, ?_, ?_⟩
      rotate_left
      · intro W hW
        have z := pl_cells hW.1
        obtain ⟨z0, z1⟩ := z
        have y9 := lb_cell hW.2
        obtain ⟨y0, _⟩ := y9
        go_simp; first | done | rfl
      conv => arg 6; simp only [Act.put, List.setIfInBounds_toArray, List.set_cons_zero, List.set_cons_succ]
      refine ⟨_, ?_, rfl, by rfl, ?_, ?_⟩
      rotate_left
      · intro W hW
        have z := pl_cells hW.1
        obtain ⟨z0, z1⟩ := z
        have y9 := lb_cell hW.2
        obtain ⟨y0, _⟩ := y9
        go_simp; first | done | rfl
      conv => arg 6; simp only [Act.put, List.setIfInBounds_toArray, List.set_cons_zero, List.set_cons_succ]
      refine ⟨_, ?_, rfl, by rfl, ?_, ?_⟩
      rotate_left
      · intro W; go_simp; first | done | rfl
      conv => arg 6; simp only [Act.put, List.setIfInBounds_toArray, List.set_cons_zero, List.set_cons_succ]
      refine ⟨_, ?_, rfl, by rfl, ?_, ?_⟩
      rotate_left
      · intro W; go_simp; first | done | rfl
      conv => arg 6; simp only [Act.put, List.setIfInBounds_toArray, List.set_cons_zero, List.set_cons_succ]
      refine ⟨_, ?_, rfl, by rfl, ?_, ?_⟩
      rotate_left
      · intro W; go_simp; first | done | rfl
      conv => arg 6; simp only [Act.put, List.setIfInBounds_toArray, List.set_cons_zero, List.set_cons_succ]
      refine ⟨_, ?_, rfl, by rfl, ?_, ?_⟩
      rotate_left
      · intro W; go_simp; first | done | rfl
      conv => arg 6; simp only [Act.put, List.setIfInBounds_toArray, List.set_cons_zero, List.set_cons_succ]
      refine ⟨_, ?_, rfl, by rfl, ?_, ?_⟩
      rotate_left
      · intro W hW
        have z := pl_cells hW.1
        obtain ⟨z0, z1⟩ := z
        have y9 := lb_cell hW.2
        obtain ⟨y0, _⟩ := y9
        go_simp; first | done | rfl
      conv => arg 6; simp only [Act.put, List.setIfInBounds_toArray, List.set_cons_zero, List.set_cons_succ]
      refine ⟨_, ?_, rfl, by rfl, ?_, ?_⟩
      rotate_left
      · intro W; go_simp; first | done | rfl
      conv => arg 6; simp only [Act.put, List.setIfInBounds_toArray, List.set_cons_zero, List.set_cons_succ]
      refine ⟨_, ?_, rfl, by rfl, ?_, ?_⟩
      rotate_left
      · intro W hW
        have z := pl_cells hW.1
        obtain ⟨z0, z1⟩ := z
        have y9 := lb_cell hW.2
        obtain ⟨y0, _⟩ := y9
        go_simp; first | done | rfl
      conv => arg 6; simp only [Act.put, List.setIfInBounds_toArray, List.set_cons_zero, List.set_cons_succ]
      refine ⟨_, ?_, rfl, by rfl, ?_, ?_⟩
      rotate_left
      · intro W; go_simp; first | done | rfl
      conv => arg 6; simp only [Act.put, List.setIfInBounds_toArray, List.set_cons_zero, List.set_cons_succ]
      refine ⟨_, rfl, by rfl, fun K hK => ?_⟩
      go_simp
      refine (level_any HST13.out.drew y hyu).mono ?_
      rintro e w9 ⟨rfl, rfl⟩
      rw [HLY.out]
      refine hK _ _ ⟨HNB13.out.at_, HX13.out.lb.at_⟩ ?_
      clear hK K
      conv => arg 6; simp only [Act.put, List.setIfInBounds_toArray, List.set_cons_zero, List.set_cons_succ]
      refine ⟨_, ?_, rfl, by rfl, ?_, ?_⟩
      rotate_left
      · intro W; go_simp; first | done | rfl
      conv => arg 6; simp only [Act.put, List.setIfInBounds_toArray, List.set_cons_zero, List.set_cons_succ]
      refine ⟨_, ?_, rfl, by rfl, ?_, ?_⟩
      rotate_left
      · intro W; go_simp; first | done | rfl
      conv => arg 6; simp only [Act.put, List.setIfInBounds_toArray, List.set_cons_zero, List.set_cons_succ]
      refine ⟨_, rfl, by rfl, fun K hK => ?_⟩
      have yr := res_cells HX13.out.res.at_
      obtain ⟨y0, y1, y2, y3⟩ := yr
      go_simp
      have HDX : Hid (((W13.setCell ⟨w.heap.size + 1 + 1 + 1, 0, none⟩ (.pointer (some ⟨sb, 0, none⟩))).setCell ⟨w.heap.size + 1 + 1 + 1, 1, none⟩ (.int .u32 (y : Int))).drew.heap[nb]? = some (plO sb y) ∧ ((W13.setCell ⟨w.heap.size + 1 + 1 + 1, 0, none⟩ (.pointer (some ⟨sb, 0, none⟩))).setCell ⟨w.heap.size + 1 + 1 + 1, 1, none⟩ (.int .u32 (y : Int))).drew.heap[w.heap.size + 1]? = some (lbO (.slice a0 l'.length c0))) := by
        constructor
        · show ((W13.setCell _ _).setCell _ _).heap[nb]? = _
          rw [Below.heap_setCell _ _ _ _ (by show nb ≠ w.heap.size + 1 + 1 + 1; omega), Below.heap_setCell _ _ _ _ (by show nb ≠ w.heap.size + 1 + 1 + 1; omega)]; exact HNB13.out.at_
        · show ((W13.setCell _ _).setCell _ _).heap[w.heap.size + 1]? = _
          rw [Below.heap_setCell _ _ _ _ (by show w.heap.size + 1 ≠ w.heap.size + 1 + 1 + 1; omega), Below.heap_setCell _ _ _ _ (by show w.heap.size + 1 ≠ w.heap.size + 1 + 1 + 1; omega)]; exact HX13.out.lb.at_
      refine hK _ _ HDX.out ?_
      clear hK K y0 y1 y2 y3
      conv => arg 6; simp only [Act.put, List.setIfInBounds_toArray, List.set_cons_zero, List.set_cons_succ]
      refine ⟨_, rfl, by rfl, fun K hK => ?_⟩
      go_simp
      refine hK _ _ HDX.out ?_
      clear hK K
      conv => arg 6; simp only [Act.put, List.setIfInBounds_toArray, List.set_cons_zero, List.set_cons_succ]
      refine ⟨_, rfl, by rfl, fun K hK => ?_⟩
      go_simp
      refine hK _ _ ?_
      clear hK K
      conv => arg 6; simp only [Act.put, List.setIfInBounds_toArray, List.set_cons_zero, List.set_cons_succ]
      unfold wpSq
      refine noPan_n ?_
      obtain ⟨Wf, hWf, hNf, hOf, s0, s1⟩ := put_pl HN13.out HX13.out.res (by omega) (.pointer (some ⟨sb, 0, none⟩)) (.int .u32 (y : Int))
      have hne0 : ∀ off, a0 ≠ some ⟨w.heap.size + 1 + 1 + 1, off, none⟩ := fun off e => by
        rcases HV3.out with e' | h3'
        · have := HAB.out _ off (e' ▸ e); omega
        · have := h3' _ off e; omega
      have hrvf : Rv8 Wf sb g4 tb a0 l' := by
        rw [← hWf]
        exact (HRV13.out.other hne0 _).other hne0 _
      have hdf : Wf.heap[W7.heap.size]? = some (.deferred (some [])) := by
        rw [← hWf, Below.heap_setCell _ _ _ _ (by show W7.heap.size ≠ w.heap.size + 1 + 1 + 1; omega), Below.heap_setCell _ _ _ _ (by show W7.heap.size ≠ w.heap.size + 1 + 1 + 1; omega)]
        exact HDF13.out
      rw [hWf]
      go_wp2_with fail
      refine ⟨by simp, .inl ⟨_, _, rfl, run_takeDeferred hdf, ?_⟩⟩
      refine ⟨_, pl_ret3 (i := 6) (j := 7) (k := 8) rfl rfl rfl rfl ((World.putObj_heap_other (by omega)).trans hOf.at_), ?_⟩
      refine ⟨g4, M4, n4, y, l', a0, c0, T ++ fillT p q, rfl, Nx.putObj (c := T.length + 3210) (nx_drew8 (hNf.mono (by omega))) (by omega) (by omega) (by omega) (by omega) _, HPL9.out, hrvf.drew.putDef hdf _, ?_, by have := HLN.out; omega, ?_, cov_fill HT.out (by omega) (by omega) HMM.out⟩
      · rcases HV3.out with e' | h3'
        · exact Or.inl e'
        · exact Or.inr fun bk off e => by have := h3' bk off e; omega
      · rw [List.length_append, fillT_len]; omega
    · exact hx.elim
end Go.Proofs.YtnfjmmkokhncoaaGreat
