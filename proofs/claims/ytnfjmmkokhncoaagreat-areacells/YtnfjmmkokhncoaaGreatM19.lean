-- M19
import Derived.Test.YtnfjmmkokhncoaaGreatM18
import Derived.Deep.CutBlock
import Derived.Deep.DeepCutAuto
import Derived.Deep.CutRange
section
namespace Go.Proofs.YtnfjmmkokhncoaaGreat
open Go.RowKit Go.Maps
set_option maxRecDepth 100000

set_option maxHeartbeats 4000000 in
theorem step8_no {w : World} {sb g tb cap most : Nat} {M : List Nd} (h : St w sb g tb cap most M) {n x : Nat} {l : List (Int × Int)} (hpl : Pl8 M n x l) (a : Option Addr) (cap' : Nat) (hr : Rv8 w sb g tb a l) (_ : l.length ≤ 5000) (T : List Place) (hT : Cov T (fun p q => (p, q) ∈ l)) (_ : M.length + T.length + 3300 ≤ most) (k W H : Nat) (hk : k < 256) (hW : W < 256) (hH : H < 256) (p q : Int) (hp : -2305843009213693952 ≤ p ∧ p ≤ 2305843009213693952) (hq : -2305843009213693952 ≤ q ∧ q ≤ 2305843009213693952) (sl : Value) (over : Bool) (hk4 : k % 4 ≤ 1) (h3 : W % 24 = 0 ∨ H % 24 = 0) :
    Calls Tryz.prog 7 #[.agg #[.pointer (some ⟨sb, 0, none⟩), .int .u32 (x : Int)], .slice a l.length cap', .agg #[.int .u8 (k : Int), .int .i64 p, .int .i64 q, .int .u8 (W : Int), .int .u8 (H : Int), sl, .bool over]] w fun e w' => Out8 w sb g tb most M l a T e w' := by
  have hxu := Sq.u32 h hpl.sq
  have hn61 : n ≤ 61 := by have := hpl.sq.le62 h.wf; omega
  have HS0 := Lib.hid h
  have HPL := Lib.hid hpl
  have HRV := Lib.hid hr
  have HT := Lib.hid hT
  obtain ⟨W0, hW0, hb0, hs0, hsz0⟩ := s8_start h x (.slice a l.length cap') #[.int .u8 (k : Int), .int .i64 p, .int .i64 q, .int .u8 (W : Int), .int .u8 (H : Int), sl, .bool over] 38
  have HW0 := Lib.hid hW0
  have HB0 := Lib.hid hb0
  have HX0 : Hid (S8x W0 sb g tb w.heap.size x (acO8 k p q W H sl over) (.slice a l.length cap')) := hs0
  clear h hpl hr hT hW0 hb0 hs0
  have m1 : IntKind.u8.wrap ((W : Int).tmod 24) = (W : Int) % 24 := by rw [Int.tmod_eq_emod_of_nonneg (by omega)]; exact IntWalk.u8_in _ (by omega)
  have m2 : IntKind.u8.wrap ((H : Int).tmod 24) = (H : Int) % 24 := by rw [Int.tmod_eq_emod_of_nonneg (by omega)]; exact IntWalk.u8_in _ (by omega)
  have m3 : IntKind.i64.wrap ((W : Int) % 24) = (W : Int) % 24 := IntWalk.i64_in _ (by omega)
  have m4 : IntKind.i64.wrap ((H : Int) % 24) = (H : Int) % 24 := IntWalk.i64_in _ (by omega)
  obtain ⟨q0, q1, q2, q3, q4, q5, q6⟩ := ac_cells8 HX0.out.ac.at_
  go_enter Tryz.func7, Tryz.ntmps7
  go_upto_region 1 with fail
  rw [HW0.out]
  go_quiet (fail)
  have hbq := below_drewN8 (Below.refl W0.heap.size W0) nq
  have HX1 := Lib.hid (HX0.out.later hbq)
  have HB1 := Lib.hid (HB0.out.trans (hbq.mono HB0.out.size))
  clear hbq HX0 HB0 m1 m2 m3 m4 q0 q1 q2 q3 q4 q5 q6
  clear HW0
  generalize W0.drewN nq = W1 at *
  clear hsz0 W0
  obtain ⟨wd, hwd⟩ : ∃ wd : Nat, wd = W % 24 := ⟨_, rfl⟩
  obtain ⟨hd, hhd⟩ : ∃ hd : Nat, hd = H % 24 := ⟨_, rfl⟩
  rw [show (W : Int) % 24 = (wd : Int) by omega, show (H : Int) % 24 = (hd : Int) by omega]
  have hwd24 : wd < 24 := by omega
  have hhd24 : hd < 24 := by omega
  have h3 : wd = 0 ∨ hd = 0 := by omega
  clear hwd hhd
  have HRE := Lib.hid (rect8_any p q (wd : Int) (hd : Int) (by unfold I64; omega) (by unfold I64; omega) W1)
  obtain ⟨q0, q1, q2, q3, q4, q5, q6⟩ := ac_cells8 HX1.out.ac.at_
  go_wp2_with fail
  refine HRE.out.mono ?_
  rintro e W2 ⟨rfl, hb⟩
  have hba := hb.trans ((bel1 W2 (.cells #[.int .i64 p, .int .i64 q, .int .i64 (p + (wd : Int)), .int .i64 (q + (hd : Int))] 42)).mono hb.size)
  have HX3 := Lib.hid (HX1.out.later hba)
  have HB3 := Lib.hid (HB1.out.trans (hba.mono HB1.out.size))
  have HRC : Hid (Ob (W2.alloc (.cells #[.int .i64 p, .int .i64 q, .int .i64 (p + (wd : Int)), .int .i64 (q + (hd : Int))] 42)) sb g tb W2.heap.size (rcO8 ⟨p, q, p + (wd : Int), q + (hd : Int)⟩)) := Ob.new (HS0.out.later (HB1.out.trans (hb.mono HB1.out.size))) _ _
  have hrb : w.heap.size + 1 + 1 + 1 < W2.heap.size := by have := HX1.out.lt; have := hb.size; omega
  have HRB := Lib.hid hrb
  clear hb hba HRE HX1 HB1 hrb q0 q1 q2 q3 q4 q5 q6
  obtain ⟨q0, q1, q2, q3, q4, q5, q6⟩ := ac_cells8 HX3.out.ac.at_
  go_upto_region 3 with fail
  generalize W2.alloc (.cells #[.int .i64 p, .int .i64 q, .int .i64 (p + (wd : Int)), .int .i64 (q + (hd : Int))] 42) = W3 at *
  generalize W2.heap.size = rb at *
  clear W2
  have HS3 := Lib.hid (HS0.out.later HB3.out)
  have HN3 := Lib.hid (Nx.of_below HS0.out HB3.out)
  have HRV3 := Lib.hid (HRV.out.later HB3.out)
  obtain ⟨bz, hbz1, hbz2⟩ : ∃ bz : Bool, ((k : Int) % 4 == 0) = bz ∧ (bz = false → ((k : Int) % 4 == 1) = true) := by
    refine ⟨_, rfl, fun hh => ?_⟩
    simp at hh ⊢
    omega
  have HBZ2 := Lib.hid hbz2
  clear hbz2
  go_upto_if 44 with fail
  go_cut [44] from 45 to 48 (fun v44 wx => v44 = .bool true ∧ wx = W3)
  case first =>
    cases bz
    · have hb1 := HBZ2.out rfl
      go_wp2_with fail
      go_meet
      exact ⟨rfl, rfl⟩
    · go_wp2_with fail
      go_meet
      exact ⟨rfl, rfl⟩
  case rest =>
  obtain ⟨rfl, hwc⟩ := hcut
  subst hwc
  obtain ⟨p0, p1⟩ := pl_cells HX3.out.pl.at_
  obtain ⟨c0, c1, c2, c3⟩ := rc_cells8 HRC.out.at_
  have hw0 : ((wd : Int) == 0) = decide (wd = 0) := by rw [Bool.eq_iff_iff]; simp
  have hh0 : ((hd : Int) == 0) = decide (hd = 0) := by rw [Bool.eq_iff_iff]; simp
  have hno : (R4.mk p q (p + (wd : Int)) (q + (hd : Int))).no = true := R4.no_iff.2 (by simp only; omega)
  have HFL := Lib.hid (fill8_no HS3.out HPL.out.sq HPL.out.two ⟨p, q, p + (wd : Int), q + (hd : Int)⟩ hno bz)
  go_wp2_with fail
  refine HFL.out.mono ?_
  clear HFL
  rintro e W4 ⟨rfl, hb⟩
  have hba := hb.trans ((bel1 W4 (.cells #[.pointer none, .int .u32 0] 32)).mono hb.size)
  have HNB : Hid ((W4.alloc (.cells #[.pointer none, .int .u32 0] 32)).heap[W4.heap.size]? = some zeO8) := heap_alloc_new W4 _
  have HX5 := Lib.hid (HX3.out.later hba)
  have HRC5 := Lib.hid (HRC.out.later hba)
  have HRV5 := Lib.hid (HRV3.out.later hba)
  have HS5 := Lib.hid (HS3.out.later hba)
  have HN5 := Lib.hid (HN3.out.trans (Nx.of_below HS3.out hba))
  have hnb : w.heap.size + 1 + 1 + 1 < W4.heap.size := by have := HX3.out.lt; have := hb.size; omega
  clear HX3 HRC HRV3 HN3 HS3 p0 p1 c0 c1 c2 c3 hb hba
  clear q0 q1 q2 q3 q4 q5 q6
  obtain ⟨c0, c1, c2, c3⟩ := rc_cells8 HRC5.out.at_
  go_upto_region 7 with fail
  generalize W4.alloc (.cells #[.pointer none, .int .u32 0] 32) = W5 at *
  generalize W4.heap.size = nb at *
  clear W4
  have hdr : decide (wd = 0) = true ∨ (decide (wd = 0) = false ∧ decide (hd = 0) = true) := by
    by_cases e : wd = 0
    · exact Or.inl (by simpa using e)
    · exact Or.inr ⟨by simpa using e, by simp; omega⟩
  rcases hdr with e1 | ⟨e1, e2⟩
  · go_wp2_with fail
    refine region_sq 12 (fun W => W.heap[nb]? = some zeO8 ∧ W.heap[w.heap.size]? = some (plO sb x) ∧ W.heap[w.heap.size + 1]? = some (lbO (.slice a l.length cap'))) [(0, 2), (1, 2), (2, 1), (3, 0), (4, 0), (5, 1), (6, 2), (7, 1), (8, 1), (9, 1), (10, 0), (11, 0), (12, 3)] (by kernel_rfl) (by kernel_rfl) rfl (by intro c a d v w h; cases d <;> exact h) (by kernel_rfl) ⟨HNB.out, HX5.out.pl.at_, HX5.out.lb.at_⟩ ?_
    refine ⟨_, ?_, rfl, by rfl, ?_, ?_⟩
    rotate_left
    · intro W hW
      have z := res_cells hW.1
      obtain ⟨z0, z1, _, _⟩ := z
      have y := pl_cells hW.2.1
      obtain ⟨y0, y1⟩ := y
      have x := lb_cell hW.2.2
      obtain ⟨x0, _⟩ := x
      go_simp; first | done | rfl
    conv => arg 6; simp only [Act.put, List.setIfInBounds_toArray, List.set_cons_zero, List.set_cons_succ]
    refine ⟨_, ?_, rfl, by rfl, ?_, ?_⟩
    rotate_left
    · intro W hW
      have z := res_cells hW.1
      obtain ⟨z0, z1, _, _⟩ := z
      have y := pl_cells hW.2.1
      obtain ⟨y0, y1⟩ := y
      have x := lb_cell hW.2.2
      obtain ⟨x0, _⟩ := x
      go_simp; first | done | rfl
    conv => arg 6; simp only [Act.put, List.setIfInBounds_toArray, List.set_cons_zero, List.set_cons_succ]
    refine ⟨_, ?_, rfl, by rfl, ?_, ?_⟩
    rotate_left
    · intro W; go_simp; first | done | rfl
    conv => arg 6; simp only [Act.put, List.setIfInBounds_toArray, List.set_cons_zero, List.set_cons_succ]
    refine ⟨_, rfl, by rfl, fun K hK => ?_⟩
    go_simp
    have HBA : Hid (Below W5.heap.size W5 (W5.alloc (.cells #[.int .i64 1] 52)).drew) := below_drewN8 (bel1 W5 (.cells #[.int .i64 1] 52)) 1
    have HCE : Hid ((W5.alloc (.cells #[.int .i64 1] 52)).drew.cell? ⟨W5.heap.size, 0, none⟩ = some (.int .i64 1)) := cell_s8 W5 _ _
    refine hK _ _ ⟨keep8 HNB.out HBA.out, (HX5.out.later HBA.out).pl.at_, (HX5.out.later HBA.out).lb.at_⟩ ?_
    clear hK K
    generalize (W5.alloc (.cells #[.int .i64 1] 52)).drew = w6 at *
    conv => arg 6; simp only [Act.put, List.setIfInBounds_toArray, List.set_cons_zero, List.set_cons_succ]
    refine ⟨_, rfl, by rfl, fun K hK => ?_⟩
    go_simp
    refine (fis_one 1 (by omega) _ _ _ HCE.out).mono ?_
    rintro e w9 ⟨rfl, rfl⟩
    refine hK _ _ ⟨keep8 HNB.out HBA.out, (HX5.out.later HBA.out).pl.at_, (HX5.out.later HBA.out).lb.at_⟩ ?_
    clear hK K
    conv => arg 6; simp only [Act.put, List.setIfInBounds_toArray, List.set_cons_zero, List.set_cons_succ]
    refine ⟨_, ?_, rfl, by rfl, ?_, ?_⟩
    rotate_left
    · intro W; go_simp; first | done | rfl
    conv => arg 6; simp only [Act.put, List.setIfInBounds_toArray, List.set_cons_zero, List.set_cons_succ]
    refine ⟨_, ?_, rfl, by rfl, ?_, ?_⟩
    rotate_left
    · intro W hW
      have z := res_cells hW.1
      obtain ⟨z0, z1, _, _⟩ := z
      have y := pl_cells hW.2.1
      obtain ⟨y0, y1⟩ := y
      have x := lb_cell hW.2.2
      obtain ⟨x0, _⟩ := x
      go_simp; first | done | rfl
    conv => arg 6; simp only [Act.put, List.setIfInBounds_toArray, List.set_cons_zero, List.set_cons_succ]
    refine ⟨_, ?_, rfl, by rfl, ?_, ?_⟩
    rotate_left
    · intro W; go_simp; first | done | rfl
    conv => arg 6; simp only [Act.put, List.setIfInBounds_toArray, List.set_cons_zero, List.set_cons_succ]
    refine ⟨_, ?_, rfl, by rfl, ?_, ?_⟩
    rotate_left
    · intro W; go_simp; first | done | rfl
    conv => arg 6; simp only [Act.put, List.setIfInBounds_toArray, List.set_cons_zero, List.set_cons_succ]
    refine ⟨_, ?_, rfl, by rfl, ?_, ?_⟩
    rotate_left
    · intro W; go_simp; first | done | rfl
    conv => arg 6; simp only [Act.put, List.setIfInBounds_toArray, List.set_cons_zero, List.set_cons_succ]
    refine ⟨_, rfl, by rfl, fun K hK => ?_⟩
    have y := res_cells (HX5.out.later HBA.out).res.at_
    obtain ⟨y0, y1, y2, y3⟩ := y
    go_simp
    have HDX : Hid (((w6.setCell ⟨w.heap.size + 1 + 1 + 1, 0, none⟩ (.pointer (some ⟨sb, 0, none⟩))).setCell ⟨w.heap.size + 1 + 1 + 1, 1, none⟩ (.int .u32 (x : Int))).heap[nb]? = some zeO8 ∧ ((w6.setCell ⟨w.heap.size + 1 + 1 + 1, 0, none⟩ (.pointer (some ⟨sb, 0, none⟩))).setCell ⟨w.heap.size + 1 + 1 + 1, 1, none⟩ (.int .u32 (x : Int))).heap[w.heap.size]? = some (plO sb x) ∧ ((w6.setCell ⟨w.heap.size + 1 + 1 + 1, 0, none⟩ (.pointer (some ⟨sb, 0, none⟩))).setCell ⟨w.heap.size + 1 + 1 + 1, 1, none⟩ (.int .u32 (x : Int))).heap[w.heap.size + 1]? = some (lbO (.slice a l.length cap'))) := by
      refine ⟨?_, ?_, ?_⟩
      · rw [Below.heap_setCell _ _ _ _ (by show nb ≠ w.heap.size + 1 + 1 + 1; omega), Below.heap_setCell _ _ _ _ (by show nb ≠ w.heap.size + 1 + 1 + 1; omega)]; exact keep8 HNB.out HBA.out
      · rw [Below.heap_setCell _ _ _ _ (by show w.heap.size ≠ w.heap.size + 1 + 1 + 1; omega), Below.heap_setCell _ _ _ _ (by show w.heap.size ≠ w.heap.size + 1 + 1 + 1; omega)]; exact (HX5.out.later HBA.out).pl.at_
      · rw [Below.heap_setCell _ _ _ _ (by show w.heap.size + 1 ≠ w.heap.size + 1 + 1 + 1; omega), Below.heap_setCell _ _ _ _ (by show w.heap.size + 1 ≠ w.heap.size + 1 + 1 + 1; omega)]; exact (HX5.out.later HBA.out).lb.at_
    refine hK _ _ HDX.out ?_
    clear hK K y0 y1 y2 y3
    conv => arg 6; simp only [Act.put, List.setIfInBounds_toArray, List.set_cons_zero, List.set_cons_succ]
    refine ⟨_, rfl, by rfl, fun K hK => ?_⟩
    go_simp
    refine hK _ _ HDX.out ?_
    clear hK K
    conv => arg 6; simp only [Act.put, List.setIfInBounds_toArray, List.set_cons_zero, List.set_cons_succ]
    refine ⟨_, rfl, by rfl, fun K hK => ?_⟩
    go_simp
    refine hK _ _ ?_
    clear hK K
    conv => arg 6; simp only [Act.put, List.setIfInBounds_toArray, List.set_cons_zero, List.set_cons_succ]
    unfold wpSq
    obtain ⟨Wf, hWf, hNf, hOf, s0, s1⟩ := put_pl (HN5.out.trans (Nx.of_below HS5.out HBA.out)) (HX5.out.res.later HBA.out) (by omega) (.pointer (some ⟨sb, 0, none⟩)) (.int .u32 (x : Int))
    have hrvf : Rv8 Wf sb g tb a l := by
      rw [← hWf]
      exact ((HRV5.out.later HBA.out).other (fun off e => by have := (HRV.out.2 _ off e).2.2.2; omega) _).other (fun off e => by have := (HRV.out.2 _ off e).2.2.2; omega) _
    rw [hWf]
    go_wp2_with fail
    refine bodyPost_ret (pl_ret3 (i := 6) (j := 7) (k := 8) rfl rfl rfl rfl hOf.at_) rfl ?_
    exact ⟨g, M, n, x, l, a, cap', T, rfl, hNf.mono (by omega), HPL.out, hrvf, Or.inl rfl, by omega, by omega, HT.out⟩
  · go_wp2_with fail
    refine region_sq 12 (fun W => W.heap[nb]? = some zeO8 ∧ W.heap[w.heap.size]? = some (plO sb x) ∧ W.heap[w.heap.size + 1]? = some (lbO (.slice a l.length cap'))) [(0, 2), (1, 2), (2, 1), (3, 0), (4, 0), (5, 1), (6, 2), (7, 1), (8, 1), (9, 1), (10, 0), (11, 0), (12, 3)] (by kernel_rfl) (by kernel_rfl) rfl (by intro c a d v w h; cases d <;> exact h) (by kernel_rfl) ⟨HNB.out, HX5.out.pl.at_, HX5.out.lb.at_⟩ ?_
    refine ⟨_, ?_, rfl, by rfl, ?_, ?_⟩
    rotate_left
    · intro W hW
      have z := res_cells hW.1
      obtain ⟨z0, z1, _, _⟩ := z
      have y := pl_cells hW.2.1
      obtain ⟨y0, y1⟩ := y
      have x := lb_cell hW.2.2
      obtain ⟨x0, _⟩ := x
      go_simp; first | done | rfl
    conv => arg 6; simp only [Act.put, List.setIfInBounds_toArray, List.set_cons_zero, List.set_cons_succ]
    refine ⟨_, ?_, rfl, by rfl, ?_, ?_⟩
    rotate_left
    · intro W hW
      have z := res_cells hW.1
      obtain ⟨z0, z1, _, _⟩ := z
      have y := pl_cells hW.2.1
      obtain ⟨y0, y1⟩ := y
      have x := lb_cell hW.2.2
      obtain ⟨x0, _⟩ := x
      go_simp; first | done | rfl
    conv => arg 6; simp only [Act.put, List.setIfInBounds_toArray, List.set_cons_zero, List.set_cons_succ]
    refine ⟨_, ?_, rfl, by rfl, ?_, ?_⟩
    rotate_left
    · intro W; go_simp; first | done | rfl
    conv => arg 6; simp only [Act.put, List.setIfInBounds_toArray, List.set_cons_zero, List.set_cons_succ]
    refine ⟨_, rfl, by rfl, fun K hK => ?_⟩
    go_simp
    have HBA : Hid (Below W5.heap.size W5 (W5.alloc (.cells #[.int .i64 1] 52)).drew) := below_drewN8 (bel1 W5 (.cells #[.int .i64 1] 52)) 1
    have HCE : Hid ((W5.alloc (.cells #[.int .i64 1] 52)).drew.cell? ⟨W5.heap.size, 0, none⟩ = some (.int .i64 1)) := cell_s8 W5 _ _
    refine hK _ _ ⟨keep8 HNB.out HBA.out, (HX5.out.later HBA.out).pl.at_, (HX5.out.later HBA.out).lb.at_⟩ ?_
    clear hK K
    generalize (W5.alloc (.cells #[.int .i64 1] 52)).drew = w6 at *
    conv => arg 6; simp only [Act.put, List.setIfInBounds_toArray, List.set_cons_zero, List.set_cons_succ]
    refine ⟨_, rfl, by rfl, fun K hK => ?_⟩
    go_simp
    refine (fis_one 1 (by omega) _ _ _ HCE.out).mono ?_
    rintro e w9 ⟨rfl, rfl⟩
    refine hK _ _ ⟨keep8 HNB.out HBA.out, (HX5.out.later HBA.out).pl.at_, (HX5.out.later HBA.out).lb.at_⟩ ?_
    clear hK K
    conv => arg 6; simp only [Act.put, List.setIfInBounds_toArray, List.set_cons_zero, List.set_cons_succ]
    refine ⟨_, ?_, rfl, by rfl, ?_, ?_⟩
    rotate_left
    · intro W; go_simp; first | done | rfl
    conv => arg 6; simp only [Act.put, List.setIfInBounds_toArray, List.set_cons_zero, List.set_cons_succ]
    refine ⟨_, ?_, rfl, by rfl, ?_, ?_⟩
    rotate_left
    · intro W hW
      have z := res_cells hW.1
      obtain ⟨z0, z1, _, _⟩ := z
      have y := pl_cells hW.2.1
      obtain ⟨y0, y1⟩ := y
      have x := lb_cell hW.2.2
      obtain ⟨x0, _⟩ := x
      go_simp; first | done | rfl
    conv => arg 6; simp only [Act.put, List.setIfInBounds_toArray, List.set_cons_zero, List.set_cons_succ]
    refine ⟨_, ?_, rfl, by rfl, ?_, ?_⟩
    rotate_left
    · intro W; go_simp; first | done | rfl
    conv => arg 6; simp only [Act.put, List.setIfInBounds_toArray, List.set_cons_zero, List.set_cons_succ]
    refine ⟨_, ?_, rfl, by rfl, ?_, ?_⟩
    rotate_left
    · intro W; go_simp; first | done | rfl
    conv => arg 6; simp only [Act.put, List.setIfInBounds_toArray, List.set_cons_zero, List.set_cons_succ]
    refine ⟨_, ?_, rfl, by rfl, ?_, ?_⟩
    rotate_left
    · intro W; go_simp; first | done | rfl
    conv => arg 6; simp only [Act.put, List.setIfInBounds_toArray, List.set_cons_zero, List.set_cons_succ]
    refine ⟨_, rfl, by rfl, fun K hK => ?_⟩
    have y := res_cells (HX5.out.later HBA.out).res.at_
    obtain ⟨y0, y1, y2, y3⟩ := y
    go_simp
    have HDX : Hid (((w6.setCell ⟨w.heap.size + 1 + 1 + 1, 0, none⟩ (.pointer (some ⟨sb, 0, none⟩))).setCell ⟨w.heap.size + 1 + 1 + 1, 1, none⟩ (.int .u32 (x : Int))).heap[nb]? = some zeO8 ∧ ((w6.setCell ⟨w.heap.size + 1 + 1 + 1, 0, none⟩ (.pointer (some ⟨sb, 0, none⟩))).setCell ⟨w.heap.size + 1 + 1 + 1, 1, none⟩ (.int .u32 (x : Int))).heap[w.heap.size]? = some (plO sb x) ∧ ((w6.setCell ⟨w.heap.size + 1 + 1 + 1, 0, none⟩ (.pointer (some ⟨sb, 0, none⟩))).setCell ⟨w.heap.size + 1 + 1 + 1, 1, none⟩ (.int .u32 (x : Int))).heap[w.heap.size + 1]? = some (lbO (.slice a l.length cap'))) := by
      refine ⟨?_, ?_, ?_⟩
      · rw [Below.heap_setCell _ _ _ _ (by show nb ≠ w.heap.size + 1 + 1 + 1; omega), Below.heap_setCell _ _ _ _ (by show nb ≠ w.heap.size + 1 + 1 + 1; omega)]; exact keep8 HNB.out HBA.out
      · rw [Below.heap_setCell _ _ _ _ (by show w.heap.size ≠ w.heap.size + 1 + 1 + 1; omega), Below.heap_setCell _ _ _ _ (by show w.heap.size ≠ w.heap.size + 1 + 1 + 1; omega)]; exact (HX5.out.later HBA.out).pl.at_
      · rw [Below.heap_setCell _ _ _ _ (by show w.heap.size + 1 ≠ w.heap.size + 1 + 1 + 1; omega), Below.heap_setCell _ _ _ _ (by show w.heap.size + 1 ≠ w.heap.size + 1 + 1 + 1; omega)]; exact (HX5.out.later HBA.out).lb.at_
    refine hK _ _ HDX.out ?_
    clear hK K y0 y1 y2 y3
    conv => arg 6; simp only [Act.put, List.setIfInBounds_toArray, List.set_cons_zero, List.set_cons_succ]
    refine ⟨_, rfl, by rfl, fun K hK => ?_⟩
    go_simp
    refine hK _ _ HDX.out ?_
    clear hK K
    conv => arg 6; simp only [Act.put, List.setIfInBounds_toArray, List.set_cons_zero, List.set_cons_succ]
    refine ⟨_, rfl, by rfl, fun K hK => ?_⟩
    go_simp
    refine hK _ _ ?_
    clear hK K
    conv => arg 6; simp only [Act.put, List.setIfInBounds_toArray, List.set_cons_zero, List.set_cons_succ]
    unfold wpSq
    obtain ⟨Wf, hWf, hNf, hOf, s0, s1⟩ := put_pl (HN5.out.trans (Nx.of_below HS5.out HBA.out)) (HX5.out.res.later HBA.out) (by omega) (.pointer (some ⟨sb, 0, none⟩)) (.int .u32 (x : Int))
    have hrvf : Rv8 Wf sb g tb a l := by
      rw [← hWf]
      exact ((HRV5.out.later HBA.out).other (fun off e => by have := (HRV.out.2 _ off e).2.2.2; omega) _).other (fun off e => by have := (HRV.out.2 _ off e).2.2.2; omega) _
    rw [hWf]
    go_wp2_with fail
    refine bodyPost_ret (pl_ret3 (i := 6) (j := 7) (k := 8) rfl rfl rfl rfl hOf.at_) rfl ?_
    exact ⟨g, M, n, x, l, a, cap', T, rfl, hNf.mono (by omega), HPL.out, hrvf, Or.inl rfl, by omega, by omega, HT.out⟩
end Go.Proofs.YtnfjmmkokhncoaaGreat
end

section
namespace Go.Proofs.YtnfjmmkokhncoaaGreat
open Go.RowKit Go.Maps
set_option maxRecDepth 100000

set_option maxHeartbeats 4000000 in
theorem step8_far {w : World} {sb g tb cap most : Nat} {M : List Nd} (h : St w sb g tb cap most M) {n x : Nat} {l : List (Int × Int)} (hpl : Pl8 M n x l) (a : Option Addr) (cap' : Nat) (hr : Rv8 w sb g tb a l) (_ : l.length ≤ 5000) (T : List Place) (hT : Cov T (fun p q => (p, q) ∈ l)) (_ : M.length + T.length + 3300 ≤ most) (k W H : Nat) (hk : k < 256) (hW : W < 256) (hH : H < 256) (p q : Int) (hp : -2305843009213693952 ≤ p ∧ p ≤ 2305843009213693952) (hq : -2305843009213693952 ≤ q ∧ q ≤ 2305843009213693952) (sl : Value) (over : Bool) (hk4 : k % 4 ≤ 1) (h3 : W % 24 ≠ 0 ∧ H % 24 ≠ 0) (h4 : rightR p q (p + ((W % 24 : Nat) : Int)) (q + ((H % 24 : Nat) : Int)) = false) :
    Calls Tryz.prog 7 #[.agg #[.pointer (some ⟨sb, 0, none⟩), .int .u32 (x : Int)], .slice a l.length cap', .agg #[.int .u8 (k : Int), .int .i64 p, .int .i64 q, .int .u8 (W : Int), .int .u8 (H : Int), sl, .bool over]] w fun e w' => Out8 w sb g tb most M l a T e w' := by
  have hxu := Sq.u32 h hpl.sq
  have hn61 : n ≤ 61 := by have := hpl.sq.le62 h.wf; omega
  have HS0 := Lib.hid h
  have HPL := Lib.hid hpl
  have HRV := Lib.hid hr
  have HT := Lib.hid hT
  obtain ⟨W0, hW0, hb0, hs0, hsz0⟩ := s8_start h x (.slice a l.length cap') #[.int .u8 (k : Int), .int .i64 p, .int .i64 q, .int .u8 (W : Int), .int .u8 (H : Int), sl, .bool over] 38
  have HW0 := Lib.hid hW0
  have HB0 := Lib.hid hb0
  have HX0 : Hid (S8x W0 sb g tb w.heap.size x (acO8 k p q W H sl over) (.slice a l.length cap')) := hs0
  clear h hpl hr hT hW0 hb0 hs0
  have m1 : IntKind.u8.wrap ((W : Int).tmod 24) = (W : Int) % 24 := by rw [Int.tmod_eq_emod_of_nonneg (by omega)]; exact IntWalk.u8_in _ (by omega)
  have m2 : IntKind.u8.wrap ((H : Int).tmod 24) = (H : Int) % 24 := by rw [Int.tmod_eq_emod_of_nonneg (by omega)]; exact IntWalk.u8_in _ (by omega)
  have m3 : IntKind.i64.wrap ((W : Int) % 24) = (W : Int) % 24 := IntWalk.i64_in _ (by omega)
  have m4 : IntKind.i64.wrap ((H : Int) % 24) = (H : Int) % 24 := IntWalk.i64_in _ (by omega)
  obtain ⟨q0, q1, q2, q3, q4, q5, q6⟩ := ac_cells8 HX0.out.ac.at_
  go_enter Tryz.func7, Tryz.ntmps7
  go_upto_region 1 with fail
  rw [HW0.out]
  go_quiet (fail)
  have hbq := below_drewN8 (Below.refl W0.heap.size W0) nq
  have HX1 := Lib.hid (HX0.out.later hbq)
  have HB1 := Lib.hid (HB0.out.trans (hbq.mono HB0.out.size))
  clear hbq HX0 HB0 m1 m2 m3 m4 q0 q1 q2 q3 q4 q5 q6
  clear HW0
  generalize W0.drewN nq = W1 at *
  clear hsz0 W0
  obtain ⟨wd, hwd⟩ : ∃ wd : Nat, wd = W % 24 := ⟨_, rfl⟩
  obtain ⟨hd, hhd⟩ : ∃ hd : Nat, hd = H % 24 := ⟨_, rfl⟩
  rw [show (W : Int) % 24 = (wd : Int) by omega, show (H : Int) % 24 = (hd : Int) by omega]
  have hwd24 : wd < 24 := by omega
  have hhd24 : hd < 24 := by omega
  replace h3 : wd ≠ 0 ∧ hd ≠ 0 := by omega
  replace h4 : rightR p q (p + (wd : Int)) (q + (hd : Int)) = false := by rw [hwd, hhd]; exact h4
  clear hwd hhd
  have HRE := Lib.hid (rect8_any p q (wd : Int) (hd : Int) (by unfold I64; omega) (by unfold I64; omega) W1)
  obtain ⟨q0, q1, q2, q3, q4, q5, q6⟩ := ac_cells8 HX1.out.ac.at_
  go_wp2_with fail
  refine HRE.out.mono ?_
  rintro e W2 ⟨rfl, hb⟩
  have hba := hb.trans ((bel1 W2 (.cells #[.int .i64 p, .int .i64 q, .int .i64 (p + (wd : Int)), .int .i64 (q + (hd : Int))] 42)).mono hb.size)
  have HX3 := Lib.hid (HX1.out.later hba)
  have HB3 := Lib.hid (HB1.out.trans (hba.mono HB1.out.size))
  have HRC : Hid (Ob (W2.alloc (.cells #[.int .i64 p, .int .i64 q, .int .i64 (p + (wd : Int)), .int .i64 (q + (hd : Int))] 42)) sb g tb W2.heap.size (rcO8 ⟨p, q, p + (wd : Int), q + (hd : Int)⟩)) := Ob.new (HS0.out.later (HB1.out.trans (hb.mono HB1.out.size))) _ _
  have hrb : w.heap.size + 1 + 1 + 1 < W2.heap.size := by have := HX1.out.lt; have := hb.size; omega
  have HRB := Lib.hid hrb
  clear hb hba HRE HX1 HB1 hrb q0 q1 q2 q3 q4 q5 q6
  obtain ⟨q0, q1, q2, q3, q4, q5, q6⟩ := ac_cells8 HX3.out.ac.at_
  go_upto_region 3 with fail
  generalize W2.alloc (.cells #[.int .i64 p, .int .i64 q, .int .i64 (p + (wd : Int)), .int .i64 (q + (hd : Int))] 42) = W3 at *
  generalize W2.heap.size = rb at *
  clear W2
  have HS3 := Lib.hid (HS0.out.later HB3.out)
  have HN3 := Lib.hid (Nx.of_below HS0.out HB3.out)
  have HRV3 := Lib.hid (HRV.out.later HB3.out)
  obtain ⟨bz, hbz1, hbz2⟩ : ∃ bz : Bool, ((k : Int) % 4 == 0) = bz ∧ (bz = false → ((k : Int) % 4 == 1) = true) := by
    refine ⟨_, rfl, fun hh => ?_⟩
    simp at hh ⊢
    omega
  have HBZ2 := Lib.hid hbz2
  clear hbz2
  go_upto_if 44 with fail
  go_cut [44] from 45 to 48 (fun v44 wx => v44 = .bool true ∧ wx = W3)
  case first =>
    cases bz
    · have hb1 := HBZ2.out rfl
      go_wp2_with fail
      go_meet
      exact ⟨rfl, rfl⟩
    · go_wp2_with fail
      go_meet
      exact ⟨rfl, rfl⟩
  case rest =>
  obtain ⟨rfl, hwc⟩ := hcut
  subst hwc
  obtain ⟨p0, p1⟩ := pl_cells HX3.out.pl.at_
  obtain ⟨c0, c1, c2, c3⟩ := rc_cells8 HRC.out.at_
  have hw0 : ((wd : Int) == 0) = decide (wd = 0) := by rw [Bool.eq_iff_iff]; simp
  have hh0 : ((hd : Int) == 0) = decide (hd = 0) := by rw [Bool.eq_iff_iff]; simp
  have hno : (R4.mk p q (p + (wd : Int)) (q + (hd : Int))).no = false := R4.no_not.2 (by simp only; omega)
  have HFL := Lib.hid (fill8_far HS3.out HPL.out.sq HPL.out.two ⟨p, q, p + (wd : Int), q + (hd : Int)⟩ hno (by simp only; omega) h4 bz)
  go_wp2_with fail
  refine HFL.out.mono ?_
  clear HFL
  rintro e W4 ⟨rfl, hb⟩
  have hba := hb.trans ((bel1 W4 (.cells #[.pointer none, .int .u32 0] 32)).mono hb.size)
  have HNB : Hid ((W4.alloc (.cells #[.pointer none, .int .u32 0] 32)).heap[W4.heap.size]? = some zeO8) := heap_alloc_new W4 _
  have HX5 := Lib.hid (HX3.out.later hba)
  have HRC5 := Lib.hid (HRC.out.later hba)
  have HRV5 := Lib.hid (HRV3.out.later hba)
  have HS5 := Lib.hid (HS3.out.later hba)
  have HN5 := Lib.hid (HN3.out.trans (Nx.of_below HS3.out hba))
  have hnb : w.heap.size + 1 + 1 + 1 < W4.heap.size := by have := HX3.out.lt; have := hb.size; omega
  clear HX3 HRC HRV3 HN3 HS3 p0 p1 c0 c1 c2 c3 hb hba
  clear q0 q1 q2 q3 q4 q5 q6
  obtain ⟨c0, c1, c2, c3⟩ := rc_cells8 HRC5.out.at_
  go_upto_region 7 with fail
  generalize W4.alloc (.cells #[.pointer none, .int .u32 0] 32) = W5 at *
  generalize W4.heap.size = nb at *
  clear W4
  have e1 : decide (wd = 0) = false := by simp; omega
  have e2 : decide (hd = 0) = false := by simp; omega
  have HRR := Lib.hid (rectRight_any p q (p + (wd : Int)) (q + (hd : Int)) (by omega) (by omega) (by omega) (by omega) W5)
  rw [h4] at HRR
  go_wp2_with fail
  refine HRR.out.mono ?_
  rintro e W7 ⟨rfl, hb7⟩
  replace HNB : Hid (W7.heap[nb]? = some zeO8) := keep8 HNB.out hb7
  replace HX5 := Lib.hid (HX5.out.later hb7)
  replace HRV5 := Lib.hid (HRV5.out.later hb7)
  replace HN5 := Lib.hid (HN5.out.trans (Nx.of_below HS5.out hb7))
  replace HS5 := Lib.hid (HS5.out.later hb7)
  clear hb7 HRR c0 c1 c2 c3
  go_wp2_with fail
  refine region_sq 12 (fun W => W.heap[nb]? = some zeO8 ∧ W.heap[w.heap.size]? = some (plO sb x) ∧ W.heap[w.heap.size + 1]? = some (lbO (.slice a l.length cap'))) [(0, 2), (1, 2), (2, 1), (3, 0), (4, 0), (5, 1), (6, 2), (7, 1), (8, 1), (9, 1), (10, 0), (11, 0), (12, 3)] (by kernel_rfl) (by kernel_rfl) rfl (by intro c a d v w h; cases d <;> exact h) (by kernel_rfl) ⟨HNB.out, HX5.out.pl.at_, HX5.out.lb.at_⟩ ?_
  refine ⟨_, ?_, rfl, by rfl, ?_, ?_⟩
  rotate_left
  · intro W hW
    have z := res_cells hW.1
    obtain ⟨z0, z1, _, _⟩ := z
    have y := pl_cells hW.2.1
    obtain ⟨y0, y1⟩ := y
    have x := lb_cell hW.2.2
    obtain ⟨x0, _⟩ := x
    go_simp; first | done | rfl
  conv => arg 6; simp only [Act.put, List.setIfInBounds_toArray, List.set_cons_zero, List.set_cons_succ]
  refine ⟨_, ?_, rfl, by rfl, ?_, ?_⟩
  rotate_left
  · intro W hW
    have z := res_cells hW.1
    obtain ⟨z0, z1, _, _⟩ := z
    have y := pl_cells hW.2.1
    obtain ⟨y0, y1⟩ := y
    have x := lb_cell hW.2.2
    obtain ⟨x0, _⟩ := x
    go_simp; first | done | rfl
  conv => arg 6; simp only [Act.put, List.setIfInBounds_toArray, List.set_cons_zero, List.set_cons_succ]
  refine ⟨_, ?_, rfl, by rfl, ?_, ?_⟩
  rotate_left
  · intro W; go_simp; first | done | rfl
  conv => arg 6; simp only [Act.put, List.setIfInBounds_toArray, List.set_cons_zero, List.set_cons_succ]
  refine ⟨_, rfl, by rfl, fun K hK => ?_⟩
  go_simp
  have HBA : Hid (Below W7.heap.size W7 (W7.alloc (.cells #[.int .i64 8] 52)).drew) := below_drewN8 (bel1 W7 (.cells #[.int .i64 8] 52)) 1
  have HCE : Hid ((W7.alloc (.cells #[.int .i64 8] 52)).drew.cell? ⟨W7.heap.size, 0, none⟩ = some (.int .i64 8)) := cell_s8 W7 _ _
  refine hK _ _ ⟨keep8 HNB.out HBA.out, (HX5.out.later HBA.out).pl.at_, (HX5.out.later HBA.out).lb.at_⟩ ?_
  clear hK K
  generalize (W7.alloc (.cells #[.int .i64 8] 52)).drew = w6 at *
  conv => arg 6; simp only [Act.put, List.setIfInBounds_toArray, List.set_cons_zero, List.set_cons_succ]
  refine ⟨_, rfl, by rfl, fun K hK => ?_⟩
  go_simp
  refine (fis_one 8 (by omega) _ _ _ HCE.out).mono ?_
  rintro e w9 ⟨rfl, rfl⟩
  refine hK _ _ ⟨keep8 HNB.out HBA.out, (HX5.out.later HBA.out).pl.at_, (HX5.out.later HBA.out).lb.at_⟩ ?_
  clear hK K
  conv => arg 6; simp only [Act.put, List.setIfInBounds_toArray, List.set_cons_zero, List.set_cons_succ]
  refine ⟨_, ?_, rfl, by rfl, ?_, ?_⟩
  rotate_left
  · intro W; go_simp; first | done | rfl
  conv => arg 6; simp only [Act.put, List.setIfInBounds_toArray, List.set_cons_zero, List.set_cons_succ]
  refine ⟨_, ?_, rfl, by rfl, ?_, ?_⟩
  rotate_left
  · intro W hW
    have z := res_cells hW.1
    obtain ⟨z0, z1, _, _⟩ := z
    have y := pl_cells hW.2.1
    obtain ⟨y0, y1⟩ := y
    have x := lb_cell hW.2.2
    obtain ⟨x0, _⟩ := x
    go_simp; first | done | rfl
  conv => arg 6; simp only [Act.put, List.setIfInBounds_toArray, List.set_cons_zero, List.set_cons_succ]
  refine ⟨_, ?_, rfl, by rfl, ?_, ?_⟩
  rotate_left
  · intro W; go_simp; first | done | rfl
  conv => arg 6; simp only [Act.put, List.setIfInBounds_toArray, List.set_cons_zero, List.set_cons_succ]
  refine ⟨_, ?_, rfl, by rfl, ?_, ?_⟩
  rotate_left
  · intro W; go_simp; first | done | rfl
  conv => arg 6; simp only [Act.put, List.setIfInBounds_toArray, List.set_cons_zero, List.set_cons_succ]
  refine ⟨_, ?_, rfl, by rfl, ?_, ?_⟩
  rotate_left
  · intro W; go_simp; first | done | rfl
  conv => arg 6; simp only [Act.put, List.setIfInBounds_toArray, List.set_cons_zero, List.set_cons_succ]
  refine ⟨_, rfl, by rfl, fun K hK => ?_⟩
  have y := res_cells (HX5.out.later HBA.out).res.at_
  obtain ⟨y0, y1, y2, y3⟩ := y
  go_simp
  have HDX : Hid (((w6.setCell ⟨w.heap.size + 1 + 1 + 1, 0, none⟩ (.pointer (some ⟨sb, 0, none⟩))).setCell ⟨w.heap.size + 1 + 1 + 1, 1, none⟩ (.int .u32 (x : Int))).heap[nb]? = some zeO8 ∧ ((w6.setCell ⟨w.heap.size + 1 + 1 + 1, 0, none⟩ (.pointer (some ⟨sb, 0, none⟩))).setCell ⟨w.heap.size + 1 + 1 + 1, 1, none⟩ (.int .u32 (x : Int))).heap[w.heap.size]? = some (plO sb x) ∧ ((w6.setCell ⟨w.heap.size + 1 + 1 + 1, 0, none⟩ (.pointer (some ⟨sb, 0, none⟩))).setCell ⟨w.heap.size + 1 + 1 + 1, 1, none⟩ (.int .u32 (x : Int))).heap[w.heap.size + 1]? = some (lbO (.slice a l.length cap'))) := by
    refine ⟨?_, ?_, ?_⟩
    · rw [Below.heap_setCell _ _ _ _ (by show nb ≠ w.heap.size + 1 + 1 + 1; omega), Below.heap_setCell _ _ _ _ (by show nb ≠ w.heap.size + 1 + 1 + 1; omega)]; exact keep8 HNB.out HBA.out
    · rw [Below.heap_setCell _ _ _ _ (by show w.heap.size ≠ w.heap.size + 1 + 1 + 1; omega), Below.heap_setCell _ _ _ _ (by show w.heap.size ≠ w.heap.size + 1 + 1 + 1; omega)]; exact (HX5.out.later HBA.out).pl.at_
    · rw [Below.heap_setCell _ _ _ _ (by show w.heap.size + 1 ≠ w.heap.size + 1 + 1 + 1; omega), Below.heap_setCell _ _ _ _ (by show w.heap.size + 1 ≠ w.heap.size + 1 + 1 + 1; omega)]; exact (HX5.out.later HBA.out).lb.at_
  refine hK _ _ HDX.out ?_
  clear hK K y0 y1 y2 y3
  conv => arg 6; simp only [Act.put, List.setIfInBounds_toArray, List.set_cons_zero, List.set_cons_succ]
  refine ⟨_, rfl, by rfl, fun K hK => ?_⟩
  go_simp
  refine hK _ _ HDX.out ?_
  clear hK K
  conv => arg 6; simp only [Act.put, List.setIfInBounds_toArray, List.set_cons_zero, List.set_cons_succ]
  refine ⟨_, rfl, by rfl, fun K hK => ?_⟩
  go_simp
  refine hK _ _ ?_
  clear hK K
  conv => arg 6; simp only [Act.put, List.setIfInBounds_toArray, List.set_cons_zero, List.set_cons_succ]
  unfold wpSq
  obtain ⟨Wf, hWf, hNf, hOf, s0, s1⟩ := put_pl (HN5.out.trans (Nx.of_below HS5.out HBA.out)) (HX5.out.res.later HBA.out) (by omega) (.pointer (some ⟨sb, 0, none⟩)) (.int .u32 (x : Int))
  have hrvf : Rv8 Wf sb g tb a l := by
    rw [← hWf]
    exact ((HRV5.out.later HBA.out).other (fun off e => by have := (HRV.out.2 _ off e).2.2.2; omega) _).other (fun off e => by have := (HRV.out.2 _ off e).2.2.2; omega) _
  rw [hWf]
  go_wp2_with fail
  refine bodyPost_ret (pl_ret3 (i := 6) (j := 7) (k := 8) rfl rfl rfl rfl hOf.at_) rfl ?_
  exact ⟨g, M, n, x, l, a, cap', T, rfl, hNf.mono (by omega), HPL.out, hrvf, Or.inl rfl, by omega, by omega, HT.out⟩
end Go.Proofs.YtnfjmmkokhncoaaGreat
end
