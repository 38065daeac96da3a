-- M25
import Derived.Test.YtnfjmmkokhncoaaGreatM24
import Derived.Deep.CutBlock
import Derived.Deep.DeepCutAuto
import Derived.Deep.CutRange
import Derived.Test.YtnfjmmkokhncoaaGreatNn8
section
namespace Go.Proofs.YtnfjmmkokhncoaaGreat
open Go.RowKit Go.Maps
set_option maxRecDepth 100000

set_option maxHeartbeats 4000000 in
theorem step8_off {w : World} {sb g tb cap most : Nat} {M : List Nd} (h : St w sb g tb cap most M) {n x : Nat} {l : List (Int × Int)} (hpl : Pl8 M n x l) (a : Option Addr) (cap' : Nat) (hr : Rv8 w sb g tb a l) (_ : l.length ≤ 5000) (T : List Place) (hT : Cov T (fun p q => (p, q) ∈ l)) (_ : M.length + T.length + 3300 ≤ most) (k W H : Nat) (hk : k < 256) (hW : W < 256) (hH : H < 256) (p q : Int) (hp : -2305843009213693952 ≤ p ∧ p ≤ 2305843009213693952) (hq : -2305843009213693952 ≤ q ∧ q ≤ 2305843009213693952) (sl : Value) (over : Bool) (ca : Option Addr) (cs : List (Int × Int)) (cc : Nat) (hsl : sl = .slice ca cs.length cc) (hcs : Pts w w.heap.size ca cs) (hcl : cs.length ≤ 30) (hcf : ∀ d ∈ cs, fits d) (hk4 : k % 4 = 2) (hat : (onP p && onP q) = false) :
    Calls Tryz.prog 7 #[.agg #[.pointer (some ⟨sb, 0, none⟩), .int .u32 (x : Int)], .slice a l.length cap', .agg #[.int .u8 (k : Int), .int .i64 p, .int .i64 q, .int .u8 (W : Int), .int .u8 (H : Int), sl, .bool over]] w fun e w' => Out8 w sb g tb most M l a T e w' := by
  have hxu := Sq.u32 h hpl.sq
  have hn61 : n ≤ 61 := by have := hpl.sq.le62 h.wf; omega
  have HS0 := Lib.hid h
  have HPL := Lib.hid hpl
  have HRV := Lib.hid hr
  have HT := Lib.hid hT
  have HCS := Lib.hid hcs
  have HCF := Lib.hid hcf
  clear hcs hcf
  subst hsl
  obtain ⟨W0, hW0, hb0, hs0, hsz0⟩ := s8_start h x (.slice a l.length cap') #[.int .u8 (k : Int), .int .i64 p, .int .i64 q, .int .u8 (W : Int), .int .u8 (H : Int), .slice ca cs.length cc, .bool over] 38
  have HW0 := Lib.hid hW0
  have HB0 := Lib.hid hb0
  have HX0 : Hid (S8x W0 sb g tb w.heap.size x (acO8 k p q W H (.slice ca cs.length cc) over) (.slice a l.length cap')) := hs0
  clear h hpl hr hT hW0 hb0 hs0
  have m1 : IntKind.u8.wrap ((W : Int).tmod 24) = (W : Int) % 24 := by rw [Int.tmod_eq_emod_of_nonneg (by omega)]; exact IntWalk.u8_in _ (by omega)
  have m2 : IntKind.u8.wrap ((H : Int).tmod 24) = (H : Int) % 24 := by rw [Int.tmod_eq_emod_of_nonneg (by omega)]; exact IntWalk.u8_in _ (by omega)
  have m3 : IntKind.i64.wrap ((W : Int) % 24) = (W : Int) % 24 := IntWalk.i64_in _ (by omega)
  have m4 : IntKind.i64.wrap ((H : Int) % 24) = (H : Int) % 24 := IntWalk.i64_in _ (by omega)
  obtain ⟨q0, q1, q2, q3, q4, q5, q6⟩ := ac_cells8 HX0.out.ac.at_
  go_enter Tryz.func7, Tryz.ntmps7
  go_upto_region 1 with fail
  rw [HW0.out]
  go_quiet (fail)
  have hbq := below_drewN8 (Below.refl W0.heap.size W0) nq
  have HX1 := Lib.hid (HX0.out.later hbq)
  have HB1 := Lib.hid (HB0.out.trans (hbq.mono HB0.out.size))
  clear hbq HX0 HB0 m1 m2 m3 m4 q0 q1 q2 q3 q4 q5 q6
  clear HW0
  generalize W0.drewN nq = W1 at *
  clear hsz0 W0
  obtain ⟨wd, hwd⟩ : ∃ wd : Nat, wd = W % 24 := ⟨_, rfl⟩
  obtain ⟨hd, hhd⟩ : ∃ hd : Nat, hd = H % 24 := ⟨_, rfl⟩
  rw [show (W : Int) % 24 = (wd : Int) by omega, show (H : Int) % 24 = (hd : Int) by omega]
  have hwd24 : wd < 24 := by omega
  have hhd24 : hd < 24 := by omega
  clear hwd hhd
  have HRE := Lib.hid (rect8_any p q (wd : Int) (hd : Int) (by unfold I64; omega) (by unfold I64; omega) W1)
  obtain ⟨q0, q1, q2, q3, q4, q5, q6⟩ := ac_cells8 HX1.out.ac.at_
  go_wp2_with fail
  refine HRE.out.mono ?_
  rintro e W2 ⟨rfl, hb⟩
  have hba := hb.trans ((bel1 W2 (.cells #[.int .i64 p, .int .i64 q, .int .i64 (p + (wd : Int)), .int .i64 (q + (hd : Int))] 42)).mono hb.size)
  have HX3 := Lib.hid (HX1.out.later hba)
  have HB3 := Lib.hid (HB1.out.trans (hba.mono HB1.out.size))
  have HRC : Hid (Ob (W2.alloc (.cells #[.int .i64 p, .int .i64 q, .int .i64 (p + (wd : Int)), .int .i64 (q + (hd : Int))] 42)) sb g tb W2.heap.size (rcO8 ⟨p, q, p + (wd : Int), q + (hd : Int)⟩)) := Ob.new (HS0.out.later (HB1.out.trans (hb.mono HB1.out.size))) _ _
  have hrb : w.heap.size + 1 + 1 + 1 < W2.heap.size := by have := HX1.out.lt; have := hb.size; omega
  have HRB := Lib.hid hrb
  clear hb hba HRE HX1 HB1 hrb q0 q1 q2 q3 q4 q5 q6
  obtain ⟨q0, q1, q2, q3, q4, q5, q6⟩ := ac_cells8 HX3.out.ac.at_
  go_upto_region 3 with fail
  generalize W2.alloc (.cells #[.int .i64 p, .int .i64 q, .int .i64 (p + (wd : Int)), .int .i64 (q + (hd : Int))] 42) = W3 at *
  generalize W2.heap.size = rb at *
  clear W2
  have HS3 := Lib.hid (HS0.out.later HB3.out)
  have HN3 := Lib.hid (Nx.of_below HS0.out HB3.out)
  have HRV3 := Lib.hid (HRV.out.later HB3.out)
  have k0 : ((k : Int) % 4 == 0) = false := by simp; omega
  have k1 : ((k : Int) % 4 == 1) = false := by simp; omega
  have k2 : ((k : Int) % 4 == 2) = true := by simp; omega
  have HPT3 : Hid (Pts W3 W3.heap.size ca cs) := (HCS.out.later HB3.out (Nat.le_refl _)).grow HB3.out.size
  go_wp2_with fail
  refine (new8_any cs ca cc _ HPT3.out (by omega) HCF.out).mono ?_
  rintro e W4 ⟨hnew, hb⟩
  clear HPT3
  obtain ⟨Wv, Hv, sa, sn, sc, lo, bb, rfl⟩ := hnew.gen
  clear hnew
  have hba := hb.trans ((bel2 W4 (.cells #[.int .i64 Wv, .int .i64 Hv, .slice sa sn sc] 69) (.cells #[.int .i64 lo.1, .int .i64 lo.2] 24)).mono hb.size)
  have HPB : Hid (Ob ((W4.alloc (.cells #[.int .i64 Wv, .int .i64 Hv, .slice sa sn sc] 69)).alloc (.cells #[.int .i64 lo.1, .int .i64 lo.2] 24)) sb g tb W4.heap.size (ptnO Wv Hv (.slice sa sn sc))) := (Ob.new (HS3.out.later hb) _ _).later (bel1 _ _)
  have HX5 := Lib.hid (HX3.out.later hba)
  have HRC5 := Lib.hid (HRC.out.later hba)
  have HRV5 := Lib.hid (HRV3.out.later hba)
  have HS5 := Lib.hid (HS3.out.later hba)
  have HN5 := Lib.hid (HN3.out.trans (Nx.of_below HS3.out hba))
  have hpb : w.heap.size + 1 + 1 + 1 < W4.heap.size ∧ rb < W4.heap.size := ⟨by have := HX3.out.lt; have := hb.size; omega, by have := HRC.out.lt; have := hb.size; omega⟩
  have HPL5 := Lib.hid hpb
  clear hpb
  clear HX3 HRC HRV3 HN3 HS3 hba
  clear q0 q1 q2 q3 q4 q5 q6
  obtain ⟨q0, q1, q2, q3, q4, q5, q6⟩ := ac_cells8 HX5.out.ac.at_
  obtain ⟨p0, p1⟩ := pl_cells HX5.out.pl.at_
  obtain ⟨t0, t1, t2⟩ := ptn_cells HPB.out.at_
  go_upto_region 18 with fail
  generalize (W4.alloc (.cells #[.int .i64 Wv, .int .i64 Hv, .slice sa sn sc] 69)).alloc (.cells #[.int .i64 lo.1, .int .i64 lo.2] 24) = W5 at *
  generalize W4.heap.size = pb at *
  clear hb W4
  have HPS := Lib.hid (paste8_off HS5.out HPL.out.sq HPL.out.two Wv Hv (.slice sa sn sc) p q hat over)
  go_wp2_with fail
  refine HPS.out.mono ?_
  clear HPS
  rintro e W6 ⟨rfl, hb6⟩
  have hba := hb6.trans ((bel1 W6 (.cells #[.pointer none, .int .u32 0] 32)).mono hb6.size)
  have HNB : Hid ((W6.alloc (.cells #[.pointer none, .int .u32 0] 32)).heap[W6.heap.size]? = some zeO8) := heap_alloc_new W6 _
  have hnb : w.heap.size + 1 + 1 + 1 < W6.heap.size := by have := HX5.out.lt; have := hb6.size; omega
  have HX7 := Lib.hid (HX5.out.later hba)
  have HRC7 := Lib.hid (HRC5.out.later hba)
  have HPB7 := Lib.hid (HPB.out.later hba)
  have HRV7 := Lib.hid (HRV5.out.later hba)
  have HN7 := Lib.hid (HN5.out.trans (Nx.of_below HS5.out hba))
  have HS7 := Lib.hid (HS5.out.later hba)
  clear HX5 HRC5 HPB HRV5 HN5 HS5 hb6 hba p0 p1 t0 t1 t2 q0 q1 q2 q3 q4 q5 q6
  obtain ⟨q0, q1, q2, q3, q4, q5, q6⟩ := ac_cells8 HX7.out.ac.at_
  go_upto_region 19 with fail
  generalize W6.alloc (.cells #[.pointer none, .int .u32 0] 32) = W7 at *
  generalize W6.heap.size = nb at *
  clear W6
  have HRA := Lib.hid (pright_any p q W7)
  rw [hat] at HRA
  go_wp2_with fail
  refine HRA.out.mono ?_
  rintro e W8 ⟨rfl, hb8⟩
  have HX8 := Lib.hid (HX7.out.later hb8)
  have HRC8 := Lib.hid (HRC7.out.later hb8)
  have HPB8 := Lib.hid (HPB7.out.later hb8)
  have HRV8 := Lib.hid (HRV7.out.later hb8)
  have HN8 := Lib.hid (HN7.out.trans (Nx.of_below HS7.out hb8))
  have HS8 := Lib.hid (HS7.out.later hb8)
  replace HNB : Hid (W8.heap[nb]? = some zeO8) := keep8 HNB.out hb8
  clear HX7 HRC7 HPB7 HRV7 HN7 HS7 hb8 HRA q0 q1 q2 q3 q4 q5 q6
  go_wp2_with fail
  refine region_sq 12 (fun W => W.heap[nb]? = some zeO8 ∧ W.heap[w.heap.size]? = some (plO sb x) ∧ W.heap[w.heap.size + 1]? = some (lbO (.slice a l.length cap'))) [(0, 2), (1, 2), (2, 1), (3, 0), (4, 0), (5, 1), (6, 2), (7, 1), (8, 1), (9, 1), (10, 0), (11, 0), (12, 3)] (by kernel_rfl) (by kernel_rfl) rfl (by intro c a d v w h; cases d <;> exact h) (by kernel_rfl) ⟨HNB.out, HX8.out.pl.at_, HX8.out.lb.at_⟩ ?_
  refine ⟨_, ?_, rfl, by rfl, ?_, ?_⟩
  rotate_left
  · intro W hW
    have z := res_cells hW.1
    obtain ⟨z0, z1, _, _⟩ := z
    have y := pl_cells hW.2.1
    obtain ⟨y0, y1⟩ := y
    have x := lb_cell hW.2.2
    obtain ⟨x0, _⟩ := x
    go_simp; first | done | rfl
  conv => arg 6; simp only [Act.put, List.setIfInBounds_toArray, List.set_cons_zero, List.set_cons_succ]
  refine ⟨_, ?_, rfl, by rfl, ?_, ?_⟩
  rotate_left
  · intro W hW
    have z := res_cells hW.1
    obtain ⟨z0, z1, _, _⟩ := z
    have y := pl_cells hW.2.1
    obtain ⟨y0, y1⟩ := y
    have x := lb_cell hW.2.2
    obtain ⟨x0, _⟩ := x
    go_simp; first | done | rfl
  conv => arg 6; simp only [Act.put, List.setIfInBounds_toArray, List.set_cons_zero, List.set_cons_succ]
  refine ⟨_, ?_, rfl, by rfl, ?_, ?_⟩
  rotate_left
  · intro W; go_simp; first | done | rfl
  conv => arg 6; simp only [Act.put, List.setIfInBounds_toArray, List.set_cons_zero, List.set_cons_succ]
  refine ⟨_, rfl, by rfl, fun K hK => ?_⟩
  go_simp
  have HBA : Hid (Below W8.heap.size W8 (W8.alloc (.cells #[.int .i64 1] 52)).drew) := below_drewN8 (bel1 W8 (.cells #[.int .i64 1] 52)) 1
  have HCE : Hid ((W8.alloc (.cells #[.int .i64 1] 52)).drew.cell? ⟨W8.heap.size, 0, none⟩ = some (.int .i64 1)) := cell_s8 W8 _ _
  refine hK _ _ ⟨keep8 HNB.out HBA.out, (HX8.out.later HBA.out).pl.at_, (HX8.out.later HBA.out).lb.at_⟩ ?_
  clear hK K
  generalize (W8.alloc (.cells #[.int .i64 1] 52)).drew = w6 at *
  conv => arg 6; simp only [Act.put, List.setIfInBounds_toArray, List.set_cons_zero, List.set_cons_succ]
  refine ⟨_, rfl, by rfl, fun K hK => ?_⟩
  go_simp
  refine (fis_one 1 (by omega) _ _ _ HCE.out).mono ?_
  rintro e w9 ⟨rfl, rfl⟩
  refine hK _ _ ⟨keep8 HNB.out HBA.out, (HX8.out.later HBA.out).pl.at_, (HX8.out.later HBA.out).lb.at_⟩ ?_
  clear hK K
  conv => arg 6; simp only [Act.put, List.setIfInBounds_toArray, List.set_cons_zero, List.set_cons_succ]
  refine ⟨_, ?_, rfl, by rfl, ?_, ?_⟩
  rotate_left
  · intro W; go_simp; first | done | rfl
  conv => arg 6; simp only [Act.put, List.setIfInBounds_toArray, List.set_cons_zero, List.set_cons_succ]
  refine ⟨_, ?_, rfl, by rfl, ?_, ?_⟩
  rotate_left
  · intro W hW
    have z := res_cells hW.1
    obtain ⟨z0, z1, _, _⟩ := z
    have y := pl_cells hW.2.1
    obtain ⟨y0, y1⟩ := y
    have x := lb_cell hW.2.2
    obtain ⟨x0, _⟩ := x
    go_simp; first | done | rfl
  conv => arg 6; simp only [Act.put, List.setIfInBounds_toArray, List.set_cons_zero, List.set_cons_succ]
  refine ⟨_, ?_, rfl, by rfl, ?_, ?_⟩
  rotate_left
  · intro W; go_simp; first | done | rfl
  conv => arg 6; simp only [Act.put, List.setIfInBounds_toArray, List.set_cons_zero, List.set_cons_succ]
  refine ⟨_, ?_, rfl, by rfl, ?_, ?_⟩
  rotate_left
  · intro W; go_simp; first | done | rfl
  conv => arg 6; simp only [Act.put, List.setIfInBounds_toArray, List.set_cons_zero, List.set_cons_succ]
  refine ⟨_, ?_, rfl, by rfl, ?_, ?_⟩
  rotate_left
  · intro W; go_simp; first | done | rfl
  conv => arg 6; simp only [Act.put, List.setIfInBounds_toArray, List.set_cons_zero, List.set_cons_succ]
  refine ⟨_, rfl, by rfl, fun K hK => ?_⟩
  have y := res_cells (HX8.out.later HBA.out).res.at_
  obtain ⟨y0, y1, y2, y3⟩ := y
  go_simp
  have HDX : Hid (((w6.setCell ⟨w.heap.size + 1 + 1 + 1, 0, none⟩ (.pointer (some ⟨sb, 0, none⟩))).setCell ⟨w.heap.size + 1 + 1 + 1, 1, none⟩ (.int .u32 (x : Int))).heap[nb]? = some zeO8 ∧ ((w6.setCell ⟨w.heap.size + 1 + 1 + 1, 0, none⟩ (.pointer (some ⟨sb, 0, none⟩))).setCell ⟨w.heap.size + 1 + 1 + 1, 1, none⟩ (.int .u32 (x : Int))).heap[w.heap.size]? = some (plO sb x) ∧ ((w6.setCell ⟨w.heap.size + 1 + 1 + 1, 0, none⟩ (.pointer (some ⟨sb, 0, none⟩))).setCell ⟨w.heap.size + 1 + 1 + 1, 1, none⟩ (.int .u32 (x : Int))).heap[w.heap.size + 1]? = some (lbO (.slice a l.length cap'))) := by
    refine ⟨?_, ?_, ?_⟩
    · rw [Below.heap_setCell _ _ _ _ (by show nb ≠ w.heap.size + 1 + 1 + 1; omega), Below.heap_setCell _ _ _ _ (by show nb ≠ w.heap.size + 1 + 1 + 1; omega)]; exact keep8 HNB.out HBA.out
    · rw [Below.heap_setCell _ _ _ _ (by show w.heap.size ≠ w.heap.size + 1 + 1 + 1; omega), Below.heap_setCell _ _ _ _ (by show w.heap.size ≠ w.heap.size + 1 + 1 + 1; omega)]; exact (HX8.out.later HBA.out).pl.at_
    · rw [Below.heap_setCell _ _ _ _ (by show w.heap.size + 1 ≠ w.heap.size + 1 + 1 + 1; omega), Below.heap_setCell _ _ _ _ (by show w.heap.size + 1 ≠ w.heap.size + 1 + 1 + 1; omega)]; exact (HX8.out.later HBA.out).lb.at_
  refine hK _ _ HDX.out ?_
  clear hK K y0 y1 y2 y3
  conv => arg 6; simp only [Act.put, List.setIfInBounds_toArray, List.set_cons_zero, List.set_cons_succ]
  refine ⟨_, rfl, by rfl, fun K hK => ?_⟩
  go_simp
  refine hK _ _ HDX.out ?_
  clear hK K
  conv => arg 6; simp only [Act.put, List.setIfInBounds_toArray, List.set_cons_zero, List.set_cons_succ]
  refine ⟨_, rfl, by rfl, fun K hK => ?_⟩
  go_simp
  refine hK _ _ ?_
  clear hK K
  conv => arg 6; simp only [Act.put, List.setIfInBounds_toArray, List.set_cons_zero, List.set_cons_succ]
  unfold wpSq
  obtain ⟨Wf, hWf, hNf, hOf, s0, s1⟩ := put_pl (HN8.out.trans (Nx.of_below HS8.out HBA.out)) (HX8.out.res.later HBA.out) (by omega) (.pointer (some ⟨sb, 0, none⟩)) (.int .u32 (x : Int))
  have hrvf : Rv8 Wf sb g tb a l := by
    rw [← hWf]
    exact ((HRV8.out.later HBA.out).other (fun off e => by have := (HRV.out.2 _ off e).2.2.2; omega) _).other (fun off e => by have := (HRV.out.2 _ off e).2.2.2; omega) _
  rw [hWf]
  go_wp2_with fail
  refine bodyPost_ret (pl_ret3 (i := 6) (j := 7) (k := 8) rfl rfl rfl rfl hOf.at_) rfl ?_
  exact ⟨g, M, n, x, l, a, cap', T, rfl, hNf.mono (by omega), HPL.out, hrvf, Or.inl rfl, by omega, by omega, HT.out⟩
end Go.Proofs.YtnfjmmkokhncoaaGreat
end

section
namespace Go.Proofs.YtnfjmmkokhncoaaGreat
open Go.RowKit Go.Maps
set_option maxRecDepth 100000

theorem nx_cnt {w w' : World} {sb tb most g g' c d : Nat} {N N' : List Nd} (h : Nx sb tb most w g N c w' g' N') (hd : N'.length ≤ N.length + d) : Nx sb tb most w g N d w' g' N' := by
  obtain ⟨E, e1, _⟩ := h.ext
  exact ⟨h.st, h.frm, h.gin, E, e1, by rw [e1, List.length_append] at hd; omega⟩
theorem em_al8 {N : List Nd} {n x : Nat} (h : Em N (n + 1) x) (a b : Int) : alK N n (kidZ N x) a b = false := by
  rw [al_root, h.2]
  cases inS n a <;> cases inS n b <;> rfl
theorem fill_law {w : World} {sb g tb cap most : Nat} {N : List Nd} (h : St w sb g tb cap most N) {n0 x : Nat} (hx : Em N (n0 + 1) x) (h2 : 2 ≤ n0) (r : R4) (hr : rightR r.x r.y r.X r.Y = true) (hroom : N.length + 2020 ≤ most) :
    Calls Tryz.prog 14 #[.agg #[.pointer (some ⟨sb, 0, none⟩), .int .u32 (x : Int)], .agg #[.int .i64 r.x, .int .i64 r.y, .int .i64 r.X, .int .i64 r.Y], .bool true] w fun e w' => ∃ (g' n y : Nat) (N' : List Nd), e = .returned (.tuple #[.agg #[.pointer (some ⟨sb, 0, none⟩), .int .u32 (y : Int)], .nilIface]) ∧ Nx sb tb most w g N 2016 w' g' N' ∧ Sq N' (n + 1) y ∧ n0 ≤ n ∧ n ≤ 61 ∧ (∀ a b, alK N' n (kidZ N' y) a b = r.has a b) := by
  refine (fill8_any h hx.1 h2 r hr true).mono ?_
  rintro e w' ⟨g', N', n, ⟨l1, l2, l3, _⟩, hnx, hnew, hres⟩
  have hlen : N'.length ≤ N.length + (n + 1 + 1) * 32 := new8_rect hnx.wf hnew (shR r n) 1 fun X Y _ _ => by
    unfold Fp
    rw [em_al8 hx]; rfl
  rcases hres with ⟨y, rfl, hc⟩ | ⟨_, hfull⟩
  · refine ⟨g', n, y, N', rfl, nx_cnt hnx (by omega), hc.1, l1, l2, fun a b => ?_⟩
    rw [al_fill l1 l3 hc, em_al8 hx]
    cases r.has a b <;> rfl
  · omega
theorem fill_law0 {w : World} {sb g tb cap most : Nat} {N : List Nd} (h : St w sb g tb cap most N) {n0 x : Nat} (hx : Sq N (n0 + 1) x) (h2 : 2 ≤ n0) (r : R4) (hr : rightR r.x r.y r.X r.Y = true) (hal : ∀ a b, alK N n0 (kidZ N x) a b = r.has a b) (hroom : N.length + 2020 ≤ most) :
    Calls Tryz.prog 14 #[.agg #[.pointer (some ⟨sb, 0, none⟩), .int .u32 (x : Int)], .agg #[.int .i64 r.x, .int .i64 r.y, .int .i64 r.X, .int .i64 r.Y], .bool false] w fun e w' => ∃ (g' n y : Nat) (N' : List Nd), e = .returned (.tuple #[.agg #[.pointer (some ⟨sb, 0, none⟩), .int .u32 (y : Int)], .nilIface]) ∧ Nx sb tb most w g N 63 w' g' N' ∧ Sq N' (n + 1) y ∧ ctZ N' y = 0 := by
  refine (fill8_any h hx h2 r hr false).mono ?_
  rintro e w' ⟨g', N', n, ⟨l1, l2, l3, _⟩, hnx, hnew, hres⟩
  have hlen : N'.length ≤ N.length + (n + 1 + 1) := new8_flat hnx.wf hnew 0 fun X Y _ _ => by
    unfold Fp
    have := shR_has r n (X - 2 ^ n) (Y - 2 ^ n)
    rw [Int.sub_add_cancel, Int.sub_add_cancel] at this
    rw [this, hal]
    cases r.has (X - 2 ^ n) (Y - 2 ^ n) <;> rfl
  rcases hres with ⟨y, rfl, hc⟩ | ⟨_, hfull⟩
  · refine ⟨g', n, y, N', rfl, nx_cnt hnx (by omega), hc.1, (ct_al hnx.wf hc.1).2 fun a b => ?_⟩
    rw [al_fill l1 l3 hc, hal]
    cases r.has a b <;> rfl
  · omega
/-- A plane of a law, in a block of its own. -/
structure Lp (w : World) (sb g tb most : Nat) (N : List Nd) (W : World) : Prop where
  st : ∃ cap, St W sb g tb cap most N
  bel : Below w.heap.size w W
  ge : w.heap.size ≤ sb ∧ w.heap.size ≤ g ∧ w.heap.size ≤ tb
theorem Lp.later {w W W' : World} {sb g tb most : Nat} {N : List Nd} (h : Lp w sb g tb most N W) (hb : Below W.heap.size W W') : Lp w sb g tb most N W' := by
  obtain ⟨cap, hs⟩ := h.st
  exact ⟨⟨cap, hs.later hb⟩, h.bel.trans (hb.mono h.bel.size), h.ge⟩
theorem Lp.nx {w W W' : World} {sb g g' tb most c : Nat} {N N' : List Nd} (h : Lp w sb g tb most N W) (hn : Nx sb tb most W g N c W' g' N') : Lp w sb g' tb most N' W' := by
  obtain ⟨hb, hg⟩ := nx_bel8 hn h.ge.1 h.ge.2.1 h.ge.2.2 h.bel.size
  exact ⟨hn.st, h.bel.trans hb, h.ge.1, hg, h.ge.2.2⟩
theorem Lp.drew {w W : World} {sb g tb most : Nat} {N : List Nd} (h : Lp w sb g tb most N W) : Lp w sb g tb most N W.drew := by
  obtain ⟨cap, hs⟩ := h.st
  exact ⟨⟨cap, hs.drew⟩, below_drewN h.bel 1, h.ge⟩
theorem ob_new8 {w W : World} {sb g tb most : Nat} {N : List Nd} (h : Lp w sb g tb most N W) (cs : Array Value) (t : TypeId) : Ob (W.alloc (.cells cs t)) sb g tb W.heap.size (.cells cs t (0, 0)) := by
  obtain ⟨cap, hs⟩ := h.st
  exact Ob.new hs cs t
theorem ob_drew8 {w : World} {sb g tb b : Nat} {o : Obj} (h : Ob w sb g tb b o) : Ob w.drew sb g tb b o := ⟨h.at_, h.sb_, h.g_, h.tb_⟩
theorem ze_cells8 {w : World} {b : Nat} (h : w.heap[b]? = some zeO8) : w.cell? ⟨b, 0, none⟩ = some (.pointer none) ∧ w.cell? ⟨b, 1, none⟩ = some (.int .u32 0) ∧ w.frozen? ⟨b, 0, none⟩ = false ∧ w.frozen? ⟨b, 1, none⟩ = false := res_cells h
theorem Lp.set {w W : World} {sb g tb most b i : Nat} {N : List Nd} (h : Lp w sb g tb most N W) (h1 : b ≠ sb ∧ b ≠ g ∧ b ≠ tb) (hb : w.heap.size ≤ b) (v : Value) : Lp w sb g tb most N (W.setCell ⟨b, i, none⟩ v) := by
  obtain ⟨cap, hs⟩ := h.st
  exact ⟨⟨cap, st_set8 hs h1.1 h1.2.1 h1.2.2 v⟩, h.bel.setCell (p := ⟨b, i, none⟩) hb v, h.ge⟩
/-- A plane's block behind a law's call. -/
def PlAt (w : World) (sb g tb most : Nat) (N : List Nd) (y : Nat) (v : Value) (wx : World) : Prop := ∃ nb, v = .pointer (some ⟨nb, 0, none⟩) ∧ w.heap.size ≤ nb ∧ Lp w sb g tb most N wx ∧ Ob wx sb g tb nb (plO sb y)
theorem plAt_put {w W : World} {sb g tb most nb : Nat} {N : List Nd} (h : Lp w sb g tb most N W) (hz : Ob W sb g tb nb zeO8) (hn : w.heap.size ≤ nb) (y : Nat) : PlAt w sb g tb most N y (.pointer (some ⟨nb, 0, none⟩)) ((W.setCell ⟨nb, 0, none⟩ (.pointer (some ⟨sb, 0, none⟩))).setCell ⟨nb, 1, none⟩ (.int .u32 (y : Int))) :=
  ⟨nb, rfl, hn, (h.set ⟨hz.sb_, hz.g_, hz.tb_⟩ hn _).set ⟨hz.sb_, hz.g_, hz.tb_⟩ hn _, pl_set1 (pl_set0 hz.at_ _) _, hz.sb_, hz.g_, hz.tb_⟩
theorem plAt_new {w W : World} {sb g tb most : Nat} {N : List Nd} (h : Lp w sb g tb most N W) (y : Nat) : PlAt w sb g tb most N y (.pointer (some ⟨W.heap.size, 0, none⟩)) (W.alloc (.cells #[.pointer (some ⟨sb, 0, none⟩), .int .u32 (y : Int)] 32)) :=
  ⟨W.heap.size, rfl, h.bel.size, h.later (bel1 _ _), ob_new8 h _ _⟩
theorem six_rect : ∀ a b : Int, (a, b) ∈ ([(0, 0), (1, 0), (2, 0), (0, 1), (1, 1), (2, 1)] : List (Int × Int)) ↔ (R4.mk 0 0 3 2).has a b = true := fun a b => by
  rw [R4.has_iff]
  simp only [List.mem_cons, Prod.mk.injEq, List.not_mem_nil, or_false]
  omega
end Go.Proofs.YtnfjmmkokhncoaaGreat
end
