/- Layer 8's law's step: Trim. -/
import Derived.Test.YtaapkngpnlnjeaaGreatM15
import Derived.Deep.CutBlock
import Derived.Deep.DeepCutAuto
import Derived.Deep.CutRange
namespace Go.Proofs.YtaapkngpnlnjeaaGreat
open Go.RowKit Go.Maps
set_option maxRecDepth 100000

set_option maxHeartbeats 4000000 in
theorem step8_trim {w : World} {sb g tb cap most : Nat} {M : List Nd} (h : St w sb g tb cap most M) {n x : Nat} {l : List (Int × Int)} (hpl : Pl8 M n x l) (a : Option Addr) (cap' : Nat) (hr : Rv8 w sb g tb a l) (_ : l.length ≤ 5000) (T : List Place) (hT : Cov T (fun p q => (p, q) ∈ l)) (hroom : M.length + T.length + 3300 ≤ most) (k W H : Nat) (hk : k < 256) (hW : W < 256) (hH : H < 256) (p q : Int) (hp : -2305843009213693952 ≤ p ∧ p ≤ 2305843009213693952) (hq : -2305843009213693952 ≤ q ∧ q ≤ 2305843009213693952) (sl : Value) (over : Bool) (h3 : k % 4 = 3) :
    Calls Tryz.prog 9 #[.agg #[.pointer (some ⟨sb, 0, none⟩), .int .u32 (x : Int)], .slice a l.length cap', .agg #[.int .u8 (k : Int), .int .i64 p, .int .i64 q, .int .u8 (W : Int), .int .u8 (H : Int), sl, .bool over]] w fun e w' => Out8 w sb g tb most M l a T e w' := by
  have hxu := Sq.u32 h hpl.sq
  have hn61 : n ≤ 61 := by have := hpl.sq.le62 h.wf; omega
  have HS0 := Lib.hid h
  have HPL := Lib.hid hpl
  have HRV := Lib.hid hr
  have HT := Lib.hid hT
  obtain ⟨W0, hW0, hb0, hs0, hsz0⟩ := s8_start h x (.slice a l.length cap') #[.int .u8 (k : Int), .int .i64 p, .int .i64 q, .int .u8 (W : Int), .int .u8 (H : Int), sl, .bool over] 37
  have HW0 := Lib.hid hW0
  have HB0 := Lib.hid hb0
  have HX0 : Hid (S8x W0 sb g tb w.heap.size x (acO8 k p q W H sl over) (.slice a l.length cap')) := hs0
  clear h hpl hr hT hW0 hb0 hs0
  have m1 : IntKind.u8.wrap ((W : Int).tmod 24) = (W : Int) % 24 := by rw [Int.tmod_eq_emod_of_nonneg (by omega)]; exact IntWalk.u8_in _ (by omega)
  have m2 : IntKind.u8.wrap ((H : Int).tmod 24) = (H : Int) % 24 := by rw [Int.tmod_eq_emod_of_nonneg (by omega)]; exact IntWalk.u8_in _ (by omega)
  have m3 : IntKind.i64.wrap ((W : Int) % 24) = (W : Int) % 24 := IntWalk.i64_in _ (by omega)
  have m4 : IntKind.i64.wrap ((H : Int) % 24) = (H : Int) % 24 := IntWalk.i64_in _ (by omega)
  obtain ⟨q0, q1, q2, q3, q4, q5, q6⟩ := ac_cells8 HX0.out.ac.at_
  go_enter Tryz.func9, Tryz.ntmps9
  go_upto_region 1 with fail
  rw [HW0.out]
  go_quiet (fail)
  have hbq := below_drewN8 (Below.refl W0.heap.size W0) nq
  have HX1 := Lib.hid (HX0.out.later hbq)
  have HB1 := Lib.hid (HB0.out.trans (hbq.mono HB0.out.size))
  clear hbq HX0 HB0 m1 m2 m3 m4 q0 q1 q2 q3 q4 q5 q6
  clear HW0
  generalize W0.drewN nq = W1 at *
  clear hsz0 W0
  obtain ⟨wd, hwd⟩ : ∃ wd : Nat, wd = W % 24 := ⟨_, rfl⟩
  obtain ⟨hd, hhd⟩ : ∃ hd : Nat, hd = H % 24 := ⟨_, rfl⟩
  rw [show (W : Int) % 24 = (wd : Int) by omega, show (H : Int) % 24 = (hd : Int) by omega]
  have hwd24 : wd < 24 := by omega
  have hhd24 : hd < 24 := by omega
  clear hwd hhd
  have HRE := Lib.hid (rect8_any p q (wd : Int) (hd : Int) (by unfold I64; omega) (by unfold I64; omega) W1)
  obtain ⟨q0, q1, q2, q3, q4, q5, q6⟩ := ac_cells8 HX1.out.ac.at_
  go_wp2_with fail
  refine HRE.out.mono ?_
  rintro e W2 ⟨rfl, hb⟩
  have hba := hb.trans ((bel1 W2 (.cells #[.int .i64 p, .int .i64 q, .int .i64 (p + (wd : Int)), .int .i64 (q + (hd : Int))] 42)).mono hb.size)
  have HX3 := Lib.hid (HX1.out.later hba)
  have HB3 := Lib.hid (HB1.out.trans (hba.mono HB1.out.size))
  have HRC : Hid (Ob (W2.alloc (.cells #[.int .i64 p, .int .i64 q, .int .i64 (p + (wd : Int)), .int .i64 (q + (hd : Int))] 42)) sb g tb W2.heap.size (rcO8 ⟨p, q, p + (wd : Int), q + (hd : Int)⟩)) := Ob.new (HS0.out.later (HB1.out.trans (hb.mono HB1.out.size))) _ _
  have hrb : w.heap.size + 1 + 1 + 1 < W2.heap.size := by have := HX1.out.lt; have := hb.size; omega
  have HRB := Lib.hid hrb
  clear hb hba HRE HX1 HB1 hrb q0 q1 q2 q3 q4 q5 q6
  obtain ⟨q0, q1, q2, q3, q4, q5, q6⟩ := ac_cells8 HX3.out.ac.at_
  go_upto_region 3 with fail
  generalize W2.alloc (.cells #[.int .i64 p, .int .i64 q, .int .i64 (p + (wd : Int)), .int .i64 (q + (hd : Int))] 42) = W3 at *
  generalize W2.heap.size = rb at *
  clear W2
  have HS3 := Lib.hid (HS0.out.later HB3.out)
  have HN3 := Lib.hid (Nx.of_below HS0.out HB3.out)
  have HRV3 := Lib.hid (HRV.out.later HB3.out)
  have k0 : ((k : Int) % 4 == 0) = false := by simp; omega
  have k1 : ((k : Int) % 4 == 1) = false := by simp; omega
  have k2 : ((k : Int) % 4 == 2) = false := by simp; omega
  obtain ⟨p0, p1⟩ := pl_cells HX3.out.pl.at_
  have HTR := Lib.hid (trim8_any HS3.out HPL.out.sq HPL.out.two)
  go_wp2_with fail
  refine HTR.out.mono ?_
  rintro e W4 ⟨m, hm2, hmn, ⟨g4, M4, hnx, hres⟩, hmin⟩
  have hlen := nx_len8 hnx
  have HX4 := Lib.hid (HX3.out.nx hnx)
  have HRV4 := Lib.hid (HRV3.out.nx hnx)
  have HN4 := Lib.hid (HN3.out.trans hnx)
  clear hmin HTR
  clear hnx p0 p1 q0 q1 q2 q3 q4 q5 q6
  unfold plV at hres
  rcases hres with ⟨t, rfl, hsq, hal⟩ | ⟨rfl, hfull⟩
  · have HPL4 : Hid (Pl8 M4 m t l) := ⟨hsq, hm2, HPL.out.nd, HPL.out.on, fun a b => by rw [hal]; exact HPL.out.al a b⟩
    clear hsq hal
    have HBN : Hid (Below W4.heap.size W4 (W4.alloc (.cells #[.pointer (some ⟨sb, 0, none⟩), .int .u32 (t : Int)] 29))) := bel1 W4 _
    have HNB : Hid ((W4.alloc (.cells #[.pointer (some ⟨sb, 0, none⟩), .int .u32 (t : Int)] 29)).heap[W4.heap.size]? = some (plO sb t)) := heap_alloc_new W4 _
    obtain ⟨cap4, hS4⟩ := HN4.out.st
    have HS4 := Lib.hid hS4
    have HX5 := Lib.hid (HX4.out.later HBN.out)
    have HRV5 := Lib.hid (HRV4.out.later HBN.out)
    have HN5 := Lib.hid (HN4.out.trans (Nx.of_below HS4.out HBN.out))
    have hnb : w.heap.size + 1 + 1 + 1 < W4.heap.size := HX4.out.lt
    clear hS4 HX4 HRV4 HN4 HBN
    go_wp2_with fail
    generalize W4.alloc (.cells #[.pointer (some ⟨sb, 0, none⟩), .int .u32 (t : Int)] 29) = W5 at *
    generalize W4.heap.size = nb at *
    clear HS4 W4
    refine region_sq 6 (fun W => W.heap[nb]? = some (plO sb t) ∧ W.heap[w.heap.size + 1]? = some (lbO (.slice a l.length cap'))) [(0, 2), (1, 2), (2, 1), (3, 1), (4, 0), (5, 0), (6, 3)] (by kernel_rfl) (by kernel_rfl) rfl (by intro c a d v w h; cases d <;> exact h) (by kernel_rfl) ⟨HNB.out, HX5.out.lb.at_⟩ ?_
    refine ⟨_, ?_, rfl, by rfl, ?_, ?_⟩
    rotate_left
    · intro W hW
      have z := pl_cells hW.1
      obtain ⟨z0, z1⟩ := z
      have y := lb_cell hW.2
      obtain ⟨y0, _⟩ := y
      go_simp; first | done | rfl
    conv => arg 6; simp only [Act.put, List.setIfInBounds_toArray, List.set_cons_zero, List.set_cons_succ]
    refine ⟨_, ?_, rfl, by rfl, ?_, ?_⟩
    rotate_left
    · intro W hW
      have z := pl_cells hW.1
      obtain ⟨z0, z1⟩ := z
      have y := lb_cell hW.2
      obtain ⟨y0, _⟩ := y
      go_simp; first | done | rfl
    conv => arg 6; simp only [Act.put, List.setIfInBounds_toArray, List.set_cons_zero, List.set_cons_succ]
    refine ⟨_, ?_, rfl, by rfl, ?_, ?_⟩
    rotate_left
    · intro W; go_simp; first | done | rfl
    conv => arg 6; simp only [Act.put, List.setIfInBounds_toArray, List.set_cons_zero, List.set_cons_succ]
    refine ⟨_, ?_, rfl, by rfl, ?_, ?_⟩
    rotate_left
    · intro W; go_simp; first | done | rfl
    conv => arg 6; simp only [Act.put, List.setIfInBounds_toArray, List.set_cons_zero, List.set_cons_succ]
    refine ⟨_, rfl, by rfl, fun K hK => ?_⟩
    have y := res_cells HX5.out.res.at_
    obtain ⟨y0, y1, y2, y3⟩ := y
    go_simp
    have HDX : Hid (((W5.setCell ⟨w.heap.size + 1 + 1 + 1, 0, none⟩ (.pointer (some ⟨sb, 0, none⟩))).setCell ⟨w.heap.size + 1 + 1 + 1, 1, none⟩ (.int .u32 (t : Int))).drew.heap[nb]? = some (plO sb t) ∧ ((W5.setCell ⟨w.heap.size + 1 + 1 + 1, 0, none⟩ (.pointer (some ⟨sb, 0, none⟩))).setCell ⟨w.heap.size + 1 + 1 + 1, 1, none⟩ (.int .u32 (t : Int))).drew.heap[w.heap.size + 1]? = some (lbO (.slice a l.length cap'))) := by
      constructor
      · show ((W5.setCell _ _).setCell _ _).heap[nb]? = _
        rw [Below.heap_setCell _ _ _ _ (by show nb ≠ w.heap.size + 1 + 1 + 1; omega), Below.heap_setCell _ _ _ _ (by show nb ≠ w.heap.size + 1 + 1 + 1; omega)]; exact HNB.out
      · show ((W5.setCell _ _).setCell _ _).heap[w.heap.size + 1]? = _
        rw [Below.heap_setCell _ _ _ _ (by show w.heap.size + 1 ≠ w.heap.size + 1 + 1 + 1; omega), Below.heap_setCell _ _ _ _ (by show w.heap.size + 1 ≠ w.heap.size + 1 + 1 + 1; omega)]; exact HX5.out.lb.at_
    refine hK _ _ HDX.out ?_
    clear hK K y0 y1 y2 y3
    conv => arg 6; simp only [Act.put, List.setIfInBounds_toArray, List.set_cons_zero, List.set_cons_succ]
    refine ⟨_, rfl, by rfl, fun K hK => ?_⟩
    go_simp
    refine hK _ _ HDX.out ?_
    clear hK K
    conv => arg 6; simp only [Act.put, List.setIfInBounds_toArray, List.set_cons_zero, List.set_cons_succ]
    refine ⟨_, rfl, by rfl, fun K hK => ?_⟩
    go_simp
    refine hK _ _ ?_
    clear hK K
    conv => arg 6; simp only [Act.put, List.setIfInBounds_toArray, List.set_cons_zero, List.set_cons_succ]
    unfold wpSq
    obtain ⟨Wf, hWf, hNf, hOf, s0, s1⟩ := put_pl HN5.out HX5.out.res (by omega) (.pointer (some ⟨sb, 0, none⟩)) (.int .u32 (t : Int))
    have hrvf : Rv8 Wf sb g4 tb a l := by
      rw [← hWf]
      exact (HRV5.out.other (fun off e => by have := (HRV.out.2 _ off e).2.2.2; omega) _).other (fun off e => by have := (HRV.out.2 _ off e).2.2.2; omega) _
    rw [hWf]
    go_wp2_with fail
    refine bodyPost_ret (pl_ret3 (i := 6) (j := 7) (k := 8) rfl rfl rfl rfl hOf.at_) rfl ?_
    exact ⟨g4, M4, m, t, l, a, cap', T, rfl, nx_drew8 (hNf.mono (by omega)), HPL4.out, hrvf.drew, Or.inl rfl, by omega, by omega, HT.out⟩
  · exfalso
    omega
end Go.Proofs.YtaapkngpnlnjeaaGreat
