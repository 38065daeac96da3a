-- M16
import Derived.Test.YtaapkngpnlnjeaaGreatM15
import Derived.Deep.CutBlock
import Derived.Deep.DeepCutAuto
import Derived.Deep.CutRange
import Derived.Test.YtaapkngpnlnjeaaGreatProg
import Derived.WalkKit
import Derived.WalkLawsBesides
import Derived.Lib.Hide
import Derived.IntWalk
import Derived.Deep.LoopGhost
import Derived.Deep.RegionWith
import Derived.BigRegion
import Derived.Maps.AppendAt
import Derived.Below
import Derived.Laws.BytesArg
import Derived.RowKitTokens
section
namespace Go.Proofs.YtaapkngpnlnjeaaGreat
open Go.RowKit Go.Maps
set_option maxRecDepth 100000

set_option maxHeartbeats 4000000 in
theorem step8_far {w : World} {sb g tb cap most : Nat} {M : List Nd} (h : St w sb g tb cap most M) {n x : Nat} {l : List (Int × Int)} (hpl : Pl8 M n x l) (a : Option Addr) (cap' : Nat) (hr : Rv8 w sb g tb a l) (_ : l.length ≤ 5000) (T : List Place) (hT : Cov T (fun p q => (p, q) ∈ l)) (_ : M.length + T.length + 3300 ≤ most) (k W H : Nat) (hk : k < 256) (hW : W < 256) (hH : H < 256) (p q : Int) (hp : -2305843009213693952 ≤ p ∧ p ≤ 2305843009213693952) (hq : -2305843009213693952 ≤ q ∧ q ≤ 2305843009213693952) (sl : Value) (over : Bool) (hk4 : k % 4 ≤ 1) (h3 : W % 24 ≠ 0 ∧ H % 24 ≠ 0) (h4 : rightR p q (p + ((W % 24 : Nat) : Int)) (q + ((H % 24 : Nat) : Int)) = false) :
    Calls Tryz.prog 9 #[.agg #[.pointer (some ⟨sb, 0, none⟩), .int .u32 (x : Int)], .slice a l.length cap', .agg #[.int .u8 (k : Int), .int .i64 p, .int .i64 q, .int .u8 (W : Int), .int .u8 (H : Int), sl, .bool over]] w fun e w' => Out8 w sb g tb most M l a T e w' := by
  have hxu := Sq.u32 h hpl.sq
  have hn61 : n ≤ 61 := by have := hpl.sq.le62 h.wf; omega
  have HS0 := Lib.hid h
  have HPL := Lib.hid hpl
  have HRV := Lib.hid hr
  have HT := Lib.hid hT
  obtain ⟨W0, hW0, hb0, hs0, hsz0⟩ := s8_start h x (.slice a l.length cap') #[.int .u8 (k : Int), .int .i64 p, .int .i64 q, .int .u8 (W : Int), .int .u8 (H : Int), sl, .bool over] 37
  have HW0 := Lib.hid hW0
  have HB0 := Lib.hid hb0
  have HX0 : Hid (S8x W0 sb g tb w.heap.size x (acO8 k p q W H sl over) (.slice a l.length cap')) := hs0
  clear h hpl hr hT hW0 hb0 hs0
  have m1 : IntKind.u8.wrap ((W : Int).tmod 24) = (W : Int) % 24 := by rw [Int.tmod_eq_emod_of_nonneg (by omega)]; exact IntWalk.u8_in _ (by omega)
  have m2 : IntKind.u8.wrap ((H : Int).tmod 24) = (H : Int) % 24 := by rw [Int.tmod_eq_emod_of_nonneg (by omega)]; exact IntWalk.u8_in _ (by omega)
  have m3 : IntKind.i64.wrap ((W : Int) % 24) = (W : Int) % 24 := IntWalk.i64_in _ (by omega)
  have m4 : IntKind.i64.wrap ((H : Int) % 24) = (H : Int) % 24 := IntWalk.i64_in _ (by omega)
  obtain ⟨q0, q1, q2, q3, q4, q5, q6⟩ := ac_cells8 HX0.out.ac.at_
  go_enter Tryz.func9, Tryz.ntmps9
  go_upto_region 1 with fail
  rw [HW0.out]
  go_quiet (fail)
  have hbq := below_drewN8 (Below.refl W0.heap.size W0) nq
  have HX1 := Lib.hid (HX0.out.later hbq)
  have HB1 := Lib.hid (HB0.out.trans (hbq.mono HB0.out.size))
  clear hbq HX0 HB0 m1 m2 m3 m4 q0 q1 q2 q3 q4 q5 q6
  clear HW0
  generalize W0.drewN nq = W1 at *
  clear hsz0 W0
  obtain ⟨wd, hwd⟩ : ∃ wd : Nat, wd = W % 24 := ⟨_, rfl⟩
  obtain ⟨hd, hhd⟩ : ∃ hd : Nat, hd = H % 24 := ⟨_, rfl⟩
  rw [show (W : Int) % 24 = (wd : Int) by omega, show (H : Int) % 24 = (hd : Int) by omega]
  have hwd24 : wd < 24 := by omega
  have hhd24 : hd < 24 := by omega
  replace h3 : wd ≠ 0 ∧ hd ≠ 0 := by omega
  replace h4 : rightR p q (p + (wd : Int)) (q + (hd : Int)) = false := by rw [hwd, hhd]; exact h4
  clear hwd hhd
  have HRE := Lib.hid (rect8_any p q (wd : Int) (hd : Int) (by unfold I64; omega) (by unfold I64; omega) W1)
  obtain ⟨q0, q1, q2, q3, q4, q5, q6⟩ := ac_cells8 HX1.out.ac.at_
  go_wp2_with fail
  refine HRE.out.mono ?_
  rintro e W2 ⟨rfl, hb⟩
  have hba := hb.trans ((bel1 W2 (.cells #[.int .i64 p, .int .i64 q, .int .i64 (p + (wd : Int)), .int .i64 (q + (hd : Int))] 42)).mono hb.size)
  have HX3 := Lib.hid (HX1.out.later hba)
  have HB3 := Lib.hid (HB1.out.trans (hba.mono HB1.out.size))
  have HRC : Hid (Ob (W2.alloc (.cells #[.int .i64 p, .int .i64 q, .int .i64 (p + (wd : Int)), .int .i64 (q + (hd : Int))] 42)) sb g tb W2.heap.size (rcO8 ⟨p, q, p + (wd : Int), q + (hd : Int)⟩)) := Ob.new (HS0.out.later (HB1.out.trans (hb.mono HB1.out.size))) _ _
  have hrb : w.heap.size + 1 + 1 + 1 < W2.heap.size := by have := HX1.out.lt; have := hb.size; omega
  have HRB := Lib.hid hrb
  clear hb hba HRE HX1 HB1 hrb q0 q1 q2 q3 q4 q5 q6
  obtain ⟨q0, q1, q2, q3, q4, q5, q6⟩ := ac_cells8 HX3.out.ac.at_
  go_upto_region 3 with fail
  generalize W2.alloc (.cells #[.int .i64 p, .int .i64 q, .int .i64 (p + (wd : Int)), .int .i64 (q + (hd : Int))] 42) = W3 at *
  generalize W2.heap.size = rb at *
  clear W2
  have HS3 := Lib.hid (HS0.out.later HB3.out)
  have HN3 := Lib.hid (Nx.of_below HS0.out HB3.out)
  have HRV3 := Lib.hid (HRV.out.later HB3.out)
  obtain ⟨bz, hbz1, hbz2⟩ : ∃ bz : Bool, ((k : Int) % 4 == 0) = bz ∧ (bz = false → ((k : Int) % 4 == 1) = true) := by
    refine ⟨_, rfl, fun hh => ?_⟩
    simp at hh ⊢
    omega
  have HBZ2 := Lib.hid hbz2
  clear hbz2
  go_upto_if 44 with fail
  go_cut [44] from 45 to 48 (fun v44 wx => v44 = .bool true ∧ wx = W3)
  case first =>
    cases bz
    · have hb1 := HBZ2.out rfl
      go_wp2_with fail
      go_meet
      exact ⟨rfl, rfl⟩
    · go_wp2_with fail
      go_meet
      exact ⟨rfl, rfl⟩
  case rest =>
  obtain ⟨rfl, hwc⟩ := hcut
  subst hwc
  obtain ⟨p0, p1⟩ := pl_cells HX3.out.pl.at_
  obtain ⟨c0, c1, c2, c3⟩ := rc_cells8 HRC.out.at_
  have hw0 : ((wd : Int) == 0) = decide (wd = 0) := by rw [Bool.eq_iff_iff]; simp
  have hh0 : ((hd : Int) == 0) = decide (hd = 0) := by rw [Bool.eq_iff_iff]; simp
  have hno : (R4.mk p q (p + (wd : Int)) (q + (hd : Int))).no = false := R4.no_not.2 (by simp only; omega)
  have HFL := Lib.hid (fill8_far HS3.out HPL.out.sq HPL.out.two ⟨p, q, p + (wd : Int), q + (hd : Int)⟩ hno (by simp only; omega) h4 bz)
  go_wp2_with fail
  refine HFL.out.mono ?_
  clear HFL
  rintro e W4 ⟨rfl, hb⟩
  have hba := hb.trans ((bel1 W4 (.cells #[.pointer none, .int .u32 0] 29)).mono hb.size)
  have HNB : Hid ((W4.alloc (.cells #[.pointer none, .int .u32 0] 29)).heap[W4.heap.size]? = some zeO8) := heap_alloc_new W4 _
  have HX5 := Lib.hid (HX3.out.later hba)
  have HRC5 := Lib.hid (HRC.out.later hba)
  have HRV5 := Lib.hid (HRV3.out.later hba)
  have HS5 := Lib.hid (HS3.out.later hba)
  have HN5 := Lib.hid (HN3.out.trans (Nx.of_below HS3.out hba))
  have hnb : w.heap.size + 1 + 1 + 1 < W4.heap.size := by have := HX3.out.lt; have := hb.size; omega
  clear HX3 HRC HRV3 HN3 HS3 p0 p1 c0 c1 c2 c3 hb hba
  clear q0 q1 q2 q3 q4 q5 q6
  obtain ⟨c0, c1, c2, c3⟩ := rc_cells8 HRC5.out.at_
  go_upto_region 7 with fail
  generalize W4.alloc (.cells #[.pointer none, .int .u32 0] 29) = W5 at *
  generalize W4.heap.size = nb at *
  clear W4
  have e1 : decide (wd = 0) = false := by simp; omega
  have e2 : decide (hd = 0) = false := by simp; omega
  have HRR := Lib.hid (rectRight_any p q (p + (wd : Int)) (q + (hd : Int)) (by omega) (by omega) (by omega) (by omega) W5)
  rw [h4] at HRR
  go_wp2_with fail
  refine HRR.out.mono ?_
  rintro e W7 ⟨rfl, hb7⟩
  replace HNB : Hid (W7.heap[nb]? = some zeO8) := keep8 HNB.out hb7
  replace HX5 := Lib.hid (HX5.out.later hb7)
  replace HRV5 := Lib.hid (HRV5.out.later hb7)
  replace HN5 := Lib.hid (HN5.out.trans (Nx.of_below HS5.out hb7))
  replace HS5 := Lib.hid (HS5.out.later hb7)
  clear hb7 HRR c0 c1 c2 c3
  go_wp2_with fail
  refine region_sq 12 (fun W => W.heap[nb]? = some zeO8 ∧ W.heap[w.heap.size]? = some (plO sb x) ∧ W.heap[w.heap.size + 1]? = some (lbO (.slice a l.length cap'))) [(0, 2), (1, 2), (2, 1), (3, 0), (4, 0), (5, 1), (6, 2), (7, 1), (8, 1), (9, 1), (10, 0), (11, 0), (12, 3)] (by kernel_rfl) (by kernel_rfl) rfl (by intro c a d v w h; cases d <;> exact h) (by kernel_rfl) ⟨HNB.out, HX5.out.pl.at_, HX5.out.lb.at_⟩ ?_
  refine ⟨_, ?_, rfl, by rfl, ?_, ?_⟩
  rotate_left
  · intro W hW
    have z := res_cells hW.1
    obtain ⟨z0, z1, _, _⟩ := z
    have y := pl_cells hW.2.1
    obtain ⟨y0, y1⟩ := y
    have x := lb_cell hW.2.2
    obtain ⟨x0, _⟩ := x
    go_simp; first | done | rfl
  conv => arg 6; simp only [Act.put, List.setIfInBounds_toArray, List.set_cons_zero, List.set_cons_succ]
  refine ⟨_, ?_, rfl, by rfl, ?_, ?_⟩
  rotate_left
  · intro W hW
    have z := res_cells hW.1
    obtain ⟨z0, z1, _, _⟩ := z
    have y := pl_cells hW.2.1
    obtain ⟨y0, y1⟩ := y
    have x := lb_cell hW.2.2
    obtain ⟨x0, _⟩ := x
    go_simp; first | done | rfl
  conv => arg 6; simp only [Act.put, List.setIfInBounds_toArray, List.set_cons_zero, List.set_cons_succ]
  refine ⟨_, ?_, rfl, by rfl, ?_, ?_⟩
  rotate_left
  · intro W; go_simp; first | done | rfl
  conv => arg 6; simp only [Act.put, List.setIfInBounds_toArray, List.set_cons_zero, List.set_cons_succ]
  refine ⟨_, rfl, by rfl, fun K hK => ?_⟩
  go_simp
  have HBA : Hid (Below W7.heap.size W7 (W7.alloc (.cells #[.int .i64 8] 57)).drew) := below_drewN8 (bel1 W7 (.cells #[.int .i64 8] 57)) 1
  have HCE : Hid ((W7.alloc (.cells #[.int .i64 8] 57)).drew.cell? ⟨W7.heap.size, 0, none⟩ = some (.int .i64 8)) := cell_s8 W7 _ _
  refine hK _ _ ⟨keep8 HNB.out HBA.out, (HX5.out.later HBA.out).pl.at_, (HX5.out.later HBA.out).lb.at_⟩ ?_
  clear hK K
  generalize (W7.alloc (.cells #[.int .i64 8] 57)).drew = w6 at *
  conv => arg 6; simp only [Act.put, List.setIfInBounds_toArray, List.set_cons_zero, List.set_cons_succ]
  refine ⟨_, rfl, by rfl, fun K hK => ?_⟩
  go_simp
  refine (fis_one 8 (by omega) _ _ _ HCE.out).mono ?_
  rintro e w9 ⟨rfl, rfl⟩
  refine hK _ _ ⟨keep8 HNB.out HBA.out, (HX5.out.later HBA.out).pl.at_, (HX5.out.later HBA.out).lb.at_⟩ ?_
  clear hK K
  conv => arg 6; simp only [Act.put, List.setIfInBounds_toArray, List.set_cons_zero, List.set_cons_succ]
  refine ⟨_, ?_, rfl, by rfl, ?_, ?_⟩
  rotate_left
  · intro W; go_simp; first | done | rfl
  conv => arg 6; simp only [Act.put, List.setIfInBounds_toArray, List.set_cons_zero, List.set_cons_succ]
  refine ⟨_, ?_, rfl, by rfl, ?_, ?_⟩
  rotate_left
  · intro W hW
    have z := res_cells hW.1
    obtain ⟨z0, z1, _, _⟩ := z
    have y := pl_cells hW.2.1
    obtain ⟨y0, y1⟩ := y
    have x := lb_cell hW.2.2
    obtain ⟨x0, _⟩ := x
    go_simp; first | done | rfl
  conv => arg 6; simp only [Act.put, List.setIfInBounds_toArray, List.set_cons_zero, List.set_cons_succ]
  refine ⟨_, ?_, rfl, by rfl, ?_, ?_⟩
  rotate_left
  · intro W; go_simp; first | done | rfl
  conv => arg 6; simp only [Act.put, List.setIfInBounds_toArray, List.set_cons_zero, List.set_cons_succ]
  refine ⟨_, ?_, rfl, by rfl, ?_, ?_⟩
  rotate_left
  · intro W; go_simp; first | done | rfl
  conv => arg 6; simp only [Act.put, List.setIfInBounds_toArray, List.set_cons_zero, List.set_cons_succ]
  refine ⟨_, ?_, rfl, by rfl, ?_, ?_⟩
  rotate_left
  · intro W; go_simp; first | done | rfl
  conv => arg 6; simp only [Act.put, List.setIfInBounds_toArray, List.set_cons_zero, List.set_cons_succ]
  refine ⟨_, rfl, by rfl, fun K hK => ?_⟩
  have y := res_cells (HX5.out.later HBA.out).res.at_
  obtain ⟨y0, y1, y2, y3⟩ := y
  go_simp
  have HDX : Hid (((w6.setCell ⟨w.heap.size + 1 + 1 + 1, 0, none⟩ (.pointer (some ⟨sb, 0, none⟩))).setCell ⟨w.heap.size + 1 + 1 + 1, 1, none⟩ (.int .u32 (x : Int))).heap[nb]? = some zeO8 ∧ ((w6.setCell ⟨w.heap.size + 1 + 1 + 1, 0, none⟩ (.pointer (some ⟨sb, 0, none⟩))).setCell ⟨w.heap.size + 1 + 1 + 1, 1, none⟩ (.int .u32 (x : Int))).heap[w.heap.size]? = some (plO sb x) ∧ ((w6.setCell ⟨w.heap.size + 1 + 1 + 1, 0, none⟩ (.pointer (some ⟨sb, 0, none⟩))).setCell ⟨w.heap.size + 1 + 1 + 1, 1, none⟩ (.int .u32 (x : Int))).heap[w.heap.size + 1]? = some (lbO (.slice a l.length cap'))) := by
    refine ⟨?_, ?_, ?_⟩
    · rw [Below.heap_setCell _ _ _ _ (by show nb ≠ w.heap.size + 1 + 1 + 1; omega), Below.heap_setCell _ _ _ _ (by show nb ≠ w.heap.size + 1 + 1 + 1; omega)]; exact keep8 HNB.out HBA.out
    · rw [Below.heap_setCell _ _ _ _ (by show w.heap.size ≠ w.heap.size + 1 + 1 + 1; omega), Below.heap_setCell _ _ _ _ (by show w.heap.size ≠ w.heap.size + 1 + 1 + 1; omega)]; exact (HX5.out.later HBA.out).pl.at_
    · rw [Below.heap_setCell _ _ _ _ (by show w.heap.size + 1 ≠ w.heap.size + 1 + 1 + 1; omega), Below.heap_setCell _ _ _ _ (by show w.heap.size + 1 ≠ w.heap.size + 1 + 1 + 1; omega)]; exact (HX5.out.later HBA.out).lb.at_
  refine hK _ _ HDX.out ?_
  clear hK K y0 y1 y2 y3
  conv => arg 6; simp only [Act.put, List.setIfInBounds_toArray, List.set_cons_zero, List.set_cons_succ]
  refine ⟨_, rfl, by rfl, fun K hK => ?_⟩
  go_simp
  refine hK _ _ HDX.out ?_
  clear hK K
  conv => arg 6; simp only [Act.put, List.setIfInBounds_toArray, List.set_cons_zero, List.set_cons_succ]
  refine ⟨_, rfl, by rfl, fun K hK => ?_⟩
  go_simp
  refine hK _ _ ?_
  clear hK K
  conv => arg 6; simp only [Act.put, List.setIfInBounds_toArray, List.set_cons_zero, List.set_cons_succ]
  unfold wpSq
  obtain ⟨Wf, hWf, hNf, hOf, s0, s1⟩ := put_pl (HN5.out.trans (Nx.of_below HS5.out HBA.out)) (HX5.out.res.later HBA.out) (by omega) (.pointer (some ⟨sb, 0, none⟩)) (.int .u32 (x : Int))
  have hrvf : Rv8 Wf sb g tb a l := by
    rw [← hWf]
    exact ((HRV5.out.later HBA.out).other (fun off e => by have := (HRV.out.2 _ off e).2.2.2; omega) _).other (fun off e => by have := (HRV.out.2 _ off e).2.2.2; omega) _
  rw [hWf]
  go_wp2_with fail
  refine bodyPost_ret (pl_ret3 (i := 6) (j := 7) (k := 8) rfl rfl rfl rfl hOf.at_) rfl ?_
  exact ⟨g, M, n, x, l, a, cap', T, rfl, hNf.mono (by omega), HPL.out, hrvf, Or.inl rfl, by omega, by omega, HT.out⟩
end Go.Proofs.YtaapkngpnlnjeaaGreat
end

section
namespace Go.Proofs.YtaapkngpnlnjeaaGreat
open Go.RowKit
set_option maxRecDepth 100000

theorem setL8_nodup {l : List (Int × Int)} (h : l.Nodup) (p : Int × Int) (alive : Bool) : (setL l p alive).Nodup := by
  unfold setL
  cases alive with
  | false => simp only [Bool.false_eq_true, if_false, List.append_nil]; exact h.filter _
  | true =>
    simp only [if_true]
    refine List.nodup_append.2 ⟨h.filter _, by simp, fun a ha b hb e => ?_⟩
    simp at hb
    rw [e, hb] at ha
    simp at ha
theorem setL8_mem {l : List (Int × Int)} {p c : Int × Int} {alive : Bool} : c ∈ setL l p alive ↔ (if c = p then alive = true else c ∈ l) := by
  unfold setL
  rw [List.mem_append, List.mem_filter]
  by_cases e : c = p
  · subst e; cases alive <;> simp
  · cases alive <;> simp [e]
theorem setL8_len {l : List (Int × Int)} (p : Int × Int) (alive : Bool) : (setL l p alive).length ≤ l.length + 1 := by
  unfold setL
  rw [List.length_append]
  have := List.length_filter_le (fun c => !decide (c = p)) l
  cases alive <;> simp <;> omega
/-- Many cells set. -/
def setA (l ps : List (Int × Int)) (alive : Bool) : List (Int × Int) := ps.foldl (fun a c => setL a c alive) l
theorem setA_snoc (l ps : List (Int × Int)) (c : Int × Int) (alive : Bool) : setA l (ps ++ [c]) alive = setL (setA l ps alive) c alive := by unfold setA; rw [List.foldl_append]; rfl
theorem setA_nodup (alive : Bool) : ∀ (ps l : List (Int × Int)), l.Nodup → (setA l ps alive).Nodup
  | [], _, h => h
  | c :: r, _, h => setA_nodup alive r _ (setL8_nodup h c alive)
theorem setA_mem (alive : Bool) : ∀ (ps l : List (Int × Int)) (c : Int × Int), c ∈ setA l ps alive ↔ (if c ∈ ps then alive = true else c ∈ l)
  | [], l, c => by simp [setA]
  | d :: r, l, c => by
    show c ∈ setA (setL l d alive) r alive ↔ _
    rw [setA_mem alive r, setL8_mem]
    by_cases h1 : c ∈ r
    · simp [h1]
    · by_cases h2 : c = d
      · simp [h2]
      · simp [h1, h2]
theorem setA_len (alive : Bool) : ∀ (ps l : List (Int × Int)), (setA l ps alive).length ≤ l.length + ps.length
  | [], l => by simp [setA]
  | d :: r, l => by
    show (setA (setL l d alive) r alive).length ≤ _
    have h1 := setA_len alive r (setL l d alive)
    have h2 := setL8_len (l := l) d alive
    simp only [List.length_cons]
    omega
theorem Pl8.in_ {M : List Nd} {n x : Nat} {l : List (Int × Int)} (h : Pl8 M n x l) {a b : Int} (hm : (a, b) ∈ l) : inS n a = true ∧ inS n b = true := by
  have := h.al a b
  rw [decide_eq_true hm] at this
  unfold alK at this
  simp only [Bool.and_eq_true] at this
  exact ⟨this.1.1, this.1.2⟩
theorem in_of_rect {n : Nat} {r : R4} (hr : inR n r) {a b : Int} (h : r.has a b = true) : inS n a = true ∧ inS n b = true := by
  obtain ⟨⟨h1, h2⟩, h3, h4⟩ := R4.has_iff.1 h
  obtain ⟨⟨g1, g2⟩, g3, g4⟩ := hr
  exact ⟨inS_iff.2 (by omega), inS_iff.2 (by omega)⟩
/-- A plane that has a function's cells, and a list of them. -/
theorem pl_of_con {M' : List Nd} {n y : Nat} {f : Int → Int → Nat} {l' : List (Int × Int)} (hc : Con M' (n + 1) y f) (h2 : 2 ≤ n) (hn : l'.Nodup) (hon : ∀ c, c ∈ l' → (onP c.1 && onP c.2) = true)
    (hin : ∀ a b, (a, b) ∈ l' → inS n a = true ∧ inS n b = true) (hf : ∀ a b, inS n a = true → inS n b = true → (f (a + 2 ^ n) (b + 2 ^ n) = 1 ↔ (a, b) ∈ l')) : Pl8 M' n y l' := by
  refine ⟨hc.1, h2, hn, hon, fun a b => ?_⟩
  rw [al_con hc]
  cases ha : inS n a with
  | false =>
    rw [decide_eq_false (fun hm => by have := (hin a b hm).1; rw [ha] at this; cases this)]
    rfl
  | true =>
    cases hb : inS n b with
    | false =>
      rw [decide_eq_false (fun hm => by have := (hin a b hm).2; rw [hb] at this; cases this)]
      rfl
    | true =>
      rw [Bool.eq_iff_iff]
      simp only [Bool.true_and, beq_iff_eq, decide_eq_true_eq]
      exact hf a b ha hb
theorem on_of_rect {r : R4} (hr : rightR r.x r.y r.X r.Y = true) {a b : Int} (h : r.has a b = true) : (onP a && onP b) = true := by
  unfold rightR onP at hr
  unfold onP
  simp only [Bool.and_eq_true, decide_eq_true_eq, Bool.not_eq_true'] at hr ⊢
  obtain ⟨⟨h1, h2⟩, h3, h4⟩ := R4.has_iff.1 h
  omega
theorem fill_pl8 {M M' : List Nd} {n x n' y : Nat} {l l' : List (Int × Int)} {r : R4} {al : Bool} (hpl : Pl8 M n x l) (hnn : n ≤ n') (hin : inR n' r) (hr : rightR r.x r.y r.X r.Y = true) (hc : Con M' (n' + 1) y (Fp M n (kidZ M x) n' (shR r n') (b2n al)))
    (hnd : l'.Nodup) (hm : ∀ a b, (a, b) ∈ l' ↔ (if r.has a b = true then al = true else (a, b) ∈ l)) : Pl8 M' n' y l' := by
  refine pl_of_con hc (Nat.le_trans hpl.two hnn) hnd (fun c hc => ?_) (fun a b hab => ?_) (fun a b ha hb => ?_)
  · have := (hm c.1 c.2).1 hc
    by_cases e : r.has c.1 c.2 = true
    · exact on_of_rect hr e
    · rw [if_neg e] at this; exact hpl.on c this
  · have := (hm a b).1 hab
    by_cases e : r.has a b = true
    · exact in_of_rect hin e
    · rw [if_neg e] at this
      obtain ⟨h1, h2⟩ := hpl.in_ this
      exact ⟨inS_mono hnn h1, inS_mono hnn h2⟩
  · rw [hm a b]
    unfold Fp
    rw [shR_has, show a + 2 ^ n' - 2 ^ n' = a by omega, show b + 2 ^ n' - 2 ^ n' = b by omega, hpl.al]
    by_cases e : r.has a b = true
    · rw [if_pos e, if_pos e]; cases al <;> simp [b2n]
    · rw [if_neg e, if_neg e]
      by_cases e2 : (a, b) ∈ l <;> simp [e2]
theorem mvL_mem {L : List (Int × Int)} {p q a b : Int} : (a, b) ∈ mvL L p q ↔ (a - p, b - q) ∈ L := by
  unfold mvL
  rw [List.mem_map]
  constructor
  · rintro ⟨c, hc, e⟩
    simp only [Prod.mk.injEq] at e
    rw [show (a - p, b - q) = c by refine Prod.ext ?_ ?_ <;> simp only <;> omega]
    exact hc
  · intro h
    exact ⟨_, h, by simp only [Prod.mk.injEq]; omega⟩
theorem shR_no (n : Nat) (a b : Int) : (shR ⟨0, 0, 0, 0⟩ n).has (a + 2 ^ n) (b + 2 ^ n) = false := by
  rw [shR_has]
  exact R4.has_no (R4.no_iff.2 (by simp)) a b
theorem paste_pl8 {M M' : List Nd} {n x n' y : Nat} {l l' L : List (Int × Int)} {p q : Int} {r : R4} {over : Bool} (hpl : Pl8 M n x l) (hnn : n ≤ n') (hin : inR n' r) (hr : rightR r.x r.y r.X r.Y = true)
    (hL : ∀ a b, (a, b) ∈ mvL L p q → r.has a b = true) (hc : Con M' (n' + 1) y (Tp M n (kidZ M x) n' (shR (if over then ⟨0, 0, 0, 0⟩ else r) n') 0 (mvL (mvL L p q) (2 ^ n') (2 ^ n'))))
    (hnd : l'.Nodup) (hm : ∀ a b, (a, b) ∈ l' ↔ ((a, b) ∈ mvL L p q ∨ ((a, b) ∈ l ∧ (over = true ∨ r.has a b = false)))) : Pl8 M' n' y l' := by
  refine pl_of_con hc (Nat.le_trans hpl.two hnn) hnd (fun c hc => ?_) (fun a b hab => ?_) (fun a b ha hb => ?_)
  · rcases (hm c.1 c.2).1 hc with h | h
    · exact on_of_rect hr (hL _ _ h)
    · exact hpl.on c h.1
  · rcases (hm a b).1 hab with h | h
    · exact in_of_rect hin (hL _ _ h)
    · obtain ⟨h1, h2⟩ := hpl.in_ h.1
      exact ⟨inS_mono hnn h1, inS_mono hnn h2⟩
  · rw [hm a b]
    unfold Tp Fp
    rw [show a + 2 ^ n' - 2 ^ n' = a by omega, show b + 2 ^ n' - 2 ^ n' = b by omega, hpl.al]
    have hmv : (a + 2 ^ n', b + 2 ^ n') ∈ mvL (mvL L p q) (2 ^ n') (2 ^ n') ↔ (a, b) ∈ mvL L p q := by
      rw [mvL_mem, show a + 2 ^ n' - 2 ^ n' = a by omega, show b + 2 ^ n' - 2 ^ n' = b by omega]
    by_cases h1 : (a, b) ∈ mvL L p q
    · rw [if_pos (hmv.2 h1)]; simp [h1]
    · rw [if_neg (fun h => h1 (hmv.1 h))]
      cases over with
      | true =>
        simp only [if_true]
        rw [shR_no]
        by_cases e2 : (a, b) ∈ l <;> simp [e2, h1]
      | false =>
        simp only [Bool.false_eq_true, if_false]
        rw [shR_has]
        cases e : r.has a b <;> by_cases e2 : (a, b) ∈ l <;> simp [e2, h1]
theorem fill_room {M M' : List Nd} {n x n' : Nat} {l : List (Int × Int)} {p q : Int} {wd hd : Nat} {al : Bool} {T : List Place} (hw : Wf M') (hpl : Pl8 M n x l) (hT : Cov T (fun a b => (a, b) ∈ l)) (hwd : wd < 24) (hhd : hd < 24) (h61 : n' ≤ 61)
    (h : New8 M (n' + 1) (Fp M n (kidZ M x) n' (shR ⟨p, q, p + (wd : Int), q + (hd : Int)⟩ n') (b2n al)) M') : M'.length ≤ M.length + (T.length + 3109 + 100) := by
  have := room8 hw h h61 (T ++ fillT p q) (fun X Y => ?_) (fun X Y hv j h1 h2 => ?_)
  · rw [List.length_append, fillT_len] at this; exact this
  · unfold Fp
    split
    · cases al <;> simp [b2n]
    · split <;> simp
  · unfold Fp at hv
    by_cases e : (shR ⟨p, q, p + (wd : Int), q + (hd : Int)⟩ n').has X Y = true
    · have e' : (R4.mk p q (p + (wd : Int)) (q + (hd : Int))).has (X - 2 ^ n') (Y - 2 ^ n') = true := by
        rw [← shR_has _ n', show X - 2 ^ n' + 2 ^ n' = X by omega, show Y - 2 ^ n' + 2 ^ n' = Y by omega]; exact e
      obtain ⟨⟨a1, a2⟩, a3, a4⟩ := R4.has_iff.1 e'
      simp only at a1 a2 a3 a4
      exact List.mem_append_right _ (fillT_mem ⟨a1, by omega⟩ ⟨a3, by omega⟩ j h1 h2)
    · rw [if_neg e, hpl.al] at hv
      by_cases e2 : (X - 2 ^ n', Y - 2 ^ n') ∈ l
      · exact List.mem_append_left _ (hT _ _ e2 j h1 h2)
      · simp [e2] at hv
theorem paste_room {M M' : List Nd} {n x n' : Nat} {l L : List (Int × Int)} {p q : Int} {rc : R4} {T : List Place} (hw : Wf M') (hpl : Pl8 M n x l) (hT : Cov T (fun a b => (a, b) ∈ l)) (h61 : n' ≤ 61) (hl : L.length ≤ 30)
    (h : New8 M (n' + 1) (Tp M n (kidZ M x) n' (shR rc n') 0 (mvL (mvL L p q) (2 ^ n') (2 ^ n'))) M') : M'.length ≤ M.length + (T.length + 1830 + 100) := by
  have hlen : (mvL L p q).length = L.length := by unfold mvL; rw [List.length_map]
  have := room8 hw h h61 (T ++ cellT (mvL L p q)) (fun X Y => ?_) (fun X Y hv j h1 h2 => ?_)
  · rw [List.length_append, cellT_len, hlen] at this; omega
  · unfold Tp Fp
    split
    · simp
    · split
      · simp
      · split <;> simp
  · unfold Tp Fp at hv
    by_cases e : (X, Y) ∈ mvL (mvL L p q) (2 ^ n') (2 ^ n')
    · exact List.mem_append_right _ (cellT_mem (mvL_mem.1 e) j h1 h2)
    · rw [if_neg e] at hv
      by_cases e1 : (shR rc n').has X Y = true
      · rw [if_pos e1] at hv; cases hv
      · rw [if_neg e1, hpl.al] at hv
        by_cases e2 : (X - 2 ^ n', Y - 2 ^ n') ∈ l
        · exact List.mem_append_left _ (hT _ _ e2 j h1 h2)
        · simp [e2] at hv
theorem cov_fill {l l' : List (Int × Int)} {p q : Int} {wd hd : Nat} {al : Bool} {T : List Place} (hT : Cov T (fun a b => (a, b) ∈ l)) (hwd : wd < 24) (hhd : hd < 24) (hm : ∀ a b, (a, b) ∈ l' ↔ (if (R4.mk p q (p + (wd : Int)) (q + (hd : Int))).has a b = true then al = true else (a, b) ∈ l)) : Cov (T ++ fillT p q) (fun a b => (a, b) ∈ l') := by
  intro a b h j h1 h2
  by_cases e : (R4.mk p q (p + (wd : Int)) (q + (hd : Int))).has a b = true
  · obtain ⟨⟨a1, a2⟩, a3, a4⟩ := R4.has_iff.1 e
    simp only at a1 a2 a3 a4
    exact List.mem_append_right _ (fillT_mem ⟨a1, by omega⟩ ⟨a3, by omega⟩ j h1 h2)
  · have := (hm a b).1 h
    rw [if_neg e] at this
    exact List.mem_append_left _ (hT a b this j h1 h2)
theorem cov_paste {l l' L : List (Int × Int)} {p q : Int} {T : List Place} (hT : Cov T (fun a b => (a, b) ∈ l)) (hm : ∀ a b, (a, b) ∈ l' → (a, b) ∈ mvL L p q ∨ (a, b) ∈ l) : Cov (T ++ cellT (mvL L p q)) (fun a b => (a, b) ∈ l') := by
  intro a b h j h1 h2
  rcases hm a b h with e | e
  · exact List.mem_append_right _ (cellT_mem e j h1 h2)
  · exact List.mem_append_left _ (hT a b e j h1 h2)
end Go.Proofs.YtaapkngpnlnjeaaGreat
end

section
namespace Go.Proofs.YtaapkngpnlnjeaaGreat
open Go.RowKit

theorem Tryz.infoU8 : (Tryz.prog.info? 5).map (fun i => (i.zero, i.size, i.bytes)) = some (some (.int .u8 0), 1, 1) := by kernel_rfl
/-- A row of bytes of the call's own. -/
def Own (w : World) (B : Nat) (v : Value) (zs : List Int) : Prop := w.ownsRow B 5 1 v zs.length (zs.map (Value.int .u8))


/-- A row of numbers, as a slice holds it, below block B. -/
def Row (k : IntKind) (w : World) (B : Nat) (a : Option Addr) (zs : List Int) : Prop :=
  ∀ (j : Nat) z, zs[j]? = some z → ∃ bk off, a = some ⟨bk, off, none⟩ ∧ bk < B ∧ w.cell? ⟨bk, off + j, none⟩ = some (.int k z)
theorem Row.later {k : IntKind} {w w' : World} {B B' : Nat} {a : Option Addr} {zs : List Int} (h : Row k w B a zs) (hb : Below B' w w') (hB : B ≤ B') : Row k w' B a zs := by
  intro j z hz
  obtain ⟨bk, off, h1, h2, h3⟩ := h j z hz
  exact ⟨bk, off, h1, h2, by rw [hb.cell (p := ⟨bk, off + j, none⟩) (show bk < B' by omega)]; exact h3⟩
theorem Row.mono {k : IntKind} {w : World} {B B' : Nat} {a : Option Addr} {zs : List Int} (h : Row k w B a zs) (hB : B ≤ B') : Row k w B' a zs := by
  intro j z hz
  obtain ⟨bk, off, h1, h2, h3⟩ := h j z hz
  exact ⟨bk, off, h1, by omega, h3⟩
theorem Row.nil {k : IntKind} {w : World} {B : Nat} {a : Option Addr} : Row k w B a [] := by intro j z hz; simp at hz
theorem add_at (bk off j : Nat) : (⟨bk, off, none⟩ : Addr).add j = ⟨bk, off + j, none⟩ := by
  unfold Addr.add; split <;> simp_all
theorem Own.row {w : World} {B : Nat} {v : Value} {zs : List Int} (h : Own w B v zs) :
    ∃ a c, v = .slice a zs.length c ∧ zs.length ≤ c ∧ c ≤ maxLen ∧ Row .u8 w w.heap.size a zs := by
  have h' := h
  rcases h.2 with ⟨rfl, hn⟩ | ⟨g, cap, cur, rfl, _, hg, h1, h2, _, _⟩
  · obtain rfl := List.eq_nil_of_length_eq_zero hn
    exact ⟨none, 0, rfl, Nat.le_refl _, Nat.zero_le _, Row.nil⟩
  · refine ⟨_, _, rfl, h1, h2, fun j z hz => ⟨g, 0, rfl, (Array.getElem?_eq_some_iff.1 hg).1, ?_⟩⟩
    have hj : j < zs.length := (List.getElem?_eq_some_iff.1 hz).1
    have := h'.cellAt j (by omega)
    rw [Nat.zero_add, this, List.getElem?_map, hz]; rfl

theorem cell_in {w : World} {b : Nat} {cs : Array Value} {t : TypeId} (h : w.heap[b]? = some (.cells cs t (0, 0))) (i : Nat) : w.cell? ⟨b, i, none⟩ = cs[i]? := cell_of_row w b i cs t (0, 0) h
theorem Row.drewN {k : IntKind} {w : World} {B : Nat} {a : Option Addr} {zs : List Int} (h : Row k w B a zs) {q : Nat} : Row k (w.drewN q) B a zs := h
theorem take_next {l : List Int} {j : Nat} {z : Int} (h : l[j]? = some z) : l.take (j + 1) = l.take j ++ [z] := by rw [List.take_add_one, h]; rfl

theorem below_alloc1 (w : World) (o : Obj) : Below w.heap.size w (w.alloc o) := (Below.refl _ _).alloc (Nat.le_refl _) o
theorem row_new (k : IntKind) (w : World) (zs : List Int) (t : TypeId) : Row k (w.alloc (.cells (zs.map (Value.int k)).toArray t)) (w.heap.size + 1) (some ⟨w.heap.size, 0, none⟩) zs := by
  intro j z hz
  refine ⟨w.heap.size, 0, rfl, by omega, ?_⟩
  rw [cell_in (heap_alloc_new w _)]
  simp [hz]
end Go.Proofs.YtaapkngpnlnjeaaGreat
end
