/- Package area: Paste: contracts. -/
import Derived.Test.YtnfjmmkokhncoaaGreatPd9
import Derived.Test.YtnfjmmkokhncoaaGreatM13
import Derived.Test.YtnfjmmkokhncoaaGreatNn8
namespace Go.Proofs.YtnfjmmkokhncoaaGreat
open Go.RowKit Go.Maps
set_option maxRecDepth 100000

def ptnO (Wd Hh : Int) (sl : Value) : Obj := .cells #[.int .i64 Wd, .int .i64 Hh, sl] 69 (0, 0)
theorem ptn_cells {w : World} {b : Nat} {Wd Hh : Int} {sl : Value} (h : w.heap[b]? = some (ptnO Wd Hh sl)) : w.cell? ⟨b, 0, none⟩ = some (.int .i64 Wd) ∧ w.cell? ⟨b, 1, none⟩ = some (.int .i64 Hh) ∧ w.cell? ⟨b, 2, none⟩ = some sl :=
  ⟨by rw [Lib.cell_of_heap h]; rfl, by rw [Lib.cell_of_heap h]; rfl, by rw [Lib.cell_of_heap h]; rfl⟩
/-- Paste's blocks: the plane, the pattern, the place, the result. -/
structure Pb (w W : World) (sb g tb most : Nat) (N : List Nd) (x : Nat) (Wd Hh : Int) (sl : Value) (p q : Int) : Prop where
  bel : Below w.heap.size w W
  st : ∃ cap, St W sb g tb cap most N
  pl : Ob W sb g tb w.heap.size (plO sb x)
  pt : Ob W sb g tb (w.heap.size + 1) (ptnO Wd Hh sl)
  at_ : Ob W sb g tb (w.heap.size + 1 + 1) (ptO p q)
  res : Ob W sb g tb (w.heap.size + 1 + 1 + 1) zeO8
theorem Pb.later {w W W' : World} {sb g tb most x : Nat} {N : List Nd} {Wd Hh p q : Int} {sl : Value} (h : Pb w W sb g tb most N x Wd Hh sl p q) (hb : Below W.heap.size W W') : Pb w W' sb g tb most N x Wd Hh sl p q :=
  ⟨h.bel.trans (hb.mono h.bel.size), by obtain ⟨cap, hs⟩ := h.st; exact ⟨cap, hs.later hb⟩, h.pl.later hb, h.pt.later hb, h.at_.later hb, h.res.later hb⟩
theorem pb_start {w : World} {sb g tb cap most : Nat} {N : List Nd} (h : St w sb g tb cap most N) (x : Nat) (Wd Hh : Int) (sl : Value) (p q : Int) :
    ∃ W, ((((w.alloc (.cells #[.pointer (some ⟨sb, 0, none⟩), .int .u32 (x : Int)] 32)).alloc (.cells #[.int .i64 Wd, .int .i64 Hh, sl] 69)).alloc (.cells #[.int .i64 p, .int .i64 q] 24)).alloc (.cells #[.pointer none, .int .u32 0] 32)) = W ∧ Pb w W sb g tb most N x Wd Hh sl p q := by
  obtain ⟨l1, l2, l3⟩ := h.lt
  have hb : Below w.heap.size w ((((w.alloc (.cells #[.pointer (some ⟨sb, 0, none⟩), .int .u32 (x : Int)] 32)).alloc (.cells #[.int .i64 Wd, .int .i64 Hh, sl] 69)).alloc (.cells #[.int .i64 p, .int .i64 q] 24)).alloc (.cells #[.pointer none, .int .u32 0] 32)) := by go_grown
  have h4 := heap_alloc_new (((w.alloc (.cells #[.pointer (some ⟨sb, 0, none⟩), .int .u32 (x : Int)] 32)).alloc (.cells #[.int .i64 Wd, .int .i64 Hh, sl] 69)).alloc (.cells #[.int .i64 p, .int .i64 q] 24)) (.cells #[.pointer none, .int .u32 0] 32)
  rw [show (((w.alloc (.cells #[.pointer (some ⟨sb, 0, none⟩), .int .u32 (x : Int)] 32)).alloc (.cells #[.int .i64 Wd, .int .i64 Hh, sl] 69)).alloc (.cells #[.int .i64 p, .int .i64 q] 24)).heap.size = w.heap.size + 1 + 1 + 1 by simp] at h4
  refine ⟨_, rfl, hb, ⟨cap, h.later hb⟩, ⟨keep8 (keep8 (keep8 (heap_alloc_new w _) (bel1 _ _)) (bel1 _ _)) (bel1 _ _), by omega, by omega, by omega⟩, ⟨keep8 (keep8 (new_2 w _ _) (bel1 _ _)) (bel1 _ _), by omega, by omega, by omega⟩, ⟨keep8 (new_3 w _ _ _) (bel1 _ _), by omega, by omega, by omega⟩, ⟨h4, by omega, by omega, by omega⟩⟩
theorem Pb.lt {w W : World} {sb g tb most x : Nat} {N : List Nd} {Wd Hh p q : Int} {sl : Value} (h : Pb w W sb g tb most N x Wd Hh sl p q) : w.heap.size + 1 + 1 + 1 < W.heap.size := h.res.lt
/-- A store into a block of the call's own, beside these. -/
theorem Pb.set {w W : World} {sb g tb most x rb : Nat} {N : List Nd} {Wd Hh p q : Int} {sl : Value} (h : Pb w W sb g tb most N x Wd Hh sl p q) (hb : w.heap.size + 1 + 1 + 1 < rb) (hs : rb ≠ sb ∧ rb ≠ g ∧ rb ≠ tb) (i : Nat) (v : Value) : Pb w (W.setCell ⟨rb, i, none⟩ v) sb g tb most N x Wd Hh sl p q := by
  refine ⟨h.bel.setCell (p := ⟨rb, i, none⟩) (by show _ ≤ rb; omega) v, ?_, h.pl.other (by show rb ≠ _; omega) v, h.pt.other (by show rb ≠ _; omega) v, h.at_.other (by show rb ≠ _; omega) v, h.res.other (by show rb ≠ _; omega) v⟩
  obtain ⟨cap, hst⟩ := h.st
  exact ⟨cap, st_set8 hst hs.1 hs.2.1 hs.2.2 v⟩
theorem ch_put8 {w : World} {b : Nat} {r : R4} {v : Value} (h : w.heap[b]? = some (chO r v)) (q : R4) : ((((w.setCell ⟨b, 0, none⟩ (.int .i64 q.x)).setCell ⟨b, 1, none⟩ (.int .i64 q.y)).setCell ⟨b, 2, none⟩ (.int .i64 q.X)).setCell ⟨b, 3, none⟩ (.int .i64 q.Y)).heap[b]? = some (chO q v) := by
  unfold chO at *
  simp only [World.setCell, Array.getElem?_modify, h]
  simp
set_option maxHeartbeats 2000000 in
/-- The place is not on the plane. -/
theorem paste8_off {w : World} {sb g tb cap most : Nat} {N : List Nd} (h : St w sb g tb cap most N) {n0 x : Nat} (hx : Sq N (n0 + 1) x) (h2 : 2 ≤ n0) (Wd Hh : Int) (sl : Value) (p q : Int) (hat : (onP p && onP q) = false) (over : Bool) :
    Calls Tryz.prog 26 #[.agg #[.pointer (some ⟨sb, 0, none⟩), .int .u32 (x : Int)], .agg #[.int .i64 Wd, .int .i64 Hh, sl], .agg #[.int .i64 p, .int .i64 q], .bool over] w fun e w' => e = .returned (.tuple #[.agg #[.pointer none, .int .u32 0], .iface 52 (.int .i64 1)]) ∧ Below w.heap.size w w' := by
  have hxu := Sq.u32 h hx
  obtain ⟨W0, hW0, hpb⟩ := pb_start h x Wd Hh sl p q
  have HP := Lib.hid hpb
  obtain ⟨cap0, hs0⟩ := hpb.st
  have HIP := Lib.hid (isPlane_any hs0 x hxu)
  rw [show decide (3 ≤ lvZ N x) = true by rw [show lvZ N x = ((n0 + 1 : Nat) : Int) from hx]; simp; omega] at HIP
  have HRT := Lib.hid (fun w => pright_any p q w)
  rw [hat] at HRT
  have HW0 := Lib.hid hW0
  have HS := Lib.hid h
  have HX := Lib.hid hx
  clear h hx hpb hs0 hW0
  clear HS HX
  go_enter Tryz.func26, Tryz.ntmps26
  obtain ⟨p0, p1⟩ := pl_cells HP.out.pl.at_
  obtain ⟨a0, a1⟩ := pt_cells HP.out.at_.at_
  go_upto_region 1 with fail
  rw [HW0.out]
  go_wp2_with fail
  refine HIP.out.mono ?_
  rintro e W1 ⟨rfl, hb⟩
  have HP1 := Lib.hid (HP.out.later hb)
  clear hb HP HIP p0 p1 a0 a1
  obtain ⟨a0, a1⟩ := pt_cells HP1.out.at_.at_
  go_wp2_with fail
  refine (HRT.out _).mono ?_
  rintro e W2 ⟨rfl, hb⟩
  have HP2 := Lib.hid (HP1.out.later hb)
  clear hb HP1 HRT a0 a1
  obtain ⟨z0, z1, f0, f1⟩ := res_cells HP2.out.res.at_
  go_wp2_with fail
  refine bodyPost_ret (pl_ret2 (i := 8) (j := 9) rfl rfl rfl (pl_set1 (pl_set0 HP2.out.res.at_ (.pointer none)) (.int .u32 0))) rfl ?_
  exact ⟨rfl, (HP2.out.bel.setCell (p := ⟨w.heap.size + 1 + 1 + 1, 0, none⟩) (by show _ ≤ w.heap.size + 1 + 1 + 1; omega) (.pointer none)).setCell (p := ⟨w.heap.size + 1 + 1 + 1, 1, none⟩) (by show _ ≤ w.heap.size + 1 + 1 + 1; omega) (.int .u32 0)⟩

set_option maxHeartbeats 2000000 in
/-- A pattern without points: the plane. -/
theorem paste8_none {w : World} {sb g tb cap most : Nat} {N : List Nd} (h : St w sb g tb cap most N) {n0 x : Nat} (hx : Sq N (n0 + 1) x) (h2 : 2 ≤ n0) (sl : Value) (p q : Int) (hat : (onP p && onP q) = true) (over : Bool) :
    Calls Tryz.prog 26 #[.agg #[.pointer (some ⟨sb, 0, none⟩), .int .u32 (x : Int)], .agg #[.int .i64 0, .int .i64 0, sl], .agg #[.int .i64 p, .int .i64 q], .bool over] w fun e w' => e = .returned (.tuple #[.agg #[.pointer (some ⟨sb, 0, none⟩), .int .u32 (x : Int)], .nilIface]) ∧ Below w.heap.size w w' := by
  have hxu := Sq.u32 h hx
  obtain ⟨W0, hW0, hpb⟩ := pb_start h x 0 0 sl p q
  have HP := Lib.hid hpb
  obtain ⟨cap0, hs0⟩ := hpb.st
  have HIP := Lib.hid (isPlane_any hs0 x hxu)
  rw [show decide (3 ≤ lvZ N x) = true by rw [show lvZ N x = ((n0 + 1 : Nat) : Int) from hx]; simp; omega] at HIP
  have HRT := Lib.hid (fun w => pright_any p q w)
  rw [hat] at HRT
  have HW0 := Lib.hid hW0
  have HS := Lib.hid h
  have HX := Lib.hid hx
  clear h hx hpb hs0 hW0
  clear HS HX
  have HEM := Lib.hid (fun w => rempty_any 0 0 0 0 w)
  rw [show noPts 0 0 0 0 = true by decide] at HEM
  go_enter Tryz.func26, Tryz.ntmps26
  obtain ⟨p0, p1⟩ := pl_cells HP.out.pl.at_
  obtain ⟨a0, a1⟩ := pt_cells HP.out.at_.at_
  go_upto_region 1 with fail
  rw [HW0.out]
  go_wp2_with fail
  refine HIP.out.mono ?_
  rintro e W1 ⟨rfl, hb⟩
  have HP1 := Lib.hid (HP.out.later hb)
  clear hb HP HIP p0 p1 a0 a1
  obtain ⟨a0, a1⟩ := pt_cells HP1.out.at_.at_
  go_wp2_with fail
  refine (HRT.out _).mono ?_
  rintro e W2 ⟨rfl, hb⟩
  have HP2 := Lib.hid (HP1.out.later hb)
  clear hb HP1 HRT a0 a1
  obtain ⟨t0, t1, t2⟩ := ptn_cells HP2.out.pt.at_
  have HRC := Lib.hid (heap_alloc_new W2 (.cells #[.int .i64 0, .int .i64 0, .int .i64 0, .int .i64 0] 42))
  have HP3 := Lib.hid (HP2.out.later (bel1 W2 (.cells #[.int .i64 0, .int .i64 0, .int .i64 0, .int .i64 0] 42)))
  have hrb : w.heap.size + 1 + 1 + 1 < W2.heap.size := HP2.out.lt
  clear HP2
  obtain ⟨c0, c1, c2, c3⟩ := rc_cells8 (r := ⟨0, 0, 0, 0⟩) HRC.out
  go_upto_region 4 with fail
  generalize W2.alloc (.cells #[.int .i64 0, .int .i64 0, .int .i64 0, .int .i64 0] 42) = W3 at *
  generalize W2.heap.size = rb at *
  clear t0 t1 t2
  have HRB := Lib.hid hrb
  clear hrb
  go_wp2_with fail
  refine (HEM.out _).mono ?_
  rintro e W4 ⟨rfl, hb⟩
  have HR4 : Hid (W4.heap[rb]? = some (rcO8 ⟨0, 0, 0, 0⟩)) := keep8 HRC.out hb
  have HP4 := Lib.hid (HP3.out.later hb)
  clear hb HP3 HRC HEM c0 c1 c2 c3
  obtain ⟨z0, z1, f0, f1⟩ := res_cells HP4.out.res.at_
  obtain ⟨p0, p1⟩ := pl_cells HP4.out.pl.at_
  go_wp2_with fail
  refine bodyPost_ret (pl_ret2 (i := 8) (j := 9) rfl rfl rfl (pl_set1 (pl_set0 HP4.out.res.at_ (.pointer (some ⟨sb, 0, none⟩))) (.int .u32 (x : Int)))) rfl ?_
  exact ⟨rfl, (HP4.out.bel.setCell (p := ⟨w.heap.size + 1 + 1 + 1, 0, none⟩) (by show _ ≤ w.heap.size + 1 + 1 + 1; omega) _).setCell (p := ⟨w.heap.size + 1 + 1 + 1, 1, none⟩) (by show _ ≤ w.heap.size + 1 + 1 + 1; omega) _⟩

set_option maxHeartbeats 2000000 in
/-- The rectangle leaves the plane. -/
theorem paste8_far {w : World} {sb g tb cap most : Nat} {N : List Nd} (h : St w sb g tb cap most N) {n0 x : Nat} (hx : Sq N (n0 + 1) x) (h2 : 2 ≤ n0) (Wd Hh : Int) (hW : 0 < Wd ∧ Wd ≤ 1000000) (hH : 0 < Hh ∧ Hh ≤ 1000000) (sl : Value) (p q : Int) (hat : (onP p && onP q) = true) (hr : rightR p q (Wd + p) (Hh + q) = false) (over : Bool) :
    Calls Tryz.prog 26 #[.agg #[.pointer (some ⟨sb, 0, none⟩), .int .u32 (x : Int)], .agg #[.int .i64 Wd, .int .i64 Hh, sl], .agg #[.int .i64 p, .int .i64 q], .bool over] w fun e w' => e = .returned (.tuple #[.agg #[.pointer none, .int .u32 0], .iface 52 (.int .i64 8)]) ∧ Below w.heap.size w w' := by
  obtain ⟨hp1, hq1⟩ : (-2305843009213693952 < p ∧ p < 2305843009213693952) ∧ (-2305843009213693952 < q ∧ q < 2305843009213693952) := by
    unfold onP at hat
    simp only [Bool.and_eq_true, decide_eq_true_eq] at hat
    exact ⟨⟨hat.1.1, hat.1.2⟩, hat.2.1, hat.2.2⟩
  have hxu := Sq.u32 h hx
  obtain ⟨W0, hW0, hpb⟩ := pb_start h x Wd Hh sl p q
  have HP := Lib.hid hpb
  obtain ⟨cap0, hs0⟩ := hpb.st
  have HIP := Lib.hid (isPlane_any hs0 x hxu)
  rw [show decide (3 ≤ lvZ N x) = true by rw [show lvZ N x = ((n0 + 1 : Nat) : Int) from hx]; simp; omega] at HIP
  have HRT := Lib.hid (fun w => pright_any p q w)
  rw [hat] at HRT
  have HW0 := Lib.hid hW0
  have HS := Lib.hid h
  have HX := Lib.hid hx
  clear h hx hpb hs0 hW0
  have HMV := Lib.hid (fun w => moved_any 0 0 Wd Hh p q (by unfold I64; omega) (by unfold I64; omega) (by unfold I64; omega) (by unfold I64; omega) w)
  rw [Int.zero_add, Int.zero_add] at HMV
  have HRR := Lib.hid (fun w => rectRight_any p q (Wd + p) (Hh + q) (by omega) (by omega) (by omega) (by omega) w)
  rw [hr] at HRR
  have HEM := Lib.hid (fun w => rempty_any 0 0 Wd Hh w)
  rw [show noPts 0 0 Wd Hh = false by unfold noPts; simp; omega] at HEM
  clear HS HX hW hH hp1 hq1
  go_enter Tryz.func26, Tryz.ntmps26
  obtain ⟨p0, p1⟩ := pl_cells HP.out.pl.at_
  obtain ⟨a0, a1⟩ := pt_cells HP.out.at_.at_
  go_upto_region 1 with fail
  rw [HW0.out]
  go_wp2_with fail
  refine HIP.out.mono ?_
  rintro e W1 ⟨rfl, hb⟩
  have HP1 := Lib.hid (HP.out.later hb)
  clear hb HP HIP p0 p1 a0 a1
  obtain ⟨a0, a1⟩ := pt_cells HP1.out.at_.at_
  go_wp2_with fail
  refine (HRT.out _).mono ?_
  rintro e W2 ⟨rfl, hb⟩
  have HP2 := Lib.hid (HP1.out.later hb)
  clear hb HP1 HRT a0 a1
  obtain ⟨t0, t1, t2⟩ := ptn_cells HP2.out.pt.at_
  have HRC := Lib.hid (heap_alloc_new W2 (.cells #[.int .i64 0, .int .i64 0, .int .i64 Wd, .int .i64 Hh] 42))
  have HP3 := Lib.hid (HP2.out.later (bel1 W2 (.cells #[.int .i64 0, .int .i64 0, .int .i64 Wd, .int .i64 Hh] 42)))
  have hrb : w.heap.size + 1 + 1 + 1 < W2.heap.size := HP2.out.lt
  have hrs : W2.heap.size ≠ sb ∧ W2.heap.size ≠ g ∧ W2.heap.size ≠ tb := by
    obtain ⟨cap2, hs2⟩ := HP2.out.st
    obtain ⟨l1, l2, l3⟩ := hs2.lt
    exact ⟨by omega, by omega, by omega⟩
  clear HP2
  obtain ⟨c0, c1, c2, c3⟩ := rc_cells8 (r := ⟨0, 0, Wd, Hh⟩) HRC.out
  go_upto_region 4 with fail
  generalize W2.alloc (.cells #[.int .i64 0, .int .i64 0, .int .i64 Wd, .int .i64 Hh] 42) = W3 at *
  generalize W2.heap.size = rb at *
  clear t0 t1 t2
  have HRB := Lib.hid hrb
  have HRS : Hid (rb ≠ sb ∧ rb ≠ g ∧ rb ≠ tb) := hrs
  clear hrs
  clear hrb
  go_wp2_with fail
  refine (HEM.out _).mono ?_
  rintro e W4 ⟨rfl, hb⟩
  have HR4 : Hid (W4.heap[rb]? = some (rcO8 ⟨0, 0, Wd, Hh⟩)) := keep8 HRC.out hb
  have HP4 := Lib.hid (HP3.out.later hb)
  clear hb HP3 HRC HEM c0 c1 c2 c3
  obtain ⟨c0, c1, c2, c3⟩ := rc_cells8 HR4.out
  obtain ⟨a0, a1⟩ := pt_cells HP4.out.at_.at_
  go_wp2_with fail
  refine (HMV.out _).mono ?_
  rintro e W5 ⟨rfl, hb⟩
  have HR5 : Hid (W5.heap[rb]? = some (rcO8 ⟨0, 0, Wd, Hh⟩)) := keep8 HR4.out hb
  have HP5 := Lib.hid (HP4.out.later hb)
  clear hb HP4 HR4 HMV c0 c1 c2 c3 a0 a1
  have g0 := Lib.frozen_of_heap HR5.out 0
  have g1 := Lib.frozen_of_heap HR5.out 1
  have g2 := Lib.frozen_of_heap HR5.out 2
  have g3 := Lib.frozen_of_heap HR5.out 3
  obtain ⟨c0, c1, c2, c3⟩ := rc_cells8 HR5.out
  go_upto_region 7 with fail
  clear c0 c1 c2 c3
  have HR6 := Lib.hid (rc_put8 HR5.out ⟨p, q, Wd + p, Hh + q⟩)
  have HP6 := Lib.hid ((((HP5.out.set HRB.out HRS.out 0 (.int .i64 p)).set HRB.out HRS.out 1 (.int .i64 q)).set HRB.out HRS.out 2 (.int .i64 (Wd + p))).set HRB.out HRS.out 3 (.int .i64 (Hh + q)))
  clear HR5 HP5 g0 g1 g2 g3
  generalize (((W5.setCell ⟨rb, 0, none⟩ (.int .i64 p)).setCell ⟨rb, 1, none⟩ (.int .i64 q)).setCell ⟨rb, 2, none⟩ (.int .i64 (Wd + p))).setCell ⟨rb, 3, none⟩ (.int .i64 (Hh + q)) = W6 at *
  obtain ⟨c0, c1, c2, c3⟩ := rc_cells8 HR6.out
  go_wp2_with fail
  refine (HRR.out _).mono ?_
  rintro e W7 ⟨rfl, hb⟩
  have HR7 : Hid (W7.heap[rb]? = some (rcO8 ⟨p, q, Wd + p, Hh + q⟩)) := keep8 HR6.out hb
  have HP7 := Lib.hid (HP6.out.later hb)
  clear hb HP6 HR6 HRR c0 c1 c2 c3
  obtain ⟨z0, z1, f0, f1⟩ := res_cells HP7.out.res.at_
  go_wp2_with fail
  refine bodyPost_ret (pl_ret2 (i := 8) (j := 9) rfl rfl rfl (pl_set1 (pl_set0 HP7.out.res.at_ (.pointer none)) (.int .u32 0))) rfl ?_
  exact ⟨rfl, (HP7.out.bel.setCell (p := ⟨w.heap.size + 1 + 1 + 1, 0, none⟩) (by show _ ≤ w.heap.size + 1 + 1 + 1; omega) (.pointer none)).setCell (p := ⟨w.heap.size + 1 + 1 + 1, 1, none⟩) (by show _ ≤ w.heap.size + 1 + 1 + 1; omega) (.int .u32 0)⟩

set_option maxHeartbeats 4000000 in
/-- Paste. -/
theorem paste8_any {w : World} {sb g tb cap most : Nat} {N : List Nd} (h : St w sb g tb cap most N) {n0 x : Nat} (hx : Sq N (n0 + 1) x) (h2 : 2 ≤ n0) (Wd Hh : Int) (hW : 0 < Wd ∧ Wd ≤ 1000000) (hH : 0 < Hh ∧ Hh ≤ 1000000) (L : List (Int × Int)) (hl : L.length ≤ 100000) (hin : ∀ c ∈ L, (0 ≤ c.1 ∧ c.1 < Wd) ∧ 0 ≤ c.2 ∧ c.2 < Hh) (a : Option Addr) (cp : Nat) (hR : Rk8 w a L) (p q : Int) (hat : (onP p && onP q) = true) (hr : rightR p q (Wd + p) (Hh + q) = true) (over : Bool) :
    Calls Tryz.prog 26 #[.agg #[.pointer (some ⟨sb, 0, none⟩), .int .u32 (x : Int)], .agg #[.int .i64 Wd, .int .i64 Hh, .slice a L.length cp], .agg #[.int .i64 p, .int .i64 q], .bool over] w fun e w' => ∃ g' N' n, (n0 ≤ n ∧ n ≤ 61 ∧ inR n ⟨p, q, Wd + p, Hh + q⟩ ∧ ∀ m, n0 ≤ m → m < n → ¬ inR m ⟨p, q, Wd + p, Hh + q⟩) ∧ Nx sb tb most w g N N'.length w' g' N' ∧ New8 N (n + 1) (Tp N n0 (kidZ N x) n (shR (if over then ⟨0, 0, 0, 0⟩ else ⟨p, q, Wd + p, Hh + q⟩) n) 0 (mvL (mvL L p q) (2 ^ n) (2 ^ n))) N' ∧
      ((∃ y : Nat, e = .returned (.tuple #[.agg #[.pointer (some ⟨sb, 0, none⟩), .int .u32 (y : Int)], .nilIface]) ∧ Con N' (n + 1) y (Tp N n0 (kidZ N x) n (shR (if over then ⟨0, 0, 0, 0⟩ else ⟨p, q, Wd + p, Hh + q⟩) n) 0 (mvL (mvL L p q) (2 ^ n) (2 ^ n)))) ∨ (e = .returned (.tuple #[.agg #[.pointer none, .int .u32 0], .iface 52 (.int .i64 7)]) ∧ most ≤ N'.length)) := by
  obtain ⟨hp1, hq1⟩ : (-2305843009213693952 < p ∧ p < 2305843009213693952) ∧ (-2305843009213693952 < q ∧ q < 2305843009213693952) := by
    unfold onP at hat
    simp only [Bool.and_eq_true, decide_eq_true_eq] at hat
    exact ⟨⟨hat.1.1, hat.1.2⟩, hat.2.1, hat.2.2⟩
  have hxu := Sq.u32 h hx
  obtain ⟨W0, hW0, hpb⟩ := pb_start h x Wd Hh (.slice a L.length cp) p q
  have HP := Lib.hid hpb
  obtain ⟨cap0, hs0⟩ := hpb.st
  have HIP := Lib.hid (isPlane_any hs0 x hxu)
  rw [show decide (3 ≤ lvZ N x) = true by rw [show lvZ N x = ((n0 + 1 : Nat) : Int) from hx]; simp; omega] at HIP
  have HRT := Lib.hid (fun w => pright_any p q w)
  rw [hat] at HRT
  have HW0 := Lib.hid hW0
  have HS := Lib.hid h
  have HX := Lib.hid hx
  clear h hx hpb hs0 hW0
  have HMV := Lib.hid (fun w => moved_any 0 0 Wd Hh p q (by unfold I64; omega) (by unfold I64; omega) (by unfold I64; omega) (by unfold I64; omega) w)
  rw [Int.zero_add, Int.zero_add] at HMV
  have HRR := Lib.hid (fun w => rectRight_any p q (Wd + p) (Hh + q) (by omega) (by omega) (by omega) (by omega) w)
  rw [hr] at HRR
  have HEM := Lib.hid (fun w => rempty_any 0 0 Wd Hh w)
  rw [show noPts 0 0 Wd Hh = false by unfold noPts; simp; omega] at HEM
  have HK := Lib.hid hR
  clear hR
  go_enter Tryz.func26, Tryz.ntmps26
  obtain ⟨p0, p1⟩ := pl_cells HP.out.pl.at_
  obtain ⟨a0, a1⟩ := pt_cells HP.out.at_.at_
  go_upto_region 1 with fail
  rw [HW0.out]
  go_wp2_with fail
  refine HIP.out.mono ?_
  rintro e W1 ⟨rfl, hb⟩
  have HP1 := Lib.hid (HP.out.later hb)
  clear hb HP HIP p0 p1 a0 a1
  obtain ⟨a0, a1⟩ := pt_cells HP1.out.at_.at_
  go_wp2_with fail
  refine (HRT.out _).mono ?_
  rintro e W2 ⟨rfl, hb⟩
  have HP2 := Lib.hid (HP1.out.later hb)
  clear hb HP1 HRT a0 a1
  obtain ⟨t0, t1, t2⟩ := ptn_cells HP2.out.pt.at_
  have HRC := Lib.hid (heap_alloc_new W2 (.cells #[.int .i64 0, .int .i64 0, .int .i64 Wd, .int .i64 Hh] 42))
  have HP3 := Lib.hid (HP2.out.later (bel1 W2 (.cells #[.int .i64 0, .int .i64 0, .int .i64 Wd, .int .i64 Hh] 42)))
  have hrb : w.heap.size + 1 + 1 + 1 < W2.heap.size := HP2.out.lt
  have hrs : W2.heap.size ≠ sb ∧ W2.heap.size ≠ g ∧ W2.heap.size ≠ tb := by
    obtain ⟨cap2, hs2⟩ := HP2.out.st
    obtain ⟨l1, l2, l3⟩ := hs2.lt
    exact ⟨by omega, by omega, by omega⟩
  clear HP2
  obtain ⟨c0, c1, c2, c3⟩ := rc_cells8 (r := ⟨0, 0, Wd, Hh⟩) HRC.out
  go_upto_region 4 with fail
  generalize W2.alloc (.cells #[.int .i64 0, .int .i64 0, .int .i64 Wd, .int .i64 Hh] 42) = W3 at *
  generalize W2.heap.size = rb at *
  clear t0 t1 t2
  have HRB := Lib.hid hrb
  have HRS : Hid (rb ≠ sb ∧ rb ≠ g ∧ rb ≠ tb) := hrs
  clear hrs
  clear hrb
  go_wp2_with fail
  refine (HEM.out _).mono ?_
  rintro e W4 ⟨rfl, hb⟩
  have HR4 : Hid (W4.heap[rb]? = some (rcO8 ⟨0, 0, Wd, Hh⟩)) := keep8 HRC.out hb
  have HP4 := Lib.hid (HP3.out.later hb)
  clear hb HP3 HRC HEM c0 c1 c2 c3
  obtain ⟨c0, c1, c2, c3⟩ := rc_cells8 HR4.out
  obtain ⟨a0, a1⟩ := pt_cells HP4.out.at_.at_
  go_wp2_with fail
  refine (HMV.out _).mono ?_
  rintro e W5 ⟨rfl, hb⟩
  have HR5 : Hid (W5.heap[rb]? = some (rcO8 ⟨0, 0, Wd, Hh⟩)) := keep8 HR4.out hb
  have HP5 := Lib.hid (HP4.out.later hb)
  clear hb HP4 HR4 HMV c0 c1 c2 c3 a0 a1
  have g0 := Lib.frozen_of_heap HR5.out 0
  have g1 := Lib.frozen_of_heap HR5.out 1
  have g2 := Lib.frozen_of_heap HR5.out 2
  have g3 := Lib.frozen_of_heap HR5.out 3
  obtain ⟨c0, c1, c2, c3⟩ := rc_cells8 HR5.out
  go_upto_region 7 with fail
  clear c0 c1 c2 c3
  have HR6 := Lib.hid (rc_put8 HR5.out ⟨p, q, Wd + p, Hh + q⟩)
  have HP6 := Lib.hid ((((HP5.out.set HRB.out HRS.out 0 (.int .i64 p)).set HRB.out HRS.out 1 (.int .i64 q)).set HRB.out HRS.out 2 (.int .i64 (Wd + p))).set HRB.out HRS.out 3 (.int .i64 (Hh + q)))
  clear HR5 HP5 g0 g1 g2 g3
  generalize (((W5.setCell ⟨rb, 0, none⟩ (.int .i64 p)).setCell ⟨rb, 1, none⟩ (.int .i64 q)).setCell ⟨rb, 2, none⟩ (.int .i64 (Wd + p))).setCell ⟨rb, 3, none⟩ (.int .i64 (Hh + q)) = W6 at *
  obtain ⟨c0, c1, c2, c3⟩ := rc_cells8 HR6.out
  go_wp2_with fail
  refine (HRR.out _).mono ?_
  rintro e W7 ⟨rfl, hb⟩
  have HR7 : Hid (W7.heap[rb]? = some (rcO8 ⟨p, q, Wd + p, Hh + q⟩)) := keep8 HR6.out hb
  have HP7 := Lib.hid (HP6.out.later hb)
  clear hb HP6 HR6 HRR c0 c1 c2 c3
  obtain ⟨t0, t1, t2⟩ := ptn_cells HP7.out.pt.at_
  obtain ⟨a0, a1⟩ := pt_cells HP7.out.at_.at_
  have HMC := Lib.hid (movedCells_any L a cp p q hl (fun c hc => by have := hin c hc; unfold I64; omega) W7 (HK.out.later HP7.out.bel))
  go_wp2_with fail
  refine HMC.out.mono ?_
  rintro e W8 ⟨cg, rfl, hcg, hzr, hb⟩
  have HR8 : Hid (W8.heap[rb]? = some (rcO8 ⟨p, q, Wd + p, Hh + q⟩)) := keep8 HR7.out hb
  have HP8 := Lib.hid (HP7.out.later hb)
  have HZ8 := Lib.hid hzr
  clear hb hzr HP7 HR7 HMC t0 t1 t2 a0 a1 hcg
  have HCH : Hid ((W8.alloc (.cells #[.int .i64 0, .int .i64 0, .int .i64 0, .int .i64 0, .slice (some ⟨cg, 0, none⟩) L.length L.length] 92)).heap[W8.heap.size]? = some (chO ⟨0, 0, 0, 0⟩ (.slice (some ⟨cg, 0, none⟩) L.length L.length))) := heap_alloc_new W8 _
  have HR9 : Hid ((W8.alloc (.cells #[.int .i64 0, .int .i64 0, .int .i64 0, .int .i64 0, .slice (some ⟨cg, 0, none⟩) L.length L.length] 92)).heap[rb]? = some (rcO8 ⟨p, q, Wd + p, Hh + q⟩)) := keep8 HR8.out (bel1 W8 _)
  have HP9 := Lib.hid (HP8.out.later (bel1 W8 (.cells #[.int .i64 0, .int .i64 0, .int .i64 0, .int .i64 0, .slice (some ⟨cg, 0, none⟩) L.length L.length] 92)))
  have HZ9 := Lib.hid (HZ8.out.later (bel1 W8 (.cells #[.int .i64 0, .int .i64 0, .int .i64 0, .int .i64 0, .slice (some ⟨cg, 0, none⟩) L.length L.length] 92)))
  have hcb : w.heap.size + 1 + 1 + 1 < W8.heap.size ∧ rb < W8.heap.size ∧ cg < W8.heap.size := ⟨HP8.out.lt, (Array.getElem?_eq_some_iff.1 HR8.out).1, HZ8.out.1⟩
  have hcs : W8.heap.size ≠ sb ∧ W8.heap.size ≠ g ∧ W8.heap.size ≠ tb := by
    obtain ⟨cap2, hs2⟩ := HP8.out.st
    obtain ⟨l1, l2, l3⟩ := hs2.lt
    exact ⟨by omega, by omega, by omega⟩
  clear HP8 HR8 HZ8
  go_upto_region 10 with fail
  generalize W8.alloc (.cells #[.int .i64 0, .int .i64 0, .int .i64 0, .int .i64 0, .slice (some ⟨cg, 0, none⟩) L.length L.length] 92) = W9 at *
  generalize W8.heap.size = cb at *
  have HCB := Lib.hid hcb
  have HCS := Lib.hid hcs
  clear hcb hcs
  obtain ⟨c0, c1, c2, c3⟩ := rc_cells8 HR9.out
  obtain ⟨p0, p1⟩ := pl_cells HP9.out.pl.at_
  obtain ⟨d0, d1, d2, d3, d4⟩ := ch_cells HCH.out
  have hml : (mvL L p q).length = L.length := by unfold mvL; rw [List.length_map]
  have HIN : Hid (∀ d ∈ mvL L p q, (R4.mk p q (Wd + p) (Hh + q)).has d.1 d.2 = true) := fun d hd => by
    unfold mvL at hd
    obtain ⟨c, hc, rfl⟩ := List.mem_map.1 hd
    have := hin c hc
    rw [R4.has_iff]
    simp only
    omega
  obtain ⟨hno, hbd⟩ := right_bounds (r := ⟨p, q, Wd + p, Hh + q⟩) hr
  obtain ⟨cap9, hs9⟩ := HP9.out.st
  cases over with
  | true =>
    have HPD := Lib.hid (painted_any hs9 HX.out ⟨p, q, Wd + p, Hh + q⟩ hno ⟨0, 0, 0, 0⟩ (Or.inr rfl) (mvL L p q) (by rw [hml]; exact hl) HIN.out (some ⟨cg, 0, none⟩) L.length HZ9.out.rk hbd 0 (by omega))
    rw [hml] at HPD
    clear hs9 hno hbd
    go_wp2_with fail
    refine HPD.out.mono ?_
    clear HPD c0 c1 c2 c3 p0 p1 d0 d1 d2 d3 d4
    rintro e w9 ⟨g9, M9, n, hlow, hnx, hnew, hres⟩
    have HL := Lib.hid hlow
    have HN := Lib.hid ((Nx.of_below HS.out HP9.out.bel).trans hnx)
    have HW := Lib.hid hnew
    have HQ9 := Lib.hid (HP9.out.res.nx hnx)
    clear hlow hnx hnew
    obtain ⟨r0, r1, rf0, rf1⟩ := res_cells HQ9.out.at_
    rcases hres with ⟨y, rfl, hc⟩ | ⟨rfl, hf⟩
    · have HC := Lib.hid hc
      clear hc
      go_wp2_with fail
      obtain ⟨W, hW, hN, hob, q0, q1⟩ := put_pl HN.out HQ9.out (by omega) (.pointer (some ⟨sb, 0, none⟩)) (.int .u32 (y : Int))
      rw [hW]
      refine bodyPost_ret (pl_ret2 (i := 8) (j := 9) rfl rfl rfl hob.at_) rfl ?_
      exact ⟨g9, M9, n, HL.out, hN.mono (by omega), HW.out, Or.inl ⟨y, rfl, HC.out⟩⟩
    · have HC := Lib.hid hf
      clear hf
      go_wp2_with fail
      obtain ⟨W, hW, hN, hob, q0, q1⟩ := put_pl HN.out HQ9.out (by omega) (.pointer none) (.int .u32 0)
      rw [hW]
      refine bodyPost_ret (pl_ret2 (i := 8) (j := 9) rfl rfl rfl hob.at_) rfl ?_
      exact ⟨g9, M9, n, HL.out, hN.mono (by omega), HW.out, Or.inr ⟨rfl, HC.out⟩⟩
  | false =>
    have z0 := Lib.frozen_of_heap HCH.out 0
    have z1 := Lib.frozen_of_heap HCH.out 1
    have z2 := Lib.frozen_of_heap HCH.out 2
    have z3 := Lib.frozen_of_heap HCH.out 3
    clear hs9
    go_upto_region 12 with fail
    have HP10 := Lib.hid ((((HP9.out.set HCB.out.1 HCS.out 0 (.int .i64 p)).set HCB.out.1 HCS.out 1 (.int .i64 q)).set HCB.out.1 HCS.out 2 (.int .i64 (Wd + p))).set HCB.out.1 HCS.out 3 (.int .i64 (Hh + q)))
    have HR10 : Hid (((((W9.setCell ⟨cb, 0, none⟩ (.int .i64 p)).setCell ⟨cb, 1, none⟩ (.int .i64 q)).setCell ⟨cb, 2, none⟩ (.int .i64 (Wd + p))).setCell ⟨cb, 3, none⟩ (.int .i64 (Hh + q))).heap[rb]? = some (rcO8 ⟨p, q, Wd + p, Hh + q⟩)) := by
      show _ = _
      have hne : rb ≠ cb := by have := HCB.out.2.1; omega
      rw [Below.heap_setCell _ _ _ _ hne, Below.heap_setCell _ _ _ _ hne, Below.heap_setCell _ _ _ _ hne, Below.heap_setCell _ _ _ _ hne]; exact HR9.out
    have HC10 := Lib.hid (ch_put8 HCH.out ⟨p, q, Wd + p, Hh + q⟩)
    have HZ10 := Lib.hid ((((HZ9.out.other (b := cb) (i := 0) (by have := HCB.out.2.2; omega) (.int .i64 p)).other (b := cb) (i := 1) (by have := HCB.out.2.2; omega) (.int .i64 q)).other (b := cb) (i := 2) (by have := HCB.out.2.2; omega) (.int .i64 (Wd + p))).other (b := cb) (i := 3) (by have := HCB.out.2.2; omega) (.int .i64 (Hh + q)))
    clear HP9 HR9 HCH HZ9 c0 c1 c2 c3 p0 p1 d0 d1 d2 d3 d4 z0 z1 z2 z3
    generalize (((W9.setCell ⟨cb, 0, none⟩ (.int .i64 p)).setCell ⟨cb, 1, none⟩ (.int .i64 q)).setCell ⟨cb, 2, none⟩ (.int .i64 (Wd + p))).setCell ⟨cb, 3, none⟩ (.int .i64 (Hh + q)) = W10 at *
    have HP9 := HP10
    obtain ⟨c0, c1, c2, c3⟩ := rc_cells8 HR10.out
    obtain ⟨p0, p1⟩ := pl_cells HP10.out.pl.at_
    obtain ⟨d0, d1, d2, d3, d4⟩ := ch_cells HC10.out
    obtain ⟨cap10, hs10⟩ := HP10.out.st
    have HPD := Lib.hid (painted_any hs10 HX.out ⟨p, q, Wd + p, Hh + q⟩ hno ⟨p, q, Wd + p, Hh + q⟩ (Or.inl rfl) (mvL L p q) (by rw [hml]; exact hl) HIN.out (some ⟨cg, 0, none⟩) L.length HZ10.out.rk hbd 0 (by omega))
    rw [hml] at HPD
    clear hs10 hno hbd
    go_wp2_with fail
    refine HPD.out.mono ?_
    clear HPD c0 c1 c2 c3 p0 p1 d0 d1 d2 d3 d4
    rintro e w9 ⟨g9, M9, n, hlow, hnx, hnew, hres⟩
    have HL := Lib.hid hlow
    have HN := Lib.hid ((Nx.of_below HS.out HP9.out.bel).trans hnx)
    have HW := Lib.hid hnew
    have HQ9 := Lib.hid (HP9.out.res.nx hnx)
    clear hlow hnx hnew
    obtain ⟨r0, r1, rf0, rf1⟩ := res_cells HQ9.out.at_
    rcases hres with ⟨y, rfl, hc⟩ | ⟨rfl, hf⟩
    · have HC := Lib.hid hc
      clear hc
      go_wp2_with fail
      obtain ⟨W, hW, hN, hob, q0, q1⟩ := put_pl HN.out HQ9.out (by omega) (.pointer (some ⟨sb, 0, none⟩)) (.int .u32 (y : Int))
      rw [hW]
      refine bodyPost_ret (pl_ret2 (i := 8) (j := 9) rfl rfl rfl hob.at_) rfl ?_
      exact ⟨g9, M9, n, HL.out, hN.mono (by omega), HW.out, Or.inl ⟨y, rfl, HC.out⟩⟩
    · have HC := Lib.hid hf
      clear hf
      go_wp2_with fail
      obtain ⟨W, hW, hN, hob, q0, q1⟩ := put_pl HN.out HQ9.out (by omega) (.pointer none) (.int .u32 0)
      rw [hW]
      refine bodyPost_ret (pl_ret2 (i := 8) (j := 9) rfl rfl rfl hob.at_) rfl ?_
      exact ⟨g9, M9, n, HL.out, hN.mono (by omega), HW.out, Or.inr ⟨rfl, HC.out⟩⟩

end Go.Proofs.YtnfjmmkokhncoaaGreat
