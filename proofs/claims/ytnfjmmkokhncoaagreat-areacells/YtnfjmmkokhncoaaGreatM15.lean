-- M15
import Derived.Test.YtnfjmmkokhncoaaGreatM13
import Derived.Test.YtnfjmmkokhncoaaGreatNn8
import Derived.Test.YtnfjmmkokhncoaaGreatM10
import Derived.Deep.DeepCutAuto
import Derived.Deep.CutRange
section
namespace Go.Proofs.YtnfjmmkokhncoaaGreat
open Go.RowKit Go.Maps
set_option maxRecDepth 100000

set_option maxHeartbeats 2000000 in
/-- No points. -/
theorem fill8_no {w : World} {sb g tb cap most : Nat} {N : List Nd} (h : St w sb g tb cap most N) {n0 x : Nat} (hx : Sq N (n0 + 1) x) (h2 : 2 ≤ n0) (r : R4) (hno : r.no = true) (al : Bool) :
    Calls Tryz.prog 14 #[.agg #[.pointer (some ⟨sb, 0, none⟩), .int .u32 (x : Int)], .agg #[.int .i64 r.x, .int .i64 r.y, .int .i64 r.X, .int .i64 r.Y], .bool al] w fun e w' => e = .returned (.tuple #[.agg #[.pointer none, .int .u32 0], .iface 52 (.int .i64 1)]) ∧ Below w.heap.size w w' := by
  have hxu := Sq.u32 h hx
  have HB := Lib.hid (bel3 w (.cells #[.pointer (some ⟨sb, 0, none⟩), .int .u32 (x : Int)] 32) (.cells #[.int .i64 r.x, .int .i64 r.y, .int .i64 r.X, .int .i64 r.Y] 42) (.cells #[.pointer none, .int .u32 0] 32))
  have HS := Lib.hid h
  have hpl0 : Ob (((w.alloc (.cells #[.pointer (some ⟨sb, 0, none⟩), .int .u32 (x : Int)] 32)).alloc (.cells #[.int .i64 r.x, .int .i64 r.y, .int .i64 r.X, .int .i64 r.Y] 42)).alloc (.cells #[.pointer none, .int .u32 0] 32)) sb g tb w.heap.size (plO sb x) := by
    obtain ⟨l1, l2, l3⟩ := h.lt
    exact ⟨keep8 (keep8 (heap_alloc_new w _) (bel1 _ _)) (bel1 _ _), by omega, by omega, by omega⟩
  have hrc0 : Ob (((w.alloc (.cells #[.pointer (some ⟨sb, 0, none⟩), .int .u32 (x : Int)] 32)).alloc (.cells #[.int .i64 r.x, .int .i64 r.y, .int .i64 r.X, .int .i64 r.Y] 42)).alloc (.cells #[.pointer none, .int .u32 0] 32)) sb g tb (w.heap.size + 1) (rcO8 r) := by
    obtain ⟨l1, l2, l3⟩ := h.lt
    exact ⟨keep8 (new_2 w _ _) (bel1 _ _), by omega, by omega, by omega⟩
  have hz0 : Ob (((w.alloc (.cells #[.pointer (some ⟨sb, 0, none⟩), .int .u32 (x : Int)] 32)).alloc (.cells #[.int .i64 r.x, .int .i64 r.y, .int .i64 r.X, .int .i64 r.Y] 42)).alloc (.cells #[.pointer none, .int .u32 0] 32)) sb g tb (w.heap.size + 1 + 1) zeO8 := by
    obtain ⟨l1, l2, l3⟩ := h.lt
    exact ⟨new_3 w _ _ _, by omega, by omega, by omega⟩
  have HPL := Lib.hid hpl0
  have HRC := Lib.hid hrc0
  have HZ := Lib.hid hz0
  have HIP := Lib.hid (isPlane_any (h.later HB.out) x hxu)
  rw [show decide (3 ≤ lvZ N x) = true by rw [show lvZ N x = ((n0 + 1 : Nat) : Int) from hx]; simp; omega] at HIP
  have HE := Lib.hid (fun w => rempty_any r.x r.y r.X r.Y w)
  rw [show noPts r.x r.y r.X r.Y = true from hno] at HE
  clear h hx hpl0 hrc0 hz0 hno
  obtain ⟨p0, p1⟩ := pl_cells HPL.out.at_
  go_enter Tryz.func14, Tryz.ntmps14
  go_wp2_with fail
  generalize ((w.alloc (.cells #[.pointer (some ⟨sb, 0, none⟩), .int .u32 (x : Int)] 32)).alloc (.cells #[.int .i64 r.x, .int .i64 r.y, .int .i64 r.X, .int .i64 r.Y] 42)).alloc (.cells #[.pointer none, .int .u32 0] 32) = W0 at *
  refine HIP.out.mono ?_
  rintro e W1 ⟨rfl, hb⟩
  have HB1 := Lib.hid (HB.out.trans (hb.mono HB.out.size))
  have HPL1 := Lib.hid (HPL.out.later hb)
  have HRC1 := Lib.hid (HRC.out.later hb)
  have HZ1 := Lib.hid (HZ.out.later hb)
  clear hb HB HPL HRC HZ HIP p0 p1
  obtain ⟨c0, c1, c2, c3⟩ := rc_cells8 HRC1.out.at_
  go_wp2_with fail
  refine (HE.out _).mono ?_
  rintro e W2 ⟨rfl, hb⟩
  have HB2 := Lib.hid (HB1.out.trans (hb.mono HB1.out.size))
  have HPL2 := Lib.hid (HPL1.out.later hb)
  have HRC2 := Lib.hid (HRC1.out.later hb)
  have HZ2 := Lib.hid (HZ1.out.later hb)
  clear hb HB1 HPL1 HRC1 HZ1 HE c0 c1 c2 c3
  obtain ⟨r0, r1, rf0, rf1⟩ := res_cells HZ2.out.at_
  go_wp2_with fail
  refine bodyPost_ret (pl_ret2 (i := 6) (j := 7) rfl rfl rfl (pl_set1 (pl_set0 HZ2.out.at_ (.pointer none)) (.int .u32 0))) rfl ?_
  exact ⟨rfl, (HB2.out.setCell (p := ⟨w.heap.size + 1 + 1, 0, none⟩) (by show _ ≤ w.heap.size + 1 + 1; omega) (.pointer none)).setCell (p := ⟨w.heap.size + 1 + 1, 1, none⟩) (by show _ ≤ w.heap.size + 1 + 1; omega) (.int .u32 0)⟩
set_option maxHeartbeats 2000000 in
/-- It leaves the plane. -/
theorem fill8_far {w : World} {sb g tb cap most : Nat} {N : List Nd} (h : St w sb g tb cap most N) {n0 x : Nat} (hx : Sq N (n0 + 1) x) (h2 : 2 ≤ n0) (r : R4) (hno : r.no = false) (hI : (-9223372036854775808 < r.X ∧ r.X ≤ 9223372036854775807) ∧ -9223372036854775808 < r.Y ∧ r.Y ≤ 9223372036854775807) (hr : rightR r.x r.y r.X r.Y = false) (al : Bool) :
    Calls Tryz.prog 14 #[.agg #[.pointer (some ⟨sb, 0, none⟩), .int .u32 (x : Int)], .agg #[.int .i64 r.x, .int .i64 r.y, .int .i64 r.X, .int .i64 r.Y], .bool al] w fun e w' => e = .returned (.tuple #[.agg #[.pointer none, .int .u32 0], .iface 52 (.int .i64 8)]) ∧ Below w.heap.size w w' := by
  have hxu := Sq.u32 h hx
  have HB := Lib.hid (bel3 w (.cells #[.pointer (some ⟨sb, 0, none⟩), .int .u32 (x : Int)] 32) (.cells #[.int .i64 r.x, .int .i64 r.y, .int .i64 r.X, .int .i64 r.Y] 42) (.cells #[.pointer none, .int .u32 0] 32))
  have HS := Lib.hid h
  have hpl0 : Ob (((w.alloc (.cells #[.pointer (some ⟨sb, 0, none⟩), .int .u32 (x : Int)] 32)).alloc (.cells #[.int .i64 r.x, .int .i64 r.y, .int .i64 r.X, .int .i64 r.Y] 42)).alloc (.cells #[.pointer none, .int .u32 0] 32)) sb g tb w.heap.size (plO sb x) := by
    obtain ⟨l1, l2, l3⟩ := h.lt
    exact ⟨keep8 (keep8 (heap_alloc_new w _) (bel1 _ _)) (bel1 _ _), by omega, by omega, by omega⟩
  have hrc0 : Ob (((w.alloc (.cells #[.pointer (some ⟨sb, 0, none⟩), .int .u32 (x : Int)] 32)).alloc (.cells #[.int .i64 r.x, .int .i64 r.y, .int .i64 r.X, .int .i64 r.Y] 42)).alloc (.cells #[.pointer none, .int .u32 0] 32)) sb g tb (w.heap.size + 1) (rcO8 r) := by
    obtain ⟨l1, l2, l3⟩ := h.lt
    exact ⟨keep8 (new_2 w _ _) (bel1 _ _), by omega, by omega, by omega⟩
  have hz0 : Ob (((w.alloc (.cells #[.pointer (some ⟨sb, 0, none⟩), .int .u32 (x : Int)] 32)).alloc (.cells #[.int .i64 r.x, .int .i64 r.y, .int .i64 r.X, .int .i64 r.Y] 42)).alloc (.cells #[.pointer none, .int .u32 0] 32)) sb g tb (w.heap.size + 1 + 1) zeO8 := by
    obtain ⟨l1, l2, l3⟩ := h.lt
    exact ⟨new_3 w _ _ _, by omega, by omega, by omega⟩
  have HPL := Lib.hid hpl0
  have HRC := Lib.hid hrc0
  have HZ := Lib.hid hz0
  have HIP := Lib.hid (isPlane_any (h.later HB.out) x hxu)
  rw [show decide (3 ≤ lvZ N x) = true by rw [show lvZ N x = ((n0 + 1 : Nat) : Int) from hx]; simp; omega] at HIP
  have HE := Lib.hid (fun w => rempty_any r.x r.y r.X r.Y w)
  rw [show noPts r.x r.y r.X r.Y = false from hno] at HE
  have HR := Lib.hid (fun w => rectRight_any r.x r.y r.X r.Y hI.1.1 hI.2.1 hI.1.2 hI.2.2 w)
  rw [hr] at HR
  clear h hx hpl0 hrc0 hz0 hno hr
  obtain ⟨p0, p1⟩ := pl_cells HPL.out.at_
  go_enter Tryz.func14, Tryz.ntmps14
  go_wp2_with fail
  generalize ((w.alloc (.cells #[.pointer (some ⟨sb, 0, none⟩), .int .u32 (x : Int)] 32)).alloc (.cells #[.int .i64 r.x, .int .i64 r.y, .int .i64 r.X, .int .i64 r.Y] 42)).alloc (.cells #[.pointer none, .int .u32 0] 32) = W0 at *
  refine HIP.out.mono ?_
  rintro e W1 ⟨rfl, hb⟩
  have HB1 := Lib.hid (HB.out.trans (hb.mono HB.out.size))
  have HPL1 := Lib.hid (HPL.out.later hb)
  have HRC1 := Lib.hid (HRC.out.later hb)
  have HZ1 := Lib.hid (HZ.out.later hb)
  clear hb HB HPL HRC HZ HIP p0 p1
  obtain ⟨c0, c1, c2, c3⟩ := rc_cells8 HRC1.out.at_
  go_wp2_with fail
  refine (HE.out _).mono ?_
  rintro e W2 ⟨rfl, hb⟩
  have HB2 := Lib.hid (HB1.out.trans (hb.mono HB1.out.size))
  have HPL2 := Lib.hid (HPL1.out.later hb)
  have HRC2 := Lib.hid (HRC1.out.later hb)
  have HZ2 := Lib.hid (HZ1.out.later hb)
  clear hb HB1 HPL1 HRC1 HZ1 HE c0 c1 c2 c3
  obtain ⟨c0, c1, c2, c3⟩ := rc_cells8 HRC2.out.at_
  go_wp2_with fail
  refine (HR.out _).mono ?_
  rintro e W3 ⟨rfl, hb⟩
  have HB3 := Lib.hid (HB2.out.trans (hb.mono HB2.out.size))
  have HPL3 := Lib.hid (HPL2.out.later hb)
  have HRC3 := Lib.hid (HRC2.out.later hb)
  have HZ3 := Lib.hid (HZ2.out.later hb)
  clear hb HB2 HPL2 HRC2 HZ2 HR c0 c1 c2 c3
  obtain ⟨r0, r1, rf0, rf1⟩ := res_cells HZ3.out.at_
  go_wp2_with fail
  refine bodyPost_ret (pl_ret2 (i := 6) (j := 7) rfl rfl rfl (pl_set1 (pl_set0 HZ3.out.at_ (.pointer none)) (.int .u32 0))) rfl ?_
  exact ⟨rfl, (HB3.out.setCell (p := ⟨w.heap.size + 1 + 1, 0, none⟩) (by show _ ≤ w.heap.size + 1 + 1; omega) (.pointer none)).setCell (p := ⟨w.heap.size + 1 + 1, 1, none⟩) (by show _ ≤ w.heap.size + 1 + 1; omega) (.int .u32 0)⟩
end Go.Proofs.YtnfjmmkokhncoaaGreat
end

section
namespace Go.Proofs.YtnfjmmkokhncoaaGreat
open Go.RowKit Go.Maps
set_option maxRecDepth 100000

theorem Nx.undrew {w w' : World} {sb tb most g g' c : Nat} {N N' : List Nd} (h : Nx sb tb most w.drew g N c w' g' N') : Nx sb tb most w g N c w' g' N' :=
  ⟨h.st, ⟨h.frm.os, h.frm.tape, h.frm.output, h.frm.size, h.frm.block⟩, h.gin, h.ext⟩
theorem Ob.drew {w : World} {sb g tb b : Nat} {o : Obj} (h : Ob w sb g tb b o) : Ob w.drew sb g tb b o := ⟨h.at_, h.sb_, h.g_, h.tb_⟩
theorem two_out {e : Ending} {A : Nat → Prop} {B : Prop} (h : (∃ r : Nat, e = .returned (.tuple #[.int .u32 (r : Int), .nilIface]) ∧ A r) ∨ (e = .returned (.tuple #[.int .u32 0, .iface 52 (.int .i64 7)]) ∧ B)) :
    ∃ (r : Nat) (ev : Value), e = .returned (.tuple #[.int .u32 (r : Int), ev]) ∧ ((ev = .nilIface ∧ A r) ∨ (ev = .iface 52 (.int .i64 7) ∧ B)) := by
  rcases h with ⟨r, rfl, h⟩ | ⟨rfl, h⟩
  · exact ⟨r, _, rfl, Or.inl ⟨rfl, h⟩⟩
  · exact ⟨0, _, rfl, Or.inr ⟨rfl, h⟩⟩
theorem Nx.sq {w w' : World} {sb tb most g g' c n x : Nat} {N N' : List Nd} (h : Nx sb tb most w g N c w' g' N') (hx : Sq N n x) : Sq N' n x := by
  obtain ⟨E, rfl, _⟩ := h.ext
  exact hx.app E
end Go.Proofs.YtnfjmmkokhncoaaGreat
end

section
namespace Go.Proofs.YtnfjmmkokhncoaaGreat
open Go.RowKit Go.Maps
set_option maxRecDepth 100000

/-- A plane of the same cells, made. -/
def Made (sb tb most : Nat) (w : World) (g : Nat) (N : List Nd) (c : Nat) (w' : World) (e : Ending) (m L : Nat) (A : Int → Int → Bool) : Prop :=
  ∃ g' N', Nx sb tb most w g N c w' g' N' ∧
      ((∃ r : Nat, e = .returned (.tuple #[plV sb r, .nilIface]) ∧ Sq N' (m + 1) r ∧ (∀ a b, alK N' m (kidZ N' r) a b = A a b) ∧ HasEm N' L) ∨ (e = .returned (.tuple #[.agg #[.pointer none, .int .u32 0], .iface 52 (.int .i64 7)]) ∧ most ≤ N'.length))
/-- The entry of a method of a plane with a block for its result. -/
structure Ent (w W : World) (sb g tb cap most : Nat) (N : List Nd) (x : Nat) : Prop where
  bel : Below w.heap.size w W
  st : St W sb g tb cap most N
  pl : Ob W sb g tb w.heap.size (plO sb x)
  res : Ob W sb g tb (w.heap.size + 1) (.cells #[.pointer none, .int .u32 0] 32 (0, 0))
theorem ent_new {w : World} {sb g tb cap most : Nat} {N : List Nd} (h : St w sb g tb cap most N) (x : Nat) : Ent w ((w.alloc (.cells #[.pointer (some ⟨sb, 0, none⟩), .int .u32 (x : Int)] 32)).alloc (.cells #[.pointer none, .int .u32 0] 32)) sb g tb cap most N x := by
  have hr0 := Ob.new (h.later (bel1 w (.cells #[.pointer (some ⟨sb, 0, none⟩), .int .u32 (x : Int)] 32))) #[.pointer none, .int .u32 0] 32
  rw [show (w.alloc (.cells #[.pointer (some ⟨sb, 0, none⟩), .int .u32 (x : Int)] 32)).heap.size = w.heap.size + 1 by simp] at hr0
  exact ⟨bel2 _ _ _, h.later (bel2 _ _ _), (Ob.new h _ _).later (bel1 _ _), hr0⟩
theorem Ent.later {w W W' : World} {sb g tb cap most : Nat} {N : List Nd} {x : Nat} (h : Ent w W sb g tb cap most N x) (hb : Below W.heap.size W W') : Ent w W' sb g tb cap most N x :=
  ⟨h.bel.trans (hb.mono h.bel.size), h.st.later hb, h.pl.later hb, h.res.later hb⟩
/-- The result written, without a square made. -/
theorem Ent.put {w W : World} {sb g tb cap most : Nat} {N : List Nd} {x : Nat} (h : Ent w W sb g tb cap most N x) (p' v' : Value) :
    ∃ W', (W.setCell ⟨w.heap.size + 1, 0, none⟩ p').setCell ⟨w.heap.size + 1, 1, none⟩ v' = W' ∧ Below w.heap.size w W' ∧ W'.cell? ⟨w.heap.size + 1, 0, none⟩ = some p' ∧ W'.cell? ⟨w.heap.size + 1, 1, none⟩ = some v' := by
  have h0 := pl_set0 h.res.at_ p'
  have h1 := pl_set1 h0 v'
  exact ⟨_, rfl, (h.bel.setCell (p := ⟨w.heap.size + 1, 0, none⟩) (by simp) _).setCell (p := ⟨w.heap.size + 1, 1, none⟩) (by simp) _, (res_cells h1).1, (res_cells h1).2.1⟩
theorem Ent.other {w W : World} {sb g tb cap most : Nat} {N : List Nd} {x kb i : Nat} (h : Ent w W sb g tb cap most N x) (hk : w.heap.size ≤ kb) (h0 : w.heap.size ≠ kb ∧ w.heap.size + 1 ≠ kb) (h1 : kb ≠ sb ∧ kb ≠ g ∧ kb ≠ tb) (v : Value) : Ent w (W.setCell ⟨kb, i, none⟩ v) sb g tb cap most N x :=
  ⟨h.bel.setCell (p := ⟨kb, i, none⟩) hk _, h.st.keep (Below.heap_setCell _ _ _ _ (Ne.symm h1.1)) (Below.heap_setCell _ _ _ _ (Ne.symm h1.2.1)) (Below.heap_setCell _ _ _ _ (Ne.symm h1.2.2)), h.pl.other (Ne.symm h0.1) v, h.res.other (Ne.symm h0.2) v⟩
set_option maxHeartbeats 4000000 in
theorem trim_any {w : World} {sb g tb cap most : Nat} {N : List Nd} (h : St w sb g tb cap most N) {n x : Nat} (hx : Sq N (n + 1) x) (hn : 2 ≤ n) (hE : HasEm N (n - 1)) :
    Calls Tryz.prog 27 #[.agg #[.pointer (some ⟨sb, 0, none⟩), .int .u32 (x : Int)]] w fun e w' => ∃ m, 2 ≤ m ∧ m ≤ n ∧ Made sb tb most w g N 1 w' e m (m - 1) (alK N n (kidZ N x)) ∧ (m = 2 ∨ ∃ a b, alK N n (kidZ N x) a b = true ∧ ¬ (inS (m - 1) a = true ∧ inS (m - 1) b = true)) := by
  have hxu := Sq.u32 h hx
  have HE1 := Lib.hid (ent_new h x)
  have HS0 := Lib.hid h
  have HX := Lib.hid hx
  have HE := Lib.hid hE
  have hn62 := hx.le62 h.wf
  clear h hx hE
  go_enter Tryz.func27, Tryz.ntmps27
  go_wp2_with fail
  generalize (w.alloc (.cells #[.pointer (some ⟨sb, 0, none⟩), .int .u32 (x : Int)] 32)).alloc (.cells #[.pointer none, .int .u32 0] 32) = W0 at *
  refine (right_sq HE1.out.st HX.out hn).mono ?_
  rintro e W1 ⟨rfl, hb⟩
  have HE2 := Lib.hid (HE1.out.later hb)
  clear hb HE1
  obtain ⟨p0, p1⟩ := pl_cells HE2.out.pl.at_
  go_wp2_with fail
  refine (of_sqk HE2.out.st HX.out).mono ?_
  rintro e w5 ⟨rfl, hb⟩
  have HFK := Lib.hid (HX.out.kid HS0.out.wf)
  generalize hkd : kidZ N x = k0 at *
  have HKD := Lib.hid hkd
  clear hkd
  have HE5 := Lib.hid (HE2.out.later hb)
  have HE6 := Lib.hid (HE5.out.later (bel1 w5 (.cells #[.int .u32 (k0.1 : Int), .int .u32 (k0.2.1 : Int), .int .u32 (k0.2.2.1 : Int), .int .u32 (k0.2.2.2 : Int)] 96)))
  have HK6 : Hid ((w5.alloc (.cells #[.int .u32 (k0.1 : Int), .int .u32 (k0.2.1 : Int), .int .u32 (k0.2.2.1 : Int), .int .u32 (k0.2.2.2 : Int)] 96)).heap[w5.heap.size]? = some (kO k0)) := heap_alloc_new _ _
  have hkb : w.heap.size ≤ w5.heap.size := HE5.out.bel.size
  have hne6 : w.heap.size ≠ w5.heap.size ∧ w.heap.size + 1 ≠ w5.heap.size := ⟨by have := HE5.out.pl.lt; omega, by have := HE5.out.res.lt; omega⟩
  have hne7 : w5.heap.size ≠ sb ∧ w5.heap.size ≠ g ∧ w5.heap.size ≠ tb := by
    have := Ob.new HE5.out.st #[.int .u32 (k0.1 : Int), .int .u32 (k0.2.1 : Int), .int .u32 (k0.2.2.1 : Int), .int .u32 (k0.2.2.2 : Int)] 96
    exact ⟨this.sb_, this.g_, this.tb_⟩
  clear hb HE2 HE5 p0 p1
  have HLV := Lib.hid (level_any HE6.out.st x hxu)
  rw [show lvZ N x = ((n + 1 : Nat) : Int) from HX.out] at HLV
  obtain ⟨p0, p1⟩ := pl_cells HE6.out.pl.at_
  go_wp2_with fail
  refine HLV.out.mono ?_
  rintro e W2 ⟨rfl, hW2⟩
  rw [← hW2]
  clear hW2 HLV p0 p1
  generalize w5.alloc (.cells #[.int .u32 (k0.1 : Int), .int .u32 (k0.2.1 : Int), .int .u32 (k0.2.2.1 : Int), .int .u32 (k0.2.2.2 : Int)] 96) = W6 at *
  generalize w5.heap.size = kb at *
  have HNE := Lib.hid hne6
  have HNE7 := Lib.hid hne7
  clear W2 w5 hne6 hne7
  go_wp2_with fail
  go_loopg [6] n (fun m lv wr => ∃ (j : Nat) (kk : K4), m = j ∧ 2 ≤ j ∧ j ≤ n ∧ lv = .int .i64 ((j + 1 : Nat) : Int) ∧ Ent w wr sb g tb cap most N x ∧ wr.heap[kb]? = some (kO kk) ∧ Fo N j kk ∧ (∀ a b, alK N j kk a b = alK N n k0 a b))
  case atStart => exact ⟨n, k0, rfl, hn, Nat.le_refl _, rfl, HE6.out, HK6.out, HFK.out, fun _ _ => rfl⟩
  case round =>
    clear HE6 HK6
    obtain ⟨j, kk, hm, hj2, hjn, rfl, hEn, hK, hF, hA⟩ := hrel
    have HM := Lib.hid hm
    have HEn := Lib.hid hEn
    have HK := Lib.hid hK
    have HF := Lib.hid hF
    have HA := Lib.hid hA
    clear hm hEn hK hF hA
    obtain ⟨p0, p1⟩ := pl_cells HEn.out.pl.at_
    obtain ⟨k1, k2, k3, k4⟩ := k_cells HK.out
    by_cases h3 : j = 2
    · have hg3 : decide ((3 : Int) < ((j + 1 : Nat) : Int)) = false := by simp; omega
      go_wp2_with fail
      refine (of4_any (z := x) HEn.out.st (show j < 62 by omega) HF.out).mono ?_
      rintro e W4 ⟨g7, M7, hnx, hres⟩
      have HN7 := Lib.hid ((Nx.of_below HS0.out HEn.out.bel).trans hnx)
      have HR7 := Lib.hid (HEn.out.res.nx hnx)
      have HEX : Hid (∃ E, M7 = N ++ E) := by
        obtain ⟨E, hE, _⟩ := hnx.ext
        exact ⟨E, hE⟩
      clear hnx p0 p1 k1 k2 k3 k4
      obtain ⟨r0, r1, rf0, rf1⟩ := res_cells HR7.out.at_
      unfold plV at hres
      rcases hres with ⟨r, rfl, hsq, hkd⟩ | ⟨rfl, hfull⟩
      · have HQ := Lib.hid (And.intro hsq hkd)
        clear hsq hkd
        go_wp2_with fail
        obtain ⟨W, hW, hN, _, q0, q1⟩ := put_pl HN7.out HR7.out (by omega) (.pointer (some ⟨sb, 0, none⟩)) (.int .u32 (r : Int))
        rw [hW]
        refine bodyPost_ret (v := _) (by simp [results, Tryz.results27, go_sem, q0, q1]; rfl) rfl ?_
        refine ⟨j, by omega, by omega, ⟨g7, M7, hN.mono (by omega), Or.inl ⟨r, rfl, HQ.out.1, fun a b => ?_, ?_⟩⟩, Or.inl h3⟩
        · obtain ⟨E, rfl⟩ := HEX.out
          rw [HQ.out.2, alK_app HS0.out.wf E HF.out, HKD.out]
          exact HA.out a b
        · obtain ⟨E, rfl⟩ := HEX.out
          exact (HE.out.app HS0.out.wf E).mono (by omega)
      · have HQ := Lib.hid hfull
        clear hfull
        go_wp2_with fail
        obtain ⟨W, hW, hN, _, q0, q1⟩ := put_pl HN7.out HR7.out (by omega) (.pointer none) (.int .u32 0)
        rw [hW]
        refine bodyPost_ret (v := _) (by simp [results, Tryz.results27, go_sem, q0, q1]; rfl) rfl ?_
        exact ⟨j, by omega, by omega, ⟨g7, M7, hN.mono (by omega), Or.inr ⟨rfl, HQ.out⟩⟩, Or.inl h3⟩
    · obtain ⟨i, rfl⟩ : ∃ i, j = i + 1 := ⟨j - 1, by omega⟩
      have hg3 : decide ((3 : Int) < ((i + 1 + 1 : Nat) : Int)) = true := by simp; omega
      have HIM := Lib.hid (inMiddle_any (z := x) HEn.out.st HF.out)
      go_wp2_with fail
      refine HIM.out.mono ?_
      rintro e w7 ⟨b, rfl, hb1, hb⟩
      have HE7 := Lib.hid (HEn.out.later hb)
      have HK7 := Lib.hid (kept HK.out hb)
      have HMI := Lib.hid (hb1.trans (inMid_iff HS0.out.wf HF.out))
      clear hb1 hb HIM p0 p1 k1 k2 k3 k4 HEn HK
      obtain ⟨p0, p1⟩ := pl_cells HE7.out.pl.at_
      obtain ⟨k1, k2, k3, k4⟩ := k_cells HK7.out
      cases b with
      | false =>
        have HMIN : Hid (∃ a b, alK N n (kidZ N x) a b = true ∧ ¬ (inS (i + 1 - 1) a = true ∧ inS (i + 1 - 1) b = true)) := by
          apply Classical.byContradiction
          intro hno
          have := HMI.out.2 (fun a b hab => Classical.byContradiction fun hh => hno ⟨a, b, by rw [HKD.out, ← HA.out]; exact hab, hh⟩)
          cases this
        go_wp2_with fail
        refine (of4_any (z := x) HE7.out.st (show (i + 1) < 62 by omega) HF.out).mono ?_
        rintro e W4 ⟨g7, M7, hnx, hres⟩
        have HN7 := Lib.hid ((Nx.of_below HS0.out HE7.out.bel).trans hnx)
        have HR7 := Lib.hid (HE7.out.res.nx hnx)
        have HEX : Hid (∃ E, M7 = N ++ E) := by
          obtain ⟨E, hE, _⟩ := hnx.ext
          exact ⟨E, hE⟩
        clear hnx p0 p1 k1 k2 k3 k4
        obtain ⟨r0, r1, rf0, rf1⟩ := res_cells HR7.out.at_
        unfold plV at hres
        rcases hres with ⟨r, rfl, hsq, hkd⟩ | ⟨rfl, hfull⟩
        · have HQ := Lib.hid (And.intro hsq hkd)
          clear hsq hkd
          go_wp2_with fail
          obtain ⟨W, hW, hN, _, q0, q1⟩ := put_pl HN7.out HR7.out (by omega) (.pointer (some ⟨sb, 0, none⟩)) (.int .u32 (r : Int))
          rw [hW]
          refine bodyPost_ret (v := _) (by simp [results, Tryz.results27, go_sem, q0, q1]; rfl) rfl ?_
          refine ⟨(i + 1), by omega, by omega, ⟨g7, M7, hN.mono (by omega), Or.inl ⟨r, rfl, HQ.out.1, fun a b => ?_, ?_⟩⟩, Or.inr HMIN.out⟩
          · obtain ⟨E, rfl⟩ := HEX.out
            rw [HQ.out.2, alK_app HS0.out.wf E HF.out, HKD.out]
            exact HA.out a b
          · obtain ⟨E, rfl⟩ := HEX.out
            exact (HE.out.app HS0.out.wf E).mono (by omega)
        · have HQ := Lib.hid hfull
          clear hfull
          go_wp2_with fail
          obtain ⟨W, hW, hN, _, q0, q1⟩ := put_pl HN7.out HR7.out (by omega) (.pointer none) (.int .u32 0)
          rw [hW]
          refine bodyPost_ret (v := _) (by simp [results, Tryz.results27, go_sem, q0, q1]; rfl) rfl ?_
          exact ⟨(i + 1), by omega, by omega, ⟨g7, M7, hN.mono (by omega), Or.inr ⟨rfl, HQ.out⟩⟩, Or.inr HMIN.out⟩
      | true =>
        go_wp2_with fail
        refine (middle_any HE7.out.st HF.out).mono ?_
        rintro e w8 ⟨rfl, hb⟩
        have HE8 := Lib.hid (HE7.out.later hb)
        have HK8 := Lib.hid (kept HK7.out hb)
        clear hb p0 p1 k1 k2 k3 k4 HE7 HK7
        obtain ⟨r0, r1, r2, r3, q0, q1, q2, q3⟩ := KAt.cells HK8.out
        go_wp2_with fail
        go_roundg i
        case measure => rw [HM.out]; omega
        case rel =>
          refine ⟨i, midK N kk, rfl, by omega, by omega, by go_num, (((HE8.out.other hkb HNE.out HNE7.out _).other hkb HNE.out HNE7.out _).other hkb HNE.out HNE7.out _).other hkb HNE.out HNE7.out _, KAt.put HK8.out (midK N kk), mid_fo HS0.out.wf HF.out, fun a b => ?_⟩
          rw [al_middle (k := kk) (mid_pick N kk), ← HA.out]
          cases hab : alK N (i + 1) kk a b with
          | false => simp
          | true =>
            obtain ⟨h1, h2⟩ := (HMI.out.1 (by simp)) a b hab
            rw [h1, h2]; rfl
end Go.Proofs.YtnfjmmkokhncoaaGreat
end

section
namespace Go.Proofs.YtnfjmmkokhncoaaGreat
open Go.RowKit Go.Maps
set_option maxRecDepth 100000

/-- A plane of the same cells, made. -/
def Made8 (sb tb most : Nat) (w : World) (g : Nat) (N : List Nd) (c : Nat) (w' : World) (e : Ending) (m : Nat) (A : Int → Int → Bool) : Prop :=
  ∃ g' N', Nx sb tb most w g N c w' g' N' ∧
      ((∃ r : Nat, e = .returned (.tuple #[plV sb r, .nilIface]) ∧ Sq N' (m + 1) r ∧ ∀ a b, alK N' m (kidZ N' r) a b = A a b) ∨ (e = .returned (.tuple #[.agg #[.pointer none, .int .u32 0], .iface 52 (.int .i64 7)]) ∧ most ≤ N'.length))
set_option maxHeartbeats 4000000 in
theorem trim8_any {w : World} {sb g tb cap most : Nat} {N : List Nd} (h : St w sb g tb cap most N) {n x : Nat} (hx : Sq N (n + 1) x) (hn : 2 ≤ n) :
    Calls Tryz.prog 27 #[.agg #[.pointer (some ⟨sb, 0, none⟩), .int .u32 (x : Int)]] w fun e w' => ∃ m, 2 ≤ m ∧ m ≤ n ∧ Made8 sb tb most w g N 1 w' e m (alK N n (kidZ N x)) ∧ (m = 2 ∨ ∃ a b, alK N n (kidZ N x) a b = true ∧ ¬ (inS (m - 1) a = true ∧ inS (m - 1) b = true)) := by
  have hxu := Sq.u32 h hx
  have HE1 := Lib.hid (ent_new h x)
  have HS0 := Lib.hid h
  have HX := Lib.hid hx
  have hn62 := hx.le62 h.wf
  clear h hx
  go_enter Tryz.func27, Tryz.ntmps27
  go_wp2_with fail
  generalize (w.alloc (.cells #[.pointer (some ⟨sb, 0, none⟩), .int .u32 (x : Int)] 32)).alloc (.cells #[.pointer none, .int .u32 0] 32) = W0 at *
  refine (right_sq HE1.out.st HX.out hn).mono ?_
  rintro e W1 ⟨rfl, hb⟩
  have HE2 := Lib.hid (HE1.out.later hb)
  clear hb HE1
  obtain ⟨p0, p1⟩ := pl_cells HE2.out.pl.at_
  go_wp2_with fail
  refine (of_sqk HE2.out.st HX.out).mono ?_
  rintro e w5 ⟨rfl, hb⟩
  have HFK := Lib.hid (HX.out.kid HS0.out.wf)
  generalize hkd : kidZ N x = k0 at *
  have HKD := Lib.hid hkd
  clear hkd
  have HE5 := Lib.hid (HE2.out.later hb)
  have HE6 := Lib.hid (HE5.out.later (bel1 w5 (.cells #[.int .u32 (k0.1 : Int), .int .u32 (k0.2.1 : Int), .int .u32 (k0.2.2.1 : Int), .int .u32 (k0.2.2.2 : Int)] 96)))
  have HK6 : Hid ((w5.alloc (.cells #[.int .u32 (k0.1 : Int), .int .u32 (k0.2.1 : Int), .int .u32 (k0.2.2.1 : Int), .int .u32 (k0.2.2.2 : Int)] 96)).heap[w5.heap.size]? = some (kO k0)) := heap_alloc_new _ _
  have hkb : w.heap.size ≤ w5.heap.size := HE5.out.bel.size
  have hne6 : w.heap.size ≠ w5.heap.size ∧ w.heap.size + 1 ≠ w5.heap.size := ⟨by have := HE5.out.pl.lt; omega, by have := HE5.out.res.lt; omega⟩
  have hne7 : w5.heap.size ≠ sb ∧ w5.heap.size ≠ g ∧ w5.heap.size ≠ tb := by
    have := Ob.new HE5.out.st #[.int .u32 (k0.1 : Int), .int .u32 (k0.2.1 : Int), .int .u32 (k0.2.2.1 : Int), .int .u32 (k0.2.2.2 : Int)] 96
    exact ⟨this.sb_, this.g_, this.tb_⟩
  clear hb HE2 HE5 p0 p1
  have HLV := Lib.hid (level_any HE6.out.st x hxu)
  rw [show lvZ N x = ((n + 1 : Nat) : Int) from HX.out] at HLV
  obtain ⟨p0, p1⟩ := pl_cells HE6.out.pl.at_
  go_wp2_with fail
  refine HLV.out.mono ?_
  rintro e W2 ⟨rfl, hW2⟩
  rw [← hW2]
  clear hW2 HLV p0 p1
  generalize w5.alloc (.cells #[.int .u32 (k0.1 : Int), .int .u32 (k0.2.1 : Int), .int .u32 (k0.2.2.1 : Int), .int .u32 (k0.2.2.2 : Int)] 96) = W6 at *
  generalize w5.heap.size = kb at *
  have HNE := Lib.hid hne6
  have HNE7 := Lib.hid hne7
  clear W2 w5 hne6 hne7
  go_wp2_with fail
  go_loopg [6] n (fun m lv wr => ∃ (j : Nat) (kk : K4), m = j ∧ 2 ≤ j ∧ j ≤ n ∧ lv = .int .i64 ((j + 1 : Nat) : Int) ∧ Ent w wr sb g tb cap most N x ∧ wr.heap[kb]? = some (kO kk) ∧ Fo N j kk ∧ (∀ a b, alK N j kk a b = alK N n k0 a b))
  case atStart => exact ⟨n, k0, rfl, hn, Nat.le_refl _, rfl, HE6.out, HK6.out, HFK.out, fun _ _ => rfl⟩
  case round =>
    clear HE6 HK6
    obtain ⟨j, kk, hm, hj2, hjn, rfl, hEn, hK, hF, hA⟩ := hrel
    have HM := Lib.hid hm
    have HEn := Lib.hid hEn
    have HK := Lib.hid hK
    have HF := Lib.hid hF
    have HA := Lib.hid hA
    clear hm hEn hK hF hA
    obtain ⟨p0, p1⟩ := pl_cells HEn.out.pl.at_
    obtain ⟨k1, k2, k3, k4⟩ := k_cells HK.out
    by_cases h3 : j = 2
    · have hg3 : decide ((3 : Int) < ((j + 1 : Nat) : Int)) = false := by simp; omega
      go_wp2_with fail
      refine (of4_any (z := x) HEn.out.st (show j < 62 by omega) HF.out).mono ?_
      rintro e W4 ⟨g7, M7, hnx, hres⟩
      have HN7 := Lib.hid ((Nx.of_below HS0.out HEn.out.bel).trans hnx)
      have HR7 := Lib.hid (HEn.out.res.nx hnx)
      have HEX : Hid (∃ E, M7 = N ++ E) := by
        obtain ⟨E, hE, _⟩ := hnx.ext
        exact ⟨E, hE⟩
      clear hnx p0 p1 k1 k2 k3 k4
      obtain ⟨r0, r1, rf0, rf1⟩ := res_cells HR7.out.at_
      unfold plV at hres
      rcases hres with ⟨r, rfl, hsq, hkd⟩ | ⟨rfl, hfull⟩
      · have HQ := Lib.hid (And.intro hsq hkd)
        clear hsq hkd
        go_wp2_with fail
        obtain ⟨W, hW, hN, _, q0, q1⟩ := put_pl HN7.out HR7.out (by omega) (.pointer (some ⟨sb, 0, none⟩)) (.int .u32 (r : Int))
        rw [hW]
        refine bodyPost_ret (v := _) (by simp [results, Tryz.results27, go_sem, q0, q1]; rfl) rfl ?_
        refine ⟨j, by omega, by omega, ⟨g7, M7, hN.mono (by omega), Or.inl ⟨r, rfl, HQ.out.1, fun a b => ?_⟩⟩, Or.inl h3⟩
        · obtain ⟨E, rfl⟩ := HEX.out
          rw [HQ.out.2, alK_app HS0.out.wf E HF.out, HKD.out]
          exact HA.out a b
      · have HQ := Lib.hid hfull
        clear hfull
        go_wp2_with fail
        obtain ⟨W, hW, hN, _, q0, q1⟩ := put_pl HN7.out HR7.out (by omega) (.pointer none) (.int .u32 0)
        rw [hW]
        refine bodyPost_ret (v := _) (by simp [results, Tryz.results27, go_sem, q0, q1]; rfl) rfl ?_
        exact ⟨j, by omega, by omega, ⟨g7, M7, hN.mono (by omega), Or.inr ⟨rfl, HQ.out⟩⟩, Or.inl h3⟩
    · obtain ⟨i, rfl⟩ : ∃ i, j = i + 1 := ⟨j - 1, by omega⟩
      have hg3 : decide ((3 : Int) < ((i + 1 + 1 : Nat) : Int)) = true := by simp; omega
      have HIM := Lib.hid (inMiddle_any (z := x) HEn.out.st HF.out)
      go_wp2_with fail
      refine HIM.out.mono ?_
      rintro e w7 ⟨b, rfl, hb1, hb⟩
      have HE7 := Lib.hid (HEn.out.later hb)
      have HK7 := Lib.hid (kept HK.out hb)
      have HMI := Lib.hid (hb1.trans (inMid_iff HS0.out.wf HF.out))
      clear hb1 hb HIM p0 p1 k1 k2 k3 k4 HEn HK
      obtain ⟨p0, p1⟩ := pl_cells HE7.out.pl.at_
      obtain ⟨k1, k2, k3, k4⟩ := k_cells HK7.out
      cases b with
      | false =>
        have HMIN : Hid (∃ a b, alK N n (kidZ N x) a b = true ∧ ¬ (inS (i + 1 - 1) a = true ∧ inS (i + 1 - 1) b = true)) := by
          apply Classical.byContradiction
          intro hno
          have := HMI.out.2 (fun a b hab => Classical.byContradiction fun hh => hno ⟨a, b, by rw [HKD.out, ← HA.out]; exact hab, hh⟩)
          cases this
        go_wp2_with fail
        refine (of4_any (z := x) HE7.out.st (show (i + 1) < 62 by omega) HF.out).mono ?_
        rintro e W4 ⟨g7, M7, hnx, hres⟩
        have HN7 := Lib.hid ((Nx.of_below HS0.out HE7.out.bel).trans hnx)
        have HR7 := Lib.hid (HE7.out.res.nx hnx)
        have HEX : Hid (∃ E, M7 = N ++ E) := by
          obtain ⟨E, hE, _⟩ := hnx.ext
          exact ⟨E, hE⟩
        clear hnx p0 p1 k1 k2 k3 k4
        obtain ⟨r0, r1, rf0, rf1⟩ := res_cells HR7.out.at_
        unfold plV at hres
        rcases hres with ⟨r, rfl, hsq, hkd⟩ | ⟨rfl, hfull⟩
        · have HQ := Lib.hid (And.intro hsq hkd)
          clear hsq hkd
          go_wp2_with fail
          obtain ⟨W, hW, hN, _, q0, q1⟩ := put_pl HN7.out HR7.out (by omega) (.pointer (some ⟨sb, 0, none⟩)) (.int .u32 (r : Int))
          rw [hW]
          refine bodyPost_ret (v := _) (by simp [results, Tryz.results27, go_sem, q0, q1]; rfl) rfl ?_
          refine ⟨(i + 1), by omega, by omega, ⟨g7, M7, hN.mono (by omega), Or.inl ⟨r, rfl, HQ.out.1, fun a b => ?_⟩⟩, Or.inr HMIN.out⟩
          · obtain ⟨E, rfl⟩ := HEX.out
            rw [HQ.out.2, alK_app HS0.out.wf E HF.out, HKD.out]
            exact HA.out a b
        · have HQ := Lib.hid hfull
          clear hfull
          go_wp2_with fail
          obtain ⟨W, hW, hN, _, q0, q1⟩ := put_pl HN7.out HR7.out (by omega) (.pointer none) (.int .u32 0)
          rw [hW]
          refine bodyPost_ret (v := _) (by simp [results, Tryz.results27, go_sem, q0, q1]; rfl) rfl ?_
          exact ⟨(i + 1), by omega, by omega, ⟨g7, M7, hN.mono (by omega), Or.inr ⟨rfl, HQ.out⟩⟩, Or.inr HMIN.out⟩
      | true =>
        go_wp2_with fail
        refine (middle_any HE7.out.st HF.out).mono ?_
        rintro e w8 ⟨rfl, hb⟩
        have HE8 := Lib.hid (HE7.out.later hb)
        have HK8 := Lib.hid (kept HK7.out hb)
        clear hb p0 p1 k1 k2 k3 k4 HE7 HK7
        obtain ⟨r0, r1, r2, r3, q0, q1, q2, q3⟩ := KAt.cells HK8.out
        go_wp2_with fail
        go_roundg i
        case measure => rw [HM.out]; omega
        case rel =>
          refine ⟨i, midK N kk, rfl, by omega, by omega, by go_num, (((HE8.out.other hkb HNE.out HNE7.out _).other hkb HNE.out HNE7.out _).other hkb HNE.out HNE7.out _).other hkb HNE.out HNE7.out _, KAt.put HK8.out (midK N kk), mid_fo HS0.out.wf HF.out, fun a b => ?_⟩
          rw [al_middle (k := kk) (mid_pick N kk), ← HA.out]
          cases hab : alK N (i + 1) kk a b with
          | false => simp
          | true =>
            obtain ⟨h1, h2⟩ := (HMI.out.1 (by simp)) a b hab
            rw [h1, h2]; rfl
end Go.Proofs.YtnfjmmkokhncoaaGreat
end
