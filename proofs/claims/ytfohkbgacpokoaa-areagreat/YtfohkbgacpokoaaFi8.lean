/- Package area: Fill: contracts. -/
import Derived.Test.YtfohkbgacpokoaaPd8
namespace Go.Proofs.Ytfohkbgacpokoaa
open Go.RowKit Go.Maps
set_option maxRecDepth 100000

theorem right_bounds {r : R4} (h : rightR r.x r.y r.X r.Y = true) : r.no = false ∧ (-2305843009213693952 ≤ r.x ∧ r.X ≤ 2305843009213693952) ∧ -2305843009213693952 ≤ r.y ∧ r.Y ≤ 2305843009213693952 := by
  unfold rightR onP at h
  simp only [Bool.and_eq_true, Bool.not_eq_true', decide_eq_true_eq] at h
  refine ⟨?_, ?_⟩
  · unfold R4.no; exact h.1.1
  · omega
set_option maxHeartbeats 2000000 in
theorem fill8_nil (r : R4) (al : Bool) (w : World) : Calls Try.prog 7 #[.agg #[.pointer none, .int .u32 0], .agg #[.int .i64 r.x, .int .i64 r.y, .int .i64 r.X, .int .i64 r.Y], .bool al] w fun e w' => e = .returned (.tuple #[.agg #[.pointer none, .int .u32 0], .iface 55 (.int .i64 1)]) ∧ Below w.heap.size w w' := by
  have HIP := Lib.hid (fun W => isPlane_nil W)
  have hz : ∀ o1 o2 o3 : Obj, (((w.alloc o1).alloc o2).alloc o3).heap[w.heap.size + 1 + 1]? = some o3 := fun o1 o2 o3 => new_3 w o1 o2 o3
  have HZ := Lib.hid (hz (.cells #[.pointer none, .int .u32 0] 31) (.cells #[.int .i64 r.x, .int .i64 r.y, .int .i64 r.X, .int .i64 r.Y] 26) (.cells #[.pointer none, .int .u32 0] 31))
  have HB := Lib.hid (bel3 w (.cells #[.pointer none, .int .u32 0] 31) (.cells #[.int .i64 r.x, .int .i64 r.y, .int .i64 r.X, .int .i64 r.Y] 26) (.cells #[.pointer none, .int .u32 0] 31))
  clear hz
  go_enter Try.func7, Try.ntmps7
  go_wp2_with fail
  refine (HIP.out _).mono ?_
  rintro e W1 ⟨rfl, hb⟩
  have HB1 := Lib.hid (HB.out.trans (hb.mono HB.out.size))
  have HZ1 := Lib.hid (keep8 HZ.out hb)
  clear hb HB HZ
  obtain ⟨z0, z1, f0, f1⟩ := res_cells HZ1.out
  go_wp2_with fail
  have q1 := pl_set1 (pl_set0 HZ1.out (.pointer none)) (.int .u32 0)
  have HBW := (HB1.out.setCell (p := ⟨w.heap.size + 1 + 1, 0, none⟩) (by show _ ≤ w.heap.size + 1 + 1; omega) (.pointer none)).setCell (p := ⟨w.heap.size + 1 + 1, 1, none⟩) (by show _ ≤ w.heap.size + 1 + 1; omega) (.int .u32 0)
  obtain ⟨y0, y1, _⟩ := res_cells q1
  refine bodyPost_ret (v := _) (by simp [results, Try.results7, go_sem, y0, y1]; rfl) rfl ?_
  exact ⟨rfl, HBW⟩
set_option maxHeartbeats 4000000 in
theorem fill8_any {w : World} {sb g tb cap most : Nat} {N : List Nd} (h : St w sb g tb cap most N) {n0 x : Nat} (hx : Sq N (n0 + 1) x) (h2 : 2 ≤ n0) (r : R4) (hr : rightR r.x r.y r.X r.Y = true) (al : Bool) :
    Calls Try.prog 7 #[.agg #[.pointer (some ⟨sb, 0, none⟩), .int .u32 (x : Int)], .agg #[.int .i64 r.x, .int .i64 r.y, .int .i64 r.X, .int .i64 r.Y], .bool al] w fun e w' => ∃ g' N' n, (n0 ≤ n ∧ n ≤ 61 ∧ inR n r ∧ ∀ m, n0 ≤ m → m < n → ¬ inR m r) ∧ Nx sb tb most w g N N'.length w' g' N' ∧ New8 N (n + 1) (Fp N n0 (kidZ N x) n (shR r n) (b2n al)) N' ∧
      ((∃ y : Nat, e = .returned (.tuple #[.agg #[.pointer (some ⟨sb, 0, none⟩), .int .u32 (y : Int)], .nilIface]) ∧ Con N' (n + 1) y (Fp N n0 (kidZ N x) n (shR r n) (b2n al))) ∨ (e = .returned (.tuple #[.agg #[.pointer none, .int .u32 0], .iface 55 (.int .i64 7)]) ∧ most ≤ N'.length)) := by
  obtain ⟨hno, hbd⟩ := right_bounds hr
  have hlt := R4.no_not.1 hno
  have hxu := Sq.u32 h hx
  have HB := Lib.hid (bel3 w (.cells #[.pointer (some ⟨sb, 0, none⟩), .int .u32 (x : Int)] 31) (.cells #[.int .i64 r.x, .int .i64 r.y, .int .i64 r.X, .int .i64 r.Y] 26) (.cells #[.pointer none, .int .u32 0] 31))
  have HS := Lib.hid h
  have hpl0 : Ob (((w.alloc (.cells #[.pointer (some ⟨sb, 0, none⟩), .int .u32 (x : Int)] 31)).alloc (.cells #[.int .i64 r.x, .int .i64 r.y, .int .i64 r.X, .int .i64 r.Y] 26)).alloc (.cells #[.pointer none, .int .u32 0] 31)) sb g tb w.heap.size (plO sb x) := by
    obtain ⟨l1, l2, l3⟩ := h.lt
    exact ⟨keep8 (keep8 (heap_alloc_new w _) (bel1 _ _)) (bel1 _ _), by omega, by omega, by omega⟩
  have hrc0 : Ob (((w.alloc (.cells #[.pointer (some ⟨sb, 0, none⟩), .int .u32 (x : Int)] 31)).alloc (.cells #[.int .i64 r.x, .int .i64 r.y, .int .i64 r.X, .int .i64 r.Y] 26)).alloc (.cells #[.pointer none, .int .u32 0] 31)) sb g tb (w.heap.size + 1) (rcO8 r) := by
    obtain ⟨l1, l2, l3⟩ := h.lt
    exact ⟨keep8 (new_2 w _ _) (bel1 _ _), by omega, by omega, by omega⟩
  have hz0 : Ob (((w.alloc (.cells #[.pointer (some ⟨sb, 0, none⟩), .int .u32 (x : Int)] 31)).alloc (.cells #[.int .i64 r.x, .int .i64 r.y, .int .i64 r.X, .int .i64 r.Y] 26)).alloc (.cells #[.pointer none, .int .u32 0] 31)) sb g tb (w.heap.size + 1 + 1) zeO8 := by
    obtain ⟨l1, l2, l3⟩ := h.lt
    exact ⟨new_3 w _ _ _, by omega, by omega, by omega⟩
  have HPL := Lib.hid hpl0
  have HRC := Lib.hid hrc0
  have HZ := Lib.hid hz0
  have HIP := Lib.hid (isPlane_any (h.later HB.out) x hxu)
  rw [show decide (3 ≤ lvZ N x) = true by rw [show lvZ N x = ((n0 + 1 : Nat) : Int) from hx]; simp; omega] at HIP
  have HE := Lib.hid (fun w => rempty_any r.x r.y r.X r.Y w)
  rw [show noPts r.x r.y r.X r.Y = false from hno] at HE
  have HR := Lib.hid (fun w => rectRight_any r.x r.y r.X r.Y (by omega) (by omega) (by omega) (by omega) w)
  rw [hr] at HR
  have HX := Lib.hid hx
  have HNO := Lib.hid hno
  have HBD := Lib.hid hbd
  clear h hx hpl0 hrc0 hz0 hr hno hbd
  obtain ⟨p0, p1⟩ := pl_cells HPL.out.at_
  go_enter Try.func7, Try.ntmps7
  go_wp2_with fail
  generalize ((w.alloc (.cells #[.pointer (some ⟨sb, 0, none⟩), .int .u32 (x : Int)] 31)).alloc (.cells #[.int .i64 r.x, .int .i64 r.y, .int .i64 r.X, .int .i64 r.Y] 26)).alloc (.cells #[.pointer none, .int .u32 0] 31) = W0 at *
  refine HIP.out.mono ?_
  rintro e W1 ⟨rfl, hb⟩
  have HB1 := Lib.hid (HB.out.trans (hb.mono HB.out.size))
  have HPL1 := Lib.hid (HPL.out.later hb)
  have HRC1 := Lib.hid (HRC.out.later hb)
  have HZ1 := Lib.hid (HZ.out.later hb)
  clear hb HB HPL HRC HZ HIP p0 p1
  obtain ⟨c0, c1, c2, c3⟩ := rc_cells8 HRC1.out.at_
  go_wp2_with fail
  refine (HE.out _).mono ?_
  rintro e W2 ⟨rfl, hb⟩
  have HB2 := Lib.hid (HB1.out.trans (hb.mono HB1.out.size))
  have HPL2 := Lib.hid (HPL1.out.later hb)
  have HRC2 := Lib.hid (HRC1.out.later hb)
  have HZ2 := Lib.hid (HZ1.out.later hb)
  clear hb HB1 HPL1 HRC1 HZ1 HE c0 c1 c2 c3
  obtain ⟨c0, c1, c2, c3⟩ := rc_cells8 HRC2.out.at_
  go_wp2_with fail
  refine (HR.out _).mono ?_
  rintro e W3 ⟨rfl, hb⟩
  have HB3 := Lib.hid (HB2.out.trans (hb.mono HB2.out.size))
  have HPL3 := Lib.hid (HPL2.out.later hb)
  have HRC3 := Lib.hid (HRC2.out.later hb)
  have HZ3 := Lib.hid (HZ2.out.later hb)
  clear hb HB2 HPL2 HRC2 HZ2 HR c0 c1 c2 c3
  obtain ⟨c0, c1, c2, c3⟩ := rc_cells8 HRC3.out.at_
  obtain ⟨p0, p1⟩ := pl_cells HPL3.out.at_
  have HPD := Lib.hid (painted_nil (HS.out.later HB3.out) HX.out r HNO.out HBD.out (b2n al) (b2n_le al))
  have hend : ∀ (e : Ending) (w' : World), True → True := fun _ _ h => h
  cases al
  all_goals
    first
      | rw [show ((b2n false : Nat) : Int) = 0 from rfl] at HPD
      | rw [show ((b2n true : Nat) : Int) = 1 from rfl] at HPD
    go_wp2_with fail
    refine HPD.out.mono ?_
    clear HPD p0 p1 c0 c1 c2 c3
    rintro e w9 ⟨g9, M9, n, hlow, hnx, hnew, hres⟩
    have HL := Lib.hid hlow
    have HN := Lib.hid ((Nx.of_below HS.out HB3.out).trans hnx)
    have HW := Lib.hid hnew
    have HZ9 := Lib.hid (HZ3.out.nx hnx)
    clear hlow hnx hnew
    obtain ⟨r0, r1, rf0, rf1⟩ := res_cells HZ9.out.at_
    rcases hres with ⟨y, rfl, hc⟩ | ⟨rfl, hf⟩
    · have HC := Lib.hid hc
      clear hc
      go_wp2_with fail
      obtain ⟨W, hW, hN, _, q0, q1⟩ := put_pl HN.out HZ9.out (by omega) (.pointer (some ⟨sb, 0, none⟩)) (.int .u32 (y : Int))
      rw [hW]
      refine bodyPost_ret (v := _) (by simp [results, Try.results7, go_sem, q0, q1]; rfl) rfl ?_
      exact ⟨g9, M9, n, HL.out, hN.mono (by omega), HW.out, Or.inl ⟨y, rfl, HC.out⟩⟩
    · have HC := Lib.hid hf
      clear hf
      go_wp2_with fail
      obtain ⟨W, hW, hN, _, q0, q1⟩ := put_pl HN.out HZ9.out (by omega) (.pointer none) (.int .u32 0)
      rw [hW]
      refine bodyPost_ret (v := _) (by simp [results, Try.results7, go_sem, q0, q1]; rfl) rfl ?_
      exact ⟨g9, M9, n, HL.out, hN.mono (by omega), HW.out, Or.inr ⟨rfl, HC.out⟩⟩
end Go.Proofs.Ytfohkbgacpokoaa
