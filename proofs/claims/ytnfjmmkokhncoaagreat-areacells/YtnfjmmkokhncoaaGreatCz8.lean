/- Package area: Cells: contract. -/
import Derived.Test.YtnfjmmkokhncoaaGreatCl8
import Derived.Test.YtnfjmmkokhncoaaGreatM29
import Derived.Test.YtnfjmmkokhncoaaGreatSrp
import Derived.Test.YtnfjmmkokhncoaaGreatM14
namespace Go.Proofs.YtnfjmmkokhncoaaGreat
open Go.RowKit Go.Maps
set_option maxRecDepth 100000

theorem bel_frm8 {cb : Nat} {w W W' : World} (h : Below w.heap.size w W) (hr : Frm [cb] W W') (hb : w.heap.size ≤ cb) : Below w.heap.size w W' :=
  ⟨hr.os.trans h.os, hr.tape.trans h.tape, hr.output.trans h.output, Nat.le_trans h.size hr.size, fun b hlt => by rw [hr.block b (Nat.lt_of_lt_of_le hlt h.size) (by simp; omega)]; exact h.block b hlt⟩
theorem bel_gw8 {cb : Nat} {w W W' : World} {v v' : Value} (h : Below w.heap.size w W) (hr : Gw cb W v W' v') (hb : w.heap.size ≤ cb) (hv : v.ownBlock = none) : Below w.heap.size w W' :=
  ⟨hr.os.trans h.os, hr.tape.trans h.tape, hr.output.trans h.output, Nat.le_trans h.size hr.size, fun b hlt => by rw [hr.block b (Nat.lt_of_lt_of_le hlt h.size) (by omega) (by rw [hv]; simp)]; exact h.block b hlt⟩
theorem oth_bel8 {b : Nat} {w W W' : World} (h : Below w.heap.size w W) (hr : Oth b W W') (hb : w.heap.size ≤ b) : Below w.heap.size w W' :=
  h.trans (hr.1.mono hb)
/-- The part of a rectangle in a plane's square. -/
theorem and_part (r : R4) (n : Nat) : ∃ u q : R4, valOf (andV r.x r.y r.X r.Y (-2 ^ n) (-2 ^ n) (2 ^ n) (2 ^ n)) = .agg #[.int .i64 u.x, .int .i64 u.y, .int .i64 u.X, .int .i64 u.Y] ∧ q = ⟨u.x + 2 ^ n, u.y + 2 ^ n, u.X + 2 ^ n, u.Y + 2 ^ n⟩ ∧ RIn (n + 1) q ∧
    ((-2 ^ n ≤ u.x ∧ u.x ≤ 2 ^ n) ∧ (-2 ^ n ≤ u.y ∧ u.y ≤ 2 ^ n) ∧ (-2 ^ n ≤ u.X ∧ u.X ≤ 2 ^ n) ∧ (-2 ^ n ≤ u.Y ∧ u.Y ≤ 2 ^ n)) ∧ ∀ X Y, 0 ≤ X ∧ X < 2 ^ (n + 1) → 0 ≤ Y ∧ Y < 2 ^ (n + 1) → q.has X Y = r.has (X - 2 ^ n) (Y - 2 ^ n) := by
  have hp := pow_pos2 n
  have hn : noPts (max r.x (-2 ^ n)) (max r.y (-2 ^ n)) (min r.X (2 ^ n)) (min r.Y (2 ^ n)) = (prR r n).no := by
    rw [Bool.eq_iff_iff, R4.no_iff]
    show R4.no ⟨max r.x (-2 ^ n), max r.y (-2 ^ n), min r.X (2 ^ n), min r.Y (2 ^ n)⟩ = true ↔ _
    rw [R4.no_iff]
    simp only [prR]
    omega
  unfold andV
  rw [hn]
  cases hno : (prR r n).no with
  | true =>
    refine ⟨⟨0, 0, 0, 0⟩, noR n, rfl, ?_, noR_in n, by simp only; omega, noR_has hno⟩
    unfold noR
    simp only [Int.zero_add]
  | false =>
    have h1 := R4.no_not.1 hno
    simp only [prR] at h1
    exact ⟨⟨max r.x (-2 ^ n), max r.y (-2 ^ n), min r.X (2 ^ n), min r.Y (2 ^ n)⟩, prR r n, rfl, rfl, prR_in r n, by simp only; omega, prR_has r n⟩
/-- The blocks of Cells: the plane, the rectangle. -/
structure Kd8 (w : World) (sb x : Nat) (r : R4) (W : World) : Prop where
  bel : Below w.heap.size w W
  pl : W.heap[w.heap.size]? = some (plO sb x)
  rc : W.heap[w.heap.size + 1]? = some (rcO8 r)
theorem Kd8.later {w W W' : World} {sb x : Nat} {r : R4} (h : Kd8 w sb x r W) (hb : Below W.heap.size W W') : Kd8 w sb x r W' := ⟨h.bel.trans (hb.mono h.bel.size), keep8 h.pl hb, keep8 h.rc hb⟩
theorem Kd8.drewN {w W : World} {sb x : Nat} {r : R4} (h : Kd8 w sb x r W) (q : Nat) : Kd8 w sb x r (W.drewN q) := ⟨⟨h.bel.os, h.bel.tape, h.bel.output, h.bel.size, h.bel.block⟩, h.pl, h.rc⟩
theorem Kd8.lt {w W : World} {sb x : Nat} {r : R4} (h : Kd8 w sb x r W) : w.heap.size + 1 < W.heap.size := (Array.getElem?_eq_some_iff.1 h.rc).1
theorem Fc.ne_cells {w : World} {sb g tb cb bb fb most b : Nat} {N : List Nd} {P : R4} {xs : Array Value} {t : TypeId} {z : Nat × Nat} (h : Fc w sb g tb cb bb fb most N P) (hb : w.heap[b]? = some (.cells xs t z)) : b ≠ cb := by
  obtain ⟨m, h1, _⟩ := h.mm
  obtain ⟨es, cl, h2⟩ := h1.is_map
  intro e
  rw [e, h2] at hb
  cases hb
theorem up8 {W4 W W' : World} (h : Below W4.heap.size W4 W) (hb : Below W.heap.size W W') : Below W4.heap.size W4 W' := h.trans (hb.mono h.size)
theorem up8a {W4 W : World} (h : Below W4.heap.size W4 W) (o : Obj) : Below W4.heap.size W4 (W.alloc o) := up8 h (bel1 W o)
/-- A new part's block. -/
def Zp8 (W : World) (nb : Nat) : Prop := W.heap[nb]? = some (.cells #[.int .u32 0, .int .i64 0, .int .i64 0, .int .i64 0, .int .i64 0, .int .i64 0] 83 (0, 0))
theorem Zp8.new (W : World) : Zp8 (W.alloc (.cells #[.int .u32 0, .int .i64 0, .int .i64 0, .int .i64 0, .int .i64 0, .int .i64 0] 83)) W.heap.size := heap_alloc_new W _
theorem Zp8.later {W W' : World} {nb : Nat} (h : Zp8 W nb) (hb : Below W.heap.size W W') : Zp8 W' nb := keep8 h hb
theorem Zp8.fz {W : World} {nb : Nat} (h : Zp8 W nb) : (W.cell? ⟨nb, 0, none⟩ = some (.int .u32 0) ∧ W.cell? ⟨nb, 1, none⟩ = some (.int .i64 0) ∧ W.cell? ⟨nb, 2, none⟩ = some (.int .i64 0) ∧ W.cell? ⟨nb, 3, none⟩ = some (.int .i64 0) ∧ W.cell? ⟨nb, 4, none⟩ = some (.int .i64 0) ∧ W.cell? ⟨nb, 5, none⟩ = some (.int .i64 0)) ∧
    W.frozen? ⟨nb, 0, none⟩ = false ∧ W.frozen? ⟨nb, 1, none⟩ = false ∧ W.frozen? ⟨nb, 2, none⟩ = false ∧ W.frozen? ⟨nb, 3, none⟩ = false ∧ W.frozen? ⟨nb, 4, none⟩ = false ∧ W.frozen? ⟨nb, 5, none⟩ = false :=
  ⟨⟨by rw [Lib.cell_of_heap h]; rfl, by rw [Lib.cell_of_heap h]; rfl, by rw [Lib.cell_of_heap h]; rfl, by rw [Lib.cell_of_heap h]; rfl, by rw [Lib.cell_of_heap h]; rfl, by rw [Lib.cell_of_heap h]; rfl⟩, Lib.frozen_of_heap h 0, Lib.frozen_of_heap h 1, Lib.frozen_of_heap h 2, Lib.frozen_of_heap h 3, Lib.frozen_of_heap h 4, Lib.frozen_of_heap h 5⟩
/-- A part that was made. -/
def AtP8 (W4 : World) (a : Part) (v : Value) (wx : World) : Prop := ∃ pb : Nat, v = .pointer (some ⟨pb, 0, none⟩) ∧ Below W4.heap.size W4 wx ∧ wx.heap[pb]? = some (ptO8 a)
theorem atP8_new {W4 W : World} (h : Below W4.heap.size W4 W) (a : Part) : AtP8 W4 a (.pointer (some ⟨W.heap.size, 0, none⟩)) (W.alloc (.cells #[.int .u32 (a.x : Int), .int .i64 (a.n : Int), .int .i64 a.r.x, .int .i64 a.r.y, .int .i64 a.r.X, .int .i64 a.r.Y] 83)) :=
  ⟨W.heap.size, rfl, up8a h _, heap_alloc_new W _⟩
theorem atP8_put {W4 W : World} {nb : Nat} (h : Below W4.heap.size W4 W) (hz : Zp8 W nb) (hn : W4.heap.size ≤ nb) (a : Part) : AtP8 W4 a (.pointer (some ⟨nb, 0, none⟩)) ((((((W.setCell ⟨nb, 0, none⟩ (.int .u32 (a.x : Int))).setCell ⟨nb, 1, none⟩ (.int .i64 (a.n : Int))).setCell ⟨nb, 2, none⟩ (.int .i64 a.r.x)).setCell ⟨nb, 3, none⟩ (.int .i64 a.r.y)).setCell ⟨nb, 4, none⟩ (.int .i64 a.r.X)).setCell ⟨nb, 5, none⟩ (.int .i64 a.r.Y)) := by
  refine ⟨nb, rfl, (((((h.setCell (p := ⟨nb, 0, none⟩) hn _).setCell (p := ⟨nb, 1, none⟩) hn _).setCell (p := ⟨nb, 2, none⟩) hn _).setCell (p := ⟨nb, 3, none⟩) hn _).setCell (p := ⟨nb, 4, none⟩) hn _).setCell (p := ⟨nb, 5, none⟩) hn _, ?_⟩
  have := hz
  unfold Zp8 at this
  simp only [World.setCell, Array.getElem?_modify, this, ptO8]; simp
set_option maxHeartbeats 16000000 in
theorem cells8_any {w : World} {sb g tb cap most : Nat} {N : List Nd} (h : St w sb g tb cap most N) {n0 x : Nat} (hx : Sq N (n0 + 1) x) (h2 : 2 ≤ n0) (r : R4) (mo : Nat) (hmo : mo ≤ 1000000) (hfew : (cellsQ N (n0 + 1) x).length ≤ 20000) :
    Calls Tryz.prog 11 #[.agg #[.pointer (some ⟨sb, 0, none⟩), .int .u32 (x : Int)], .agg #[.int .i64 r.x, .int .i64 r.y, .int .i64 r.X, .int .i64 r.Y], .int .i64 (mo : Int)] w fun e w' => ∃ S : List (Int × Int), S.Nodup ∧ (∀ X Y, (X, Y) ∈ S ↔ alK N n0 (kidZ N x) X Y = true ∧ r.has X Y = true) ∧ Below w.heap.size w w' ∧
      ((mo < S.length ∧ e = .returned (.tuple #[.slice none 0 0, .iface 52 (.int .i64 9)])) ∨ (S.length ≤ mo ∧ ∃ a c, e = .returned (.tuple #[.slice a S.length c, .nilIface]) ∧ Rk8 w' a (sortZ S))) := by
  have hxu := Sq.u32 h hx
  have hn62 := hx.le62 h.wf
  obtain ⟨u, q, huv, hqe, hqi, hub, hqh⟩ := and_part r n0
  have HQE := Lib.hid hqe
  have HQI := Lib.hid hqi
  have HUB := Lib.hid hub
  have HX := Lib.hid hx
  have HWF := Lib.hid h.wf
  have HFEW := Lib.hid hfew
  have HMEM := Lib.hid (plS_mem (N := N) (n := n0) (x := x) hqh)
  have HND := Lib.hid (plS_nodup N n0 x q)
  have HLEN := Lib.hid (plS_len N n0 x q)
  have HAND := Lib.hid (fun W => and_any r.x r.y r.X r.Y (-2 ^ n0) (-2 ^ n0) (2 ^ n0) (2 ^ n0) W)
  rw [huv] at HAND
  clear hqe hqi hub hqh huv hfew
  have HK0 : Hid (Kd8 w sb x r ((w.alloc (.cells #[.pointer (some ⟨sb, 0, none⟩), .int .u32 (x : Int)] 32)).alloc (.cells #[.int .i64 r.x, .int .i64 r.y, .int .i64 r.X, .int .i64 r.Y] 42))) := ⟨bel2 w _ _, keep8 (heap_alloc_new w _) (bel1 _ _), new_2 w _ _⟩
  have HIP := Lib.hid (isPlane_any (h.later HK0.out.bel) x hxu)
  rw [show decide (3 ≤ lvZ N x) = true by rw [show lvZ N x = ((n0 + 1 : Nat) : Int) from hx]; simp; omega] at HIP
  have HLV := Lib.hid (fun W (hb : Kd8 w sb x r W) => level_any (h.later hb.bel) x hxu)
  rw [show lvZ N x = (n0 : Int) + 1 from hx] at HLV
  have HFI := Lib.hid (fun W (hb : Kd8 w sb x r W) => findC_any (h.later hb.bel) q)
  have HSP := Lib.hid (fun W => span8_any n0 hn62 W)
  have hp := pow_pos2 n0
  have hp61 := pow_61 hn62
  have HMI := Lib.hid (fun W => minus_any (-2 ^ n0) (-2 ^ n0) (by unfold I64; omega) (by unfold I64; omega) W)
  rw [Int.neg_neg] at HMI
  have HMV := Lib.hid (fun W => moved_any u.x u.y u.X u.Y (2 ^ n0) (2 ^ n0) (by have := HUB.out; unfold I64; omega) (by have := HUB.out; unfold I64; omega) (by have := HUB.out; unfold I64; omega) (by have := HUB.out; unfold I64; omega) W)
  have hm0 : decide ((mo : Int) < 0) = false := by simp
  obtain ⟨p0, p1⟩ := pl_cells HK0.out.pl
  clear h hx
  go_enter Tryz.func11, Tryz.ntmps11
  go_wp2_with fail
  generalize (w.alloc (.cells #[.pointer (some ⟨sb, 0, none⟩), .int .u32 (x : Int)] 32)).alloc (.cells #[.int .i64 r.x, .int .i64 r.y, .int .i64 r.X, .int .i64 r.Y] 42) = W0 at *
  refine HIP.out.mono ?_
  clear HIP
  rintro e W1 ⟨rfl, hb⟩
  have HK1 := Lib.hid (HK0.out.later hb)
  clear hb HK0 p0 p1
  obtain ⟨p0, p1⟩ := pl_cells HK1.out.pl
  go_upto_region 3 with fail
  have hk : Kd8 w sb x r W1.drew := HK1.out.drewN 1
  go_cut [8, 9] from 21 to 29 (fun v8 v9 wx => v9 = .int .i64 ((n0 : Int) + 1) ∧ ∃ cb bb fb : Nat, v8 = .pointer (some ⟨fb, 0, none⟩) ∧ Fc wx sb g tb cb bb fb most N q ∧ Kd8 w sb x r wx ∧ w.heap.size + 1 < cb)
  case first =>
    go_region_with
      (first
        | (go_at_call 30; refine (HFI.out _ (by assumption)).mono ?_; rintro e wl ⟨cb, bb, fb, rfl, hfn, hb, hcb⟩; have hl : Kd8 w sb x r wl := Kd8.later (by assumption) hb; have k1 := pl_cells hl.pl; have hcb' := Nat.lt_of_lt_of_le (Kd8.lt hk) hcb; clear hb)
        | (go_at_call 24; refine (HLV.out _ (by assumption)).mono ?_; rintro e wl ⟨rfl, rfl⟩))
    all_goals go_wp2_with fail
    all_goals go_meet
    all_goals exact ⟨rfl, _, _, _, rfl, hfn, hl, hcb'⟩
  case rest =>
    obtain ⟨rfl, cb, bb, fb, rfl, hfn, hkd, hcb⟩ := hcut
    have HF2 := Lib.hid hfn
    have HK2 := Lib.hid hkd
    have HCB : Hid (w.heap.size ≤ cb) := by show _ ≤ _; omega
    clear hfn hkd hcb hk p0 p1 HFI HLV HK1
    go_wp2_with fail
    refine (HSP.out _).mono ?_
    rintro e W3 ⟨rfl, hb⟩
    have HF3 := Lib.hid (HF2.out.later hb)
    have HK3 := Lib.hid (HK2.out.later hb)
    clear hb HF2 HK2 HSP
    have HF4 := Lib.hid (HF3.out.later (bel1 W3 (.cells #[.int .i64 (-2 ^ n0), .int .i64 (-2 ^ n0), .int .i64 (2 ^ n0), .int .i64 (2 ^ n0)] 42)))
    have HK4 := Lib.hid (HK3.out.later (bel1 W3 (.cells #[.int .i64 (-2 ^ n0), .int .i64 (-2 ^ n0), .int .i64 (2 ^ n0), .int .i64 (2 ^ n0)] 42)))
    have HA4 : Hid ((W3.alloc (.cells #[.int .i64 (-2 ^ n0), .int .i64 (-2 ^ n0), .int .i64 (2 ^ n0), .int .i64 (2 ^ n0)] 42)).heap[W3.heap.size]? = some (rcO8 ⟨-2 ^ n0, -2 ^ n0, 2 ^ n0, 2 ^ n0⟩)) := heap_alloc_new W3 _
    clear HF3 HK3
    go_upto_region 5 with fail
    generalize W3.alloc (.cells #[.int .i64 (-2 ^ n0), .int .i64 (-2 ^ n0), .int .i64 (2 ^ n0), .int .i64 (2 ^ n0)] 42) = W4 at *
    generalize W3.heap.size = ab at *
    have HC : Hid (∀ W, Below W4.heap.size W4 W → W.cell? ⟨w.heap.size, 1, none⟩ = some (.int .u32 (x : Int)) ∧ (W.cell? ⟨w.heap.size + 1, 0, none⟩ = some (.int .i64 r.x) ∧ W.cell? ⟨w.heap.size + 1, 1, none⟩ = some (.int .i64 r.y) ∧ W.cell? ⟨w.heap.size + 1, 2, none⟩ = some (.int .i64 r.X) ∧ W.cell? ⟨w.heap.size + 1, 3, none⟩ = some (.int .i64 r.Y)) ∧
        (W.cell? ⟨ab, 0, none⟩ = some (.int .i64 (-2 ^ n0)) ∧ W.cell? ⟨ab, 1, none⟩ = some (.int .i64 (-2 ^ n0)) ∧ W.cell? ⟨ab, 2, none⟩ = some (.int .i64 (2 ^ n0)) ∧ W.cell? ⟨ab, 3, none⟩ = some (.int .i64 (2 ^ n0)))) := by
      show ∀ W, _ → _
      intro W hb
      exact ⟨(pl_cells (keep8 HK4.out.pl hb)).2, rc_cells8 (keep8 HK4.out.rc hb), rc_cells8 (keep8 HA4.out hb)⟩
    obtain ⟨p1, ⟨r0, r1, r2, r3⟩, s0, s1, s2, s3⟩ := HC.out W4 (Below.refl _ _)
    have hu : Below W4.heap.size W4 W4.drew := below_drewN (Below.refl _ _) 1
    have hu2 : Below W4.heap.size W4 (W4.alloc (.cells #[.int .u32 0, .int .i64 0, .int .i64 0, .int .i64 0, .int .i64 0, .int .i64 0] 83)).drew := below_drewN (up8a (Below.refl _ _) _) 1
    have hz2 : Zp8 (W4.alloc (.cells #[.int .u32 0, .int .i64 0, .int .i64 0, .int .i64 0, .int .i64 0, .int .i64 0] 83)).drew W4.heap.size := Zp8.new W4
    have hc2 := HC.out _ hu2
    have hzf2 := hz2.fz
    have hab : ab < W4.heap.size := (Array.getElem?_eq_some_iff.1 HA4.out).1
    have hkl := HK4.out.lt
    have n1 : ¬ w.heap.size = W4.heap.size := by omega
    have n2 : ¬ w.heap.size + 1 = W4.heap.size := by omega
    have n3 : ¬ ab = W4.heap.size := by omega
    have n4 : ¬ W4.heap.size = w.heap.size := by omega
    have n5 : ¬ W4.heap.size = w.heap.size + 1 := by omega
    have n6 : ¬ W4.heap.size = ab := by omega
    go_cut [11] from 31 to 42 (fun v11 wx => AtP8 W4 ⟨x, n0 + 1, q⟩ v11 wx)
    case first =>
      go_region_held3 (fun w' => w'.cell? ⟨w.heap.size, 1, none⟩ = some (.int .u32 (x : Int)) ∧ w'.cell? ⟨w.heap.size + 1, 0, none⟩ = some (.int .i64 r.x) ∧ w'.cell? ⟨w.heap.size + 1, 1, none⟩ = some (.int .i64 r.y) ∧ w'.cell? ⟨w.heap.size + 1, 2, none⟩ = some (.int .i64 r.X) ∧ w'.cell? ⟨w.heap.size + 1, 3, none⟩ = some (.int .i64 r.Y) ∧ w'.cell? ⟨ab, 0, none⟩ = some (.int .i64 (-2 ^ n0)) ∧ w'.cell? ⟨ab, 1, none⟩ = some (.int .i64 (-2 ^ n0)) ∧ w'.cell? ⟨ab, 2, none⟩ = some (.int .i64 (2 ^ n0)) ∧ w'.cell? ⟨ab, 3, none⟩ = some (.int .i64 (2 ^ n0))) (go_keep)
        (first
          | (go_at_call 33; refine (HAND.out _).mono ?_; rintro e wl ⟨rfl, hb⟩; have hl : Below W4.heap.size W4 wl := up8 (by first | assumption | exact up8a (by assumption) _) hb; have k1 := HC.out _ hl; have hsl := hl.size; have m1 : ¬ w.heap.size = wl.heap.size := (by omega); have m2 : ¬ w.heap.size + 1 = wl.heap.size := (by omega); have m3 : ¬ ab = wl.heap.size := (by omega); have m4 : ¬ wl.heap.size = w.heap.size := (by omega); have m5 : ¬ wl.heap.size = w.heap.size + 1 := (by omega); have m6 : ¬ wl.heap.size = ab := (by omega); (first | (have hz := Zp8.later (by assumption) hb; have zf := hz.fz) | (have hz := Zp8.later (Zp8.new _) hb; have zf := hz.fz) | skip); clear hb)
          | (go_at_call 34; refine (HMI.out _).mono ?_; rintro e wl ⟨rfl, hb⟩; have hl : Below W4.heap.size W4 wl := up8 (by first | assumption | exact up8a (by assumption) _) hb; have k1 := HC.out _ hl; have hsl := hl.size; have m1 : ¬ w.heap.size = wl.heap.size := (by omega); have m2 : ¬ w.heap.size + 1 = wl.heap.size := (by omega); have m3 : ¬ ab = wl.heap.size := (by omega); have m4 : ¬ wl.heap.size = w.heap.size := (by omega); have m5 : ¬ wl.heap.size = w.heap.size + 1 := (by omega); have m6 : ¬ wl.heap.size = ab := (by omega); (first | (have hz := Zp8.later (by assumption) hb; have zf := hz.fz) | (have hz := Zp8.later (Zp8.new _) hb; have zf := hz.fz) | skip); clear hb)
          | (go_at_call 32; refine (HMV.out _).mono ?_; rintro e wl ⟨rfl, hb⟩; have hl : Below W4.heap.size W4 wl := up8 (by first | assumption | exact up8a (by assumption) _) hb; have k1 := HC.out _ hl; have hsl := hl.size; have m1 : ¬ w.heap.size = wl.heap.size := (by omega); have m2 : ¬ w.heap.size + 1 = wl.heap.size := (by omega); have m3 : ¬ ab = wl.heap.size := (by omega); have m4 : ¬ wl.heap.size = w.heap.size := (by omega); have m5 : ¬ wl.heap.size = w.heap.size + 1 := (by omega); have m6 : ¬ wl.heap.size = ab := (by omega); (first | (have hz := Zp8.later (by assumption) hb; have zf := hz.fz) | (have hz := Zp8.later (Zp8.new _) hb; have zf := hz.fz) | skip); clear hb))
      all_goals go_wp2_with fail
      all_goals go_meet
      all_goals
        rw [HQE.out]
        first
          | exact atP8_put hl hz (by omega) ⟨x, n0 + 1, ⟨u.x + 2 ^ n0, u.y + 2 ^ n0, u.X + 2 ^ n0, u.Y + 2 ^ n0⟩⟩
          | exact atP8_put hl hz hsl ⟨x, n0 + 1, ⟨u.x + 2 ^ n0, u.y + 2 ^ n0, u.X + 2 ^ n0, u.Y + 2 ^ n0⟩⟩
          | exact atP8_new hl ⟨x, n0 + 1, ⟨u.x + 2 ^ n0, u.y + 2 ^ n0, u.X + 2 ^ n0, u.Y + 2 ^ n0⟩⟩
    case rest =>
      obtain ⟨pb, rfl, hb5, hpt⟩ := hcut
      have HF5 := Lib.hid (HF4.out.later hb5)
      have HB5 := Lib.hid (HK4.out.later hb5).bel
      have HA5 := Lib.hid (keep8 HA4.out hb5)
      have HP5 := Lib.hid hpt
      have HCT := Lib.hid (count8_any sb g tb cb bb fb most N q (n0 + 1) HF5.out HX.out HQI.out (pr_self HQI.out) (Nat.le_trans HFEW.out (by omega)))
      clear hpt hb5 HF4 HK4 HA4 HC p1 r0 r1 r2 r3 s0 s1 s2 s3 hu hu2 hz2 hc2 hzf2 HAND HMI HMV HUB
      obtain ⟨c0, c1, c2, c3, c4, c5⟩ := pt_cells8 HP5.out
      simp only at c0 c1 c2 c3 c4 c5
      go_wp2_with fail
      refine HCT.out.mono ?_
      clear HCT
      rintro e W6 ⟨rfl, hf6, hr6⟩
      have HP6 : Hid (W6.heap[pb]? = some (ptO8 ⟨x, n0 + 1, q⟩)) := by
        show _ = _
        rw [hr6.block pb (Array.getElem?_eq_some_iff.1 HP5.out).1 (by simp [HF5.out.ne_cells HP5.out])]; exact HP5.out
      have HA6 : Hid (W6.heap[ab]? = some (rcO8 ⟨-2 ^ n0, -2 ^ n0, 2 ^ n0, 2 ^ n0⟩)) := by
        show _ = _
        rw [hr6.block ab (Array.getElem?_eq_some_iff.1 HA5.out).1 (by simp [HF5.out.ne_cells HA5.out])]; exact HA5.out
      have HB6 := Lib.hid (bel_frm8 HB5.out hr6 HCB.out)
      have HF6 := Lib.hid hf6
      have hle : ctP N (n0 + 1) x q ≤ 20000 := Nat.le_trans (ptL_le N (n0 + 1) x q) HFEW.out
      rw [← HLEN.out] at hle ⊢
      have HCL := Lib.hid (fun W (hf : Fc W sb g tb cb bb fb most N q) => cells8c_any sb g tb cb bb fb most N q (n0 + 1) hf HX.out HQI.out (pr_self HQI.out) (Nat.le_trans HFEW.out (by omega)) (OwG.nil W W.heap.size) (by have := hf.lt; omega) (Nat.le_refl _) (by rw [← HLEN.out]; simp only [List.length_nil]; omega) (fx := -2 ^ n0) (fy := -2 ^ n0) (by have h2n := pow_two2 n0; have h62 : (2 : Int) ^ 62 = 4611686018427387904 := (by decide); omega))
      have HSE : Hid (sh (-2 ^ n0) (-2 ^ n0) (ptL N (n0 + 1) x q) = plS N n0 x q) := rfl
      rw [HSE.out] at HCL
      clear hf6 hr6 HF5 HB5 HA5 HP5 c0 c1 c2 c3 c4 c5 HSE HLEN
      generalize plS N n0 x q = S at *
      have hm1 : IntKind.u64.wrap (mo : Int) = (mo : Int) := IntWalk.u64_in _ (by omega)
      by_cases hgt : mo < S.length
      · have hgd : decide ((S.length : Int) > (mo : Int)) = true := by simp; omega
        have hgd' : decide ((mo : Int) < (S.length : Int)) = true := by simp; omega
        go_wp2_with fail
        go_ret2
        exact ⟨S, HND.out, HMEM.out, HB6.out, Or.inl ⟨hgt, rfl⟩⟩
      · have hgd : decide ((S.length : Int) > (mo : Int)) = false := by simp; omega
        have hgd' : decide ((mo : Int) < (S.length : Int)) = false := by simp; omega
        obtain ⟨c0, c1, c2, c3, c4, c5⟩ := pt_cells8 HP6.out
        simp only at c0 c1 c2 c3 c4 c5
        obtain ⟨s0, s1, s2, s3⟩ := rc_cells8 HA6.out
        simp only at s0 s1 s2 s3
        have HCW := Lib.hid (HCL.out _ HF6.out)
        have HGT := Lib.hid hgt
        clear HCL hgt
        go_wp2_with fail
        refine HCW.out.mono ?_
        clear HCW c0 c1 c2 c3 c4 c5 s0 s1 s2 s3 HA6 HP6
        rintro e W7 ⟨v', rfl, hf7, hg7, ho7⟩
        rw [List.nil_append] at ho7
        have HB7 := Lib.hid (bel_gw8 HB6.out hg7 HCB.out rfl)
        have hsz6 := HB6.out.size
        clear hf7 hg7
        rcases ho7.2 with ⟨hv, hn0⟩ | ⟨gb, cp, cur, hv, hBg, hgb, h1, h2', h3, h4⟩
        · subst hv
          obtain rfl : S = [] := List.eq_nil_of_length_eq_zero hn0
          go_wp2_with fail
          refine (sortA_none none 0 _ _).mono ?_
          rintro e W8 ⟨rfl, rfl⟩
          go_wp2_with fail
          go_ret2
          exact ⟨[], HND.out, HMEM.out, HB7.out, Or.inr ⟨Nat.zero_le _, none, 0, rfl, by simpa [sortZ] using Rk8.nil _ _⟩⟩
        · subst hv
          have hzr : ZRow W7 gb S := by
            refine ⟨(Array.getElem?_eq_some_iff.1 hgb).1, fun j c hc => ?_⟩
            have hj : j < S.length := (List.getElem?_eq_some_iff.1 hc).1
            obtain ⟨e1, e2⟩ := ptV8_at S j
            rw [hc] at e1 e2
            exact ⟨by rw [World.ownsRow.cellAt ho7 (j * 2) (by omega)]; exact e1, by rw [World.ownsRow.cellAt ho7 (j * 2 + 1) (by omega)]; exact e2, Lib.frozen_of_heap hgb _, Lib.frozen_of_heap hgb _⟩
          have HZR := Lib.hid hzr
          clear ho7 hgb h3 h4 hzr
          go_wp2_with fail
          refine (sortA_any gb S.length cp S _ HZR.out rfl hle).mono ?_
          rintro e W8 ⟨rfl, hz8, ho8⟩
          have HB8 := Lib.hid (oth_bel8 HB7.out ho8 (by omega))
          have HR8 : Hid (Rk8 W8 (some ⟨gb, 0, none⟩) (sortZ S)) := fun j c hc => ⟨gb, 0, rfl, by rw [Nat.zero_add]; exact (hz8.2 j c hc).1, by rw [Nat.zero_add]; exact (hz8.2 j c hc).2.1⟩
          clear hz8 ho8
          go_wp2_with fail
          go_ret2
          exact ⟨S, HND.out, HMEM.out, HB8.out, Or.inr ⟨Nat.le_of_not_lt HGT.out, _, _, rfl, HR8.out⟩⟩
end Go.Proofs.YtnfjmmkokhncoaaGreat
