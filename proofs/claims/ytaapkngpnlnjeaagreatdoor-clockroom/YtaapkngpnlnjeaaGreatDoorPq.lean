/- Package evolve: parts: contract. -/
import Derived.Test.YtaapkngpnlnjeaaGreatDoorFd
namespace Go.Proofs.YtaapkngpnlnjeaaGreatDoor
open Go.RowKit Go.Maps
set_option maxRecDepth 100000

/-- The square two levels below, in a row and a column. -/
def pq (N : List Nd) (x r c : Nat) : Nat := kAt (kidZ N (kAt (kidZ N x) (2 * (r / 2) + c / 2))) (2 * (r % 2) + c % 2)
theorem con_k {N : List Nd} (hw : Wf N) {n x : Nat} {F : Plane} (h : Con N (n + 1) x F) {i : Nat} (hi : i < 4) : Con N n (kAt (kidZ N x) i) (shF F (((i % 2 : Nat) : Int) * 2 ^ n) (((i / 2 : Nat) : Int) * 2 ^ n)) := by
  obtain ⟨r, b, rfl⟩ := pl_of hi
  rw [← pick_kAt]
  have := con_q hw h r b
  have e1 : (((pl r b % 2 : Nat) : Int) * 2 ^ n) = off n r := by cases r <;> cases b <;> simp [pl, off]
  have e2 : (((pl r b / 2 : Nat) : Int) * 2 ^ n) = off n b := by cases r <;> cases b <;> simp [pl, off]
  rw [e1, e2]
  exact this
theorem con_pq {N : List Nd} (hw : Wf N) {n x : Nat} {F : Plane} (h : Con N (n + 2) x F) {r c : Nat} (hr : r < 4) (hc : c < 4) : Con N n (pq N x r c) (shF F ((c : Int) * 2 ^ n) ((r : Int) * 2 ^ n)) := by
  have h1 := con_k hw h (i := 2 * (r / 2) + c / 2) (by omega)
  have h2 := con_k hw h1 (i := 2 * (r % 2) + c % 2) (by omega)
  rw [shF_shF] at h2
  unfold pq
  have e : ∀ (a b c : Nat), c = 2 * a + b → ((a : Int) * 2 ^ (n + 1) + (b : Int) * 2 ^ n) = (c : Int) * 2 ^ n := fun a b c hh => by
    rw [pow_two2, ← Int.mul_assoc, ← Int.add_mul]
    congr 1
    omega
  rw [e _ _ c (by omega), e _ _ r (by omega)] at h2
  exact h2
theorem fdC_size (s : Nat) (q : Nat → Nat → Nat) : (fdC s q).size = 17 := rfl
theorem fdC_one (s : Nat) (q : Nat → Nat → Nat) : (fdC s q).all (·.oneCell') = true := by unfold fdC; simp [Value.oneCell']
theorem below_setRow {B : Nat} {w W : World} (h : Below B w W) {g : Nat} (hg : B ≤ g) (c : Array Value) : Below B w (W.setRow g c) := by
  refine ⟨h.os, h.tape, h.output, by simpa [World.setRow] using h.size, fun b hb => ?_⟩
  rw [← h.block b hb]
  simp only [World.setRow, Array.getElem?_modify]
  rw [if_neg (by omega)]
theorem fd_row {w : World} {b s : Nat} {q : Nat → Nat → Nat} (h : w.heap[b]? = some (fdO s q)) (s' : Nat) (q' : Nat → Nat → Nat) : (w.setRow b (fdC s' q')).heap[b]? = some (fdO s' q') := by
  simp only [World.setRow, Array.getElem?_modify, h, fdO]
  simp
set_option maxHeartbeats 2000000 in
theorem parts_any {w : World} {sb g tb most mb : Nat} {N : List Nd} {fb : FbT} {m : Stp → Option Value} (h : Me w sb g tb most N mb fb m) {n x : Nat} (hx : Sq N (n + 2) x) :
    Calls Tryz.prog 93 #[.pointer (some ⟨mb, 0, none⟩), .int .u32 (x : Int)] w fun e w' => e = .returned (.agg (fdC 4 (pq N x))) ∧ Below w.heap.size w w' := by
  have HB := Lib.hid (bel2 w (.cells #[.int .i64 0, .int .u32 0, .int .u32 0, .int .u32 0, .int .u32 0, .int .u32 0, .int .u32 0, .int .u32 0, .int .u32 0, .int .u32 0, .int .u32 0, .int .u32 0, .int .u32 0, .int .u32 0, .int .u32 0, .int .u32 0, .int .u32 0] 166) (.cells #[.int .i64 4, .int .u32 0, .int .u32 0, .int .u32 0, .int .u32 0, .int .u32 0, .int .u32 0, .int .u32 0, .int .u32 0, .int .u32 0, .int .u32 0, .int .u32 0, .int .u32 0, .int .u32 0, .int .u32 0, .int .u32 0, .int .u32 0] 166))
  have HR : Hid (Oe ((w.alloc (.cells #[.int .i64 0, .int .u32 0, .int .u32 0, .int .u32 0, .int .u32 0, .int .u32 0, .int .u32 0, .int .u32 0, .int .u32 0, .int .u32 0, .int .u32 0, .int .u32 0, .int .u32 0, .int .u32 0, .int .u32 0, .int .u32 0, .int .u32 0] 166)).alloc (.cells #[.int .i64 4, .int .u32 0, .int .u32 0, .int .u32 0, .int .u32 0, .int .u32 0, .int .u32 0, .int .u32 0, .int .u32 0, .int .u32 0, .int .u32 0, .int .u32 0, .int .u32 0, .int .u32 0, .int .u32 0, .int .u32 0, .int .u32 0] 166)) sb g tb mb fb w.heap.size (fdO 0 fun _ _ => 0)) := (Oe.new h _ _).later (bel1 _ _)
  have HL : Hid (Oe ((w.alloc (.cells #[.int .i64 0, .int .u32 0, .int .u32 0, .int .u32 0, .int .u32 0, .int .u32 0, .int .u32 0, .int .u32 0, .int .u32 0, .int .u32 0, .int .u32 0, .int .u32 0, .int .u32 0, .int .u32 0, .int .u32 0, .int .u32 0, .int .u32 0] 166)).alloc (.cells #[.int .i64 4, .int .u32 0, .int .u32 0, .int .u32 0, .int .u32 0, .int .u32 0, .int .u32 0, .int .u32 0, .int .u32 0, .int .u32 0, .int .u32 0, .int .u32 0, .int .u32 0, .int .u32 0, .int .u32 0, .int .u32 0, .int .u32 0] 166)) sb g tb mb fb (w.heap.size + 1) (fdO 4 fun _ _ => 0)) := by
    have : (w.alloc (.cells #[.int .i64 0, .int .u32 0, .int .u32 0, .int .u32 0, .int .u32 0, .int .u32 0, .int .u32 0, .int .u32 0, .int .u32 0, .int .u32 0, .int .u32 0, .int .u32 0, .int .u32 0, .int .u32 0, .int .u32 0, .int .u32 0, .int .u32 0] 166)).heap.size = w.heap.size + 1 := by simp
    rw [← this]
    exact Oe.new (h.later (bel1 w (.cells #[.int .i64 0, .int .u32 0, .int .u32 0, .int .u32 0, .int .u32 0, .int .u32 0, .int .u32 0, .int .u32 0, .int .u32 0, .int .u32 0, .int .u32 0, .int .u32 0, .int .u32 0, .int .u32 0, .int .u32 0, .int .u32 0, .int .u32 0] 166))) _ _
  have HM := Lib.hid h
  have HX := Lib.hid hx
  clear h hx
  go_enter Tryz.func93, Tryz.ntmps93
  go_upto_region 2 with fail
  generalize (w.alloc (.cells #[.int .i64 0, .int .u32 0, .int .u32 0, .int .u32 0, .int .u32 0, .int .u32 0, .int .u32 0, .int .u32 0, .int .u32 0, .int .u32 0, .int .u32 0, .int .u32 0, .int .u32 0, .int .u32 0, .int .u32 0, .int .u32 0, .int .u32 0] 166)).alloc (.cells #[.int .i64 4, .int .u32 0, .int .u32 0, .int .u32 0, .int .u32 0, .int .u32 0, .int .u32 0, .int .u32 0, .int .u32 0, .int .u32 0, .int .u32 0, .int .u32 0, .int .u32 0, .int .u32 0, .int .u32 0, .int .u32 0, .int .u32 0] 166) = W0 at *
  have HM0 := Lib.hid (HM.out.later HB.out)
  obtain ⟨sv0, cl0, hth, m0, m1, mv, m2, mt, m3⟩ := HM0.out.cells
  clear mv mt hth m1 m2 m3
  obtain ⟨cap0, hs0⟩ := HM0.out.st
  have HS0 := Lib.hid hs0
  clear hs0
  go_wp2_with fail
  refine (of_sqk HS0.out HX.out).mono ?_
  rintro e w1 ⟨rfl, hb⟩
  have HK := Lib.hid (fo_iff.1 (HX.out.kid HM.out.wf))
  have HKZ : Hid (∀ r c, pq N x r c = kAt (kidZ N (kAt (kidZ N x) (2 * (r / 2) + c / 2))) (2 * (r % 2) + c % 2)) := fun r c => rfl
  generalize kidZ N x = k0 at HK HKZ ⊢
  have hb1 := hb.trans ((bel1 w1 (.cells #[.int .u32 (k0.1 : Int), .int .u32 (k0.2.1 : Int), .int .u32 (k0.2.2.1 : Int), .int .u32 (k0.2.2.2 : Int)] 63)).mono hb.size)
  have HB1 := Lib.hid (HB.out.trans (hb1.mono HB.out.size))
  have HR1 := Lib.hid (HR.out.later hb1)
  have HL1 := Lib.hid (HL.out.later hb1)
  obtain ⟨c0, c1, c2, c3⟩ := k_cells (heap_alloc_new w1 (.cells #[.int .u32 (k0.1 : Int), .int .u32 (k0.2.1 : Int), .int .u32 (k0.2.2.1 : Int), .int .u32 (k0.2.2.2 : Int)] 63))
  clear hb hb1 HR HL HB m0 HM0 HS0
  go_wp2_with fail
  clear c0 c1 c2 c3
  generalize w1.alloc (.cells #[.int .u32 (k0.1 : Int), .int .u32 (k0.2.1 : Int), .int .u32 (k0.2.2.1 : Int), .int .u32 (k0.2.2.2 : Int)] 63) = W1 at *
  generalize w1.heap.size = kb1
  go_loopg [8, 9, 10, 11, 12, 13, 25] 4 (fun mm v8 v9 v10 v11 v12 v13 cnt wr => ∃ (i : Nat) (q : Nat → Nat → Nat), mm = 4 - i ∧ i ≤ 4 ∧ cnt = .int .i64 (i : Int) ∧ Below w.heap.size w wr ∧ Oe wr sb g tb mb fb w.heap.size (fdO 0 fun _ _ => 0) ∧ Oe wr sb g tb mb fb (w.heap.size + 1) (fdO 4 q) ∧ (∀ r c, r < 4 → c < 4 → 2 * (r / 2) + c / 2 < i → q r c = pq N x r c))
  case atStart => exact ⟨0, _, rfl, Nat.zero_le _, rfl, HB1.out, HR1.out, HL1.out, fun r c _ _ h => by omega⟩
  case round =>
    clear HB1 HR1 HL1
    obtain ⟨i, q, hm, hi, rfl, hb, hR, hL, hq⟩ := hrel
    have HMM := Lib.hid hm
    have HB := Lib.hid hb
    have HR := Lib.hid hR
    have HL := Lib.hid hL
    have HQ := Lib.hid hq
    have HM1 := Lib.hid (HM.out.later hb)
    clear hm hb hR hL hq
    by_cases hlt : i < 4
    · have hgj : decide ((i : Int) < 4) = true := by simp; omega
      have hix := kix k0 hlt
      have HX1 := Lib.hid (HK.out i hlt)
      obtain ⟨sv0, cl0, hth, m0, m1, mv, m2, mt, m3⟩ := HM1.out.cells
      clear mv mt hth m1 m2 m3
      obtain ⟨cap1, hs1⟩ := HM1.out.st
      have HS1 := Lib.hid hs1
      clear hs1
      go_wp2_with fail
      refine (of_sqk HS1.out HX1.out).mono ?_
      rintro e w5 ⟨rfl, hb⟩
      have HKQ : Hid (∀ r c, 2 * (r / 2) + c / 2 = i → pq N x r c = kAt (kidZ N (kAt k0 i)) (2 * (r % 2) + c % 2)) := fun r c e => by rw [HKZ.out, e]
      generalize kidZ N (kAt k0 i) = k1 at HKQ ⊢
      have hb1 := hb.trans ((bel1 w5 (.cells #[.int .u32 (k1.1 : Int), .int .u32 (k1.2.1 : Int), .int .u32 (k1.2.2.1 : Int), .int .u32 (k1.2.2.2 : Int)] 63)).mono hb.size)
      have HB5 := Lib.hid (HB.out.trans (hb1.mono HB.out.size))
      have HR5 := Lib.hid (HR.out.later hb1)
      have HL5 := Lib.hid (HL.out.later hb1)
      obtain ⟨c0, c1, c2, c3⟩ := k_cells (heap_alloc_new w5 (.cells #[.int .u32 (k1.1 : Int), .int .u32 (k1.2.1 : Int), .int .u32 (k1.2.2.1 : Int), .int .u32 (k1.2.2.2 : Int)] 63))
      clear hb hb1 HB HR HL m0 HS1 HM1
      go_wp2_with fail
      clear c0 c1 c2 c3
      generalize w5.alloc (.cells #[.int .u32 (k1.1 : Int), .int .u32 (k1.2.1 : Int), .int .u32 (k1.2.2.1 : Int), .int .u32 (k1.2.2.2 : Int)] 63) = W5 at *
      go_loopg [12, 13, 39] 4 (fun mm v12 v13 cnt wr => ∃ (j : Nat) (q : Nat → Nat → Nat), mm = 4 - j ∧ j ≤ 4 ∧ cnt = .int .i64 (j : Int) ∧ Below w.heap.size w wr ∧ Oe wr sb g tb mb fb w.heap.size (fdO 0 fun _ _ => 0) ∧ Oe wr sb g tb mb fb (w.heap.size + 1) (fdO 4 q) ∧ (∀ r c, r < 4 → c < 4 → (2 * (r / 2) + c / 2 < i ∨ (2 * (r / 2) + c / 2 = i ∧ 2 * (r % 2) + c % 2 < j)) → q r c = pq N x r c))
      case atStart => exact ⟨0, q, rfl, Nat.zero_le _, rfl, HB5.out, HR5.out, HL5.out, fun r c h1 h2 h3 => HQ.out r c h1 h2 (by omega)⟩
      case round =>
        clear HB5 HR5 HL5 HQ
        obtain ⟨j, q2, hm, hj, rfl, hb, hR, hL, hq⟩ := hrel
        have HMM2 := Lib.hid hm
        have HB2 := Lib.hid hb
        have HR2 := Lib.hid hR
        have HL2 := Lib.hid hL
        have HQ2 := Lib.hid hq
        clear hm hb hR hL hq
        by_cases hlt2 : j < 4
        · have hgj2 : decide ((j : Int) < 4) = true := by simp; omega
          have hix2 := kix k1 hlt2
          have a1 := and_one i hlt
          have a2 := and_one j hlt2
          obtain ⟨ry, hry⟩ : ∃ ry : Nat, ry = 2 * (i / 2) + j / 2 := ⟨_, rfl⟩
          obtain ⟨rx, hrx⟩ : ∃ rx : Nat, rx = 2 * (i % 2) + j % 2 := ⟨_, rfl⟩
          have hy4 : ry < 4 := by omega
          have hx4 : rx < 4 := by omega
          have t0 := fd_cell HL2.out.at_ hy4 hx4
          have t1 := Lib.frozen_of_heap HL2.out.at_ (1 + ry * 4 + rx)
          have z1 : 2 * ((i : Int) / 2) + (j : Int) / 2 = (ry : Int) := by omega
          have z2 : 2 * ((i : Int) % 2) + (j : Int) % 2 = (rx : Int) := by omega
          have y1 : (0 : Int) ≤ (ry : Int) := by omega
          have y2 : (ry : Int) < 4 := by omega
          have y3 : (0 : Int) ≤ (rx : Int) := by omega
          have y4 : (rx : Int) < 4 := by omega
          have HRY := Lib.hid hry
          have HRX := Lib.hid hrx
          clear hry hrx
          go_upto_region 10 with fail
          go_wp2_with fail
          go_roundg (4 - (j + 1))
          case measure => rw [HMM2.out]; omega
          case rel =>
            refine ⟨j + 1, setQ q2 ry rx (kAt k1 j), rfl, by omega, by go_num, HB2.out.setCell (p := ⟨w.heap.size + 1, _, none⟩) (by show w.heap.size ≤ w.heap.size + 1; omega) _, HR2.out.other (by show w.heap.size + 1 ≠ w.heap.size; omega) _, ⟨fd_set HL2.out.at_ hy4 hx4 _, HL2.out.sb_, HL2.out.g_, HL2.out.tb_, HL2.out.mb_, HL2.out.fb_⟩, fun r c h1 h2 h3 => ?_⟩
            have e1 := HRY.out
            have e2 := HRX.out
            unfold setQ
            by_cases e : r = ry ∧ c = rx
            · rw [if_pos e, HKQ.out r c (by omega)]
              congr 1
              omega
            · rw [if_neg e]
              exact HQ2.out r c h1 h2 (by omega)
        · obtain rfl : j = 4 := by omega
          have hgj2 : decide (((4 : Nat) : Int) < 4) = false := by simp
          go_wp2_with fail
          go_roundg (4 - (i + 1))
          case measure => rw [HMM.out]; omega
          case rel => exact ⟨i + 1, q2, rfl, by omega, by go_num, HB2.out, HR2.out, HL2.out, fun r c h1 h2 h3 => HQ2.out r c h1 h2 (by omega)⟩
    · obtain rfl : i = 4 := by omega
      have hgj : decide (((4 : Nat) : Int) < 4) = false := by simp
      have HQE : Hid (fdC 4 q = fdC 4 (pq N x)) := fdC_ext fun r c h1 h2 => HQ.out r c h1 h2 (by omega)
      go_wp2_with (first
        | (refine wpList_load_row rfl 166 _ rfl (w.heap.size + 1) rfl 166 _ (0, 0) _ HL.out.at_ Tryz.underlying166 rfl (by as_aux_lemma => kernel_rfl) ?_)
        | (refine wpList_store_row rfl 166 _ _ rfl w.heap.size _ rfl rfl 166 _ HR.out.at_ (by as_aux_lemma => kernel_rfl) rfl (fdC_one 4 q) ?_))
      have HRR := Lib.hid (fd_row HR.out.at_ 4 q)
      refine bodyPost_ret (results_cell_row rfl _ _ w.heap.size 166 (fdC 4 q) (0, 0) _ rfl HRR.out Tryz.underlying166 rfl (by as_aux_lemma => kernel_rfl)) rfl ?_
      rw [HQE.out]
      exact ⟨rfl, below_setRow HB.out (Nat.le_refl _) _⟩
end Go.Proofs.YtaapkngpnlnjeaaGreatDoor
