/- The law QuadCentre: its walk. -/
import Derived.Test.YtfkjfkjhipieaaaQN
namespace Go.Proofs.Ytfkjfkjhipieaaa
open Go.RowKit Go.Maps
set_option maxRecDepth 100000

theorem mid_cell (N : List Nd) (k : K4) {i j : Nat} (hi : i < 4) (hj : j < 4) : alK N 1 k (2 * ((i % 2 : Nat) : Int) + ((j % 2 : Nat) : Int) - 2) (2 * ((i / 2 : Nat) : Int) + ((j / 2 : Nat) : Int) - 2) = (kAt (kidZ N (kAt k i)) j == 1) := by
  have hi' : i = 0 ∨ i = 1 ∨ i = 2 ∨ i = 3 := by omega
  have hj' : j = 0 ∨ j = 1 ∨ j = 2 ∨ j = 3 := by omega
  rcases hi' with rfl | rfl | rfl | rfl <;> rcases hj' with rfl | rfl | rfl | rfl <;> rfl
theorem far_0 {a b : Int} (ha : inS 2 a = true) (hb : inS 2 b = true) : Far 2 0 a b := ⟨by decide, by rw [Nat.add_zero, ha, hb]; rfl, fun i hi => by omega⟩
theorem in2 {a : Int} (h0 : -4 ≤ a) (h1 : a < 4) : inS 2 a = true := by rw [inS_iff]; exact ⟨by simpa using h0, by simpa using h1⟩
theorem on2 {a : Int} (h0 : -4 ≤ a) (h1 : a < 4) : onP a = true := by unfold onP; rw [decide_eq_true (by omega), decide_eq_true (by omega)]; rfl
set_option maxHeartbeats 8000000 in
theorem qcentre_any (c : Int) (w : World) : Calls Try.prog 4 #[.int .u64 c] w fun e w' => e = .returned (.bool true) ∧ Below w.heap.size w w' := by
  go_enter Try.func4, Try.ntmps4
  go_wp2_with fail
  refine (lives7_any _).mono ?_
  rintro e W1 ⟨rfl, hb⟩
  have HB1 := Lib.hid hb
  clear hb
  go_wp2_with fail
  refine (new_good 5000 (by omega) (by omega) _).mono ?_
  rintro e W3 ⟨sb, g, tb, rfl, hS, hB, l1, l2, l3⟩
  have HS := Lib.hid hS
  have HB3 := Lib.hid (HB1.out.trans (hB.mono HB1.out.size))
  have hsz : w.heap.size ≤ W1.heap.size := HB1.out.size
  have hsz3 : w.heap.size ≤ W3.heap.size := HB3.out.size
  clear hS hB HB1
  go_wp2_with fail
  refine (qnew_any HS.out).mono ?_
  rintro e W4 ⟨g4, N4, hnx, hres⟩
  have HN4 := Lib.hid hnx
  clear hnx
  have hlen4 := HN4.out.len
  simp only [N0, List.length_cons, List.length_nil] at hlen4
  unfold plV at hres
  rcases hres with ⟨r, rfl, hem, hl⟩ | ⟨rfl, hfull⟩
  · have HEM := Lib.hid hem
    have HHE := Lib.hid hl
    clear hem hl
    obtain ⟨cap4, hS4⟩ := HN4.out.st
    have HBA := Lib.hid (bel1 W4 (.cells #[.pointer (some ⟨sb, 0, none⟩), .int .u32 (r : Int)] 32))
    have HP5 := Lib.hid (Ob.new hS4 #[.pointer (some ⟨sb, 0, none⟩), .int .u32 (r : Int)] 32)
    have HN5 := Lib.hid (HN4.out.trans (Nx.of_below hS4 HBA.out))
    have hpb : W3.heap.size ≤ W4.heap.size := HN4.out.frm.size
    clear HBA hS4 HN4
    go_wp2_with fail
    generalize W4.alloc (.cells #[.pointer (some ⟨sb, 0, none⟩), .int .u32 (r : Int)] 32) = W5 at *
    generalize W4.heap.size = pb at *
    clear W4
    go_loopg [6, 7, 33] 64 (fun m v6 v7 cnt wr => ∃ (j gg x : Nat) (M : List Nd), m = 64 - j ∧ j ≤ 64 ∧ cnt = .int .i64 (j : Int) ∧ v6 = .nilIface ∧ Nx sb tb 5000 W3 g N0 (3 + 4 * j) wr gg M ∧ Ob wr sb gg tb pb (plO sb x) ∧ Sq M 3 x ∧ HasEm M 1)
    case atStart => exact ⟨0, g4, r, N4, rfl, Nat.zero_le _, rfl, rfl, HN5.out, HP5.out, HEM.out.1, HHE.out.mono (by omega)⟩
    case round =>
      clear HN5 HP5 HEM HHE
      obtain ⟨j, gg, x, M, hm, hj, rfl, rfl, hN, hP, hX, hE⟩ := hrel
      have HM := Lib.hid hm
      have HN := Lib.hid hN
      have HP := Lib.hid hP
      have HX := Lib.hid hX
      have HE := Lib.hid hE
      clear hm hN hP hX hE
      obtain ⟨p0, p1⟩ := pl_cells HP.out.at_
      by_cases hlt : j < 64
      · have hgj : decide ((j : Int) < 64) = true := by simp; omega
        cases hbit : (bits .and .u64 (c / 2 ^ j) 1 == 1) with
        | false =>
          go_wp2_with fail
          go_roundg (64 - (j + 1))
          case measure => rw [HM.out]; omega
          case rel => exact ⟨j + 1, gg, x, M, rfl, hlt, by go_num, rfl, HN.out.mono (by omega), HP.out, HX.out, HE.out⟩
        | true =>
          have hx0 : -4 ≤ (j : Int) % 8 - 4 ∧ (j : Int) % 8 - 4 < 4 := by omega
          have hy0 : -4 ≤ (j : Int) / 8 - 4 ∧ (j : Int) / 8 - 4 < 4 := by omega
          obtain ⟨capM, hSM⟩ := HN.out.st
          have HSE := Lib.hid (set_any (n := 2) hSM HX.out (by omega) (HE.out.mono (by omega)) ((j : Int) % 8 - 4) ((j : Int) / 8 - 4) true (by rw [on2 hx0.1 hx0.2, on2 hy0.1 hy0.2]; rfl) (far_0 (in2 hx0.1 hx0.2) (in2 hy0.1 hy0.2)))
          clear hSM
          have hlenM := HN.out.len
          simp only [N0, List.length_cons, List.length_nil] at hlenM
          go_wp2_with fail
          refine HSE.out.mono ?_
          clear HSE
          rintro e W6 ⟨g6, M6, hnx, hres⟩
          have hlen6 := hnx.len
          have HN6 := Lib.hid (HN.out.trans hnx)
          have HP6 := Lib.hid (HP.out.nx hnx)
          clear hnx p0 p1
          unfold plV at hres
          rcases hres with ⟨t, rfl, hsq, _, hem⟩ | ⟨rfl, hfull⟩
          · have HSQ := Lib.hid hsq
            have HEM := Lib.hid hem
            clear hsq hem
            obtain ⟨r0, r1, rf0, rf1⟩ := res_cells HP6.out.at_
            go_wp2_with fail
            obtain ⟨W, hW, hN, hO, _⟩ := put_pl HN6.out HP6.out hpb (.pointer (some ⟨sb, 0, none⟩)) (.int .u32 (t : Int))
            rw [hW]
            go_roundg (64 - (j + 1))
            case measure => rw [HM.out]; omega
            case rel => exact ⟨j + 1, g6, t, M6, rfl, hlt, by go_num, rfl, hN.mono (by omega), hO, HSQ.out, HEM.out⟩
          · exfalso
            omega
      · obtain rfl : j = 64 := by omega
        have hgj : decide (((64 : Nat) : Int) < 64) = false := by simp
        obtain ⟨capM, hSM⟩ := HN.out.st
        have HSM := Lib.hid hSM
        have hlenM := HN.out.len
        simp only [N0, List.length_cons, List.length_nil] at hlenM
        have HCE := Lib.hid (centre_any (n := 1) hSM HX.out)
        clear hSM
        go_wp2_with fail
        refine HCE.out.mono ?_
        rintro e W6 ⟨rfl, hb⟩
        have HMF := Lib.hid (mid_fo HSM.out.wf (HX.out.kid HSM.out.wf))
        have HMA : Hid (∀ p q, alK M 1 (midK M (kidZ M x)) p q = (inS 1 p && inS 1 q && alK M 2 (kidZ M x) p q)) := fun p q => al_middle (mid_pick M (kidZ M x)) p q
        generalize midK M (kidZ M x) = d at *
        have hbA := hb.trans ((bel1 W6 (.cells #[.int .u32 (d.1 : Int), .int .u32 (d.2.1 : Int), .int .u32 (d.2.2.1 : Int), .int .u32 (d.2.2.2 : Int)] 56)).mono hb.size)
        have HS6 := Lib.hid (HSM.out.later hbA)
        have HP6 := Lib.hid (HP.out.later hbA)
        obtain ⟨hbw, _⟩ := HN.out.bel (B := w.heap.size) (by omega) (by omega) (by omega) hsz3
        have hb3 := HB3.out.trans hbw
        have HB6 := Lib.hid (hb3.trans (hbA.mono hb3.size))
        clear hb hbA hbw hb3 HSM HCE p0 p1
        go_wp2_with fail
        generalize W6.alloc (.cells #[.int .u32 (d.1 : Int), .int .u32 (d.2.1 : Int), .int .u32 (d.2.2.1 : Int), .int .u32 (d.2.2.2 : Int)] 56) = W7 at *
        clear hgj
        go_loopg [10, 11, 12, 13, 14, 15, 16, 17, 18, 19, 68] 4 (fun m v10 v11 v12 v13 v14 v15 v16 v17 v18 v19 cnt wr => ∃ (i : Nat), m = 4 - i ∧ i ≤ 4 ∧ cnt = .int .i64 (i : Int) ∧ Below W7.heap.size W7 wr)
        case atStart => exact ⟨0, rfl, Nat.zero_le _, rfl, Below.refl _ _⟩
        case round =>
          obtain ⟨i, hm, hi, rfl, hb⟩ := hrel
          have HM1 := Lib.hid hm
          have HB7 := Lib.hid hb
          have HS7 := Lib.hid (HS6.out.later hb)
          have HP7 := Lib.hid (HP6.out.later hb)
          clear hm hb
          by_cases hlt : i < 4
          · have hgi : decide ((i : Int) < 4) = true := by simp; omega
            have hix := kix d hlt
            have HY := Lib.hid (fo_iff.1 HMF.out i hlt)
            go_wp2_with fail
            refine (of_sqk HS7.out HY.out).mono ?_
            rintro e W8 ⟨rfl, hb⟩
            have HCL : Hid (∀ t, t < 4 → alK M 1 d (2 * ((i % 2 : Nat) : Int) + ((t % 2 : Nat) : Int) - 2) (2 * ((i / 2 : Nat) : Int) + ((t / 2 : Nat) : Int) - 2) = (kAt (kidZ M (kAt d i)) t == 1)) := fun t ht => mid_cell M d hlt ht
            have HCN := Lib.hid (fun W (hW : Below W7.heap.size W7 W) => centre_no (HS6.out.later hW) (x := kAt d i) (by rw [show lvZ M (kAt d i) = ((1 : Nat) : Int) from HY.out]; omega) (Sq.u32 HS6.out HY.out))
            generalize kidZ M (kAt d i) = f at *
            have hbA := hb.trans ((bel1 W8 (.cells #[.int .u32 (f.1 : Int), .int .u32 (f.2.1 : Int), .int .u32 (f.2.2.1 : Int), .int .u32 (f.2.2.2 : Int)] 56)).mono hb.size)
            have HB8 := Lib.hid (HB7.out.trans (hbA.mono HB7.out.size))
            clear hb hbA HB7
            go_wp2_with fail
            generalize W8.alloc (.cells #[.int .u32 (f.1 : Int), .int .u32 (f.2.1 : Int), .int .u32 (f.2.2.1 : Int), .int .u32 (f.2.2.2 : Int)] 56) = W9 at *
            clear hgi hix
            go_loopg [14, 15, 16, 17, 79] 4 (fun m v14 v15 v16 v17 cnt wr => ∃ (t : Nat), m = 4 - t ∧ t ≤ 4 ∧ cnt = .int .i64 (t : Int) ∧ Below W7.heap.size W7 wr)
            case atStart => exact ⟨0, rfl, Nat.zero_le _, rfl, HB8.out⟩
            case round =>
              obtain ⟨t, hm, ht, rfl, hb⟩ := hrel
              have HM2 := Lib.hid hm
              have HB9 := Lib.hid hb
              have HS9 := Lib.hid (HS6.out.later hb)
              have HP9 := Lib.hid (HP6.out.later hb)
              clear hm hb
              by_cases hlt2 : t < 4
              · have hgt : decide ((t : Int) < 4) = true := by simp; omega
                have hix := kix f hlt2
                obtain ⟨p0, p1⟩ := pl_cells HP9.out.at_
                have hgv : alK M 2 (kidZ M x) (2 * ((i : Int) % 2) + (t : Int) % 2 - 2) (2 * ((i : Int) / 2) + (t : Int) / 2 - 2) = (kAt f t == 1) := by
                  have h1 := HCL.out t hlt2
                  rw [show 2 * ((i % 2 : Nat) : Int) + ((t % 2 : Nat) : Int) - 2 = 2 * ((i : Int) % 2) + (t : Int) % 2 - 2 by omega, show 2 * ((i / 2 : Nat) : Int) + ((t / 2 : Nat) : Int) - 2 = 2 * ((i : Int) / 2) + (t : Int) / 2 - 2 by omega, HMA.out,
                    inS_iff.2 (show -2 ^ 1 ≤ 2 * ((i : Int) % 2) + (t : Int) % 2 - 2 ∧ 2 * ((i : Int) % 2) + (t : Int) % 2 - 2 < 2 ^ 1 by omega), inS_iff.2 (show -2 ^ 1 ≤ 2 * ((i : Int) / 2) + (t : Int) / 2 - 2 ∧ 2 * ((i : Int) / 2) + (t : Int) / 2 - 2 < 2 ^ 1 by omega)] at h1
                  simpa using h1
                have HGE := Lib.hid (get_any (n := 2) HS9.out HX.out (by omega) (2 * ((i : Int) % 2) + (t : Int) % 2 - 2) (2 * ((i : Int) / 2) + (t : Int) / 2 - 2))
                rw [hgv] at HGE
                have hyv : ((kAt f t : Int) == 1) = (kAt f t == 1) := by rw [Bool.eq_iff_iff]; simp only [beq_iff_eq]; omega
                clear hgv
                go_wp2_with fail
                refine HGE.out.mono ?_
                clear HGE
                generalize (kAt f t == 1) = bv at *
                have hbv : (bv != bv) = false := by simp
                rintro e WA ⟨rfl, hb⟩
                have HBA := Lib.hid (HB9.out.trans (hb.mono HB9.out.size))
                clear hb
                go_wp2_with fail
                go_roundg (4 - (t + 1))
                case measure => rw [HM2.out]; omega
                case rel => exact ⟨t + 1, rfl, by omega, by go_num, HBA.out⟩
              · obtain rfl : t = 4 := by omega
                have hgt : decide (((4 : Nat) : Int) < 4) = false := by simp
                go_wp2_with fail
                refine (HCN.out _ HB9.out).mono ?_
                rintro e WA ⟨rfl, hb⟩
                have hbA := hb.trans ((bel1 WA (.cells #[.int .u32 0, .int .u32 0, .int .u32 0, .int .u32 0] 56)).mono hb.size)
                have HBB := Lib.hid (HB9.out.trans (hbA.mono HB9.out.size))
                clear hb hbA
                go_wp2_with fail
                go_roundg (4 - (i + 1))
                case measure => rw [HM1.out]; omega
                case rel => exact ⟨i + 1, rfl, hlt, by go_num, HBB.out⟩
          · obtain rfl : i = 4 := by omega
            have hgi : decide (((4 : Nat) : Int) < 4) = false := by simp
            have HCN := Lib.hid (centre_no HS7.out (x := 1) (by rw [show lvZ M 1 = ((0 : Nat) : Int) from sq_alive HS7.out.wf]; omega) (by omega))
            go_wp2_with fail
            refine HCN.out.mono ?_
            rintro e WA ⟨rfl, hb⟩
            have hbA := hb.trans ((bel1 WA (.cells #[.int .u32 0, .int .u32 0, .int .u32 0, .int .u32 0] 56)).mono hb.size)
            have hb7 := HB7.out.trans (hbA.mono HB7.out.size)
            have HBB := Lib.hid (HB6.out.trans (hb7.mono HB6.out.size))
            clear hb hbA hb7
            go_wp2_with fail
            go_ret
            exact ⟨rfl, HBB.out⟩
  · exfalso
    omega
theorem qcentre_walk (c : Int) (_ : (Lit.int .u64 c).wf = true) (w : World) : Calls Try.prog 4 #[.int .u64 c] w fun e w' => e = .returned (.bool true) ∧ Below w.heap.size w w' := qcentre_any c w
end Go.Proofs.Ytfkjfkjhipieaaa
