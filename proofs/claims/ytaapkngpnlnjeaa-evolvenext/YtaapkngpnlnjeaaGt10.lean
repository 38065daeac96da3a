/- The laws of layer 10: get, same, cells: contracts. -/
import Derived.Test.YtaapkngpnlnjeaaKn10
import Derived.Test.YtaapkngpnlnjeaaNx9
namespace Go.Proofs.Ytaapkngpnlnjeaa
open Go.RowKit Go.Maps
set_option maxRecDepth 100000

set_option maxHeartbeats 2000000 in
theorem get10_any {w : World} {sb g tb cap most : Nat} {N : List Nd} (h : St w sb g tb cap most N) {n x : Nat} (hn : n ≤ 6) (hx : Sq N n x) (X Y : Nat) (hX : X < 2 ^ n) (hY : Y < 2 ^ n) :
    Calls Try.prog 30 #[.pointer (some ⟨sb, 0, none⟩), .int .u32 (x : Int), .int .i64 (X : Int), .int .i64 (Y : Int)] w fun e w' => e = .returned (.bool (decide (getZ N n x (X : Int) (Y : Int) = 1))) ∧ Below w.heap.size w w' := by
  have HS := Lib.hid h
  have HX0 := Lib.hid hx
  have HXY := Lib.hid (And.intro hX hY)
  have HN6 := Lib.hid hn
  have HWF := Lib.hid h.wf
  clear h hx hX hY hn
  go_enter Try.func30, Try.ntmps30
  go_wp2_with fail
  go_loopg [1, 2, 3, 9, 10, 11, 12] n (fun mm v1 v2 v3 v9 v10 v11 v12 wr => ∃ (k z A B : Nat), mm = k ∧ k ≤ 6 ∧ v1 = .int .u32 (z : Int) ∧ v2 = .int .i64 (A : Int) ∧ v3 = .int .i64 (B : Int) ∧ Sq N k z ∧ A < 2 ^ k ∧ B < 2 ^ k ∧ getZ N k z (A : Int) (B : Int) = getZ N n x (X : Int) (Y : Int) ∧ Below w.heap.size w wr)
  case atStart => exact ⟨n, x, X, Y, rfl, HN6.out, rfl, rfl, rfl, HX0.out, HXY.out.1, HXY.out.2, rfl, Below.refl _ _⟩
  case round =>
    obtain ⟨k, z, A, B, hm, hk, rfl, rfl, rfl, hz, hA, hB, hg, hb⟩ := hrel
    have HMM := Lib.hid hm
    clear hm
    have HSr := Lib.hid (HS.out.later hb)
    have HBr := Lib.hid hb
    have HZ := Lib.hid hz
    have HG := Lib.hid hg
    have hzu := Sq.u32 HSr.out hz
    have HLV := Lib.hid (level_any HSr.out z hzu)
    rw [show lvZ N z = ((k : Nat) : Int) from hz] at HLV
    clear hz hg hb
    cases k with
    | zero =>
      have g0 : decide (((0 : Nat) : Int) > 0) = false := by simp
      go_wp2_with fail
      refine HLV.out.mono ?_
      rintro e w5 ⟨rfl, rfl⟩
      have hz01 := (show Sq N 0 z from HZ.out).zero HWF.out
      have hgz : ((z : Int) == 1) = decide (getZ N n x (X : Int) (Y : Int) = 1) := by
        rw [← HG.out]
        show _ = decide (z = 1)
        rw [Bool.eq_iff_iff, beq_iff_eq, decide_eq_true_eq]; omega
      have HGZ := Lib.hid hgz
      clear hgz
      go_wp2_with fail
      go_ret
      rw [← HGZ.out]
      exact ⟨rfl, HBr.out⟩
    | succ k =>
      have g0 : decide (0 < ((k + 1 : Nat) : Int)) = true := by rw [decide_eq_true_eq]; omega
      obtain ⟨H, hH⟩ : ∃ H : Nat, H = 2 ^ k := ⟨_, rfl⟩
      have hHi : (2 : Int) ^ k = (H : Int) := by rw [hH]; exact (pow_nat k).symm
      have hp2 : 2 ^ (k + 1) = 2 * H := by rw [Nat.pow_succ, hH]; omega
      rw [hp2] at hA hB
      have hH64 : H ≤ 64 := by rw [hH]; exact Nat.pow_le_pow_right (n := 2) (by decide) (show k ≤ 6 by omega)
      have g1 : wrap64 (2 ^ k) = (H : Int) := by rw [hHi]; exact IntWalk.wrap64_in _ (by omega)
      have HH := Lib.hid hH
      have HHI := Lib.hid hHi
      have HK1 := Lib.hid (fo_iff.1 (HZ.out.kid HWF.out))
      clear hH hHi hp2
      go_wp2_with fail
      refine HLV.out.mono ?_
      rintro e w5 ⟨rfl, rfl⟩
      go_wp2_with fail
      refine (of_sqk HSr.out HZ.out).mono ?_
      rintro e w6 ⟨rfl, hb⟩
      have HKZ : Hid (∀ A B : Int, getZ N (k + 1) z A B = getZ N k (kAt (kidZ N z) (pl (qb k A) (qb k B))) A B) := fun A B => by rw [← pick_kAt]; rfl
      generalize kidZ N z = k1 at *
      have hb6 := hb.trans ((bel1 w6 (.cells #[.int .u32 (k1.1 : Int), .int .u32 (k1.2.1 : Int), .int .u32 (k1.2.2.1 : Int), .int .u32 (k1.2.2.2 : Int)] 46)).mono hb.size)
      have HB6 := Lib.hid (HBr.out.trans (hb6.mono HBr.out.size))
      have HS6 := Lib.hid (HSr.out.later hb6)
      have HK6 : Hid ((w6.alloc (.cells #[.int .u32 (k1.1 : Int), .int .u32 (k1.2.1 : Int), .int .u32 (k1.2.2.1 : Int), .int .u32 (k1.2.2.2 : Int)] 46)).heap[w6.heap.size]? = some (kO k1)) := heap_alloc_new w6 _
      have HLV6 := Lib.hid (level_any HS6.out z hzu)
      rw [show lvZ N z = ((k + 1 : Nat) : Int) from HZ.out] at HLV6
      clear hb hb6 HBr HSr HLV
      go_wp2_with fail
      generalize w6.alloc (.cells #[.int .u32 (k1.1 : Int), .int .u32 (k1.2.1 : Int), .int .u32 (k1.2.2.1 : Int), .int .u32 (k1.2.2.2 : Int)] 46) = w7 at *
      generalize w6.heap.size = kb at *
      refine HLV6.out.mono ?_
      rintro e w8 ⟨rfl, rfl⟩
      obtain ⟨c0, c1, c2, c3⟩ := k_cells HK6.out
      clear HLV6
      have hqb : ∀ A : Nat, A < 2 * H → qb k (A : Int) = decide (H ≤ A) := fun A hA => by
        have := HHI.out
        by_cases h : H ≤ A
        · rw [decide_eq_true h]
          exact qb_hi (by omega) (by rw [pow_two2]; omega)
        · rw [decide_eq_false h]
          exact qb_lo (by omega) (by omega)
      have HQB := Lib.hid hqb
      clear hqb
      have HNXT : Hid (∀ (A' B' : Nat) (r b : Bool), r = decide (H ≤ A) → b = decide (H ≤ B) → (A' : Int) = (A : Int) - off k r → (B' : Int) = (B : Int) - off k b → getZ N k (kAt k1 (pl r b)) (A' : Int) (B' : Int) = getZ N n x (X : Int) (Y : Int)) := fun A' B' r b hr hb h1 h2 => by
        rw [← HG.out, HKZ.out, HQB.out A hA, HQB.out B hB, ← hr, ← hb, h1, h2, get_off]
      have HK1' := Lib.hid HK1.out
      by_cases hAH : H ≤ A
      · have j1 : decide (H ≤ A) = true := by simp; omega
        by_cases hBH : H ≤ B
        · have j2 : decide (H ≤ B) = true := by simp; omega
          go_wp2_with (first | (rw [g1]) | fail)
          go_roundg k
          case measure => rw [HMM.out]; omega
          case rel => exact ⟨k, kAt k1 (pl true true), A - H, B - H, rfl, by omega, rfl, by go_num, by go_num, HK1'.out _ (pl_lt _ _), by have := HH.out; omega, by have := HH.out; omega, HNXT.out (A - H) (B - H) true true j1.symm j2.symm (by have := HHI.out; first | (simp [off]; done) | (simp [off]; omega)) (by have := HHI.out; first | (simp [off]; done) | (simp [off]; omega)), HB6.out⟩
        · have j2 : decide (H ≤ B) = false := by simp; omega
          go_wp2_with (first | (rw [g1]) | fail)
          go_roundg k
          case measure => rw [HMM.out]; omega
          case rel => exact ⟨k, kAt k1 (pl true false), A - H, B, rfl, by omega, rfl, by go_num, by go_num, HK1'.out _ (pl_lt _ _), by have := HH.out; omega, by have := HH.out; omega, HNXT.out (A - H) (B) true false j1.symm j2.symm (by have := HHI.out; first | (simp [off]; done) | (simp [off]; omega)) (by have := HHI.out; first | (simp [off]; done) | (simp [off]; omega)), HB6.out⟩
      · have j1 : decide (H ≤ A) = false := by simp; omega
        by_cases hBH : H ≤ B
        · have j2 : decide (H ≤ B) = true := by simp; omega
          go_wp2_with (first | (rw [g1]) | fail)
          go_roundg k
          case measure => rw [HMM.out]; omega
          case rel => exact ⟨k, kAt k1 (pl false true), A, B - H, rfl, by omega, rfl, by go_num, by go_num, HK1'.out _ (pl_lt _ _), by have := HH.out; omega, by have := HH.out; omega, HNXT.out (A) (B - H) false true j1.symm j2.symm (by have := HHI.out; first | (simp [off]; done) | (simp [off]; omega)) (by have := HHI.out; first | (simp [off]; done) | (simp [off]; omega)), HB6.out⟩
        · have j2 : decide (H ≤ B) = false := by simp; omega
          go_wp2_with (first | (rw [g1]) | fail)
          go_roundg k
          case measure => rw [HMM.out]; omega
          case rel => exact ⟨k, kAt k1 (pl false false), A, B, rfl, by omega, rfl, by go_num, by go_num, HK1'.out _ (pl_lt _ _), by have := HH.out; omega, by have := HH.out; omega, HNXT.out (A) (B) false false j1.symm j2.symm (by have := HHI.out; first | (simp [off]; done) | (simp [off]; omega)) (by have := HHI.out; first | (simp [off]; done) | (simp [off]; omega)), HB6.out⟩
end Go.Proofs.Ytaapkngpnlnjeaa
