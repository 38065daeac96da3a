/- The law SumJoins: its walk. -/
import Derived.Test.YtnhhdnhfijaijaaSm3
import Derived.Test.YtnhhdnhfijaijaaApd
namespace Go.Proofs.Ytnhhdnhfijaijaa
open Go.RowKit

theorem join_none (x : BitVec 32) (n : Int) (hn : n ≤ 0) (w : World) :
    Calls Try.prog 16 #[.int .u32 (x.toNat : Int), .int .u32 0, .int .i64 n] w fun e w' => e = .returned (.int .u32 (x.toNat : Int)) ∧ w = w' := by
  have h := join_any x 0#32 n (by omega) w
  rw [show n.toNat = 0 by omega, BitVec.xor_zero] at h
  exact h
theorem join_behind (x : BitVec 32) (n : Int) (hn : n ≤ 1000000000) (w : World) :
    Calls Try.prog 16 #[.int .u32 0, .int .u32 (x.toNat : Int), .int .i64 n] w fun e w' => e = .returned (.int .u32 (x.toNat : Int)) ∧ w = w' := by
  have h := join_any 0#32 x n (by omega) w
  rw [stps_zero, BitVec.zero_xor] at h
  exact h

set_option maxRecDepth 100000 in
set_option maxHeartbeats 1000000 in
theorem sjoins_great (a0 a1 a2 : Option Addr) (n0 n1 n2 c0 c1 c2 : Nat) (w : World) (h0 : n0 ≤ 1000000000000000) (h1 : n1 ≤ 1000000000000000) (h2 : n2 ≤ 1000000000000000) (h : 3000 < n0 + n1 + n2) :
    Calls Try.prog 5 #[.slice a0 n0 c0, .slice a1 n1 c1, .slice a2 n2 c2] w fun e w' => e = .returned (.bool true) ∧ Below w.heap.size w w' := by
  have hs : (3000 : Int) < (n0 : Int) + (n1 : Int) + (n2 : Int) := by omega
  go_enter Try.func5, Try.ntmps5
  go_wp2_with fail
  refine (lives3_any w).mono ?_
  rintro e w1 ⟨rfl, hb⟩
  have HB := Lib.hid hb
  clear hb
  go_wp2_with fail
  refine (lives3_any w1).mono ?_
  rintro e w2 ⟨rfl, hb⟩
  have HB2 := Lib.hid hb
  clear hb
  go_wp2
  go_ret
  exact ⟨rfl, HB.out.trans (HB2.out.mono HB.out.size)⟩

set_option maxRecDepth 100000 in
set_option maxHeartbeats 4000000 in
theorem sjoins_small (a0 a1 a2 : Option Addr) (c0 c1 c2 : Nat) (x y z : List Int) (w : World) (h : x.length + y.length + z.length ≤ 3000)
    (r0 : Row .u8 w w.heap.size a0 x) (r1 : Row .u8 w w.heap.size a1 y) (r2 : Row .u8 w w.heap.size a2 z) (n0 : a0 = none → c0 = 0) (n1 : a1 = none → c1 = 0) (n2 : a2 = none → c2 = 0)
    (z0 : ∀ v ∈ x, 0 ≤ v ∧ v ≤ 255) (z1 : ∀ v ∈ y, 0 ≤ v ∧ v ≤ 255) (z2 : ∀ v ∈ z, 0 ≤ v ∧ v ≤ 255) :
    Calls Try.prog 5 #[.slice a0 x.length c0, .slice a1 y.length c1, .slice a2 z.length c2] w fun e w' => e = .returned (.bool true) ∧ Below w.heap.size w w' := by
  have hd : decide ((3000 : Int) < (x.length : Int) + (y.length : Int) + (z.length : Int)) = false := decide_eq_false (by omega)
  have R0 := Lib.hid r0
  have R1 := Lib.hid r1
  have R2 := Lib.hid r2
  have Z0 := Lib.hid z0
  have Z1 := Lib.hid z1
  have Z2 := Lib.hid z2
  have N0 := Lib.hid n0
  have N1 := Lib.hid n1
  have N2 := Lib.hid n2
  clear r0 r1 r2 z0 z1 z2 n0 n1 n2
  go_enter Try.func5, Try.ntmps5
  go_wp2_with fail
  refine (lives3_any w).mono ?_
  rintro e w1 ⟨rfl, hb⟩
  have HB1 := Lib.hid hb
  clear hb
  go_wp2_with fail
  refine (of_any x a0 c0 w1 ((R0.out.later HB1.out (Nat.le_refl _)).mono HB1.out.size) Z0.out (by omega)).mono ?_
  rintro e w2 ⟨rfl, hb⟩
  have HB2 := Lib.hid (HB1.out.trans (hb.mono HB1.out.size))
  clear hb HB1
  go_wp2_with fail
  refine (of_any y a1 c1 w2 ((R1.out.later HB2.out (Nat.le_refl _)).mono HB2.out.size) Z1.out (by omega)).mono ?_
  rintro e w3 ⟨rfl, hb⟩
  have HB3 := Lib.hid (HB2.out.trans (hb.mono HB2.out.size))
  clear hb HB2
  go_wp2_with fail
  refine (of_any z a2 c2 w3 ((R2.out.later HB3.out (Nat.le_refl _)).mono HB3.out.size) Z2.out (by omega)).mono ?_
  rintro e w4 ⟨rfl, hb⟩
  have HB4 := Lib.hid (HB3.out.trans (hb.mono HB3.out.size))
  clear hb HB3
  have HJ1 := Lib.hid (join_crc x y (y.length : Int) rfl (by omega))
  have HJ2 := Lib.hid (join_crc (x ++ y) z (z.length : Int) rfl (by omega))
  have HJ3 := Lib.hid (join_crc y z (z.length : Int) rfl (by omega))
  have HJ4 := Lib.hid (join_crc x (y ++ z) ((y.length : Int) + (z.length : Int)) (by rw [List.length_append]; omega) (by rw [List.length_append]; omega))
  have HJ5 := Lib.hid (fun n hn => join_none (crcz x) n hn)
  have HJ6 := Lib.hid (fun n hn => join_behind (crcz x) n hn)
  rw [← List.append_assoc] at HJ4
  generalize hXYZ : (crcz (x ++ y ++ z)).toNat = K at *
  have HK := Lib.hid hXYZ
  clear hXYZ
  generalize (crcz (x ++ y)).toNat = XY at *
  generalize (crcz (y ++ z)).toNat = YZ at *
  generalize (crcz x).toNat = X at *
  generalize (crcz y).toNat = Y at *
  generalize (crcz z).toNat = Z at *
  go_wp2_with fail
  refine (HJ1.out _).mono ?_
  rintro e w' ⟨rfl, rfl⟩
  go_wp2_with fail
  refine (HJ2.out _).mono ?_
  rintro e w' ⟨rfl, rfl⟩
  go_wp2_with fail
  refine (HJ3.out _).mono ?_
  rintro e w' ⟨rfl, rfl⟩
  go_wp2_with fail
  refine (HJ4.out _).mono ?_
  rintro e w' ⟨rfl, rfl⟩
  clear HJ1 HJ2 HJ3 HJ4
  have hws := HB4.out.size
  have HO4 := Lib.hid (own_built w4 w.heap.size hws)
  have HBA := Lib.hid (HB4.out.alloc hws (.cells #[] 5))
  go_wp2_with (first | (at_builtin; refine apd_own rfl _ _ rfl w.heap.size _ [] rfl HO4.out a0 _ c0 x rfl rfl N0.out (Nat.le_refl _) HBA.out R0.out ?_ ?_; (simp; omega); (intro v5 w5 h5 hb5; have HO5 := Lib.hid h5; have HB5 := Lib.hid hb5; clear h5 hb5)) | (at_builtin; refine apd_own rfl _ _ rfl w.heap.size _ _ rfl HO5.out a1 _ c1 y rfl rfl N1.out (Nat.le_refl _) HB5.out R1.out ?_ ?_; (simp; omega); (intro v6 w6 h6 hb6; have HO6 := Lib.hid h6; have HB6 := Lib.hid hb6; clear h6 hb6)) | (at_builtin; refine apd_own rfl _ _ rfl w.heap.size _ _ rfl HO6.out a2 _ c2 z rfl rfl N2.out (Nat.le_refl _) HB6.out R2.out ?_ ?_; (simp; omega); (intro v7 w7 h7 hb7; have HO7 := Lib.hid h7; have HB7 := Lib.hid hb7; clear h7 hb7)))
  have ho7 := HO7.out
  rw [List.nil_append] at ho7
  obtain ⟨a7, c7, rfl, _, _, hr7⟩ := ho7.row
  have hlen : (x ++ y ++ z).length ≤ 1000000000 := by rw [List.length_append, List.length_append]; omega
  have HF := Lib.hid (rof_any (x ++ y ++ z) w7.heap.size a7 c7 w7 hr7 (by
    intro v hv
    rcases List.mem_append.1 hv with hv | hv
    · rcases List.mem_append.1 hv with hv | hv
      · exact Z0.out v hv
      · exact Z1.out v hv
    · exact Z2.out v hv) hlen)
  rw [HK.out] at HF
  clear ho7 hr7 hlen HO4 HO5 HO6 HO7 HBA HB4 HB5 HB6 HK
  refine HF.out.mono ?_
  rintro e w' ⟨rfl, rfl⟩
  clear HF
  go_wp2_with fail
  refine (HJ5.out _ (by omega) _).mono ?_
  rintro e w' ⟨rfl, rfl⟩
  go_wp2_with fail
  refine (HJ5.out _ (by omega) _).mono ?_
  rintro e w' ⟨rfl, rfl⟩
  go_wp2_with fail
  refine (HJ6.out _ (by omega) _).mono ?_
  rintro e w' ⟨rfl, rfl⟩
  go_wp2
  go_ret
  exact ⟨rfl, HB7.out⟩
end Go.Proofs.Ytnhhdnhfijaijaa
