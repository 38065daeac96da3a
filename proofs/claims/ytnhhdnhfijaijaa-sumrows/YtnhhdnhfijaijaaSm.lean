/- sum.step, take, times, Join: contracts. -/
import Derived.Test.YtnhhdnhfijaijaaRw
import Derived.Test.YtnhhdnhfijaijaaMul
import Derived.Laws.BitsAllLaws
namespace Go.Proofs.Ytnhhdnhfijaijaa
open Go.RowKit

theorem lt32 (s : BitVec 32) : s.toNat < 4294967296 := s.isLt
theorem xor_val (a b : BitVec 32) : bits .xor .u32 (a.toNat : Int) (b.toNat : Int) = ((a ^^^ b).toNat : Int) := by
  rw [u32_xor_nat _ _ (lt32 a) (lt32 b), BitVec.toNat_xor]
theorem step_val (s : BitVec 32) : bits .xor .u32 ((s.toNat : Int) * 2 % 4294967296) ((s.toNat : Int) / 2147483648 * 79764919) = ((stp s).toNat : Int) := by
  have hs := lt32 s
  rw [stp_nat]
  by_cases h : 2147483648 ≤ s.toNat
  · have e : (s.toNat : Int) / 2147483648 * 79764919 = ((79764919 : Nat) : Int) := by omega
    rw [if_pos h, e, show (s.toNat : Int) * 2 % 4294967296 = ((s.toNat * 2 % 4294967296 : Nat) : Int) by omega, u32_xor_nat _ _ (by omega) (by omega)]
  · have e : (s.toNat : Int) / 2147483648 * 79764919 = ((0 : Nat) : Int) := by omega
    rw [if_neg h, e, show (s.toNat : Int) * 2 % 4294967296 = ((s.toNat * 2 % 4294967296 : Nat) : Int) by omega, u32_xor_nat _ _ (by omega) (by omega)]

set_option maxRecDepth 100000 in
set_option maxHeartbeats 1000000 in
theorem step_any (s : BitVec 32) (w : World) :
    Calls Try.prog 19 #[.int .u32 (s.toNat : Int)] w fun e w' => e = .returned (.int .u32 ((stp s).toNat : Int)) ∧ w = w' := by
  have hs := lt32 s
  have hv := step_val s
  generalize (stp s).toNat = r at *
  generalize s.toNat = n at *
  have HV := Lib.hid hv
  clear hv
  go_enter Try.func19, Try.ntmps19
  go_wp2
  go_ret
  exact ⟨by rw [← HV.out]; rfl, rfl⟩

theorem take_val (s : BitVec 32) (c : Nat) (h : c < 256) : bits .xor .u32 (s.toNat : Int) ((c : Int) * 16777216) = ((s ^^^ BitVec.ofNat 32 (c * 16777216)).toNat : Int) := by
  rw [← xor_val, BitVec.toNat_ofNat, Nat.mod_eq_of_lt (by omega)]
  congr 1
set_option maxRecDepth 100000 in
set_option maxHeartbeats 1000000 in
theorem take_any (s : BitVec 32) (c : Nat) (h : c < 256) (w : World) :
    Calls Try.prog 17 #[.int .u32 (s.toNat : Int), .int .u8 (c : Int)] w fun e w' => e = .returned (.int .u32 ((addBits s (bits8 c)).toNat : Int)) ∧ w = w' := by
  rw [addBits_byte s c h]
  have hv := take_val s c h
  have hs := lt32 s
  generalize s ^^^ BitVec.ofNat 32 (c * 16777216) = t at *
  generalize s.toNat = n at *
  have HV := Lib.hid hv
  clear hv
  generalize hr : (stps 8 t).toNat = r at *
  have HR := Lib.hid hr
  clear hr
  go_enter Try.func17, Try.ntmps17
  go_wp2
  rw [HV.out]
  clear HV
  generalize (c : Int) * 16777216 = q at *
  go_loopg [0, 10] 8 (fun m x i wr => ∃ j : Nat, m = 8 - j ∧ j ≤ 8 ∧ i = .int .i64 (j : Int) ∧ x = .int .u32 ((stps j t).toNat : Int) ∧ wr = w)
  case atStart => exact ⟨0, by omega, by omega, rfl, rfl, rfl⟩
  case round =>
    obtain ⟨j, hm, hj, rfl, rfl, rfl⟩ := hrel
    have HM := Lib.hid hm
    clear hm
    by_cases hlt : j < 8
    · have HS := Lib.hid (step_any (stps j t))
      have hn := stps_next j t
      rw [← hn] at HS
      clear hn
      generalize (stps j t).toNat = u at *
      generalize hv : (stps (j + 1) t).toNat = v at *
      have HV2 := Lib.hid hv
      clear hv
      go_wp2_with fail
      refine (HS.out _).mono ?_
      rintro e w' ⟨rfl, rfl⟩
      go_wp2
      go_roundg (8 - (j + 1))
      case measure => rw [HM.out]; omega
      case rel => exact ⟨j + 1, rfl, by omega, by go_num, by rw [HV2.out], rfl⟩
    · obtain rfl : j = 8 := by omega
      rw [HR.out]
      go_wp2
      go_ret
      exact ⟨rfl, rfl⟩

theorem i64_and_one (z : Int) : bits .and .i64 z 1 = z % 2 := by
  have h1 : (BitVec.ofInt 64 1).toNat = 2 ^ 1 - 1 := by decide
  have key : (BitVec.ofInt 64 z &&& BitVec.ofInt 64 1).toNat = (z % ((2 ^ 64 : Nat) : Int)).toNat % 2 ^ 1 := by
    rw [BitVec.toNat_and, BitVec.toNat_ofInt, h1, Nat.and_two_pow_sub_one_eq_mod]
  show IntKind.i64.wrap ((BitVec.ofInt 64 z &&& BitVec.ofInt 64 1).toNat : Nat) = z % 2
  rw [key, IntKind.wrap_i64]
  omega
theorem bit_test (b : BitVec 32) (k : Nat) : (bits .and .u32 ((b.toNat : Int) / 2 ^ k) 1 == 1) = b.getLsbD k := by
  have hb := lt32 b
  have h : b.getLsbD k = decide (b.toNat / 2 ^ k % 2 = 1) := by
    rw [← BitVec.testBit_toNat, Nat.testBit_eq_decide_div_mod_eq]
  have e : (b.toNat : Int) / 2 ^ k = ((b.toNat / 2 ^ k : Nat) : Int) := by simp
  have hd : b.toNat / 2 ^ k ≤ b.toNat := Nat.div_le_self _ _
  rw [h, e, show (1 : Int) = ((1 : Nat) : Int) from rfl, u32_and_nat _ _ (by omega) (by omega), Nat.and_one_is_mod]
  rcases Nat.mod_two_eq_zero_or_one (b.toNat / 2 ^ k) with h | h <;> rw [h] <;> rfl
set_option maxRecDepth 100000 in
set_option maxHeartbeats 1000000 in
theorem times_any (a b : BitVec 32) (w : World) :
    Calls Try.prog 18 #[.int .u32 (a.toNat : Int), .int .u32 (b.toNat : Int)] w fun e w' => e = .returned (.int .u32 ((mul a b).toNat : Int)) ∧ w = w' := by
  generalize hr : (mul a b).toNat = r at *
  have HR := Lib.hid hr
  clear hr
  have ha := lt32 a
  have hb := lt32 b
  have HBV := Lib.hid (bit_test b)
  have HXV := Lib.hid (fun x => xor_val x a)
  generalize a.toNat = n at *
  generalize b.toNat = m at *
  go_enter Try.func18, Try.ntmps18
  go_wp2
  go_loopg [5, 6] 32 (fun q x i wr => ∃ j : Nat, q = 32 - j ∧ j ≤ 32 ∧ i = .int .i64 (31 - (j : Int)) ∧ x = .int .u32 ((hor a b j).toNat : Int) ∧ wr = w)
  case atStart => exact ⟨0, by omega, by omega, rfl, rfl, rfl⟩
  case round =>
    obtain ⟨j, hm, hj, rfl, rfl, rfl⟩ := hrel
    have HM := Lib.hid hm
    clear hm
    by_cases hlt : j < 32
    · have HS := Lib.hid (step_any (hor a b j))
      have HU := Lib.hid (lt32 (stp (hor a b j)))
      have hbv := HBV.out (31 - j)
      have hns : hor a b (j + 1) = stp (hor a b j) ^^^ (if b.getLsbD (31 - j) then a else 0#32) := rfl
      have HNS := Lib.hid hns
      clear hns
      generalize stp (hor a b j) = t at *
      generalize (hor a b j).toNat = u at *
      cases hbit : b.getLsbD (31 - j)
      · rw [hbit] at hbv HNS
        rw [if_neg (by simp), BitVec.xor_zero] at HNS
        clear hbit
        go_wp2_with fail
        refine (HS.out _).mono ?_
        rintro e w' ⟨rfl, rfl⟩
        go_wp2
        go_roundg (32 - (j + 1))
        case measure => rw [HM.out]; omega
        case rel => exact ⟨j + 1, rfl, by omega, by go_num, by rw [HNS.out], rfl⟩
      · rw [hbit] at hbv HNS
        rw [if_pos rfl] at HNS
        clear hbit
        have HXT := Lib.hid (HXV.out t)
        rw [← HNS.out] at HXT
        generalize hv : (hor a b (j + 1)).toNat = v at *
        have HV2 := Lib.hid hv
        clear hv
        generalize t.toNat = tn at *
        have htn := HU.out
        go_wp2_with fail
        refine (HS.out _).mono ?_
        rintro e w' ⟨rfl, rfl⟩
        go_wp2
        go_roundg (32 - (j + 1))
        case measure => rw [HM.out]; omega
        case rel => exact ⟨j + 1, rfl, by omega, by go_num, by rw [HV2.out, HXT.out], rfl⟩
    · obtain rfl : j = 32 := by omega
      have hr : (hor a b 32).toNat = r := HR.out
      rw [hr]
      go_wp2
      go_ret
      exact ⟨rfl, rfl⟩
set_option maxRecDepth 100000 in
set_option maxHeartbeats 1000000 in
theorem join_any (a b : BitVec 32) (L : Int) (hL : L ≤ 9223372036854775807) (w : World) :
    Calls Try.prog 16 #[.int .u32 (a.toNat : Int), .int .u32 (b.toNat : Int), .int .i64 L] w fun e w' => e = .returned (.int .u32 ((stps (8 * L.toNat) a ^^^ b).toNat : Int)) ∧ w = w' := by
  generalize hr : (stps (8 * L.toNat) a ^^^ b).toNat = r at *
  have HR := Lib.hid hr
  clear hr
  have hb := lt32 b
  have HXV := Lib.hid (fun x => xor_val x b)
  generalize b.toNat = m at *
  go_enter Try.func16, Try.ntmps16
  go_wp2
  go_loopg [0, 2, 7] L.toNat (fun q x l p wr => ∃ (z : Int) (d : Nat) (u : BitVec 32), z ≤ 9223372036854775807 ∧ q = z.toNat ∧ l = .int .i64 z ∧ x = .int .u32 (u.toNat : Int) ∧ p = .int .u32 ((stps d 1#32).toNat : Int) ∧ stps (d * z.toNat) u = stps (8 * L.toNat) a ∧ wr = w)
  case atStart => exact ⟨L, 8, a, hL, rfl, rfl, rfl, rfl, rfl, rfl⟩
  case round =>
    obtain ⟨z, d, u, hz, hm, rfl, rfl, rfl, he, rfl⟩ := hrel
    have HM := Lib.hid hm
    have HE := Lib.hid he
    clear hm he
    by_cases hlt : 0 < z
    · have HT := Lib.hid (times_any u (stps d 1#32))
      rw [mul_stps] at HT
      have HP := Lib.hid (times_any (stps d 1#32) (stps d 1#32))
      rw [power_twice] at HP
      have HSE := Lib.hid (round_even d z.toNat)
      have HSO := Lib.hid (round_odd d z.toNat)
      generalize hp : (stps d 1#32).toNat = p at *
      generalize hp2 : (stps (2 * d) 1#32).toNat = p2 at *
      have HP2 := Lib.hid hp2
      clear hp hp2
      have hz2 : (z / 2).toNat = z.toNat / 2 := by omega
      have HZ2 := Lib.hid hz2
      clear hz2
      by_cases hodd : z % 2 = 1
      · have htest : (bits .and .i64 z 1 == 1) = true := by rw [i64_and_one, hodd]; rfl
        generalize hv : (stps d u).toNat = v at *
        have HV := Lib.hid hv
        clear hv
        generalize hun : u.toNat = un at *
        have HUN := Lib.hid hun
        clear hun
        go_wp2_with fail
        refine (HT.out _).mono ?_
        rintro e w' ⟨rfl, rfl⟩
        go_wp2_with fail
        refine (HP.out _).mono ?_
        rintro e w' ⟨rfl, rfl⟩
        go_wp2
        go_roundg (z / 2).toNat
        case measure => rw [HM.out]; omega
        case rel => exact ⟨z / 2, 2 * d, stps d u, by omega, rfl, by go_num, by rw [HV.out], by rw [HP2.out], by rw [HZ2.out, HSO.out u (by omega), HE.out], rfl⟩
      · have htest : (bits .and .i64 z 1 == 1) = false := by rw [i64_and_one]; simpa using hodd
        generalize hun : u.toNat = un at *
        have HUN := Lib.hid hun
        clear hun
        go_wp2_with fail
        refine (HP.out _).mono ?_
        rintro e w' ⟨rfl, rfl⟩
        go_wp2
        go_roundg (z / 2).toNat
        case measure => rw [HM.out]; omega
        case rel => exact ⟨z / 2, 2 * d, u, by omega, rfl, by go_num, by rw [HUN.out], by rw [HP2.out], by rw [HZ2.out, HSE.out u (by omega), HE.out], rfl⟩
    · have hxv := HXV.out u
      rw [show d * z.toNat = 0 by rw [show z.toNat = 0 by omega, Nat.mul_zero]] at HE
      rw [show u = stps (8 * L.toNat) a from HE.out, HR.out] at hxv
      rw [show u = stps (8 * L.toNat) a from HE.out]
      generalize (stps (8 * L.toNat) a).toNat = g at *
      have HXX := Lib.hid hxv
      clear hxv
      go_wp2
      go_ret
      exact ⟨by rw [← HXX.out]; rfl, rfl⟩
end Go.Proofs.Ytnhhdnhfijaijaa
