/- The document's Of, bit by bit; the laws' own example of layer 3: contracts. -/
import Derived.Test.YtnhhdnhfijaijaaSm2
import Derived.Lib.SlBytesConst
import Derived.Lib.SmallJoins
namespace Go.Proofs.Ytnhhdnhfijaijaa
open Go.RowKit

theorem addBit_nat (s : BitVec 32) (b : Bool) : (addBit s b).toNat = (s.toNat * 2 % 4294967296) ^^^ (if b = decide (2147483648 ≤ s.toNat) then 0 else 79764919) := by
  have hm : s.msb = decide (2147483648 ≤ s.toNat) := by
    rw [BitVec.msb_eq_decide]
  unfold addBit
  rw [stp_xor]
  have h1 : stp (if b then 2147483648#32 else 0#32) = if b then 79764919#32 else 0#32 := by cases b <;> decide
  rw [h1]
  unfold stp
  rw [BitVec.xor_assoc, BitVec.toNat_xor, BitVec.toNat_shiftLeft, Nat.shiftLeft_eq, ← hm]
  congr 1
  cases b <;> cases s.msb <;> decide
theorem bits8_next (c j : Nat) (h : j < 8) : (bits8 c).take (j + 1) = (bits8 c).take j ++ [c.testBit (7 - j)] := by
  match j, h with
  | 0, _ => rfl
  | 1, _ => rfl
  | 2, _ => rfl
  | 3, _ => rfl
  | 4, _ => rfl
  | 5, _ => rfl
  | 6, _ => rfl
  | 7, _ => rfl
theorem addBits_next (s : BitVec 32) (c j : Nat) (h : j < 8) : addBits s ((bits8 c).take (j + 1)) = addBit (addBits s ((bits8 c).take j)) (c.testBit (7 - j)) := by
  rw [bits8_next c j h, addBits_app]; rfl
/-- A bit of the document's: the test that its code makes. -/
theorem bit_same (s : BitVec 32) (c : Int) (h0 : 0 ≤ c) (k : Nat) : (c / 2 ^ k % 2 == (s.toNat : Int) / 2147483648) = decide (c.toNat.testBit k = decide (2147483648 ≤ s.toNat)) := by
  have hs := lt32 s
  have e : c / 2 ^ k % 2 = ((c.toNat / 2 ^ k % 2 : Nat) : Int) := by
    have : c = ((c.toNat : Nat) : Int) := by omega
    rw [this]; simp
  rw [e, Nat.testBit_eq_decide_div_mod_eq]
  rcases Nat.mod_two_eq_zero_or_one (c.toNat / 2 ^ k) with h | h
  · rw [h]
    by_cases g : 2147483648 ≤ s.toNat
    · rw [show ((s.toNat : Int) / 2147483648) = 1 by omega]; simp [g]
    · rw [show ((s.toNat : Int) / 2147483648) = 0 by omega]; simp; omega
  · rw [h]
    by_cases g : 2147483648 ≤ s.toNat
    · rw [show ((s.toNat : Int) / 2147483648) = 1 by omega]; simp [g]
    · rw [show ((s.toNat : Int) / 2147483648) = 0 by omega]; simp; omega

set_option maxRecDepth 100000 in
set_option maxHeartbeats 1000000 in
theorem rof_any (zs : List Int) (B : Nat) (a : Option Addr) (c : Nat) (w : World) (hr : Row .u8 w B a zs) (hz : ∀ z ∈ zs, 0 ≤ z ∧ z ≤ 255) (hl : zs.length ≤ 1000000000) :
    Calls Try.prog 9 #[.slice a zs.length c] w fun e w' => e = .returned (.int .u32 ((crcz zs).toNat : Int)) ∧ w = w' := by
  have HR := Lib.hid hr
  have HZ := Lib.hid hz
  have HN := Lib.hid (not_aft zs)
  clear hr hz
  generalize (crcz zs).toNat = n at *
  go_enter Try.func9, Try.ntmps9
  go_wp2
  go_loopg [3, 4] zs.length (fun q x i wr => ∃ j : Nat, q = zs.length - j ∧ j ≤ zs.length ∧ i = .int .i64 (j : Int) ∧ x = .int .u32 ((aftz (zs.take j)).toNat : Int) ∧ wr = w)
  case atStart => exact ⟨0, by omega, by omega, rfl, by rw [List.take_zero, aftz_nil], rfl⟩
  case round =>
    obtain ⟨j, hm, hj, rfl, rfl, rfl⟩ := hrel
    have HM := Lib.hid hm
    clear hm
    by_cases hlt : j < zs.length
    · obtain ⟨z, hzj⟩ : ∃ z, zs[j]? = some z := ⟨zs[j], List.getElem?_eq_getElem hlt⟩
      obtain ⟨bk, off, rfl, _, hc⟩ := HR.out j z hzj
      obtain ⟨z0, z1⟩ := HZ.out z (List.mem_of_getElem? hzj)
      have HT := Lib.hid (take_next hzj)
      have hta := aftz_snoc (zs.take j) z
      rw [← HT.out] at hta
      have HTA := Lib.hid hta
      clear hzj hta
      generalize hS : aftz (zs.take j) = S at *
      clear hS
      go_wp2
      go_loopg [3, 5] 8 (fun q x i wx => ∃ k : Nat, q = 8 - k ∧ k ≤ 8 ∧ i = .int .i64 (7 - (k : Int)) ∧ x = .int .u32 ((addBits S ((bits8 z.toNat).take k)).toNat : Int) ∧ wx = wr)
      case atStart => exact ⟨0, by omega, by omega, rfl, rfl, rfl⟩
      case round =>
        obtain ⟨k, hm, hk, rfl, rfl, rfl⟩ := hrel
        have HM2 := Lib.hid hm
        clear hm
        by_cases hk8 : k < 8
        · have HNX := Lib.hid (addBits_next S z.toNat k hk8)
          generalize hT : addBits S ((bits8 z.toNat).take k) = T at *
          clear hT
          have hnat := addBit_nat T (z.toNat.testBit (7 - k))
          rw [← HNX.out] at hnat
          have hsame := bit_same T z z0 (7 - k)
          have hT := lt32 T
          generalize hv : (addBits S ((bits8 z.toNat).take (k + 1))).toNat = v at *
          have HV := Lib.hid hv
          clear hv HNX
          generalize T.toNat = t at *
          by_cases hbit : z.toNat.testBit (7 - k) = decide (2147483648 ≤ t)
          · rw [decide_eq_true hbit] at hsame
            rw [if_pos hbit, Nat.xor_zero] at hnat
            have HV2 := Lib.hid hnat
            clear hnat hbit
            go_wp2
            go_roundg (8 - (k + 1))
            case measure => rw [HM2.out]; omega
            case rel => exact ⟨k + 1, rfl, by omega, by go_num, by rw [HV.out, HV2.out]; simp, rfl⟩
          · rw [decide_eq_false hbit] at hsame
            rw [if_neg hbit] at hnat
            have HV2 := Lib.hid hnat
            clear hnat hbit
            have hx := u32_xor_nat (t * 2 % 4294967296) 79764919 (by omega) (by omega)
            rw [← HV2.out] at hx
            have HX := Lib.hid hx
            clear hx
            go_wp2
            go_roundg (8 - (k + 1))
            case measure => rw [HM2.out]; omega
            case rel => exact ⟨k + 1, rfl, by omega, by go_num, by rw [HV.out, ← HX.out]; simp, rfl⟩
        · obtain rfl : k = 8 := by omega
          have he : addBits S ((bits8 z.toNat).take 8) = aftz (zs.take (j + 1)) := by rw [HTA.out]; rfl
          rw [he]
          go_wp2
          go_roundg (zs.length - (j + 1))
          case measure => rw [HM.out]; omega
          case rel => exact ⟨j + 1, rfl, by omega, by go_num, rfl, rfl⟩
    · rw [show zs.take j = zs from List.take_of_length_le (by omega)]
      have h2 := lt32 (aftz zs)
      generalize (aftz zs).toNat = n3 at *
      go_wp2
      go_ret
      exact ⟨by rw [← HN.out]; rfl, rfl⟩

theorem row_marked (k : IntKind) (w : World) (zs : List Int) (t : TypeId) (fr : Nat × Nat) : Row k (w.alloc (.cells (zs.map (Value.int k)).toArray t fr)) (w.heap.size + 1) (some ⟨w.heap.size, 0, none⟩) zs := by
  intro j z hz
  refine ⟨w.heap.size, 0, rfl, by omega, ?_⟩
  rw [World.cell?_alloc_mark]
  simp [hz]
theorem crcz_digits : ((crcz [49, 50, 51, 52, 53, 54, 55, 56, 57]).toNat : Int) = 4236843288 := by decide +kernel
set_option maxRecDepth 100000 in
set_option maxHeartbeats 1000000 in
theorem lives3_any (w : World) :
    Calls Try.prog 6 #[] w fun e w' => e = .returned (.bool true) ∧ Below w.heap.size w w' := by
  have kc := fun (C : Array Value) (n c : Nat) => Lib.run_convert_bytes_const (P := Try.prog) w 22 5 C n c Try.underlying22 Try.underlying5
  have ho := of_any [49, 50, 51, 52, 53, 54, 55, 56, 57] (some ⟨w.heap.size, 0, none⟩) 9 (w.alloc (.cells #[.int .u8 49, .int .u8 50, .int .u8 51, .int .u8 52, .int .u8 53, .int .u8 54, .int .u8 55, .int .u8 56, .int .u8 57] 5 (9, 9 + 1))) ((row_marked .u8 w [49, 50, 51, 52, 53, 54, 55, 56, 57] _ _).mono (by simp)) (by intro z hz; simp at hz; omega) (by simp)
  rw [crcz_digits] at ho
  have HO := Lib.hid ho
  clear ho
  go_enter Try.func6, Try.ntmps6
  go_wp2_with fail
  clear kc
  refine HO.out.mono ?_
  rintro e w1 ⟨rfl, hb⟩
  have HB : Hid (Below w.heap.size w w1) := (below_alloc1 w _).trans (hb.mono (by simp))
  clear hb HO
  go_wp2_with fail
  refine (new_any _).mono ?_
  rintro e w2 ⟨rfl, hb⟩
  have HB2 := Lib.hid (HB.out.trans (hb.mono HB.out.size))
  clear hb HB
  have HS := Lib.hid (sum_any [] w2)
  rw [crcz_nil] at HS
  go_wp2_with fail
  refine HS.out.mono ?_
  rintro e w3 ⟨rfl, hb⟩
  have HB3 := Lib.hid (HB2.out.trans (hb.mono HB2.out.size))
  clear hb HB2 HS
  go_wp2
  go_ret
  exact ⟨rfl, HB3.out⟩
theorem crcz_join (x y : List Int) : stps (8 * y.length) (crcz x) ^^^ crcz y = crcz (x ++ y) := by
  unfold crcz
  rw [List.map_append, crc_join, List.length_map]
theorem join_crc (x y : List Int) (n : Int) (hn : n = (y.length : Int)) (hl : y.length ≤ 1000000000) (w : World) :
    Calls Try.prog 16 #[.int .u32 ((crcz x).toNat : Int), .int .u32 ((crcz y).toNat : Int), .int .i64 n] w fun e w' => e = .returned (.int .u32 ((crcz (x ++ y)).toNat : Int)) ∧ w = w' := by
  have h := join_any (crcz x) (crcz y) n (by omega) w
  rw [show n.toNat = y.length by omega, crcz_join] at h
  exact h
end Go.Proofs.Ytnhhdnhfijaijaa
