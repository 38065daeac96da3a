/- sum.New, Add, Sum, Len, Of, the document's Of; the laws' own example of layer 3: contracts. -/
import Derived.Test.YtnhhdnhfijaijaaSm
import Derived.Handy
namespace Go.Proofs.Ytnhhdnhfijaijaa
open Go.RowKit

/-- The sum of a row, and the state behind it. -/
def crcz (zs : List Int) : BitVec 32 := crc (zs.map Int.toNat)
def aftz (zs : List Int) : BitVec 32 := after (zs.map Int.toNat)
theorem not_aft (zs : List Int) : 4294967295 - ((aftz zs).toNat : Int) = ((crcz zs).toNat : Int) := by
  have h : (crcz zs) = ~~~ (aftz zs) := by unfold crcz crc aftz; rw [BitVec.xor_allOnes]
  have hl := lt32 (aftz zs)
  rw [h, BitVec.toNat_not]
  omega
theorem not_crc (zs : List Int) : 4294967295 - ((crcz zs).toNat : Int) = ((aftz zs).toNat : Int) := by
  have := not_aft zs
  have hl := lt32 (aftz zs)
  omega
theorem aftz_snoc (zs : List Int) (z : Int) : aftz (zs ++ [z]) = addBits (aftz zs) (bits8 z.toNat) := by
  unfold aftz after
  rw [List.map_append, bitsOf_app, addBits_app]
  simp [bitsOf]
theorem aftz_nil : ((aftz []).toNat : Int) = 4294967295 := by decide
theorem crcz_nil : ((crcz []).toNat : Int) = 0 := by decide
/-- The state of bytes, as a value. -/
def St (zs : List Int) : Value := .agg #[.int .u32 ((crcz zs).toNat : Int), .int .i64 (zs.length : Int)]

theorem not_val (x : BitVec 32) : bits .xor .u32 IntKind.u32.max (x.toNat : Int) = 4294967295 - (x.toNat : Int) := by
  have h := xor_val (BitVec.allOnes 32) x
  rw [BitVec.allOnes_xor, BitVec.toNat_not] at h
  have hl := lt32 x
  rw [show IntKind.u32.max = (((BitVec.allOnes 32).toNat : Nat) : Int) by decide, h]
  omega

set_option maxRecDepth 100000 in
set_option maxHeartbeats 1000000 in
theorem new_any (w : World) :
    Calls Try.prog 7 #[] w fun e w' => e = .returned (St []) ∧ Below w.heap.size w w' := by
  have h : St [] = .agg #[.int .u32 0, .int .i64 0] := by unfold St; rw [crcz_nil]; rfl
  rw [h]
  go_enter Try.func7, Try.ntmps7
  go_wp2
  go_returns
  exact ⟨rfl, by go_grown⟩

set_option maxRecDepth 100000 in
set_option maxHeartbeats 1000000 in
theorem add_any (xs zs : List Int) (a : Option Addr) (c : Nat) (w : World) (hr : Row .u8 w w.heap.size a zs) (hz : ∀ z ∈ zs, 0 ≤ z ∧ z ≤ 255) (hl : xs.length + zs.length ≤ 1000000000) :
    Calls Try.prog 8 #[St xs, .slice a zs.length c] w fun e w' => e = .returned (St (xs ++ zs)) ∧ Below w.heap.size w w' := by
  unfold St
  rw [List.length_append]
  have HR := Lib.hid hr
  have HZ := Lib.hid hz
  have hn := not_val (crcz xs)
  rw [not_crc xs] at hn
  have HN := Lib.hid hn
  have hn2 := not_val (aftz (xs ++ zs))
  rw [not_aft (xs ++ zs)] at hn2
  have HN2 := Lib.hid hn2
  have h1 := lt32 (crcz xs)
  have hsg : IntKind.u32.signed = false := rfl
  clear hr hz hn hn2
  generalize (crcz xs).toNat = n at *
  generalize (crcz (xs ++ zs)).toNat = n2 at *
  go_enter Try.func8, Try.ntmps8
  go_wp2
  rw [HN.out]
  generalize hW : (w.alloc (Obj.cells #[Value.int IntKind.u32 (n : Int), Value.int IntKind.i64 (xs.length : Int)] 27)).alloc (Obj.cells #[Value.int IntKind.u32 0, Value.int IntKind.i64 0] 27) = W1
  have HB : Hid (Below w.heap.size w W1) := by show Below _ _ _; rw [← hW]; go_grown
  have HW := Lib.hid hW
  clear hW
  go_loopg [5, 13] zs.length (fun q x i wr => ∃ j : Nat, q = zs.length - j ∧ j ≤ zs.length ∧ i = .int .i64 (j : Int) ∧ x = .int .u32 ((aftz (xs ++ zs.take j)).toNat : Int) ∧ wr = W1)
  case atStart => exact ⟨0, by omega, by omega, rfl, by rw [List.take_zero, List.append_nil], rfl⟩
  case round =>
    obtain ⟨j, hm, hj, rfl, rfl, rfl⟩ := hrel
    have HM := Lib.hid hm
    clear hm
    by_cases hlt : j < zs.length
    · obtain ⟨z, hzj⟩ : ∃ z, zs[j]? = some z := ⟨zs[j], List.getElem?_eq_getElem hlt⟩
      obtain ⟨bk, off, rfl, _, hc⟩ := (HR.out.later HB.out (Nat.le_refl _)) j z hzj
      obtain ⟨z0, z1⟩ := HZ.out z (List.mem_of_getElem? hzj)
      have HT := Lib.hid (take_next hzj)
      have hta := take_any (aftz (xs ++ zs.take j)) z.toNat (by omega)
      rw [← aftz_snoc, List.append_assoc, ← HT.out, show ((z.toNat : Nat) : Int) = z by omega] at hta
      have HTA := Lib.hid hta
      clear hzj hta
      generalize (aftz (xs ++ zs.take j)).toNat = u at *
      generalize hv : (aftz (xs ++ zs.take (j + 1))).toNat = v at *
      have HV := Lib.hid hv
      clear hv
      go_wp2_with fail
      refine (HTA.out _).mono ?_
      rintro e w' ⟨rfl, rfl⟩
      go_wp2
      go_roundg (zs.length - (j + 1))
      case measure => rw [HM.out]; omega
      case rel => exact ⟨j + 1, rfl, by omega, by go_num, by rw [HV.out], rfl⟩
    · rw [show zs.take j = zs from List.take_of_length_le (by omega)]
      have h2 := lt32 (aftz (xs ++ zs))
      generalize (aftz (xs ++ zs)).toNat = n3 at *
      rw [← HW.out]
      go_wp2
      rw [HN2.out]
      go_returns
      exact ⟨rfl, by go_grown⟩

set_option maxRecDepth 100000 in
set_option maxHeartbeats 1000000 in
theorem sum_any (zs : List Int) (w : World) :
    Calls Try.prog 14 #[St zs] w fun e w' => e = .returned (.int .u32 ((crcz zs).toNat : Int)) ∧ Below w.heap.size w w' := by
  unfold St
  generalize (crcz zs).toNat = n at *
  go_enter Try.func14, Try.ntmps14
  go_wp2
  go_ret
  exact ⟨rfl, by go_grown⟩
set_option maxRecDepth 100000 in
set_option maxHeartbeats 1000000 in
theorem len_any (zs : List Int) (w : World) :
    Calls Try.prog 15 #[St zs] w fun e w' => e = .returned (.int .i64 (zs.length : Int)) ∧ Below w.heap.size w w' := by
  unfold St
  generalize (crcz zs).toNat = n at *
  go_enter Try.func15, Try.ntmps15
  go_wp2
  go_ret
  exact ⟨rfl, by go_grown⟩
set_option maxRecDepth 100000 in
set_option maxHeartbeats 1000000 in
theorem of_any (zs : List Int) (a : Option Addr) (c : Nat) (w : World) (hr : Row .u8 w w.heap.size a zs) (hz : ∀ z ∈ zs, 0 ≤ z ∧ z ≤ 255) (hl : zs.length ≤ 1000000000) :
    Calls Try.prog 13 #[.slice a zs.length c] w fun e w' => e = .returned (.int .u32 ((crcz zs).toNat : Int)) ∧ Below w.heap.size w w' := by
  have HR := Lib.hid hr
  have HZ := Lib.hid hz
  clear hr hz
  go_enter Try.func13, Try.ntmps13
  go_wp2_with fail
  refine (new_any _).mono ?_
  rintro e w1 ⟨rfl, hb⟩
  have HB := Lib.hid hb
  clear hb
  go_wp2_with fail
  refine (add_any [] zs a c w1 ((HR.out.later HB.out (Nat.le_refl _)).mono HB.out.size) HZ.out (by simpa using hl)).mono ?_
  rintro e w2 ⟨rfl, hb⟩
  have HB2 := Lib.hid (HB.out.trans (hb.mono HB.out.size))
  clear hb HB
  rw [List.nil_append]
  go_wp2_with fail
  refine (sum_any zs w2).mono ?_
  rintro e w3 ⟨rfl, hb⟩
  have HB3 := Lib.hid (HB2.out.trans (hb.mono HB2.out.size))
  clear hb HB2
  go_wp2
  go_ret
  exact ⟨rfl, HB3.out⟩
end Go.Proofs.Ytnhhdnhfijaijaa
