/- Package prefix: what its small functions answer: contracts. -/
import Derived.Test.YtbliddmkmieppaaDoorRows
import Derived.Test.YtbliddmkmieppaaDoorShelf
import Derived.Test.YtbliddmkmieppaaDoorNum
import Derived.WalkKit
import Derived.WalkLawsBesides
import Derived.Lib.Hide
import Derived.IntWalk
import Derived.Laws.DeepNot64
import Derived.Laws.Bits64
namespace Go.Proofs.YtbliddmkmieppaaDoor
open Go.RowKit

theorem ret_int {k : IntKind} {a b : Int} (h : a = b) : Ending.returned (.int k a) = .returned (.int k b) := by rw [h]

theorem size_any (n : Int) (h0 : 0 ≤ n) (h1 : n ≤ 18446744073709551615) (w : World) :
    Calls Tryd.prog 33 #[.int .u64 n] w fun e w' => e = .returned (.int .i64 (sz n)) ∧ w = w' := by
  have HB := Lib.hid (sz_bits n h0 h1)
  have hb := bitLen_64 n h0 h1
  go_enter Tryd.func33, Tryd.ntmps33
  go_wp2_with (go_at_call 41; refine (Tryd.bits_Len64 n w h0 h1).mono ?_; rintro e w' ⟨rfl, rfl⟩)
  generalize Lib.bitLen n.toNat = L at *
  go_ret
  exact ⟨ret_int HB.out.symm, rfl⟩
theorem mark_any (k : Nat) (hk : 1 ≤ k) (hk9 : k ≤ 9) (w : World) :
    Calls Tryd.prog 32 #[.int .i64 k] w fun e w' => e = .returned (.int .u8 (mk k)) ∧ w = w' := by
  match k, hk, hk9 with
  | 1, _, _ | 2, _, _ | 3, _, _ | 4, _, _ | 5, _, _ | 6, _, _ | 7, _, _ | 8, _, _ | 9, _, _ =>
    go_enter Tryd.func32, Tryd.ntmps32
    go_wp2
    go_ret
    exact ⟨rfl, rfl⟩

theorem xor_all (x : Int) (h0 : 0 ≤ x) (h1 : x ≤ 18446744073709551615) : bits .xor .u64 IntKind.u64.max x = 18446744073709551615 - x := by
  obtain ⟨a, rfl⟩ := Int.eq_ofNat_of_zero_le h0
  show IntKind.u64.wrap ((BitVec.ofInt 64 IntKind.u64.max ^^^ BitVec.ofInt 64 (a : Int)).toNat : Int) = _
  have e : BitVec.ofInt 64 IntKind.u64.max = BitVec.allOnes 64 := by decide
  rw [e, BitVec.allOnes_xor, BitVec.toNat_not, ofInt_u64 a (by omega)]
  simp [IntKind.wrap, IntKind.bits, IntKind.signed]
  omega
theorem and_one (n : Int) (h0 : 0 ≤ n) (h1 : n ≤ 18446744073709551615) : bits .and .u64 n 1 = n % 2 := by
  rw [u64_and n 1 h0 (by omega) (by decide) (by decide)]
  rw [show (1 : Int).toNat = 1 from rfl, Nat.and_one_is_mod]
  omega
theorem fold_any (n : Int) (h0 : -9223372036854775808 ≤ n) (h1 : n ≤ 9223372036854775807) (w : World) :
    Calls Tryd.prog 19 #[.int .i64 n] w fun e w' => e = .returned (.int .u64 (fold n)) ∧ w = w' := by
  by_cases h : n < 0
  · have hx := xor_all (IntKind.u64.wrap (IntKind.u64.wrap n * 2)) (by rw [IntKind.wrap_u64]; omega) (by rw [IntKind.wrap_u64]; omega)
    have HX : Hid (bits .xor .u64 IntKind.u64.max (IntKind.u64.wrap (IntKind.u64.wrap n * 2)) = fold n) := by
      show _ = _
      rw [hx, IntKind.wrap_u64, IntKind.wrap_u64]; unfold fold; omega
    clear hx
    go_enter Tryd.func19, Tryd.ntmps19
    go_wp2
    go_ret
    exact ⟨ret_int HX.out, rfl⟩
  · go_enter Tryd.func19, Tryd.ntmps19
    go_wp2
    go_ret
    exact ⟨ret_int (by unfold fold; omega), rfl⟩
theorem open_any (n : Int) (h0 : 0 ≤ n) (h1 : n ≤ 18446744073709551615) (w : World) :
    Calls Tryd.prog 21 #[.int .u64 n] w fun e w' => e = .returned (.int .i64 (opn n)) ∧ w = w' := by
  have ha := and_one n h0 h1
  by_cases h : n % 2 = 0
  · have hb : (bits .and .u64 n 1 == 1) = false := by rw [ha, h]; rfl
    clear ha
    go_enter Tryd.func21, Tryd.ntmps21
    go_wp2
    go_ret
    exact ⟨ret_int (by unfold opn; omega), rfl⟩
  · have hb : (bits .and .u64 n 1 == 1) = true := by rw [ha, show n % 2 = 1 by omega]; rfl
    have hx : bits .xor .i64 (-1) (n / 2) = -1 - n / 2 := by
      obtain ⟨a, e⟩ := Int.eq_ofNat_of_zero_le (show 0 ≤ n / 2 by omega)
      rw [e]; exact i64_not a (by omega)
    have HX := Lib.hid hx
    clear ha hx
    go_enter Tryd.func21, Tryd.ntmps21
    go_wp2
    go_ret
    exact ⟨ret_int (by rw [HX.out]; unfold opn; omega), rfl⟩
theorem ropen_any (n : Int) (h0 : 0 ≤ n) (h1 : n ≤ 18446744073709551615) (w : World) :
    Calls Tryd.prog 22 #[.int .u64 n] w fun e w' => e = .returned (.int .i64 (opn n)) ∧ w = w' := by
  by_cases h : n % 2 = 0
  · have hb : (n % 2 == 0) = true := by rw [h]; rfl
    have HH := Lib.hid h
    clear h
    go_enter Tryd.func22, Tryd.ntmps22
    go_wp2
    go_ret
    exact ⟨ret_int (by unfold opn; rw [if_pos HH.out]), rfl⟩
  · have hb : (n % 2 == 0) = false := by simpa using h
    go_enter Tryd.func22, Tryd.ntmps22
    go_wp2
    go_ret
    exact ⟨ret_int (by unfold opn; rw [if_neg h]), rfl⟩
end Go.Proofs.YtbliddmkmieppaaDoor
