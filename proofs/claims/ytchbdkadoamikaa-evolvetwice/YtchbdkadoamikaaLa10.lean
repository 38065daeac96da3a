/- The laws of layer 10: alive: contract. -/
import Derived.Test.YtchbdkadoamikaaNz10
namespace Go.Proofs.Ytchbdkadoamikaa
open Go.RowKit Go.Maps
set_option maxRecDepth 100000

/-- A row of uint64. -/
def RowU (w : World) (a : Option Addr) (l : List Nat) : Prop := ∀ (j c : Nat), l[j]? = some c → ∃ b off, a = some ⟨b, off, none⟩ ∧ w.cell? ⟨b, off + j, none⟩ = some (.int .u64 (c : Int))
theorem RowU.later {w w' : World} {a : Option Addr} {l : List Nat} {D : Nat} (h : RowU w a l) (hD : 0 < l.length → ∀ b off, a = some ⟨b, off, none⟩ → b < D) (hb : Below D w w') : RowU w' a l := fun j c hj => by
  have hl : 0 < l.length := Nat.lt_of_le_of_lt (Nat.zero_le j) (List.getElem?_eq_some_iff.1 hj).1
  obtain ⟨b, off, e, hc⟩ := h j c hj
  exact ⟨b, off, e, by rw [hb.cell (show (⟨b, off + j, none⟩ : Addr).block < D from hD hl b off e)]; exact hc⟩
theorem and_u64 (a b : Nat) (ha : a < 18446744073709551616) (hb : b < 18446744073709551616) : bits .and .u64 (a : Int) (b : Int) = ((a &&& b : Nat) : Int) := by
  have t1 : (BitVec.ofInt 64 (a : Int)).toNat = a := by
    rw [BitVec.ofInt_natCast, BitVec.toNat_ofNat]; exact Nat.mod_eq_of_lt (by omega)
  have t2 : (BitVec.ofInt 64 (b : Int)).toNat = b := by
    rw [BitVec.ofInt_natCast, BitVec.toNat_ofNat]; exact Nat.mod_eq_of_lt (by omega)
  show IntKind.u64.wrap ((BitVec.ofInt 64 (a : Int) &&& BitVec.ofInt 64 (b : Int)).toNat : Nat) = _
  rw [BitVec.toNat_and, t1, t2]
  have : a &&& b ≤ a := Nat.and_le_left
  exact IntWalk.u64_in _ (by omega)
theorem bit_u64 (f k : Nat) (hf : f < 18446744073709551616) : (bits .and .u64 ((f : Int) / 2 ^ k) 1 == 1) = f.testBit k := by
  have e1 : (f : Int) / 2 ^ k = ((f / 2 ^ k : Nat) : Int) := by
    rw [show (2 : Int) ^ k = ((2 ^ k : Nat) : Int) by rw [Int.natCast_pow]; rfl]; norm_cast
  have hd : f / 2 ^ k ≤ f := Nat.div_le_self _ _
  rw [e1, show (1 : Int) = ((1 : Nat) : Int) from rfl, and_u64 _ _ (by omega) (by omega), Nat.and_one_is_mod, Nat.testBit_eq_decide_div_mod_eq]
  rw [Bool.eq_iff_iff]
  simp only [beq_iff_eq, decide_eq_true_eq]
  omega
/-- Is a cell alive? -/
def alvN (l : List Nat) (side x y : Nat) : Bool := (l.getD ((y / 8 * ((side + 7) / 8) + x / 8) % l.length) 0).testBit (8 * (y % 8) + x % 8)
set_option maxHeartbeats 1000000 in
theorem alive10_any (l : List Nat) (hl : 0 < l.length) (hl2 : l.length ≤ 4) (hz : ∀ z ∈ l, z < 18446744073709551616) (a : Option Addr) (cap : Nat) (w : World) (h : RowU w a l) (side x y : Nat) (hx : x < side) (hy : y < side) (hs : side ≤ 64) :
    Calls Try.prog 29 #[.slice a l.length cap, .int .i64 (x : Int), .int .i64 (y : Int), .int .i64 (side : Int)] w fun e w' => e = .returned (.bool (alvN l side x y)) ∧ w = w' := by
  obtain ⟨s8, hs8⟩ : ∃ s8 : Nat, s8 = (side + 7) / 8 := ⟨_, rfl⟩
  obtain ⟨P, hP⟩ : ∃ P : Nat, P = y / 8 * s8 := ⟨_, rfl⟩
  obtain ⟨I, hI⟩ : ∃ I : Nat, I = (P + x / 8) % l.length := ⟨_, rfl⟩
  obtain ⟨K, hK⟩ : ∃ K : Nat, K = 8 * (y % 8) + x % 8 := ⟨_, rfl⟩
  have hP2 : P ≤ 8 * 8 := by rw [hP]; exact Nat.mul_le_mul (by omega) (by omega)
  have hIl : I < l.length := by rw [hI]; exact Nat.mod_lt _ hl
  have hav : alvN l side x y = (l[I]'hIl).testBit K := by
    unfold alvN
    rw [← hs8, ← hP, ← hI, ← hK, List.getD_eq_getElem?_getD, List.getElem?_eq_getElem hIl]; rfl
  obtain ⟨b, off, rfl, hc⟩ := h I _ (List.getElem?_eq_getElem hIl)
  have hv := hz (l[I]'hIl) (List.getElem_mem hIl)
  rw [hav]
  have e1 : (((side : Int) + 7) / 8) = (s8 : Int) := by omega
  have e2 : (y : Int) / 8 * (s8 : Int) = (P : Int) := by
    rw [hP, Int.natCast_mul]
    rw [show (y : Int) / 8 = ((y / 8 : Nat) : Int) by omega]
  have e3 : ((P : Int) + (x : Int) / 8) % (l.length : Int) = (I : Int) := by
    rw [hI, Int.natCast_emod]
    rw [show ((P + x / 8 : Nat) : Int) = (P : Int) + (x : Int) / 8 by omega]
  have e4 : 8 * ((y : Int) % 8) + (x : Int) % 8 = (K : Int) := by omega
  have hbt := bit_u64 (l[I]'hIl) K hv
  have hK64 : K < 64 := by omega
  generalize l[I]'hIl = V at *
  have b1 : ((l.length : Int) == 0) = false := by rw [beq_eq_false_iff_ne]; omega
  have b2 : decide ((x : Int) < 0) = false := by simp
  have b3 : decide ((y : Int) < 0) = false := by simp
  have b4 : decide (side ≤ x) = false := by simp; omega
  have b5 : decide (side ≤ y) = false := by simp; omega
  have b6 : (0 : Int) ≤ (I : Int) := by omega
  have b7 : (I : Int) < (l.length : Int) := by omega
  have b8 : ¬ (l.length = 0) := by omega
  have b9 : (0 : Int) ≤ (K : Int) := by omega
  have HHS := Lib.hid hs8
  have HHP := Lib.hid hP
  have HHI := Lib.hid hI
  have HHK := Lib.hid hK
  have HAV := Lib.hid hav
  clear hs8 hP hI hK hav
  go_enter Try.func29, Try.ntmps29
  go_wp2_with fail
  go_ret
  exact ⟨rfl, rfl⟩
end Go.Proofs.Ytchbdkadoamikaa
