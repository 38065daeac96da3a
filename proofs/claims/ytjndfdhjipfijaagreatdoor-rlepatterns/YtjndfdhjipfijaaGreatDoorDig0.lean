/- The document's figures (belvedereref01.Digits) of what is not below 0: a contract; strings put together. -/
import Derived.Test.YtjndfdhjipfijaaGreatDoorProg
import Derived.WalkKit
import Derived.WalkLawsBesides
import Derived.Lib.Hide
import Derived.Lib.ItoaNum
import Derived.Deep.QuietTactic
import Derived.BigQuiet
import Derived.IntWalk
import Derived.Laws.DeepStrings4
namespace Go.Proofs.YtjndfdhjipfijaaGreatDoor
open Go.RowKit Go.Extern.Stop Go.Stop Go.Extern

/-- The figure d as a byte. -/
def fig (d : Nat) : UInt8 := UInt8.ofNat (48 + d)
theorem dec_small (u : Nat) (h : u < 10) : Lib.decDigits u = [fig u] := by rw [Lib.decDigits]; simp [h, fig]
theorem dec_great (u : Nat) (h : ¬ u < 10) : Lib.decDigits u = Lib.decDigits (u / 10) ++ [fig (u % 10)] := by rw [Lib.decDigits]; simp [h, fig]
theorem itoa_nat (u : Nat) : Lib.itoa (u : Int) = Lib.decDigits u := by unfold Lib.itoa; rw [if_neg (by omega)]; rfl
theorem itoa_neg (u : Nat) (h : 0 < u) : Lib.itoa (-(u : Int)) = 45 :: Lib.decDigits u := by unfold Lib.itoa; rw [if_pos (by omega)]; simp

/-- One figure out of the row of all. -/
theorem figure (d : Nat) (h : d < 10) : (⟨#[48, 49, 50, 51, 52, 53, 54, 55, 56, 57]⟩ : ByteArray).extract d (d + 1) = ⟨#[fig d]⟩ := by
  match d, h with
  | 0, _ | 1, _ | 2, _ | 3, _ | 4, _ | 5, _ | 6, _ | 7, _ | 8, _ | 9, _ => rfl
theorem slice_figure (x : Int) (d : Nat) (hx : x = d) (h : d < 10) (w : World) :
    (Instr.slice 9 (.string ⟨#[48, 49, 50, 51, 52, 53, 54, 55, 56, 57]⟩) (some (.int .i64 x)) (some (.int .i64 (x + 1))) none).run Tryz.prog w = .ok (.string ⟨#[fig d]⟩) w := by
  subst hx
  have hsz : ((⟨#[48, 49, 50, 51, 52, 53, 54, 55, 56, 57]⟩ : ByteArray).size : Int) = 10 := rfl
  rw [run_slice_string_if _ _ _ _ _ _ _ Tryz.underlying9, if_pos ⟨by omega, by rw [hsz]; omega⟩, if_pos ⟨by omega, by omega⟩]
  rw [show ((d : Int) + 1).toNat = d + 1 by omega, Int.toNat_natCast, figure d h]

/-- What a string is, by its bytes. -/
theorem str_eq {a b : List UInt8} (h : a = b) : Ending.returned (.string ⟨a.toArray⟩) = .returned (.string ⟨b.toArray⟩) := by rw [h]
theorem cat_mk (a b : List UInt8) : (⟨a.toArray⟩ : ByteArray) ++ ⟨b.toArray⟩ = ⟨(a ++ b).toArray⟩ := by
  apply ByteArray.ext; simp [ByteArray.data_append]
theorem nDigits_le : ∀ (k u : Nat), 1 ≤ k → u < 10 ^ k → Lib.nDigits u ≤ k
  | 0, _, h, _ => by omega
  | 1, u, _, h => by rw [Lib.nDigits_small (by simpa using h)]; omega
  | k + 2, u, _, h => by
    by_cases hs : u < 10
    · rw [Lib.nDigits_small hs]; omega
    · rw [Lib.nDigits_big hs]
      have := nDigits_le (k + 1) (u / 10) (by omega) (by rw [Nat.pow_succ] at h; omega)
      omega
theorem dec_len (u : Nat) (h : (u : Int) ≤ 9223372036854775808) : (Lib.decDigits u).length ≤ 19 := by
  rw [Lib.decDigits_length]; exact nDigits_le 19 u (by omega) (by have : (10 : Nat) ^ 19 = 10000000000000000000 := by decide
                                                                  omega)
theorem itoa_len (n : Int) (h0 : -9223372036854775808 ≤ n) (h1 : n ≤ 9223372036854775807) : (Lib.itoa n).length ≤ 20 := by
  unfold Lib.itoa
  split
  · have := dec_len n.natAbs (by omega); simp; omega
  · have := dec_len n.toNat (by omega); omega

set_option maxRecDepth 100000 in
set_option maxHeartbeats 400000 in
theorem digits_nat (k : Nat) : ∀ (u : Nat) (w : World), u ≤ k → (u : Int) ≤ 9223372036854775807 →
    Calls Tryz.prog 32 #[.int .i64 (u : Int)] w fun e w' => e = .returned (.string ⟨(Lib.decDigits u).toArray⟩) ∧ w = w' := by
  induction k using Nat.strongRecOn with
  | _ k ih =>
    intro u w hk hu
    have IH := Lib.hid ih
    clear ih
    have hd : u % 10 < 10 := Nat.mod_lt _ (by omega)
    have hf := slice_figure ((u : Int) % 10) (u % 10) (by omega) hd
    by_cases h : u < 10
    · have h10 : decide ((10 : Int) ≤ (u : Int)) = false := by simp; omega
      have HE := Lib.hid (dec_small u h)
      have HM : Hid (u % 10 = u) := Nat.mod_eq_of_lt h
      go_enter Tryz.func32, Tryz.ntmps32
      go_wp2_with fail
      go_ret
      exact ⟨str_eq (a := [fig (u % 10)]) (by rw [HE.out, HM.out]), rfl⟩
    · have h10 : decide ((10 : Int) ≤ (u : Int)) = true := by simp; omega
      have HE := Lib.hid (dec_great u h)
      have hl := dec_len (u / 10) (by omega)
      go_enter Tryz.func32, Tryz.ntmps32
      go_wp2_with fail
      rw [show (u : Int) / 10 = ((u / 10 : Nat) : Int) by omega]
      refine (IH.out (u / 10) (by omega) (u / 10) _ (Nat.le_refl _) (by omega)).mono ?_
      rintro e w' ⟨rfl, rfl⟩
      go_wp2_with fail
      go_ret
      refine ⟨?_, rfl⟩
      rw [HE.out, ← cat_mk]; rfl
end Go.Proofs.YtjndfdhjipfijaaGreatDoor
