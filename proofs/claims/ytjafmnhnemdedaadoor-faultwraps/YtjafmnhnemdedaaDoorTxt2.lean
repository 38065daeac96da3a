/- The texts of the numbers. -/
import Derived.Test.YtjafmnhnemdedaaDoorTxt
namespace Go.Proofs.YtjafmnhnemdedaaDoor
open Go.RowKit Go.Extern.Stop Go.Stop Go.Extern

/-- The text of the number c. -/
def errText (c : Int) : ByteArray :=
  if c = 1 then ⟨#[97, 110, 32, 97, 114, 103, 117, 109, 101, 110, 116, 32, 116, 104, 97, 116, 32, 109, 97, 121, 32, 110, 111, 116, 32, 98, 101]⟩ else
  if c = 2 then ⟨#[116, 111, 111, 32, 102, 101, 119, 32, 98, 121, 116, 101, 115]⟩ else
  if c = 3 then ⟨#[98, 121, 116, 101, 115, 32, 116, 104, 97, 116, 32, 115, 97, 121, 32, 110, 111, 116, 104, 105, 110, 103]⟩ else
  if c = 4 then ⟨#[97, 32, 115, 117, 109, 32, 116, 104, 97, 116, 32, 105, 115, 32, 97, 110, 111, 116, 104, 101, 114, 32, 111, 110, 101]⟩ else
  if c = 5 then ⟨#[116, 111, 111, 32, 109, 117, 99, 104]⟩ else
  if c = 6 then ⟨#[116, 104, 101, 114, 101, 32, 105, 115, 32, 110, 111, 110, 101]⟩ else
  if c = 7 then ⟨#[110, 111, 32, 114, 111, 111, 109]⟩ else
  if c = 8 then ⟨#[98, 101, 121, 111, 110, 100, 32, 116, 104, 101, 32, 101, 110, 100]⟩ else
  if c = 9 then ⟨#[109, 111, 114, 101, 32, 116, 104, 97, 110, 32, 109, 97, 121, 32, 98, 101]⟩ else
  if c = 10 then ⟨#[110, 111, 116, 32, 119, 104, 97, 116, 32, 97, 32, 99, 108, 105, 101, 110, 116, 32, 109, 97, 121, 32, 115, 101, 110, 100]⟩ else
  if c = 11 then ⟨#[110, 111, 116, 32, 110, 111, 119]⟩ else
  ⟨#[110, 111, 32, 101, 114, 114, 111, 114]⟩

theorem ite_size {p : Prop} [Decidable p] {a b : ByteArray} (ha : a.size ≤ 100) (hb : b.size ≤ 100) : (if p then a else b).size ≤ 100 := by split <;> assumption
theorem errText_len (c : Int) : (errText c).size ≤ 100 := by
  unfold errText
  repeat' refine ite_size ?_ ?_
  all_goals decide

set_option maxRecDepth 100000 in
set_option maxHeartbeats 1000000 in
theorem errText_is (c : Int) (w : World) : Calls Tryd.prog 14 #[.int .i64 c] w fun e w' => e = .returned (.string (errText c)) ∧ w = w' := by
  by_cases h : 1 ≤ c ∧ c ≤ 11
  · have hc : c = 1 ∨ c = 2 ∨ c = 3 ∨ c = 4 ∨ c = 5 ∨ c = 6 ∨ c = 7 ∨ c = 8 ∨ c = 9 ∨ c = 10 ∨ c = 11 := by omega
    rcases hc with rfl | rfl | rfl | rfl | rfl | rfl | rfl | rfl | rfl | rfl | rfl
    all_goals
      go_enter Tryd.func14, Tryd.ntmps14
      go_wp2
      go_ret
      exact ⟨rfl, rfl⟩
  · have n1 : (c == 1) = false := by rw [beq_eq_false_iff_ne]; omega
    have n2 : (c == 2) = false := by rw [beq_eq_false_iff_ne]; omega
    have n3 : (c == 3) = false := by rw [beq_eq_false_iff_ne]; omega
    have n4 : (c == 4) = false := by rw [beq_eq_false_iff_ne]; omega
    have n5 : (c == 5) = false := by rw [beq_eq_false_iff_ne]; omega
    have n6 : (c == 6) = false := by rw [beq_eq_false_iff_ne]; omega
    have n7 : (c == 7) = false := by rw [beq_eq_false_iff_ne]; omega
    have n8 : (c == 8) = false := by rw [beq_eq_false_iff_ne]; omega
    have n9 : (c == 9) = false := by rw [beq_eq_false_iff_ne]; omega
    have n10 : (c == 10) = false := by rw [beq_eq_false_iff_ne]; omega
    have n11 : (c == 11) = false := by rw [beq_eq_false_iff_ne]; omega
    have HE0 : errText c = ⟨#[110, 111, 32, 101, 114, 114, 111, 114]⟩ := by
      unfold errText
      rw [if_neg (by omega), if_neg (by omega), if_neg (by omega), if_neg (by omega), if_neg (by omega), if_neg (by omega), if_neg (by omega), if_neg (by omega), if_neg (by omega), if_neg (by omega), if_neg (by omega)]
    have HE := Lib.hid HE0
    clear h HE0
    go_enter Tryd.func14, Tryd.ntmps14
    go_wp2
    go_ret
    exact ⟨by rw [HE.out]; rfl, rfl⟩
end Go.Proofs.YtjafmnhnemdedaaDoor
