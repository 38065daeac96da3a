/- The document's own answer for layer 2: Size and Number: contracts. -/
import Derived.Test.YtbliddmkmieppaaDoorPuts
namespace Go.Proofs.YtbliddmkmieppaaDoor
open Go.RowKit

def m128 : Nat → Int
  | 1 => 128 | 2 => 16384 | 3 => 2097152 | 4 => 268435456 | 5 => 34359738368 | 6 => 4398046511104 | 7 => 562949953421312 | 8 => 72057594037927936 | 9 => 9223372036854775808 | _ => 0
theorem m128_next (j : Nat) (h1 : 1 ≤ j) (h8 : j ≤ 8) : m128 j * 128 = m128 (j + 1) ∧ 0 ≤ m128 j ∧ m128 j ≤ 72057594037927936 := by
  match j, h1, h8 with
  | 1, _, _ | 2, _, _ | 3, _, _ | 4, _, _ | 5, _, _ | 6, _, _ | 7, _, _ | 8, _, _ => decide
theorem m128_pos (j : Nat) : 0 ≤ m128 j := by unfold m128; split <;> omega
theorem sz_more (n : Int) (j : Nat) (h1 : 1 ≤ j) (h8 : j ≤ 8) (h : j ≤ sz n) (hm : m128 j ≤ n) : j + 1 ≤ sz n := by
  match j, h1, h8 with
  | 1, _, _ | 2, _, _ | 3, _, _ | 4, _, _ | 5, _, _ | 6, _, _ | 7, _, _ | 8, _, _ =>
    simp only [m128] at hm
    unfold sz
    (repeat' split) <;> omega
theorem sz_done (n : Int) (j : Nat) (h1 : 1 ≤ j) (h8 : j ≤ 8) (h : j ≤ sz n) (hm : n < m128 j) : sz n = j := by
  match j, h1, h8 with
  | 1, _, _ | 2, _, _ | 3, _, _ | 4, _, _ | 5, _, _ | 6, _, _ | 7, _, _ | 8, _, _ =>
    simp only [m128] at hm
    unfold sz at h ⊢
    (repeat' split) <;> (repeat' split at h) <;> omega

set_option maxRecDepth 100000 in
theorem rsize_any (n : Int) (w : World) :
    Calls Tryd.prog 26 #[.int .u64 n] w fun e w' => e = .returned (.int .i64 (sz n)) ∧ w = w' := by
  go_enter Tryd.func26, Tryd.ntmps26
  go_wp2
  go_loopg [3, 4] 9 (fun m k x wr => ∃ j : Nat, m = 10 - j ∧ 1 ≤ j ∧ j ≤ 9 ∧ j ≤ sz n ∧ k = .int .i64 (j : Int) ∧ x = .int .u64 (m128 j) ∧ wr = w)
  case atStart => exact ⟨1, by omega, by omega, by omega, (sz_pos n).1, rfl, rfl, rfl⟩
  case round =>
    obtain ⟨j, hm, j1, j9, hj, rfl, rfl, rfl⟩ := hrel
    have HM := Lib.hid hm
    clear hm
    by_cases hlt : j < 9
    · obtain ⟨e1, e2, e3⟩ := m128_next j j1 (by omega)
      have HE := Lib.hid e1
      clear e1
      have hlt' : (j : Int) < 9 := by omega
      by_cases hn : m128 j ≤ n
      · have hs := sz_more n j j1 (by omega) hj hn
        go_wp2
        go_roundg (10 - (j + 1))
        case measure => rw [HM.out]; omega
        case rel => exact ⟨j + 1, rfl, by omega, by omega, hs, by go_num, by rw [HE.out], rfl⟩
      · have hs := sz_done n j j1 (by omega) hj (by omega)
        have HS := Lib.hid hs
        clear hs
        go_wp2
        go_ret
        exact ⟨ret_int (by rw [HS.out]), rfl⟩
    · have h9 : j = 9 := by omega
      subst h9
      have hs : sz n = 9 := by have := sz_pos n; omega
      have HS := Lib.hid hs
      clear hs
      go_wp2
      go_ret
      exact ⟨ret_int (by rw [HS.out]), rfl⟩

theorem mk_half (i : Nat) (h : i ≤ 7) : mk (i + 1) / 2 + 128 = mk (i + 2) ∧ 0 ≤ mk (i + 1) ∧ mk (i + 1) ≤ 254 := by
  match i, h with
  | 0, _ | 1, _ | 2, _ | 3, _ | 4, _ | 5, _ | 6, _ | 7, _ => decide
theorem own_new (w : World) (B : Nat) (hB : B ≤ w.heap.size) (z : Int) : (w.alloc (.cells #[.int .u8 z] 5)).ownsRow B 5 1 (.slice (some ⟨w.heap.size, 0, none⟩) 1 1) 1 [.int .u8 z] :=
  World.ownsRow_lit w #[.int .u8 z] 1 hB (by decide) rfl

end Go.Proofs.YtbliddmkmieppaaDoor
