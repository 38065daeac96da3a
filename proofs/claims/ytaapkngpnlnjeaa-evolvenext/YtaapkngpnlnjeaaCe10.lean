/- The laws of layer 10: cells: contract. -/
import Derived.Test.YtaapkngpnlnjeaaSa10
namespace Go.Proofs.Ytaapkngpnlnjeaa
open Go.RowKit Go.Maps
set_option maxRecDepth 100000

/-- A row of the law's cells, up to a column. -/
def rowC (l : List Nat) (side y n : Nat) : List (Int × Int) := ((List.range n).filter fun x => alv l side x y).map fun (x : Nat) => ((x : Int), (y : Int))
/-- The rows ahead of one. -/
def rowsC (l : List Nat) (side : Nat) : Nat → List (Int × Int)
  | 0 => []
  | y + 1 => rowsC l side y ++ rowC l side y side
theorem rowC_succ (l : List Nat) (side y n : Nat) : rowC l side y (n + 1) = rowC l side y n ++ if alv l side n y then [((n : Int), (y : Int))] else [] := by
  unfold rowC
  rw [List.range_succ, List.filter_append, List.map_append]
  congr 1
  cases h : alv l side n y <;> simp [List.filter, h]
theorem mem_rowC {l : List Nat} {side y n : Nat} {p : Int × Int} : p ∈ rowC l side y n ↔ ∃ x : Nat, x < n ∧ alv l side x y = true ∧ p = ((x : Int), (y : Int)) := by
  unfold rowC
  simp only [List.mem_map, List.mem_filter, List.mem_range]
  constructor
  · rintro ⟨x, ⟨h1, h2⟩, rfl⟩; exact ⟨x, h1, h2, rfl⟩
  · rintro ⟨x, h1, h2, rfl⟩; exact ⟨x, ⟨h1, h2⟩, rfl⟩
theorem mem_rowsC {l : List Nat} {side : Nat} {p : Int × Int} : ∀ {y : Nat}, p ∈ rowsC l side y ↔ ∃ x k : Nat, x < side ∧ k < y ∧ alv l side x k = true ∧ p = ((x : Int), (k : Int))
  | 0 => by simp [rowsC]
  | y + 1 => by
    unfold rowsC
    rw [List.mem_append, mem_rowsC, mem_rowC]
    constructor
    · rintro (⟨x, k, h1, h2, h3, h4⟩ | ⟨x, h1, h2, h3⟩)
      · exact ⟨x, k, h1, by omega, h3, h4⟩
      · exact ⟨x, y, h1, by omega, h2, h3⟩
    · rintro ⟨x, k, h1, h2, h3, h4⟩
      by_cases e : k = y
      · subst e; exact Or.inr ⟨x, h1, h3, h4⟩
      · exact Or.inl ⟨x, k, h1, by omega, h3, h4⟩
theorem nodup_rowC (l : List Nat) (side y n : Nat) : (rowC l side y n).Nodup := by
  unfold rowC
  refine List.Pairwise.map _ (fun a b h e => h ?_) (List.nodup_range.filter _)
  simp only [Prod.mk.injEq] at e
  omega
theorem nodup_rowsC (l : List Nat) (side : Nat) : ∀ y, (rowsC l side y).Nodup
  | 0 => List.nodup_nil
  | y + 1 => by
    unfold rowsC
    refine List.nodup_append.2 ⟨nodup_rowsC l side y, nodup_rowC l side y side, fun a ha b hb e => ?_⟩
    obtain ⟨x, k, h1, h2, h3, h4⟩ := mem_rowsC.1 ha
    obtain ⟨x', h1', h2', h3'⟩ := mem_rowC.1 hb
    rw [e, h3'] at h4
    simp only [Prod.mk.injEq] at h4
    omega
theorem len_rowC (l : List Nat) (side y n : Nat) : (rowC l side y n).length ≤ n := by
  unfold rowC
  rw [List.length_map]
  exact Nat.le_trans (List.length_filter_le _ _) (by simp)
theorem len_rowsC (l : List Nat) (side : Nat) : ∀ y, (rowsC l side y).length ≤ y * side
  | 0 => by simp [rowsC]
  | y + 1 => by
    unfold rowsC
    rw [List.length_append, Nat.add_mul, Nat.one_mul]
    exact Nat.add_le_add (len_rowsC l side y) (len_rowC l side y side)
/-- All that are alive. -/
def cellsU (l : List Nat) (side : Nat) : List (Int × Int) := rowsC l side side
theorem plL_cellsU (l : List Nat) (side : Nat) : plL (cellsU l side) = plU l side := by
  funext X Y
  unfold plL plU cellsU
  by_cases h : 0 ≤ X ∧ X < (side : Int) ∧ 0 ≤ Y ∧ Y < (side : Int) ∧ alv l side X.toNat Y.toNat = true
  · rw [if_pos h, if_pos]
    exact mem_rowsC.2 ⟨X.toNat, Y.toNat, by omega, by omega, h.2.2.2.2, Prod.ext (by simp only; omega) (by simp only; omega)⟩
  · rw [if_neg h, if_neg]
    intro hm
    obtain ⟨x, k, h1, h2, h3, h4⟩ := mem_rowsC.1 hm
    simp only [Prod.mk.injEq] at h4
    obtain ⟨rfl, rfl⟩ := h4
    exact h ⟨by omega, by omega, by omega, by omega, by simpa using h3⟩
set_option maxHeartbeats 4000000 in
theorem cells10_any (l : List Nat) (hl2 : l.length ≤ 4) (hz : ∀ z ∈ l, z < 18446744073709551616) (a : Option Addr) (cap : Nat) (w : World) (h : RowU w a l) (hD : 0 < l.length → ∀ b off, a = some ⟨b, off, none⟩ → b < w.heap.size) (side : Nat) (hs : side ≤ 16) :
    Calls Try.prog 13 #[.slice a l.length cap, .int .i64 (side : Int)] w fun e w' => ∃ v, e = .returned v ∧ OwP w' w.heap.size v (cellsU l side) ∧ Below w.heap.size w w' := by
  obtain ⟨i0, hi, hz0, hz1, hz2⟩ := infoP7
  have HI := Lib.hid hi
  have HZ0 := Lib.hid hz0
  have HZ1 := Lib.hid hz1
  have HZ2 := Lib.hid hz2
  have HR := Lib.hid h
  have HD := Lib.hid hD
  clear hi hz0 hz1 hz2 h hD
  go_enter Try.func13, Try.ntmps13
  go_wp2_with fail
  go_loopg [5, 6, 7, 9] side (fun mm v5 v6 v7 cnt wr => ∃ (y : Nat), mm = side - y ∧ y ≤ side ∧ cnt = .int .i64 (y : Int) ∧ OwP wr w.heap.size v5 (rowsC l side y) ∧ Below w.heap.size w wr)
  case atStart => exact ⟨0, rfl, Nat.zero_le _, rfl, own_nil _ _, Below.refl _ _⟩
  case round =>
    obtain ⟨y, hm, hy, rfl, ho, hb⟩ := hrel
    have HMM := Lib.hid hm
    have HO := Lib.hid ho
    have HB := Lib.hid hb
    clear hm ho hb
    by_cases hlt : y < side
    · have hgj : decide (y < side) = true := by simp; omega
      go_wp2_with fail
      generalize wr = wo at *
      go_loopg [5, 7, 13] side (fun mm v5 v7 cnt wr => ∃ (x : Nat), mm = side - x ∧ x ≤ side ∧ cnt = .int .i64 (x : Int) ∧ OwP wr w.heap.size v5 (rowsC l side y ++ rowC l side y x) ∧ Below w.heap.size w wr)
      case atStart => exact ⟨0, rfl, Nat.zero_le _, rfl, by unfold rowC; simpa using HO.out, HB.out⟩
      case round =>
        clear HO HB
        obtain ⟨x, hm, hx, rfl, ho, hb⟩ := hrel
        have HMM2 := Lib.hid hm
        have HO := Lib.hid ho
        have HB := Lib.hid hb
        clear hm ho hb
        by_cases hlt2 : x < side
        · have hgj2 : decide (x < side) = true := by simp; omega
          have HAL := Lib.hid (alive_all l hl2 hz a cap wr (HR.out.later HD.out HB.out) side x y hlt2 hlt (by omega))
          have HFL := Lib.hid (rowC_succ l side y x)
          have hlen : (rowsC l side y ++ rowC l side y x).length ≤ 256 + 16 := by
            rw [List.length_append]
            have h1 := len_rowsC l side y
            have h2 := len_rowC l side y x
            have h3 : y * side ≤ 16 * 16 := Nat.mul_le_mul (by omega) hs
            omega
          go_wp2_with fail
          refine HAL.out.mono ?_
          rintro e w5 ⟨rfl, rfl⟩
          clear HAL
          cases hbj : alv l side x y with
          | false =>
            rw [hbj] at HFL
            clear hbj
            go_wp2_with fail
            go_roundg (side - (x + 1))
            case measure => rw [HMM2.out]; omega
            case rel =>
              refine ⟨x + 1, rfl, by omega, by go_num, ?_, HB.out⟩
              rw [HFL.out]
              simp only [Bool.false_eq_true, if_false, List.append_nil]
              exact HO.out
          | true =>
            rw [hbj] at HFL
            clear hbj
            generalize hF : rowsC l side y ++ rowC l side y x = F at *
            have HFF := Lib.hid hF
            clear hF
            go_wp2_with (at_builtin; refine wpList_append_own_at _ rfl _ _ 39 rfl w.heap.size 74 i0 (.agg #[.int .i64 0, .int .i64 0]) 2 16 Try.underlying39 HI.out HZ0.out HZ1.out HZ2.out rfl (by decide) _ _ _ rfl (World.ownsRow.alloc HO.out _) ⟨wr.heap.size, 0, none⟩ 1 1 [.int .i64 (x : Int), .int .i64 (y : Int)] rfl rfl ?_ ?_ ?_ ?_ ?_ ?_; (exact cell_pair _ _ _ _); (intro u hu; simp at hu; rcases hu with rfl | rfl <;> rfl); (unfold maxLen; omega); (omega); (have := HB.out.size; simp; omega); intro v' w7 hown4 hgrow _ hat; have HG := Lib.hid hgrow; have HO4 := Lib.hid hown4; clear hgrow hown4 hat)
            have HB7 := Lib.hid ((HB.out.alloc HB.out.size (.cells #[.int .i64 (x : Int), .int .i64 (y : Int)] 74)).grown HG.out (by have := HB.out.size; simp; omega) (fun k hk => (World.ownsRow.lt HO.out k hk).1))
            go_roundg (side - (x + 1))
            case measure => rw [HMM2.out]; omega
            case rel =>
              refine ⟨x + 1, rfl, by omega, by go_num, ?_, HB7.out⟩
              rw [HFL.out]
              simp only [if_true]
              rw [← List.append_assoc, HFF.out]
              unfold OwP
              rw [ptVs_snoc, List.length_append]
              exact HO4.out
        · obtain rfl : x = side := by omega
          have hgj2 : decide (x < x) = false := by simp
          go_wp2_with fail
          go_roundg (x - (y + 1))
          case measure => rw [HMM.out]; omega
          case rel => exact ⟨y + 1, rfl, by omega, by go_num, HO.out, HB.out⟩
    · obtain rfl : y = side := by omega
      have hgj : decide (y < y) = false := by simp
      go_wp2_with fail
      go_ret
      exact ⟨_, rfl, HO.out, HB.out⟩
end Go.Proofs.Ytaapkngpnlnjeaa
