/- Package base: Inner, quarter: contracts. -/
import Derived.Test.YtchbdkadoamikaaBa
import Derived.Test.YtchbdkadoamikaaBk6
import Derived.Deep.DeepCutAuto
import Derived.Deep.CutRange
namespace Go.Proofs.Ytchbdkadoamikaa
open Go.RowKit Go.Maps
set_option maxRecDepth 100000

theorem below_drewN9 {B : Nat} {a w : World} (h : Below B a w) (q : Nat) : Below B a (w.drewN q) := ⟨h.os, h.tape, h.output, h.size, h.block⟩
/-- Four bools in a block. -/
def bO (f : Nat → Bool) : Obj := .cells #[.bool (f 0), .bool (f 1), .bool (f 2), .bool (f 3)] 117 (0, 0)
theorem b_cells {w : World} {b : Nat} {f : Nat → Bool} (h : w.heap[b]? = some (bO f)) : w.cell? ⟨b, 0, none⟩ = some (.bool (f 0)) ∧ w.cell? ⟨b, 1, none⟩ = some (.bool (f 1)) ∧ w.cell? ⟨b, 2, none⟩ = some (.bool (f 2)) ∧ w.cell? ⟨b, 3, none⟩ = some (.bool (f 3)) :=
  ⟨by rw [Lib.cell_of_heap h]; rfl, by rw [Lib.cell_of_heap h]; rfl, by rw [Lib.cell_of_heap h]; rfl, by rw [Lib.cell_of_heap h]; rfl⟩
theorem b_cell {w : World} {b : Nat} {f : Nat → Bool} (h : w.heap[b]? = some (bO f)) {i : Nat} (hi : i < 4) : w.cell? ⟨b, i, none⟩ = some (.bool (f i)) ∧ w.frozen? ⟨b, i, none⟩ = false := by
  obtain ⟨c0, c1, c2, c3⟩ := b_cells h
  refine ⟨?_, Lib.frozen_of_heap h i⟩
  have : i = 0 ∨ i = 1 ∨ i = 2 ∨ i = 3 := by omega
  rcases this with rfl | rfl | rfl | rfl
  · exact c0
  · exact c1
  · exact c2
  · exact c3
theorem b_set {w : World} {b : Nat} {f : Nat → Bool} (h : w.heap[b]? = some (bO f)) {i : Nat} (hi : i < 4) (v : Bool) : (w.setCell ⟨b, i, none⟩ (.bool v)).heap[b]? = some (bO fun j => if j = i then v else f j) := by
  have : i = 0 ∨ i = 1 ∨ i = 2 ∨ i = 3 := by omega
  rcases this with rfl | rfl | rfl | rfl <;> simp only [World.setCell, Array.getElem?_modify, h, bO] <;> simp
theorem bO_ext {f g : Nat → Bool} (h : ∀ i, i < 4 → f i = g i) : bO f = bO g := by
  unfold bO; rw [h 0 (by omega), h 1 (by omega), h 2 (by omega), h 3 (by omega)]
theorem b_res {w W : World} {B b : Nat} {f : Nat → Bool} (hb : Below B w W) (hB : B ≤ b) (h : W.heap[b]? = some (bO f)) (d : Nat → Bool) :
    ∃ W', ((((W.setCell ⟨b, 0, none⟩ (.bool (d 0))).setCell ⟨b, 1, none⟩ (.bool (d 1))).setCell ⟨b, 2, none⟩ (.bool (d 2))).setCell ⟨b, 3, none⟩ (.bool (d 3))) = W' ∧ Below B w W' ∧ W'.heap[b]? = some (bO d) :=
  ⟨_, rfl, (((hb.setCell (p := ⟨b, 0, none⟩) hB _).setCell (p := ⟨b, 1, none⟩) hB _).setCell (p := ⟨b, 2, none⟩) hB _).setCell (p := ⟨b, 3, none⟩) hB _, by simp only [World.setCell, Array.getElem?_modify, h, bO]; simp⟩
def bV (f : Nat → Bool) : Value := .agg #[.bool (f 0), .bool (f 1), .bool (f 2), .bool (f 3)]
theorem inner_any (f : Nat) (hf : f < 65536) (w : World) : Calls Try.prog 62 #[.int .u16 (f : Int)] w fun e w' => e = .returned (bV (innF f)) ∧ Below w.heap.size w w' := by
  go_enter Try.func62, Try.ntmps62
  go_wp2_with fail
  go_loopg [4, 5, 6, 7] 4 (fun m v4 v5 v6 cnt wr => ∃ (j : Nat) (g : Nat → Bool), m = 4 - j ∧ j ≤ 4 ∧ cnt = .int .i64 (j : Int) ∧ wr.heap[w.heap.size + 1]? = some (bO g) ∧ (∀ i, i < j → g i = innF f i) ∧ Below w.heap.size w wr ∧ wr.heap[w.heap.size]? = some (bO fun _ => false))
  case atStart =>
    refine ⟨0, fun _ => false, rfl, Nat.zero_le _, rfl, ?_, fun i hi => by omega, (bel1 _ _).trans ((bel1 _ _).mono (by simp)), ?_⟩
    · exact new_2 _ _ _
    · exact kept (heap_alloc_new _ _) (bel1 _ _)
  case round =>
    obtain ⟨j, g, hm, hj, rfl, hb, hg, hB, hr⟩ := hrel
    have HM := Lib.hid hm
    have HBK := Lib.hid hb
    have HG := Lib.hid hg
    have HB := Lib.hid hB
    have HR := Lib.hid hr
    clear hm hb hg hB hr
    by_cases hlt : j < 4
    · have hgj : decide ((j : Int) < 4) = true := by simp; omega
      have a1 : bits .and .i64 (j : Int) 1 = (j : Int) % 2 := by
        rw [and_one j hlt]; omega
      have HAT := Lib.hid (at_in f hf (1 + j % 2) (1 + j / 2) (by omega) (by omega))
      have HNR := Lib.hid (near_any f hf (1 + j % 2) (1 + j / 2) (by omega) (by omega))
      rw [show ((1 + j % 2 : Nat) : Int) = 1 + (j : Int) % 2 by omega, show ((1 + j / 2 : Nat) : Int) = 1 + (j : Int) / 2 by omega] at HAT HNR
      have hm6 := b_cell HBK.out hlt
      obtain ⟨t3, t4⟩ := hm6
      have i3 : (0 : Int) ≤ (j : Int) := by omega
      have i4 : (j : Int) < 4 := by omega
      go_wp2_with fail
      refine (HAT.out _).mono ?_
      rintro e w5 ⟨rfl, rfl⟩
      go_wp2_with fail
      refine (HNR.out _).mono ?_
      rintro e w5 ⟨rfl, q, rfl⟩
      go_wp2_with fail
      refine (rule_any _ _ _).mono ?_
      rintro e w5 ⟨rfl, rfl⟩
      rw [show ruleB (f.testBit (4 * (1 + j / 2) + (1 + j % 2))) (nearF f (1 + j % 2) (1 + j / 2) : Int) = innF f j from rfl]
      go_wp2_with fail
      go_roundg (4 - (j + 1))
      case measure => rw [HM.out]; omega
      case rel =>
        refine ⟨j + 1, fun i => if i = j then innF f j else g i, rfl, by omega, by go_num, ?_, fun i hi => ?_, (below_drewN9 HB.out q).setCell (p := ⟨w.heap.size + 1, j, none⟩) (by show _ ≤ _ + 1; omega) _, ?_⟩
        · exact b_set (w := wr.drewN q) HBK.out hlt _
        · show (if i = j then innF f j else g i) = _
          by_cases e : i = j
          · subst e; rw [if_pos rfl]
          · rw [if_neg e]; exact HG.out i (by omega)
        · rw [Below.heap_setCell _ _ _ _ (by simp)]; exact HR.out
    · obtain rfl : j = 4 := by omega
      have hgj : decide (((4 : Nat) : Int) < 4) = false := by simp
      rw [bO_ext HG.out] at HBK
      obtain ⟨c0, c1, c2, c3⟩ := b_cells HBK.out
      obtain ⟨r0, q0⟩ := b_cell (i := 0) HR.out (by omega)
      obtain ⟨r1, q1⟩ := b_cell (i := 1) HR.out (by omega)
      obtain ⟨r2, q2⟩ := b_cell (i := 2) HR.out (by omega)
      obtain ⟨r3, q3⟩ := b_cell (i := 3) HR.out (by omega)
      go_wp2_with fail
      obtain ⟨W, hW, hb, hk⟩ := b_res HB.out (Nat.le_refl _) HR.out (innF f)
      rw [hW]
      obtain ⟨t0, t1, t2, t3⟩ := b_cells hk
      refine bodyPost_ret (v := _) (by simp [results, Try.results62, go_sem, t0, t1, t2, t3]; rfl) rfl ?_
      exact ⟨rfl, hb⟩
/-- The four cells of a quarter, as squares. -/
def qK (f i : Nat) : K4 := mk4 fun j => if f.testBit (inQ i j) then 1 else 0
end Go.Proofs.Ytchbdkadoamikaa
