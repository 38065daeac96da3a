-- M04
import Derived.Test.YtnfjmmkokhncoaaGreatM03
import Derived.Deep.DeepCutAuto
import Derived.Deep.CutRange
import Derived.Deep.RegionWith
import Derived.Test.YtnfjmmkokhncoaaGreatProg
import Derived.Deep.QuietTactic
import Derived.BigQuiet
import Derived.Below
section
namespace Go.Proofs.YtnfjmmkokhncoaaGreat
open Go.RowKit Go.Maps
set_option maxRecDepth 100000

theorem kix0 (a b c d : Int) (w : World) : (Instr.index 96 (.agg #[.int .u32 a, .int .u32 b, .int .u32 c, .int .u32 d]) (.int .i64 0)).run Tryz.prog w = .ok (.int .u32 a) w := by kernel_rfl
theorem kix1 (a b c d : Int) (w : World) : (Instr.index 96 (.agg #[.int .u32 a, .int .u32 b, .int .u32 c, .int .u32 d]) (.int .i64 1)).run Tryz.prog w = .ok (.int .u32 b) w := by kernel_rfl
theorem kix2 (a b c d : Int) (w : World) : (Instr.index 96 (.agg #[.int .u32 a, .int .u32 b, .int .u32 c, .int .u32 d]) (.int .i64 2)).run Tryz.prog w = .ok (.int .u32 c) w := by kernel_rfl
theorem kix3 (a b c d : Int) (w : World) : (Instr.index 96 (.agg #[.int .u32 a, .int .u32 b, .int .u32 c, .int .u32 d]) (.int .i64 3)).run Tryz.prog w = .ok (.int .u32 d) w := by kernel_rfl
set_option maxHeartbeats 2000000 in
theorem fit_any {w : World} {sb g tb cap most : Nat} {N : List Nd} (h : St w sb g tb cap most N) (k : K4) (hk : InK k) :
    Calls Tryz.prog 94 #[.pointer (some ⟨sb, 0, none⟩), .agg #[.int .u32 (k.1 : Int), .int .u32 (k.2.1 : Int), .int .u32 (k.2.2.1 : Int), .int .u32 (k.2.2.2 : Int)]] w fun e w' => e = .returned (.bool (decide (FitZ N k))) ∧ Below w.heap.size w w' := by
  have HS := Lib.hid h
  have HK := Lib.hid hk
  clear h hk
  go_enter Tryz.func94, Tryz.ntmps94
  go_wp2_with fail
  have HB := Lib.hid (bel1 w (.cells #[.int .u32 (k.1 : Int), .int .u32 (k.2.1 : Int), .int .u32 (k.2.2.1 : Int), .int .u32 (k.2.2.2 : Int)] 96))
  have HS1 := Lib.hid (HS.out.later HB.out)
  have HK1 := Lib.hid (k_new w k)
  generalize w.alloc (.cells #[.int .u32 (k.1 : Int), .int .u32 (k.2.1 : Int), .int .u32 (k.2.2.1 : Int), .int .u32 (k.2.2.2 : Int)] 96) = W at *
  clear HS
  refine (level_any HS1.out k.1 HK.out.1).mono ?_
  rintro e w' ⟨rfl, rfl⟩
  obtain ⟨u0, u1, u2, u3, u4⟩ := HK1.out.cells
  by_cases h0 : lvZ N k.1 < 0
  · have g0 : decide (lvZ N k.1 < 0) = true := by simpa using h0
    have hf : decide (FitZ N k) = false := by simp only [decide_eq_false_iff_not]; exact fun hh => by have := hh.1; have := hh.2.1; omega
    have HF := Lib.hid hf
    clear hf
    go_wp2_with fail
    go_ret
    exact ⟨by rw [HF.out]; rfl, HB.out⟩
  have g0 : decide (lvZ N k.1 < 0) = false := by simpa using h0
  by_cases h1 : 62 ≤ lvZ N k.1
  · have g1 : decide (62 ≤ lvZ N k.1) = true := by simpa using h1
    have hf : decide (FitZ N k) = false := by simp only [decide_eq_false_iff_not]; exact fun hh => by have := hh.1; have := hh.2.1; omega
    have HF := Lib.hid hf
    clear hf
    go_wp2_with fail
    go_ret
    exact ⟨by rw [HF.out]; rfl, HB.out⟩
  have g1 : decide (62 ≤ lvZ N k.1) = false := by simpa using h1
  have HL : Hid (0 ≤ lvZ N k.1 ∧ lvZ N k.1 < 62) := ⟨by omega, by omega⟩
  clear h0 h1
  go_wp2_with fail
  clear u0 u1 u2 u3 u4 g0 g1
  go_loopg [7, 19] 4 (fun m x i wr => wr = W ∧ ((m = 4 ∧ i = .int .i64 0) ∨ (m = 3 ∧ i = .int .i64 1) ∨ (m = 2 ∧ i = .int .i64 2 ∧ lvZ N k.2.1 = lvZ N k.1) ∨ (m = 1 ∧ i = .int .i64 3 ∧ lvZ N k.2.1 = lvZ N k.1 ∧ lvZ N k.2.2.1 = lvZ N k.1) ∨ (m = 0 ∧ i = .int .i64 4 ∧ lvZ N k.2.1 = lvZ N k.1 ∧ lvZ N k.2.2.1 = lvZ N k.1 ∧ lvZ N k.2.2.2 = lvZ N k.1)))
  case atStart => exact ⟨rfl, Or.inl ⟨rfl, rfl⟩⟩
  case round =>
    obtain ⟨rfl, hrel⟩ := hrel
    rcases hrel with ⟨hm, rfl⟩ | ⟨hm, rfl⟩ | ⟨hm, rfl, e1⟩ | ⟨hm, rfl, e1, e2⟩ | ⟨hm, rfl, e1, e2, e3⟩
    · have HM := Lib.hid hm
      clear hm
      have hix := kix0 k.1 k.2.1 k.2.2.1 k.2.2.2
      go_wp2_with fail
      refine (level_any HS1.out k.1 HK.out.1).mono ?_
      rintro e w' ⟨rfl, rfl⟩
      have hq : (lvZ N k.1 != lvZ N k.1) = false := by simp
      go_wp2_with fail
      go_roundg 3
      case measure => rw [HM.out]; omega
      case rel => exact ⟨rfl, Or.inr (Or.inl ⟨rfl, rfl⟩)⟩
    · have HM := Lib.hid hm
      clear hm
      have hix := kix1 k.1 k.2.1 k.2.2.1 k.2.2.2
      go_wp2_with fail
      refine (level_any HS1.out k.2.1 HK.out.2.1).mono ?_
      rintro e w' ⟨rfl, rfl⟩
      by_cases he : lvZ N k.2.1 = lvZ N k.1
      · have HE := Lib.hid he
        have hq : (lvZ N k.2.1 != lvZ N k.1) = false := by simp [he]
        clear he
        go_wp2_with fail
        go_roundg 2
        case measure => rw [HM.out]; omega
        case rel => exact ⟨rfl, Or.inr (Or.inr (Or.inl ⟨rfl, rfl, HE.out⟩))⟩
      · have hq : (lvZ N k.2.1 != lvZ N k.1) = true := by simpa using he
        have hf : decide (FitZ N k) = false := by simp only [decide_eq_false_iff_not]; exact fun hh => he hh.2.2.1
        have HF := Lib.hid hf
        clear hf he
        go_wp2_with fail
        go_ret
        exact ⟨by rw [HF.out]; rfl, HB.out⟩
    · have HM := Lib.hid hm
      clear hm
      have HE1 := Lib.hid e1
      clear e1
      have hix := kix2 k.1 k.2.1 k.2.2.1 k.2.2.2
      go_wp2_with fail
      refine (level_any HS1.out k.2.2.1 HK.out.2.2.1).mono ?_
      rintro e w' ⟨rfl, rfl⟩
      by_cases he : lvZ N k.2.2.1 = lvZ N k.1
      · have HE := Lib.hid he
        have hq : (lvZ N k.2.2.1 != lvZ N k.1) = false := by simp [he]
        clear he
        go_wp2_with fail
        go_roundg 1
        case measure => rw [HM.out]; omega
        case rel => exact ⟨rfl, Or.inr (Or.inr (Or.inr (Or.inl ⟨rfl, rfl, HE1.out, HE.out⟩)))⟩
      · have hq : (lvZ N k.2.2.1 != lvZ N k.1) = true := by simpa using he
        have hf : decide (FitZ N k) = false := by simp only [decide_eq_false_iff_not]; exact fun hh => he hh.2.2.2.1
        have HF := Lib.hid hf
        clear hf he
        go_wp2_with fail
        go_ret
        exact ⟨by rw [HF.out]; rfl, HB.out⟩
    · have HM := Lib.hid hm
      clear hm
      have HE1 := Lib.hid e1
      clear e1
      have HE2 := Lib.hid e2
      clear e2
      have hix := kix3 k.1 k.2.1 k.2.2.1 k.2.2.2
      go_wp2_with fail
      refine (level_any HS1.out k.2.2.2 HK.out.2.2.2).mono ?_
      rintro e w' ⟨rfl, rfl⟩
      by_cases he : lvZ N k.2.2.2 = lvZ N k.1
      · have HE := Lib.hid he
        have hq : (lvZ N k.2.2.2 != lvZ N k.1) = false := by simp [he]
        clear he
        go_wp2_with fail
        go_roundg 0
        case measure => rw [HM.out]; omega
        case rel => exact ⟨rfl, Or.inr (Or.inr (Or.inr (Or.inr ⟨rfl, rfl, HE1.out, HE2.out, HE.out⟩)))⟩
      · have hq : (lvZ N k.2.2.2 != lvZ N k.1) = true := by simpa using he
        have hf : decide (FitZ N k) = false := by simp only [decide_eq_false_iff_not]; exact fun hh => he hh.2.2.2.2
        have HF := Lib.hid hf
        clear hf he
        go_wp2_with fail
        go_ret
        exact ⟨by rw [HF.out]; rfl, HB.out⟩
    · have hf : decide (FitZ N k) = true := by simp only [decide_eq_true_eq]; exact ⟨HL.out.1, HL.out.2, e1, e2, e3⟩
      have HF := Lib.hid hf
      clear hf e1 e2 e3
      go_wp2_with fail
      go_ret
      exact ⟨by rw [HF.out]; rfl, HB.out⟩

theorem sat_step (a c : Nat) (ha : a ≤ topN) (hc : c ≤ topN) : IntKind.u64.wrap ((a : Int) + (if (18446744073709551615 : Int) - (a : Int) < (c : Int) then (18446744073709551615 : Int) - (a : Int) else (c : Int))) = ((sat a c : Nat) : Int) := by
  unfold topN at ha hc
  unfold sat topN
  rw [IntWalk.u64_in _ (by split <;> omega)]
  split <;> omega
theorem ctZ_le {N : List Nd} (hw : Wf N) (x : Nat) : ctZ N x ≤ topN := by
  unfold ctZ
  cases hx : N[x]? with
  | none => exact Nat.zero_le _
  | some n => exact hw.ct_le hx
set_option maxHeartbeats 2000000 in
theorem living_any {w : World} {sb g tb cap most : Nat} {N : List Nd} (h : St w sb g tb cap most N) (k : K4) (hk : InK k) :
    Calls Tryz.prog 96 #[.pointer (some ⟨sb, 0, none⟩), .agg #[.int .u32 (k.1 : Int), .int .u32 (k.2.1 : Int), .int .u32 (k.2.2.1 : Int), .int .u32 (k.2.2.2 : Int)]] w fun e w' => e = .returned (.int .u64 ((livZ N k : Nat) : Int)) ∧ Below w.heap.size w w' := by
  have HS := Lib.hid h
  have HK := Lib.hid hk
  clear h hk
  go_enter Tryz.func96, Tryz.ntmps96
  have hk1 := k_new w k
  obtain ⟨u0, u1, u2, u3, u4⟩ := hk1.cells
  go_wp2_with fail
  have HB := Lib.hid (bel1 w (.cells #[.int .u32 (k.1 : Int), .int .u32 (k.2.1 : Int), .int .u32 (k.2.2.1 : Int), .int .u32 (k.2.2.2 : Int)] 96))
  have HS1 := Lib.hid (HS.out.later HB.out)
  clear u0 u1 u2 u3 u4 hk1
  generalize w.alloc (.cells #[.int .u32 (k.1 : Int), .int .u32 (k.2.1 : Int), .int .u32 (k.2.2.1 : Int), .int .u32 (k.2.2.2 : Int)] 96) = W at *
  clear HS
  go_loopg [5, 7, 9] 4 (fun m al x i wr => wr = W ∧ ((m = 4 ∧ i = .int .i64 0 ∧ al = .int .u64 ((0 : Nat) : Int)) ∨ (m = 3 ∧ i = .int .i64 1 ∧ al = .int .u64 ((sat 0 (ctZ N k.1) : Nat) : Int)) ∨ (m = 2 ∧ i = .int .i64 2 ∧ al = .int .u64 ((sat (sat 0 (ctZ N k.1)) (ctZ N k.2.1) : Nat) : Int)) ∨ (m = 1 ∧ i = .int .i64 3 ∧ al = .int .u64 ((sat (sat (sat 0 (ctZ N k.1)) (ctZ N k.2.1)) (ctZ N k.2.2.1) : Nat) : Int)) ∨ (m = 0 ∧ i = .int .i64 4 ∧ al = .int .u64 ((sat (sat (sat (sat 0 (ctZ N k.1)) (ctZ N k.2.1)) (ctZ N k.2.2.1)) (ctZ N k.2.2.2) : Nat) : Int))))
  case atStart => exact ⟨rfl, Or.inl ⟨rfl, rfl, rfl⟩⟩
  case round =>
    obtain ⟨rfl, hrel⟩ := hrel
    rcases hrel with ⟨hm, rfl, rfl⟩ | ⟨hm, rfl, rfl⟩ | ⟨hm, rfl, rfl⟩ | ⟨hm, rfl, rfl⟩ | ⟨hm, rfl, rfl⟩
    · have HM := Lib.hid hm
      have HA : Hid (0 ≤ topN) := Nat.zero_le _
      have HC := Lib.hid (ctZ_le HS1.out.wf k.1)
      have HSA := Lib.hid (sat_step (0) (ctZ N k.1) HA.out HC.out)
      have hw1 : IntKind.u64.wrap ((18446744073709551615 : Int) - ((0 : Nat) : Int)) = (18446744073709551615 : Int) - ((0 : Nat) : Int) := IntWalk.u64_in _ (by have := HA.out; unfold topN at this; omega)
      have hix := kix0 k.1 k.2.1 k.2.2.1 k.2.2.2
      clear hm
      skip
      go_wp2_with fail
      refine (count_any HS1.out k.1 HK.out.1).mono ?_
      rintro e w' ⟨rfl, rfl⟩
      go_wp2_with fail
      · go_roundg 3
        case measure => rw [HM.out]; omega
        case rel => exact ⟨rfl, Or.inr (Or.inl ⟨rfl, rfl, by have h1 := HA.out; have h2 := HC.out; unfold topN at h1 h2; unfold sat topN; congr 1; omega⟩)⟩
      · go_roundg 3
        case measure => rw [HM.out]; omega
        case rel => exact ⟨rfl, Or.inr (Or.inl ⟨rfl, rfl, by have h1 := HA.out; have h2 := HC.out; unfold topN at h1 h2; unfold sat topN; congr 1; omega⟩)⟩
    · have HM := Lib.hid hm
      have HA : Hid (sat 0 (ctZ N k.1) ≤ topN) := sat_le _ _
      have HC := Lib.hid (ctZ_le HS1.out.wf k.2.1)
      have HSA := Lib.hid (sat_step (sat 0 (ctZ N k.1)) (ctZ N k.2.1) HA.out HC.out)
      have hw1 : IntKind.u64.wrap ((18446744073709551615 : Int) - ((sat 0 (ctZ N k.1) : Nat) : Int)) = (18446744073709551615 : Int) - ((sat 0 (ctZ N k.1) : Nat) : Int) := IntWalk.u64_in _ (by have := HA.out; unfold topN at this; omega)
      have hix := kix1 k.1 k.2.1 k.2.2.1 k.2.2.2
      clear hm
      generalize (sat 0 (ctZ N k.1) : Nat) = sa at *
      go_wp2_with fail
      refine (count_any HS1.out k.2.1 HK.out.2.1).mono ?_
      rintro e w' ⟨rfl, rfl⟩
      go_wp2_with fail
      · go_roundg 2
        case measure => rw [HM.out]; omega
        case rel => exact ⟨rfl, Or.inr (Or.inr (Or.inl ⟨rfl, rfl, by have h1 := HA.out; have h2 := HC.out; unfold topN at h1 h2; unfold sat topN; congr 1; omega⟩))⟩
      · go_roundg 2
        case measure => rw [HM.out]; omega
        case rel => exact ⟨rfl, Or.inr (Or.inr (Or.inl ⟨rfl, rfl, by have h1 := HA.out; have h2 := HC.out; unfold topN at h1 h2; unfold sat topN; congr 1; omega⟩))⟩
    · have HM := Lib.hid hm
      have HA : Hid (sat (sat 0 (ctZ N k.1)) (ctZ N k.2.1) ≤ topN) := sat_le _ _
      have HC := Lib.hid (ctZ_le HS1.out.wf k.2.2.1)
      have HSA := Lib.hid (sat_step (sat (sat 0 (ctZ N k.1)) (ctZ N k.2.1)) (ctZ N k.2.2.1) HA.out HC.out)
      have hw1 : IntKind.u64.wrap ((18446744073709551615 : Int) - ((sat (sat 0 (ctZ N k.1)) (ctZ N k.2.1) : Nat) : Int)) = (18446744073709551615 : Int) - ((sat (sat 0 (ctZ N k.1)) (ctZ N k.2.1) : Nat) : Int) := IntWalk.u64_in _ (by have := HA.out; unfold topN at this; omega)
      have hix := kix2 k.1 k.2.1 k.2.2.1 k.2.2.2
      clear hm
      generalize (sat (sat 0 (ctZ N k.1)) (ctZ N k.2.1) : Nat) = sa at *
      go_wp2_with fail
      refine (count_any HS1.out k.2.2.1 HK.out.2.2.1).mono ?_
      rintro e w' ⟨rfl, rfl⟩
      go_wp2_with fail
      · go_roundg 1
        case measure => rw [HM.out]; omega
        case rel => exact ⟨rfl, Or.inr (Or.inr (Or.inr (Or.inl ⟨rfl, rfl, by have h1 := HA.out; have h2 := HC.out; unfold topN at h1 h2; unfold sat topN; congr 1; omega⟩)))⟩
      · go_roundg 1
        case measure => rw [HM.out]; omega
        case rel => exact ⟨rfl, Or.inr (Or.inr (Or.inr (Or.inl ⟨rfl, rfl, by have h1 := HA.out; have h2 := HC.out; unfold topN at h1 h2; unfold sat topN; congr 1; omega⟩)))⟩
    · have HM := Lib.hid hm
      have HA : Hid (sat (sat (sat 0 (ctZ N k.1)) (ctZ N k.2.1)) (ctZ N k.2.2.1) ≤ topN) := sat_le _ _
      have HC := Lib.hid (ctZ_le HS1.out.wf k.2.2.2)
      have HSA := Lib.hid (sat_step (sat (sat (sat 0 (ctZ N k.1)) (ctZ N k.2.1)) (ctZ N k.2.2.1)) (ctZ N k.2.2.2) HA.out HC.out)
      have hw1 : IntKind.u64.wrap ((18446744073709551615 : Int) - ((sat (sat (sat 0 (ctZ N k.1)) (ctZ N k.2.1)) (ctZ N k.2.2.1) : Nat) : Int)) = (18446744073709551615 : Int) - ((sat (sat (sat 0 (ctZ N k.1)) (ctZ N k.2.1)) (ctZ N k.2.2.1) : Nat) : Int) := IntWalk.u64_in _ (by have := HA.out; unfold topN at this; omega)
      have hix := kix3 k.1 k.2.1 k.2.2.1 k.2.2.2
      clear hm
      generalize (sat (sat (sat 0 (ctZ N k.1)) (ctZ N k.2.1)) (ctZ N k.2.2.1) : Nat) = sa at *
      go_wp2_with fail
      refine (count_any HS1.out k.2.2.2 HK.out.2.2.2).mono ?_
      rintro e w' ⟨rfl, rfl⟩
      go_wp2_with fail
      · go_roundg 0
        case measure => rw [HM.out]; omega
        case rel => exact ⟨rfl, Or.inr (Or.inr (Or.inr (Or.inr ⟨rfl, rfl, by have h1 := HA.out; have h2 := HC.out; unfold topN at h1 h2; unfold sat topN; congr 1; omega⟩)))⟩
      · go_roundg 0
        case measure => rw [HM.out]; omega
        case rel => exact ⟨rfl, Or.inr (Or.inr (Or.inr (Or.inr ⟨rfl, rfl, by have h1 := HA.out; have h2 := HC.out; unfold topN at h1 h2; unfold sat topN; congr 1; omega⟩)))⟩
    · go_wp2_with fail
      go_ret
      exact ⟨rfl, HB.out⟩
end Go.Proofs.YtnfjmmkokhncoaaGreat
end

section
namespace Go.Proofs.YtnfjmmkokhncoaaGreat
open Go.RowKit Go.Maps
set_option maxRecDepth 100000

theorem new_bad (most : Int) (h : most < 2 ∨ 1048576 < most) (w : World) :
    Calls Tryz.prog 18 #[.int .i64 most] w fun e w' => e = .returned (.tuple #[.pointer none, .iface 52 (.int .i64 1)]) ∧ w = w' := by
  by_cases h0 : most < 2
  · have g0 : decide (most < 2) = true := by simpa using h0
    go_enter Tryz.func18, Tryz.ntmps18
    go_wp2
    go_ret2
    exact ⟨rfl, rfl⟩
  · have g0 : decide (most < 2) = false := by simpa using h0
    have g1 : decide (1048576 < most) = true := by simp; omega
    go_enter Tryz.func18, Tryz.ntmps18
    go_wp2
    go_ret2
    exact ⟨rfl, rfl⟩
def newW (w : World) (most : Nat) : World := ((w.alloc (.cells #[.int .u32 0, .int .u32 0, .int .u32 0, .int .u32 0, .int .i64 0, .int .u64 0, .int .u32 0, .int .u32 0, .int .u32 0, .int .u32 0, .int .i64 0, .int .u64 1] 98)).alloc (.map #[] 0)).alloc (.cells #[.int .i64 (most : Int), .slice (some ⟨w.heap.size, 0, none⟩) 2 2, .map (some (w.heap.size + 1))] 102)
theorem new_st (w : World) (most : Nat) (h0 : 2 ≤ most) (h1 : most ≤ 1048576) : St (newW w most) (w.heap.size + 1 + 1) w.heap.size (w.heap.size + 1) 2 most N0 ∧ Below w.heap.size w (newW w most) := by
  unfold newW
  generalize hc : (.cells #[.int .u32 0, .int .u32 0, .int .u32 0, .int .u32 0, .int .i64 0, .int .u64 0, .int .u32 0, .int .u32 0, .int .u32 0, .int .u32 0, .int .i64 0, .int .u64 1] 98 : Obj) = o1
  have e1 : (w.alloc o1).heap.size = w.heap.size + 1 := by simp
  have e2 : ((w.alloc o1).alloc (.map #[] 0)).heap.size = w.heap.size + 1 + 1 := by simp
  have b3 := bel1 ((w.alloc o1).alloc (.map #[] 0)) (.cells #[.int .i64 (most : Int), .slice (some ⟨w.heap.size, 0, none⟩) 2 2, .map (some (w.heap.size + 1))] 102)
  have b2 := bel1 (w.alloc o1) (.map #[] 0)
  have b1 := bel1 w o1
  refine ⟨⟨?_, ⟨rfl, Or.inr ⟨w.heap.size, 2, #[.int .u32 0, .int .u32 0, .int .u32 0, .int .u32 0, .int .i64 0, .int .u64 0, .int .u32 0, .int .u32 0, .int .u32 0, .int .u32 0, .int .i64 0, .int .u64 1], rfl, Nat.zero_le _, ?_, Nat.le_refl _, by unfold maxLen; omega, rfl, rfl⟩⟩, ?_, wf_new, h0, h1, by omega⟩, (b1.trans (b2.mono (by omega))).trans (b3.mono (by omega))⟩
  · have := heap_alloc_new ((w.alloc o1).alloc (.map #[] 0)) (.cells #[.int .i64 (most : Int), .slice (some ⟨w.heap.size, 0, none⟩) 2 2, .map (some (w.heap.size + 1))] 102)
    rw [e2] at this
    exact this
  · rw [b3.block w.heap.size (by omega), b2.block w.heap.size (by omega), heap_alloc_new, ← hc]
  · have := kmap_new (w.alloc o1)
    rw [e1] at this
    exact this.blk (b3.block _ (by omega))
set_option maxHeartbeats 1000000 in
theorem new_good (most : Nat) (h0 : 2 ≤ most) (h1 : most ≤ 1048576) (w : World) :
    Calls Tryz.prog 18 #[.int .i64 (most : Int)] w fun e w' => ∃ sb g tb, e = .returned (.tuple #[.pointer (some ⟨sb, 0, none⟩), .nilIface]) ∧ St w' sb g tb 2 most N0 ∧ Below w.heap.size w w' ∧ w.heap.size ≤ sb ∧ w.heap.size ≤ g ∧ w.heap.size ≤ tb := by
  have g0 : decide ((most : Int) < 2) = false := by simp; omega
  have g1 : decide ((1048576 : Int) < (most : Int)) = false := by simp; omega
  have hmm := @run_makeMap Tryz.prog
  go_enter Tryz.func18, Tryz.ntmps18
  go_wp2_with fail
  go_ret2
  obtain ⟨s1, s2⟩ := new_st w most h0 h1
  exact ⟨_, _, _, rfl, s1, s2, by omega, by omega, by omega⟩
end Go.Proofs.YtnfjmmkokhncoaaGreat
end

section
namespace Go.Proofs.YtnfjmmkokhncoaaGreat
open Go.RowKit

/-- Which operations have come up, as a number's bits. -/
structure Marks (n : Nat) (listed : Array Bool) (m : Nat) : Prop where
  size : listed.size = n
  get : ∀ j (h : j < listed.size), listed[j] = m.testBit j
  high : ∀ j, n ≤ j → m.testBit j = false
theorem Marks.getT {n m j : Nat} {listed : Array Bool} (h : Marks n listed m) (hj : j < n) : listed.getD j true = m.testBit j := by
  have hj' : j < listed.size := by rw [h.size]; exact hj
  rw [← h.get j hj']
  simp [hj']
theorem Marks.getF {n m j : Nat} {listed : Array Bool} (h : Marks n listed m) : listed.getD j false = m.testBit j := by
  by_cases hj : j < n
  · have hj' : j < listed.size := by rw [h.size]; exact hj
    rw [← h.get j hj']
    simp [hj']
  · rw [h.high j (by omega)]
    simp [Array.getElem?_eq_none (show listed.size ≤ j by rw [h.size]; omega)]
theorem marks_none (n : Nat) : Marks n (Array.replicate n false) 0 := ⟨by simp, fun j h => by simp, fun j _ => by simp⟩
theorem Marks.set {n m k : Nat} {listed : Array Bool} (h : Marks n listed m) (hk : k < n) : Marks n (listed.setIfInBounds k true) (m ||| 2 ^ k) := by
  refine ⟨by simp [h.size], fun j hj => ?_, fun j hj => ?_⟩
  · have hj' : j < listed.size := by simpa using hj
    rw [Nat.testBit_or, Nat.testBit_two_pow, Array.getElem_setIfInBounds hj']
    by_cases e : k = j
    · simp [e]
    · simp [e, h.get j hj']
  · rw [Nat.testBit_or, Nat.testBit_two_pow, h.high j hj]
    simp; omega
/-- The marks, written out. -/
def marksArr (n m : Nat) : Array Bool := ((List.range n).map fun j => m.testBit j).toArray
theorem Marks.eq {n m : Nat} {listed : Array Bool} (h : Marks n listed m) : listed = marksArr n m := by
  apply Array.ext
  · simp [marksArr, h.size]
  · intro j h1 h2
    rw [h.get j h1]
    simp [marksArr]

def allFrom (f : Nat → Oper → Bool) : Nat → List Oper → Bool
  | _, [] => true
  | j, o :: r => f j o && allFrom f (j + 1) r
theorem allFrom_at {f : Nat → Oper → Bool} : ∀ {L : List Oper} {k : Nat}, allFrom f k L = true → ∀ {j : Nat} {o : Oper}, L[j]? = some o → f (k + j) o = true
  | [], _, _, _, _, h => by simp at h
  | x :: r, k, ha, j, o, h => by
    simp only [allFrom, Bool.and_eq_true] at ha
    cases j with
    | zero => simp at h; subst h; exact ha.1
    | succ j =>
      have := allFrom_at ha.2 (j := j) (o := o) (by simpa using h)
      rwa [Nat.add_right_comm, Nat.add_assoc] at this
def upB (md : Region.Mode) (m : Nat) (o : Oper) : Bool := o.after.all fun e => !Region.binds md e || m.testBit e.on
def freeB (md : Region.Mode) (L : List Oper) (m k : Nat) (ok : Oper) : Bool := allFrom (fun j o => j == k || m.testBit j || o.after.any (fun e => Region.binds md e && e.on == k) || ok.apart L.toArray o) 0 L
def oneB (md : Region.Mode) (L : List Oper) (m k : Nat) : Bool := allFrom (fun j o => j == k || m.testBit j || !upB md m o) 0 L
def stepB (md : Region.Mode) (L : List Oper) (m k : Nat) (p : Bool) : Bool :=
  match L[k]? with
  | none => false
  | some o => !m.testBit k && upB md m o && (if p then freeB md L m k o else oneB md L m k)
def seqB (md : Region.Mode) (L : List Oper) : List (Nat × Bool) → Nat → Bool
  | [], _ => true
  | (k, p) :: r, m => stepB md L m k p && seqB md L r (m ||| 2 ^ k)
def endM : List (Nat × Bool) → Nat → Nat
  | [], m => m
  | (k, _) :: r, m => endM r (m ||| 2 ^ k)
/-- The sequence's walk. -/
def wpSeq (P : Program) (L : List Oper) (Q : Exit → Act → World → Prop) (Z : Act → World → Prop) : List (Nat × Bool) → Act → World → Prop
  | [], a, w => Z a w
  | (k, true) :: r, a, w => ∃ o v, L[k]? = some o ∧ Region.wanted o (yielded L.toArray a.tmps) = true ∧ (∀ w, (execOp a.eval o).run P w = .ok (.value v) w) ∧ wpSeq P L Q Z r (a.put o.dst v) w
  | (k, false) :: r, a, w => ∃ o, L[k]? = some o ∧ Region.wanted o (yielded L.toArray a.tmps) = true ∧ ∀ K : Act → World → Prop, (∀ a w, wpSeq P L Q Z r a w → K a w) → Oper.wp P o a w K Q

theorem up_ready {md : Region.Mode} {L : List Oper} {n m k : Nat} {o : Oper} {listed : Array Bool} (hM : Marks n listed m) (hn : L.length = n) (ho : L[k]? = some o) (h1 : m.testBit k = false) (h2 : upB md m o = true) : k ∈ Region.ready md L.toArray listed := by
  have hk : k < n := by rw [← hn]; exact (List.getElem?_eq_some_iff.1 ho).1
  refine mem_ready.2 ⟨by rw [hM.getT hk]; exact h1, o, by simpa using ho, fun e he hb => ?_⟩
  rw [hM.getF]
  have := Array.all_eq_true_iff_forall_mem.1 h2 e he
  simpa [hb] using this
theorem ready_up {md : Region.Mode} {L : List Oper} {n m k : Nat} {o : Oper} {listed : Array Bool} (hM : Marks n listed m) (hn : L.length = n) (ho : L[k]? = some o) (h : k ∈ Region.ready md L.toArray listed) : m.testBit k = false ∧ upB md m o = true := by
  have hk : k < n := by rw [← hn]; exact (List.getElem?_eq_some_iff.1 ho).1
  obtain ⟨h1, o', ho', h2⟩ := mem_ready.1 h
  obtain rfl : o' = o := by
    have : L[k]? = some o' := by simpa using ho'
    rw [ho] at this
    exact (Option.some.inj this).symm
  refine ⟨by rw [← hM.getT hk]; exact h1, Array.all_eq_true_iff_forall_mem.2 (fun e he => ?_)⟩
  cases hb : Region.binds md e
  · rfl
  · have := h2 e he hb
    rw [hM.getF] at this
    simp [this]

/-- One walk of the sequence serves every order. -/
theorem wpAny_seq {P : Program} {md : Region.Mode} {L : List Oper} {Q : Exit → Act → World → Prop} {n fuel : Nat} (hn : L.length = n) (hs : Region.noSelect L.toArray = true) (hQ : ∀ c a d v w, Q (.panic c) (a.put d v) w → Q (.panic c) a w) :
    ∀ (js : List (Nat × Bool)) (m : Nat) (listed : Array Bool) (a : Act) (w : World), Marks n listed m → seqB md L js m = true →
      wpSeq P L Q (wpAny P md L.toArray Q fuel (marksArr n (endM js m))) js a w → wpAny P md L.toArray Q (fuel + js.length) listed a w
  | [], m, listed, a, w, hM, _, h => by rw [hM.eq]; exact h
  | (k, true) :: r, m, listed, a, w, hM, hB, h => by
    simp only [seqB, Bool.and_eq_true] at hB
    obtain ⟨o, v, ho, hw, hv, hr⟩ := h
    have hst := hB.1
    unfold stepB at hst
    simp only [ho, Bool.and_eq_true, Bool.not_eq_true', if_true] at hst
    obtain ⟨⟨h1, h2⟩, h3⟩ := hst
    have hk : k < n := by rw [← hn]; exact (List.getElem?_eq_some_iff.1 ho).1
    refine wpAny_first (i := k) (oi := o) (v := v) (by simpa using ho) (Region.noSelect_spec hs) (fun c a w h => hQ c a _ _ w h) (fuel + r.length) listed a w ?_ (up_ready hM hn ho h1 h2) (Or.inl ⟨hw, hv⟩) (wpAny_seq hn hs hQ r (m ||| 2 ^ k) _ _ w (hM.set hk) hB.2 hr)
    intro j oj hj hne hun hno
    have hj' : L[j]? = some oj := by simpa using hj
    have hjn : j < n := by rw [← hn]; exact (List.getElem?_eq_some_iff.1 hj').1
    have := allFrom_at h3 hj'
    rw [Nat.zero_add] at this
    simp only [Bool.or_eq_true, beq_iff_eq] at this
    rcases this with ((hh | hh) | hh) | hh
    · exact absurd hh hne
    · rw [hM.getT hjn, hh] at hun; cases hun
    · obtain ⟨e, he, hb⟩ := Array.any_eq_true'.1 hh
      simp only [Bool.and_eq_true, beq_iff_eq] at hb
      exact absurd hb.2 (hno e he hb.1)
    · exact hh
  | (k, false) :: r, m, listed, a, w, hM, hB, h => by
    simp only [seqB, Bool.and_eq_true] at hB
    obtain ⟨o, ho, hw, hr⟩ := h
    have hst := hB.1
    unfold stepB at hst
    simp only [ho, Bool.and_eq_true, Bool.not_eq_true', Bool.false_eq_true, if_false] at hst
    obtain ⟨⟨h1, h2⟩, h3⟩ := hst
    have hk : k < n := by rw [← hn]; exact (List.getElem?_eq_some_iff.1 ho).1
    have hrd := up_ready (md := md) hM hn ho h1 h2
    show wpAny P md L.toArray Q (fuel + r.length + 1) listed a w
    refine ⟨fun h0 => (by rw [h0] at hrd; cases hrd), fun j hj => ?_⟩
    have hjk : j = k := by
      apply Classical.byContradiction
      intro hne
      obtain ⟨_, oj, hoj, _⟩ := mem_ready.1 hj
      have hj' : L[j]? = some oj := by simpa using hoj
      obtain ⟨g1, g2⟩ := ready_up hM hn hj' hj
      have := allFrom_at h3 hj'
      rw [Nat.zero_add] at this
      simp [hne, g1, g2] at this
    subst hjk
    refine wpOp_step (by simpa using ho) (fun K hK => ?_)
    rw [if_pos hw]
    exact hr K (fun a' w' hh => hK a' w' (wpAny_seq hn hs hQ r (m ||| 2 ^ j) _ a' w' (hM.set hk) hB.2 hh))
theorem marks_arr {n m : Nat} (h : m < 2 ^ n) : Marks n (marksArr n m) m := by
  refine ⟨by simp [marksArr], fun j hj => by simp [marksArr], fun j hj => Nat.testBit_lt_two_pow (Nat.lt_of_lt_of_le h (Nat.pow_le_pow_right (by omega) hj))⟩
/-- The operations js are left, and come in this turn. -/
def turnM (md : Region.Mode) (L : List Oper) : List Nat → Nat → Bool
  | [], m => allFrom (fun j _ => m.testBit j) 0 L
  | k :: r, m => stepB md L m k true && turnM md L r (m ||| 2 ^ k)
theorem wpAnyQ_marks {P : Program} {md : Region.Mode} {L : List Oper} {C : World → Prop} {Q : Act → Prop} {n : Nat} (hn : L.length = n) (hs : Region.noSelect L.toArray = true) :
    ∀ (js : List Nat) (l : List Oper) (m : Nat) (listed : Array Bool) (a : Act), Marks n listed m → js.map (fun j => L[j]?) = l.map some → turnM md L js m = true → wpQuiet P L.toArray C Q l a → wpAnyQ P md L.toArray C Q l.length listed a
  | [], [], m, listed, a, hM, _, hB, h => by
    refine ⟨?_, h⟩
    apply List.eq_nil_iff_forall_not_mem.2
    intro j hj
    obtain ⟨_, oj, hoj, _⟩ := mem_ready.1 hj
    have hj' : L[j]? = some oj := by simpa using hoj
    have h1 := (ready_up hM hn hj' hj).1
    have h2 := allFrom_at hB hj'
    rw [Nat.zero_add, h1] at h2
    cases h2
  | [], _ :: _, _, _, _, _, he, _, _ => by simp at he
  | _ :: _, [], _, _, _, _, he, _, _ => by simp at he
  | k :: js, o :: l, m, listed, a, hM, he, hB, h => by
    simp only [List.map_cons, List.cons.injEq] at he
    obtain ⟨ho, he⟩ := he
    simp only [turnM, Bool.and_eq_true] at hB
    have hst := hB.1
    unfold stepB at hst
    simp only [ho, Bool.and_eq_true, Bool.not_eq_true', if_true] at hst
    obtain ⟨⟨h1, h2⟩, h3⟩ := hst
    have hk : k < n := by rw [← hn]; exact (List.getElem?_eq_some_iff.1 ho).1
    have h0 : L.toArray[k]? = some o := by simpa using ho
    have hq : qOp P L.toArray C k (wpQuiet P L.toArray C Q l) a := by unfold qOp; simp only [h0]; exact h
    obtain ⟨v, hy, hK⟩ := yieldsIn_of_qOp h0 hq
    refine wpAnyQ_first h0 (Region.noSelect_spec hs) l.length listed a ?_ (up_ready hM hn ho h1 h2) hy (wpAnyQ_marks hn hs js l (m ||| 2 ^ k) _ _ (hM.set hk) he hB.2 hK)
    intro j oj hj hne hun hno
    have hj' : L[j]? = some oj := by simpa using hj
    have hjn : j < n := by rw [← hn]; exact (List.getElem?_eq_some_iff.1 hj').1
    have := allFrom_at h3 hj'
    rw [Nat.zero_add] at this
    simp only [Bool.or_eq_true, beq_iff_eq] at this
    rcases this with ((hh | hh) | hh) | hh
    · exact absurd hh hne
    · rw [hM.getT hjn, hh] at hun; cases hun
    · obtain ⟨e, he, hb⟩ := Array.any_eq_true'.1 hh
      simp only [Bool.and_eq_true, beq_iff_eq] at hb
      exact absurd hb.2 (hno e he hb.1)
    · exact hh
/-- What is left keeps to a class of worlds. -/
theorem rest_marks {P : Program} {md : Region.Mode} {Q : Exit → Act → World → Prop} {a : Act} {w : World} {L : List Oper} {fuel n : Nat} {listed : Array Bool} (C : World → Prop) (m : Nat) (js : List Nat) (l : List Oper) (hM : Marks n listed m) (hn : L.length = n) (hs : Region.noSelect L.toArray = true) (hl : js.map (fun j => L[j]?) = l.map some)
    (hf : l.length = fuel) (hB : turnM md L js m = true) (hC : C w) (h : wpQuiet P L.toArray C (fun a' => ∀ w', C w' → Q .normal a' w') l a) : wpAny P md L.toArray Q fuel listed a w := by
  subst hf
  exact wpAny_of_quiet (Q := fun a' => ∀ w', C w' → Q .normal a' w') (fun _ w' hw' h => h w' hw') _ _ _ _ hC (wpAnyQ_marks hn hs js l m listed a hM hl hB h)
theorem rest_from {P : Program} {md : Region.Mode} {Q : Exit → Act → World → Prop} {a : Act} {w : World} {L : List Oper} {fuel n : Nat} {listed : Array Bool} (C : World → Prop) (m k : Nat) (js : List Nat) (hM : Marks n listed m) (hn : L.length = n) (hs : Region.noSelect L.toArray = true) (hl : js.map (fun j => L[j]?) = (L.drop k).map some)
    (hf : (L.drop k).length = fuel) (hB : turnM md L js m = true) (hC : C w) (h : wpQuiet P L.toArray C (fun a' => ∀ w', C w' → Q .normal a' w') (L.drop k) a) : wpAny P md L.toArray Q fuel listed a w := rest_marks C m js (L.drop k) hM hn hs hl hf hB hC h
end Go.Proofs.YtnfjmmkokhncoaaGreat
end
