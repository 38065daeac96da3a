/- Package store: fit, living: contracts. -/
import Derived.Test.YtgciceogggldhaaSt
import Derived.Deep.DeepCutAuto
import Derived.Deep.CutRange
namespace Go.Proofs.Ytgciceogggldhaa
open Go.RowKit Go.Maps
set_option maxRecDepth 100000

theorem kix0 (a b c d : Int) (w : World) : (Instr.index 68 (.agg #[.int .u32 a, .int .u32 b, .int .u32 c, .int .u32 d]) (.int .i64 0)).run Try.prog w = .ok (.int .u32 a) w := by kernel_rfl
theorem kix1 (a b c d : Int) (w : World) : (Instr.index 68 (.agg #[.int .u32 a, .int .u32 b, .int .u32 c, .int .u32 d]) (.int .i64 1)).run Try.prog w = .ok (.int .u32 b) w := by kernel_rfl
theorem kix2 (a b c d : Int) (w : World) : (Instr.index 68 (.agg #[.int .u32 a, .int .u32 b, .int .u32 c, .int .u32 d]) (.int .i64 2)).run Try.prog w = .ok (.int .u32 c) w := by kernel_rfl
theorem kix3 (a b c d : Int) (w : World) : (Instr.index 68 (.agg #[.int .u32 a, .int .u32 b, .int .u32 c, .int .u32 d]) (.int .i64 3)).run Try.prog w = .ok (.int .u32 d) w := by kernel_rfl
set_option maxHeartbeats 2000000 in
theorem fit_any {w : World} {sb g tb cap most : Nat} {N : List Nd} (h : St w sb g tb cap most N) (k : K4) (hk : InK k) :
    Calls Try.prog 39 #[.pointer (some ⟨sb, 0, none⟩), .agg #[.int .u32 (k.1 : Int), .int .u32 (k.2.1 : Int), .int .u32 (k.2.2.1 : Int), .int .u32 (k.2.2.2 : Int)]] w fun e w' => e = .returned (.bool (decide (FitZ N k))) ∧ Below w.heap.size w w' := by
  have HS := Lib.hid h
  have HK := Lib.hid hk
  clear h hk
  go_enter Try.func39, Try.ntmps39
  go_wp2_with fail
  have HB := Lib.hid (bel1 w (.cells #[.int .u32 (k.1 : Int), .int .u32 (k.2.1 : Int), .int .u32 (k.2.2.1 : Int), .int .u32 (k.2.2.2 : Int)] 68))
  have HS1 := Lib.hid (HS.out.later HB.out)
  have HK1 := Lib.hid (k_new w k)
  generalize w.alloc (.cells #[.int .u32 (k.1 : Int), .int .u32 (k.2.1 : Int), .int .u32 (k.2.2.1 : Int), .int .u32 (k.2.2.2 : Int)] 68) = W at *
  clear HS
  refine (level_any HS1.out k.1 HK.out.1).mono ?_
  rintro e w' ⟨rfl, rfl⟩
  obtain ⟨u0, u1, u2, u3, u4⟩ := HK1.out.cells
  by_cases h0 : lvZ N k.1 < 0
  · have g0 : decide (lvZ N k.1 < 0) = true := by simpa using h0
    have hf : decide (FitZ N k) = false := by simp only [decide_eq_false_iff_not]; exact fun hh => by have := hh.1; have := hh.2.1; omega
    have HF := Lib.hid hf
    clear hf
    go_wp2_with fail
    go_ret
    exact ⟨by rw [HF.out]; rfl, HB.out⟩
  have g0 : decide (lvZ N k.1 < 0) = false := by simpa using h0
  by_cases h1 : 62 ≤ lvZ N k.1
  · have g1 : decide (62 ≤ lvZ N k.1) = true := by simpa using h1
    have hf : decide (FitZ N k) = false := by simp only [decide_eq_false_iff_not]; exact fun hh => by have := hh.1; have := hh.2.1; omega
    have HF := Lib.hid hf
    clear hf
    go_wp2_with fail
    go_ret
    exact ⟨by rw [HF.out]; rfl, HB.out⟩
  have g1 : decide (62 ≤ lvZ N k.1) = false := by simpa using h1
  have HL : Hid (0 ≤ lvZ N k.1 ∧ lvZ N k.1 < 62) := ⟨by omega, by omega⟩
  clear h0 h1
  go_wp2_with fail
  clear u0 u1 u2 u3 u4 g0 g1
  go_loopg [7, 19] 4 (fun m x i wr => wr = W ∧ ((m = 4 ∧ i = .int .i64 0) ∨ (m = 3 ∧ i = .int .i64 1) ∨ (m = 2 ∧ i = .int .i64 2 ∧ lvZ N k.2.1 = lvZ N k.1) ∨ (m = 1 ∧ i = .int .i64 3 ∧ lvZ N k.2.1 = lvZ N k.1 ∧ lvZ N k.2.2.1 = lvZ N k.1) ∨ (m = 0 ∧ i = .int .i64 4 ∧ lvZ N k.2.1 = lvZ N k.1 ∧ lvZ N k.2.2.1 = lvZ N k.1 ∧ lvZ N k.2.2.2 = lvZ N k.1)))
  case atStart => exact ⟨rfl, Or.inl ⟨rfl, rfl⟩⟩
  case round =>
    obtain ⟨rfl, hrel⟩ := hrel
    rcases hrel with ⟨hm, rfl⟩ | ⟨hm, rfl⟩ | ⟨hm, rfl, e1⟩ | ⟨hm, rfl, e1, e2⟩ | ⟨hm, rfl, e1, e2, e3⟩
    · have HM := Lib.hid hm
      clear hm
      have hix := kix0 k.1 k.2.1 k.2.2.1 k.2.2.2
      go_wp2_with fail
      refine (level_any HS1.out k.1 HK.out.1).mono ?_
      rintro e w' ⟨rfl, rfl⟩
      have hq : (lvZ N k.1 != lvZ N k.1) = false := by simp
      go_wp2_with fail
      go_roundg 3
      case measure => rw [HM.out]; omega
      case rel => exact ⟨rfl, Or.inr (Or.inl ⟨rfl, rfl⟩)⟩
    · have HM := Lib.hid hm
      clear hm
      have hix := kix1 k.1 k.2.1 k.2.2.1 k.2.2.2
      go_wp2_with fail
      refine (level_any HS1.out k.2.1 HK.out.2.1).mono ?_
      rintro e w' ⟨rfl, rfl⟩
      by_cases he : lvZ N k.2.1 = lvZ N k.1
      · have HE := Lib.hid he
        have hq : (lvZ N k.2.1 != lvZ N k.1) = false := by simp [he]
        clear he
        go_wp2_with fail
        go_roundg 2
        case measure => rw [HM.out]; omega
        case rel => exact ⟨rfl, Or.inr (Or.inr (Or.inl ⟨rfl, rfl, HE.out⟩))⟩
      · have hq : (lvZ N k.2.1 != lvZ N k.1) = true := by simpa using he
        have hf : decide (FitZ N k) = false := by simp only [decide_eq_false_iff_not]; exact fun hh => he hh.2.2.1
        have HF := Lib.hid hf
        clear hf he
        go_wp2_with fail
        go_ret
        exact ⟨by rw [HF.out]; rfl, HB.out⟩
    · have HM := Lib.hid hm
      clear hm
      have HE1 := Lib.hid e1
      clear e1
      have hix := kix2 k.1 k.2.1 k.2.2.1 k.2.2.2
      go_wp2_with fail
      refine (level_any HS1.out k.2.2.1 HK.out.2.2.1).mono ?_
      rintro e w' ⟨rfl, rfl⟩
      by_cases he : lvZ N k.2.2.1 = lvZ N k.1
      · have HE := Lib.hid he
        have hq : (lvZ N k.2.2.1 != lvZ N k.1) = false := by simp [he]
        clear he
        go_wp2_with fail
        go_roundg 1
        case measure => rw [HM.out]; omega
        case rel => exact ⟨rfl, Or.inr (Or.inr (Or.inr (Or.inl ⟨rfl, rfl, HE1.out, HE.out⟩)))⟩
      · have hq : (lvZ N k.2.2.1 != lvZ N k.1) = true := by simpa using he
        have hf : decide (FitZ N k) = false := by simp only [decide_eq_false_iff_not]; exact fun hh => he hh.2.2.2.1
        have HF := Lib.hid hf
        clear hf he
        go_wp2_with fail
        go_ret
        exact ⟨by rw [HF.out]; rfl, HB.out⟩
    · have HM := Lib.hid hm
      clear hm
      have HE1 := Lib.hid e1
      clear e1
      have HE2 := Lib.hid e2
      clear e2
      have hix := kix3 k.1 k.2.1 k.2.2.1 k.2.2.2
      go_wp2_with fail
      refine (level_any HS1.out k.2.2.2 HK.out.2.2.2).mono ?_
      rintro e w' ⟨rfl, rfl⟩
      by_cases he : lvZ N k.2.2.2 = lvZ N k.1
      · have HE := Lib.hid he
        have hq : (lvZ N k.2.2.2 != lvZ N k.1) = false := by simp [he]
        clear he
        go_wp2_with fail
        go_roundg 0
        case measure => rw [HM.out]; omega
        case rel => exact ⟨rfl, Or.inr (Or.inr (Or.inr (Or.inr ⟨rfl, rfl, HE1.out, HE2.out, HE.out⟩)))⟩
      · have hq : (lvZ N k.2.2.2 != lvZ N k.1) = true := by simpa using he
        have hf : decide (FitZ N k) = false := by simp only [decide_eq_false_iff_not]; exact fun hh => he hh.2.2.2.2
        have HF := Lib.hid hf
        clear hf he
        go_wp2_with fail
        go_ret
        exact ⟨by rw [HF.out]; rfl, HB.out⟩
    · have hf : decide (FitZ N k) = true := by simp only [decide_eq_true_eq]; exact ⟨HL.out.1, HL.out.2, e1, e2, e3⟩
      have HF := Lib.hid hf
      clear hf e1 e2 e3
      go_wp2_with fail
      go_ret
      exact ⟨by rw [HF.out]; rfl, HB.out⟩

theorem sat_step (a c : Nat) (ha : a ≤ topN) (hc : c ≤ topN) : IntKind.u64.wrap ((a : Int) + (if (18446744073709551615 : Int) - (a : Int) < (c : Int) then (18446744073709551615 : Int) - (a : Int) else (c : Int))) = ((sat a c : Nat) : Int) := by
  unfold topN at ha hc
  unfold sat topN
  rw [IntWalk.u64_in _ (by split <;> omega)]
  split <;> omega
theorem ctZ_le {N : List Nd} (hw : Wf N) (x : Nat) : ctZ N x ≤ topN := by
  unfold ctZ
  cases hx : N[x]? with
  | none => exact Nat.zero_le _
  | some n => exact hw.ct_le hx
set_option maxHeartbeats 2000000 in
theorem living_any {w : World} {sb g tb cap most : Nat} {N : List Nd} (h : St w sb g tb cap most N) (k : K4) (hk : InK k) :
    Calls Try.prog 40 #[.pointer (some ⟨sb, 0, none⟩), .agg #[.int .u32 (k.1 : Int), .int .u32 (k.2.1 : Int), .int .u32 (k.2.2.1 : Int), .int .u32 (k.2.2.2 : Int)]] w fun e w' => e = .returned (.int .u64 ((livZ N k : Nat) : Int)) ∧ Below w.heap.size w w' := by
  have HS := Lib.hid h
  have HK := Lib.hid hk
  clear h hk
  go_enter Try.func40, Try.ntmps40
  have hk1 := k_new w k
  obtain ⟨u0, u1, u2, u3, u4⟩ := hk1.cells
  go_wp2_with fail
  have HB := Lib.hid (bel1 w (.cells #[.int .u32 (k.1 : Int), .int .u32 (k.2.1 : Int), .int .u32 (k.2.2.1 : Int), .int .u32 (k.2.2.2 : Int)] 68))
  have HS1 := Lib.hid (HS.out.later HB.out)
  clear u0 u1 u2 u3 u4 hk1
  generalize w.alloc (.cells #[.int .u32 (k.1 : Int), .int .u32 (k.2.1 : Int), .int .u32 (k.2.2.1 : Int), .int .u32 (k.2.2.2 : Int)] 68) = W at *
  clear HS
  go_loopg [5, 7, 9] 4 (fun m al x i wr => wr = W ∧ ((m = 4 ∧ i = .int .i64 0 ∧ al = .int .u64 ((0 : Nat) : Int)) ∨ (m = 3 ∧ i = .int .i64 1 ∧ al = .int .u64 ((sat 0 (ctZ N k.1) : Nat) : Int)) ∨ (m = 2 ∧ i = .int .i64 2 ∧ al = .int .u64 ((sat (sat 0 (ctZ N k.1)) (ctZ N k.2.1) : Nat) : Int)) ∨ (m = 1 ∧ i = .int .i64 3 ∧ al = .int .u64 ((sat (sat (sat 0 (ctZ N k.1)) (ctZ N k.2.1)) (ctZ N k.2.2.1) : Nat) : Int)) ∨ (m = 0 ∧ i = .int .i64 4 ∧ al = .int .u64 ((sat (sat (sat (sat 0 (ctZ N k.1)) (ctZ N k.2.1)) (ctZ N k.2.2.1)) (ctZ N k.2.2.2) : Nat) : Int))))
  case atStart => exact ⟨rfl, Or.inl ⟨rfl, rfl, rfl⟩⟩
  case round =>
    obtain ⟨rfl, hrel⟩ := hrel
    rcases hrel with ⟨hm, rfl, rfl⟩ | ⟨hm, rfl, rfl⟩ | ⟨hm, rfl, rfl⟩ | ⟨hm, rfl, rfl⟩ | ⟨hm, rfl, rfl⟩
    · have HM := Lib.hid hm
      have HA : Hid (0 ≤ topN) := Nat.zero_le _
      have HC := Lib.hid (ctZ_le HS1.out.wf k.1)
      have HSA := Lib.hid (sat_step (0) (ctZ N k.1) HA.out HC.out)
      have hw1 : IntKind.u64.wrap ((18446744073709551615 : Int) - ((0 : Nat) : Int)) = (18446744073709551615 : Int) - ((0 : Nat) : Int) := IntWalk.u64_in _ (by have := HA.out; unfold topN at this; omega)
      have hix := kix0 k.1 k.2.1 k.2.2.1 k.2.2.2
      clear hm
      skip
      go_wp2_with fail
      refine (count_any HS1.out k.1 HK.out.1).mono ?_
      rintro e w' ⟨rfl, rfl⟩
      go_wp2_with fail
      · go_roundg 3
        case measure => rw [HM.out]; omega
        case rel => exact ⟨rfl, Or.inr (Or.inl ⟨rfl, rfl, by have h1 := HA.out; have h2 := HC.out; unfold topN at h1 h2; unfold sat topN; congr 1; omega⟩)⟩
      · go_roundg 3
        case measure => rw [HM.out]; omega
        case rel => exact ⟨rfl, Or.inr (Or.inl ⟨rfl, rfl, by have h1 := HA.out; have h2 := HC.out; unfold topN at h1 h2; unfold sat topN; congr 1; omega⟩)⟩
    · have HM := Lib.hid hm
      have HA : Hid (sat 0 (ctZ N k.1) ≤ topN) := sat_le _ _
      have HC := Lib.hid (ctZ_le HS1.out.wf k.2.1)
      have HSA := Lib.hid (sat_step (sat 0 (ctZ N k.1)) (ctZ N k.2.1) HA.out HC.out)
      have hw1 : IntKind.u64.wrap ((18446744073709551615 : Int) - ((sat 0 (ctZ N k.1) : Nat) : Int)) = (18446744073709551615 : Int) - ((sat 0 (ctZ N k.1) : Nat) : Int) := IntWalk.u64_in _ (by have := HA.out; unfold topN at this; omega)
      have hix := kix1 k.1 k.2.1 k.2.2.1 k.2.2.2
      clear hm
      generalize (sat 0 (ctZ N k.1) : Nat) = sa at *
      go_wp2_with fail
      refine (count_any HS1.out k.2.1 HK.out.2.1).mono ?_
      rintro e w' ⟨rfl, rfl⟩
      go_wp2_with fail
      · go_roundg 2
        case measure => rw [HM.out]; omega
        case rel => exact ⟨rfl, Or.inr (Or.inr (Or.inl ⟨rfl, rfl, by have h1 := HA.out; have h2 := HC.out; unfold topN at h1 h2; unfold sat topN; congr 1; omega⟩))⟩
      · go_roundg 2
        case measure => rw [HM.out]; omega
        case rel => exact ⟨rfl, Or.inr (Or.inr (Or.inl ⟨rfl, rfl, by have h1 := HA.out; have h2 := HC.out; unfold topN at h1 h2; unfold sat topN; congr 1; omega⟩))⟩
    · have HM := Lib.hid hm
      have HA : Hid (sat (sat 0 (ctZ N k.1)) (ctZ N k.2.1) ≤ topN) := sat_le _ _
      have HC := Lib.hid (ctZ_le HS1.out.wf k.2.2.1)
      have HSA := Lib.hid (sat_step (sat (sat 0 (ctZ N k.1)) (ctZ N k.2.1)) (ctZ N k.2.2.1) HA.out HC.out)
      have hw1 : IntKind.u64.wrap ((18446744073709551615 : Int) - ((sat (sat 0 (ctZ N k.1)) (ctZ N k.2.1) : Nat) : Int)) = (18446744073709551615 : Int) - ((sat (sat 0 (ctZ N k.1)) (ctZ N k.2.1) : Nat) : Int) := IntWalk.u64_in _ (by have := HA.out; unfold topN at this; omega)
      have hix := kix2 k.1 k.2.1 k.2.2.1 k.2.2.2
      clear hm
      generalize (sat (sat 0 (ctZ N k.1)) (ctZ N k.2.1) : Nat) = sa at *
      go_wp2_with fail
      refine (count_any HS1.out k.2.2.1 HK.out.2.2.1).mono ?_
      rintro e w' ⟨rfl, rfl⟩
      go_wp2_with fail
      · go_roundg 1
        case measure => rw [HM.out]; omega
        case rel => exact ⟨rfl, Or.inr (Or.inr (Or.inr (Or.inl ⟨rfl, rfl, by have h1 := HA.out; have h2 := HC.out; unfold topN at h1 h2; unfold sat topN; congr 1; omega⟩)))⟩
      · go_roundg 1
        case measure => rw [HM.out]; omega
        case rel => exact ⟨rfl, Or.inr (Or.inr (Or.inr (Or.inl ⟨rfl, rfl, by have h1 := HA.out; have h2 := HC.out; unfold topN at h1 h2; unfold sat topN; congr 1; omega⟩)))⟩
    · have HM := Lib.hid hm
      have HA : Hid (sat (sat (sat 0 (ctZ N k.1)) (ctZ N k.2.1)) (ctZ N k.2.2.1) ≤ topN) := sat_le _ _
      have HC := Lib.hid (ctZ_le HS1.out.wf k.2.2.2)
      have HSA := Lib.hid (sat_step (sat (sat (sat 0 (ctZ N k.1)) (ctZ N k.2.1)) (ctZ N k.2.2.1)) (ctZ N k.2.2.2) HA.out HC.out)
      have hw1 : IntKind.u64.wrap ((18446744073709551615 : Int) - ((sat (sat (sat 0 (ctZ N k.1)) (ctZ N k.2.1)) (ctZ N k.2.2.1) : Nat) : Int)) = (18446744073709551615 : Int) - ((sat (sat (sat 0 (ctZ N k.1)) (ctZ N k.2.1)) (ctZ N k.2.2.1) : Nat) : Int) := IntWalk.u64_in _ (by have := HA.out; unfold topN at this; omega)
      have hix := kix3 k.1 k.2.1 k.2.2.1 k.2.2.2
      clear hm
      generalize (sat (sat (sat 0 (ctZ N k.1)) (ctZ N k.2.1)) (ctZ N k.2.2.1) : Nat) = sa at *
      go_wp2_with fail
      refine (count_any HS1.out k.2.2.2 HK.out.2.2.2).mono ?_
      rintro e w' ⟨rfl, rfl⟩
      go_wp2_with fail
      · go_roundg 0
        case measure => rw [HM.out]; omega
        case rel => exact ⟨rfl, Or.inr (Or.inr (Or.inr (Or.inr ⟨rfl, rfl, by have h1 := HA.out; have h2 := HC.out; unfold topN at h1 h2; unfold sat topN; congr 1; omega⟩)))⟩
      · go_roundg 0
        case measure => rw [HM.out]; omega
        case rel => exact ⟨rfl, Or.inr (Or.inr (Or.inr (Or.inr ⟨rfl, rfl, by have h1 := HA.out; have h2 := HC.out; unfold topN at h1 h2; unfold sat topN; congr 1; omega⟩)))⟩
    · go_wp2_with fail
      go_ret
      exact ⟨rfl, HB.out⟩
end Go.Proofs.Ytgciceogggldhaa
