/- Package quad: inMiddle, Centre: contracts. -/
import Derived.Test.YtaapkngpnlnjeaaGreatM07
namespace Go.Proofs.YtaapkngpnlnjeaaGreat
open Go.RowKit Go.Maps
set_option maxRecDepth 100000

set_option maxHeartbeats 2000000 in
theorem inMiddle_any {w : World} {sb g tb cap most : Nat} {N : List Nd} (h : St w sb g tb cap most N) {n z : Nat} {k : K4} (hk : Fo N (n + 1) k) :
    Calls Tryz.prog 75 #[.agg #[.pointer (some ⟨sb, 0, none⟩), .int .u32 (z : Int)], .agg #[.int .u32 (k.1 : Int), .int .u32 (k.2.1 : Int), .int .u32 (k.2.2.1 : Int), .int .u32 (k.2.2.2 : Int)]] w fun e w' => ∃ b, e = .returned (.bool b) ∧ (b = true ↔ InMid N k) ∧ Below w.heap.size w w' := by
  have HB := Lib.hid (bel2 w (.cells #[.pointer (some ⟨sb, 0, none⟩), .int .u32 (z : Int)] 29) (.cells #[.int .u32 (k.1 : Int), .int .u32 (k.2.1 : Int), .int .u32 (k.2.2.1 : Int), .int .u32 (k.2.2.2 : Int)] 105))
  have HS := Lib.hid (h.later HB.out)
  have HP := Lib.hid ((Ob.new h #[.pointer (some ⟨sb, 0, none⟩), .int .u32 (z : Int)] 29).later (bel1 _ (.cells #[.int .u32 (k.1 : Int), .int .u32 (k.2.1 : Int), .int .u32 (k.2.2.1 : Int), .int .u32 (k.2.2.2 : Int)] 105)))
  have HK := Lib.hid hk
  clear h hk
  go_enter Tryz.func75, Tryz.ntmps75
  go_wp2_with fail
  generalize (w.alloc (.cells #[.pointer (some ⟨sb, 0, none⟩), .int .u32 (z : Int)] 29)).alloc (.cells #[.int .u32 (k.1 : Int), .int .u32 (k.2.1 : Int), .int .u32 (k.2.2.1 : Int), .int .u32 (k.2.2.2 : Int)] 105) = W0 at *
  go_loopg [12] 4 (fun m cnt wr => ∃ (j : Nat), m = 4 - j ∧ j ≤ 4 ∧ cnt = .int .i64 (j : Int) ∧ (∀ i, i < j → ∀ t, t < 4 → t = 3 - i ∨ ctZ N (kAt (kidZ N (kAt k i)) t) = 0) ∧ Below W0.heap.size W0 wr)
  case atStart => exact ⟨0, rfl, Nat.zero_le _, rfl, fun i hi => by omega, Below.refl _ _⟩
  case round =>
    obtain ⟨j, hm, hj, rfl, hf, hB⟩ := hrel
    have HM := Lib.hid hm
    have HF := Lib.hid hf
    have HB1 := Lib.hid hB
    have HS1 := Lib.hid (HS.out.later hB)
    have HP1 := Lib.hid (HP.out.later hB)
    clear hm hf hB
    by_cases hlt : j < 4
    · have hgj : decide ((j : Int) < 4) = true := by simp; omega
      have hix := kix k hlt
      have HX := Lib.hid (fo_iff.1 HK.out j hlt)
      obtain ⟨p0, p1⟩ := pl_cells HP1.out.at_
      go_wp2_with fail
      refine (of_sqk HS1.out HX.out).mono ?_
      rintro e w5 ⟨rfl, hb⟩
      have HB5 := Lib.hid (HB1.out.trans (hb.mono HB1.out.size))
      have HS5 := Lib.hid (HS1.out.later hb)
      have HP5 := Lib.hid (HP1.out.later hb)
      clear hb HB1 HS1 HP1 p0 p1
      have HFK := Lib.hid (HX.out.kid HS5.out.wf)
      generalize hkd : kidZ N (kAt k j) = d at *
      have HKD := Lib.hid hkd
      clear hkd
      have HB6 := Lib.hid (HB5.out.trans ((bel1 w5 (.cells #[.int .u32 (d.1 : Int), .int .u32 (d.2.1 : Int), .int .u32 (d.2.2.1 : Int), .int .u32 (d.2.2.2 : Int)] 105)).mono HB5.out.size))
      have HS6 := Lib.hid (HS5.out.later (bel1 w5 (.cells #[.int .u32 (d.1 : Int), .int .u32 (d.2.1 : Int), .int .u32 (d.2.2.1 : Int), .int .u32 (d.2.2.2 : Int)] 105)))
      have HP6 := Lib.hid (HP5.out.later (bel1 w5 (.cells #[.int .u32 (d.1 : Int), .int .u32 (d.2.1 : Int), .int .u32 (d.2.2.1 : Int), .int .u32 (d.2.2.2 : Int)] 105)))
      clear HB5 HS5 HP5
      go_wp2_with fail
      generalize w5.alloc (.cells #[.int .u32 (d.1 : Int), .int .u32 (d.2.1 : Int), .int .u32 (d.2.2.1 : Int), .int .u32 (d.2.2.2 : Int)] 105) = W6 at *
      clear hgj hix
      go_loopg [24] 4 (fun m cnt wr => ∃ (s : Nat), m = 4 - s ∧ s ≤ 4 ∧ cnt = .int .i64 (s : Int) ∧ (∀ t, t < s → t = 3 - j ∨ ctZ N (kAt d t) = 0) ∧ wr = W6)
      case atStart => exact ⟨0, rfl, Nat.zero_le _, rfl, fun i hi => by omega, rfl⟩
      case round =>
        obtain ⟨s, hm, hs, rfl, hf, rfl⟩ := hrel
        have HM2 := Lib.hid hm
        have HF2 := Lib.hid hf
        clear hm hf
        by_cases hlt2 : s < 4
        · have hgj : decide ((s : Int) < 4) = true := by simp; omega
          have hix := kix d hlt2
          obtain ⟨p0, p1⟩ := pl_cells HP6.out.at_
          have hu := Sq.u32 HS6.out (fo_iff.1 HFK.out s hlt2)
          go_wp2_with fail
          refine (across_any j hlt _).mono ?_
          rintro e w7 ⟨rfl, rfl⟩
          by_cases hac : s = 3 - j
          · have hne : ((s : Int) != 3 - (j : Int)) = false := by simp; omega
            go_wp2_with fail
            go_roundg (4 - (s + 1))
            case measure => rw [HM2.out]; omega
            case rel =>
              refine ⟨s + 1, rfl, by omega, by go_num, fun t ht => ?_, rfl⟩
              by_cases e : t = s
              · exact Or.inl (e.trans hac)
              · exact HF2.out t (by omega)
          · have hne : ((s : Int) != 3 - (j : Int)) = true := by simp; omega
            go_wp2_with fail
            refine (count_any HS6.out (kAt d s) hu).mono ?_
            rintro e w8 ⟨rfl, rfl⟩
            by_cases hc : ctZ N (kAt d s) = 0
            · have hcg : decide ((0 : Int) < (ctZ N (kAt d s) : Int)) = false := by simp; omega
              go_wp2_with fail
              go_roundg (4 - (s + 1))
              case measure => rw [HM2.out]; omega
              case rel =>
                refine ⟨s + 1, rfl, by omega, by go_num, fun t ht => ?_, rfl⟩
                by_cases e : t = s
                · exact Or.inr (e ▸ hc)
                · exact HF2.out t (by omega)
            · have hcg : decide ((0 : Int) < (ctZ N (kAt d s) : Int)) = true := by simp; omega
              go_wp2_with fail
              go_ret
              refine ⟨false, rfl, ⟨fun hh => (by cases hh), fun hh => ?_⟩, HB.out.trans (HB6.out.mono HB.out.size)⟩
              exfalso
              rcases hh j hlt s hlt2 with e | e
              · exact hac e
              · rw [HKD.out] at e; exact hc e
        · obtain rfl : s = 4 := by omega
          have hgj : decide (((4 : Nat) : Int) < 4) = false := by simp
          go_wp2_with fail
          go_roundg (4 - (j + 1))
          case measure => rw [HM.out]; omega
          case rel =>
            refine ⟨j + 1, rfl, by omega, by go_num, fun i hi t ht => ?_, HB6.out⟩
            by_cases e : i = j
            · subst e; rw [HKD.out]; exact HF2.out t ht
            · exact HF.out i (by omega) t ht
    · obtain rfl : j = 4 := by omega
      have hgj : decide (((4 : Nat) : Int) < 4) = false := by simp
      go_wp2_with fail
      go_ret
      exact ⟨true, rfl, ⟨fun _ => HF.out, fun _ => rfl⟩, HB.out.trans (HB1.out.mono HB.out.size)⟩
end Go.Proofs.YtaapkngpnlnjeaaGreat
