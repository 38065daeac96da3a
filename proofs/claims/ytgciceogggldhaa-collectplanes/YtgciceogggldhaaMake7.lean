/- Package store: Make, whatever comes: contract. -/
import Derived.Test.YtgciceogggldhaaMake6
namespace Go.Proofs.Ytgciceogggldhaa
open Go.RowKit Go.Maps
set_option maxRecDepth 100000

set_option maxHeartbeats 2000000 in
theorem make_bad {w : World} {sb g tb cap most : Nat} {N : List Nd} (h : St w sb g tb cap most N) (k : K4) (hk : InK k) (hf : ¬ FitZ N k) :
    Calls Try.prog 33 #[.pointer (some ⟨sb, 0, none⟩), .agg #[.int .u32 (k.1 : Int), .int .u32 (k.2.1 : Int), .int .u32 (k.2.2.1 : Int), .int .u32 (k.2.2.2 : Int)]] w fun e w' => e = .returned (.tuple #[.int .u32 0, .iface 53 (.int .i64 1)]) ∧ Below w.heap.size w w' := by
  have HS := Lib.hid h
  have HK := Lib.hid hk
  have HF := Lib.hid hf
  clear h hk hf
  go_enter Try.func33, Try.ntmps33
  go_wp2_with fail
  have HB := Lib.hid (bel1 w (.cells #[.int .u32 (k.1 : Int), .int .u32 (k.2.1 : Int), .int .u32 (k.2.2.1 : Int), .int .u32 (k.2.2.2 : Int)] 68))
  have HS1 := Lib.hid (HS.out.later HB.out)
  generalize w.alloc (.cells #[.int .u32 (k.1 : Int), .int .u32 (k.2.1 : Int), .int .u32 (k.2.2.1 : Int), .int .u32 (k.2.2.2 : Int)] 68) = W1 at *
  refine (fit_any HS1.out k HK.out).mono ?_
  rintro e W2 ⟨rfl, hb⟩
  have HB2 := Lib.hid (HB.out.trans (hb.mono HB.out.size))
  clear hb HS1 HB
  have hfit : decide (FitZ N k) = false := by simpa using HF.out
  go_wp2_with fail
  go_ret2
  exact ⟨rfl, HB2.out⟩
set_option maxHeartbeats 2000000 in
theorem make_there {w : World} {sb g tb cap most : Nat} {N : List Nd} (h : St w sb g tb cap most N) (k : K4) (hk : InK k) (hf : FitZ N k) {i : Nat} (hn : findZ N k = some i) :
    Calls Try.prog 33 #[.pointer (some ⟨sb, 0, none⟩), .agg #[.int .u32 (k.1 : Int), .int .u32 (k.2.1 : Int), .int .u32 (k.2.2.1 : Int), .int .u32 (k.2.2.2 : Int)]] w fun e w' => e = .returned (.tuple #[.int .u32 (i : Int), .nilIface]) ∧ Below w.heap.size w w' := by
  have HS := Lib.hid h
  have HK := Lib.hid hk
  have HF := Lib.hid hf
  have HN := Lib.hid hn
  clear h hk hf hn
  go_enter Try.func33, Try.ntmps33
  go_wp2_with fail
  have HB := Lib.hid (bel1 w (.cells #[.int .u32 (k.1 : Int), .int .u32 (k.2.1 : Int), .int .u32 (k.2.2.1 : Int), .int .u32 (k.2.2.2 : Int)] 68))
  have HS1 := Lib.hid (HS.out.later HB.out)
  have HK1 := Lib.hid (k_new w k)
  generalize w.alloc (.cells #[.int .u32 (k.1 : Int), .int .u32 (k.2.1 : Int), .int .u32 (k.2.2.1 : Int), .int .u32 (k.2.2.2 : Int)] 68) = W1 at *
  refine (fit_any HS1.out k HK.out).mono ?_
  rintro e W2 ⟨rfl, hb⟩
  have HB2 := Lib.hid (HB.out.trans (hb.mono HB.out.size))
  have HS2 := Lib.hid (HS1.out.later hb)
  have HK2 := Lib.hid (HK1.out.later hb)
  clear hb HS1 HK1 HB
  have hfit : decide (FitZ N k) = true := by simpa using HF.out
  have hlk := HS2.out.tab.lookS k HK.out HN.out
  obtain ⟨c0, c1, c2, c3⟩ := HS2.out.cells
  obtain ⟨u0, u1, u2, u3, _⟩ := HK2.out.cells
  go_wp2_with fail
  go_quiet (fail)
  go_wp2_with fail
  go_ret2
  exact ⟨rfl, HB2.out.os, HB2.out.tape, HB2.out.output, HB2.out.size, HB2.out.block⟩
set_option maxHeartbeats 2000000 in
theorem make_full {w : World} {sb g tb cap most : Nat} {N : List Nd} (h : St w sb g tb cap most N) (k : K4) (hk : InK k) (hf : FitZ N k) (hn : findZ N k = none) (hl : most ≤ N.length) :
    Calls Try.prog 33 #[.pointer (some ⟨sb, 0, none⟩), .agg #[.int .u32 (k.1 : Int), .int .u32 (k.2.1 : Int), .int .u32 (k.2.2.1 : Int), .int .u32 (k.2.2.2 : Int)]] w fun e w' => e = .returned (.tuple #[.int .u32 0, .iface 53 (.int .i64 7)]) ∧ Below w.heap.size w w' := by
  have HS := Lib.hid h
  have HK := Lib.hid hk
  have HF := Lib.hid hf
  have HN := Lib.hid hn
  have HLT := Lib.hid hl
  clear h hk hf hn hl
  go_enter Try.func33, Try.ntmps33
  go_wp2_with fail
  have HB := Lib.hid (bel1 w (.cells #[.int .u32 (k.1 : Int), .int .u32 (k.2.1 : Int), .int .u32 (k.2.2.1 : Int), .int .u32 (k.2.2.2 : Int)] 68))
  have HS1 := Lib.hid (HS.out.later HB.out)
  have HK1 := Lib.hid (k_new w k)
  generalize w.alloc (.cells #[.int .u32 (k.1 : Int), .int .u32 (k.2.1 : Int), .int .u32 (k.2.2.1 : Int), .int .u32 (k.2.2.2 : Int)] 68) = W1 at *
  refine (fit_any HS1.out k HK.out).mono ?_
  rintro e W2 ⟨rfl, hb⟩
  have HB2 := Lib.hid (HB.out.trans (hb.mono HB.out.size))
  have HS2 := Lib.hid (HS1.out.later hb)
  have HK2 := Lib.hid (HK1.out.later hb)
  clear hb HS1 HK1 HB
  have hfit : decide (FitZ N k) = true := by simpa using HF.out
  have hlk := HS2.out.tab.lookQ k HK.out HN.out
  obtain ⟨c0, c1, c2, c3⟩ := HS2.out.cells
  obtain ⟨u0, u1, u2, u3, _⟩ := HK2.out.cells
  go_wp2_with fail
  go_quiet (fail)
  go_wp2_with fail
  refine (room_any (HS2.out.drewN _)).mono ?_
  rintro e W3 ⟨rfl, q, rfl⟩
  have hrm : decide ((most : Int) - (N.length : Int) < 1) = true := by have := HLT.out; simp; omega
  go_wp2_with fail
  go_ret2
  exact ⟨rfl, HB2.out.os, HB2.out.tape, HB2.out.output, HB2.out.size, HB2.out.block⟩
/-- Make. -/
theorem make_any {w : World} {sb g tb cap most : Nat} {N : List Nd} (h : St w sb g tb cap most N) (k : K4) (hk : InK k) :
    Calls Try.prog 33 #[.pointer (some ⟨sb, 0, none⟩), .agg #[.int .u32 (k.1 : Int), .int .u32 (k.2.1 : Int), .int .u32 (k.2.2.1 : Int), .int .u32 (k.2.2.2 : Int)]] w fun e w' => ∃ g' cap', e = .returned (.tuple #[.int .u32 ((mkZ N most k).2.1 : Int), errV (mkZ N most k).2.2]) ∧ St w' sb g' tb cap' most (mkZ N most k).1 ∧ Frm [sb, g, tb] w w' ∧ (g' = g ∨ w.heap.size ≤ g') := by
  by_cases hf : FitZ N k
  · cases hn : findZ N k with
    | some i =>
      rw [mk_there hf hn]
      refine (make_there h k hk hf hn).mono ?_
      rintro e w' ⟨rfl, hb⟩
      exact ⟨g, cap, rfl, h.later hb, Frm.of_below hb, Or.inl rfl⟩
    | none =>
      rcases Nat.lt_or_ge N.length most with hl | hl
      · rw [mk_add hf hn hl]
        exact make_add h k hk hf hn hl
      · rw [mk_full hf hn hl]
        refine (make_full h k hk hf hn hl).mono ?_
        rintro e w' ⟨rfl, hb⟩
        exact ⟨g, cap, rfl, h.later hb, Frm.of_below hb, Or.inl rfl⟩
  · rw [mk_bad hf]
    refine (make_bad h k hk hf).mono ?_
    rintro e w' ⟨rfl, hb⟩
    exact ⟨g, cap, rfl, h.later hb, Frm.of_below hb, Or.inl rfl⟩
/-- Of no store. -/
theorem fit_nil (k : K4) (hk : InK k) (w : World) : Calls Try.prog 39 #[.pointer none, .agg #[.int .u32 (k.1 : Int), .int .u32 (k.2.1 : Int), .int .u32 (k.2.2.1 : Int), .int .u32 (k.2.2.2 : Int)]] w fun e w' => e = .returned (.bool false) ∧ Below w.heap.size w w' := by
  have HK := Lib.hid hk
  clear hk
  go_enter Try.func39, Try.ntmps39
  go_wp2_with fail
  refine (level_nil k.1 HK.out.1 _).mono ?_
  rintro e w' ⟨rfl, rfl⟩
  go_wp2
  go_ret
  exact ⟨rfl, bel1 _ _⟩
theorem make_nil (k : K4) (hk : InK k) (w : World) : Calls Try.prog 33 #[.pointer none, .agg #[.int .u32 (k.1 : Int), .int .u32 (k.2.1 : Int), .int .u32 (k.2.2.1 : Int), .int .u32 (k.2.2.2 : Int)]] w fun e w' => e = .returned (.tuple #[.int .u32 0, .iface 53 (.int .i64 1)]) ∧ Below w.heap.size w w' := by
  have HK := Lib.hid hk
  clear hk
  go_enter Try.func33, Try.ntmps33
  go_wp2_with fail
  have HB := Lib.hid (bel1 w (.cells #[.int .u32 (k.1 : Int), .int .u32 (k.2.1 : Int), .int .u32 (k.2.2.1 : Int), .int .u32 (k.2.2.2 : Int)] 68))
  generalize w.alloc (.cells #[.int .u32 (k.1 : Int), .int .u32 (k.2.1 : Int), .int .u32 (k.2.2.1 : Int), .int .u32 (k.2.2.2 : Int)] 68) = W1 at *
  refine (fit_nil k HK.out _).mono ?_
  rintro e W2 ⟨rfl, hb⟩
  have HB2 := Lib.hid (HB.out.trans (hb.mono HB.out.size))
  go_wp2
  go_ret2
  exact ⟨rfl, HB2.out⟩
theorem empty_nil (level : Int) (w : World) : Calls Try.prog 18 #[.pointer none, .int .i64 level] w fun e w' => e = .returned (.tuple #[.int .u32 0, .iface 53 (.int .i64 1)]) ∧ w = w' := by
  go_enter Try.func18, Try.ntmps18
  go_wp2_with fail
  refine (is_nil 0 _ (by omega)).mono ?_
  rintro e w' ⟨rfl, rfl⟩
  go_wp2
  go_ret2
  exact ⟨rfl, rfl⟩
end Go.Proofs.Ytgciceogggldhaa
