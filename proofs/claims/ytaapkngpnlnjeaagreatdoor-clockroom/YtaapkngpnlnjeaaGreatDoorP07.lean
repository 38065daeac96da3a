-- P07
import Derived.Test.YtaapkngpnlnjeaaGreatDoorMake6
import Derived.Test.YtaapkngpnlnjeaaGreatDoorP02
import Derived.Test.YtaapkngpnlnjeaaGreatDoorP04
import Derived.Deep.QuietTactic
section
namespace Go.Proofs.YtaapkngpnlnjeaaGreatDoor
open Go.RowKit Go.Maps
set_option maxRecDepth 100000

set_option maxHeartbeats 2000000 in
theorem make_bad {w : World} {sb g tb cap most : Nat} {N : List Nd} (h : St w sb g tb cap most N) (k : K4) (hk : InK k) (hf : ¬ FitZ N k) :
    Calls Tryz.prog 58 #[.pointer (some ⟨sb, 0, none⟩), .agg #[.int .u32 (k.1 : Int), .int .u32 (k.2.1 : Int), .int .u32 (k.2.2.1 : Int), .int .u32 (k.2.2.2 : Int)]] w fun e w' => e = .returned (.tuple #[.int .u32 0, .iface 48 (.int .i64 1)]) ∧ Below w.heap.size w w' := by
  have HS := Lib.hid h
  have HK := Lib.hid hk
  have HF := Lib.hid hf
  clear h hk hf
  go_enter Tryz.func58, Tryz.ntmps58
  go_wp2_with fail
  have HB := Lib.hid (bel1 w (.cells #[.int .u32 (k.1 : Int), .int .u32 (k.2.1 : Int), .int .u32 (k.2.2.1 : Int), .int .u32 (k.2.2.2 : Int)] 63))
  have HS1 := Lib.hid (HS.out.later HB.out)
  generalize w.alloc (.cells #[.int .u32 (k.1 : Int), .int .u32 (k.2.1 : Int), .int .u32 (k.2.2.1 : Int), .int .u32 (k.2.2.2 : Int)] 63) = W1 at *
  refine (fit_any HS1.out k HK.out).mono ?_
  rintro e W2 ⟨rfl, hb⟩
  have HB2 := Lib.hid (HB.out.trans (hb.mono HB.out.size))
  clear hb HS1 HB
  have hfit : decide (FitZ N k) = false := by simpa using HF.out
  go_wp2_with fail
  go_ret2
  exact ⟨rfl, HB2.out⟩
set_option maxHeartbeats 2000000 in
theorem make_there {w : World} {sb g tb cap most : Nat} {N : List Nd} (h : St w sb g tb cap most N) (k : K4) (hk : InK k) (hf : FitZ N k) {i : Nat} (hn : findZ N k = some i) :
    Calls Tryz.prog 58 #[.pointer (some ⟨sb, 0, none⟩), .agg #[.int .u32 (k.1 : Int), .int .u32 (k.2.1 : Int), .int .u32 (k.2.2.1 : Int), .int .u32 (k.2.2.2 : Int)]] w fun e w' => e = .returned (.tuple #[.int .u32 (i : Int), .nilIface]) ∧ Below w.heap.size w w' := by
  have HS := Lib.hid h
  have HK := Lib.hid hk
  have HF := Lib.hid hf
  have HN := Lib.hid hn
  clear h hk hf hn
  go_enter Tryz.func58, Tryz.ntmps58
  go_wp2_with fail
  have HB := Lib.hid (bel1 w (.cells #[.int .u32 (k.1 : Int), .int .u32 (k.2.1 : Int), .int .u32 (k.2.2.1 : Int), .int .u32 (k.2.2.2 : Int)] 63))
  have HS1 := Lib.hid (HS.out.later HB.out)
  have HK1 := Lib.hid (k_new w k)
  generalize w.alloc (.cells #[.int .u32 (k.1 : Int), .int .u32 (k.2.1 : Int), .int .u32 (k.2.2.1 : Int), .int .u32 (k.2.2.2 : Int)] 63) = W1 at *
  refine (fit_any HS1.out k HK.out).mono ?_
  rintro e W2 ⟨rfl, hb⟩
  have HB2 := Lib.hid (HB.out.trans (hb.mono HB.out.size))
  have HS2 := Lib.hid (HS1.out.later hb)
  have HK2 := Lib.hid (HK1.out.later hb)
  clear hb HS1 HK1 HB
  have hfit : decide (FitZ N k) = true := by simpa using HF.out
  have hlk := HS2.out.tab.lookS k HK.out HN.out
  obtain ⟨c0, c1, c2, c3⟩ := HS2.out.cells
  obtain ⟨u0, u1, u2, u3, _⟩ := HK2.out.cells
  go_wp2_with fail
  go_quiet (fail)
  go_wp2_with fail
  go_ret2
  exact ⟨rfl, HB2.out.os, HB2.out.tape, HB2.out.output, HB2.out.size, HB2.out.block⟩
set_option maxHeartbeats 2000000 in
theorem make_full {w : World} {sb g tb cap most : Nat} {N : List Nd} (h : St w sb g tb cap most N) (k : K4) (hk : InK k) (hf : FitZ N k) (hn : findZ N k = none) (hl : most ≤ N.length) :
    Calls Tryz.prog 58 #[.pointer (some ⟨sb, 0, none⟩), .agg #[.int .u32 (k.1 : Int), .int .u32 (k.2.1 : Int), .int .u32 (k.2.2.1 : Int), .int .u32 (k.2.2.2 : Int)]] w fun e w' => e = .returned (.tuple #[.int .u32 0, .iface 48 (.int .i64 7)]) ∧ Below w.heap.size w w' := by
  have HS := Lib.hid h
  have HK := Lib.hid hk
  have HF := Lib.hid hf
  have HN := Lib.hid hn
  have HLT := Lib.hid hl
  clear h hk hf hn hl
  go_enter Tryz.func58, Tryz.ntmps58
  go_wp2_with fail
  have HB := Lib.hid (bel1 w (.cells #[.int .u32 (k.1 : Int), .int .u32 (k.2.1 : Int), .int .u32 (k.2.2.1 : Int), .int .u32 (k.2.2.2 : Int)] 63))
  have HS1 := Lib.hid (HS.out.later HB.out)
  have HK1 := Lib.hid (k_new w k)
  generalize w.alloc (.cells #[.int .u32 (k.1 : Int), .int .u32 (k.2.1 : Int), .int .u32 (k.2.2.1 : Int), .int .u32 (k.2.2.2 : Int)] 63) = W1 at *
  refine (fit_any HS1.out k HK.out).mono ?_
  rintro e W2 ⟨rfl, hb⟩
  have HB2 := Lib.hid (HB.out.trans (hb.mono HB.out.size))
  have HS2 := Lib.hid (HS1.out.later hb)
  have HK2 := Lib.hid (HK1.out.later hb)
  clear hb HS1 HK1 HB
  have hfit : decide (FitZ N k) = true := by simpa using HF.out
  have hlk := HS2.out.tab.lookQ k HK.out HN.out
  obtain ⟨c0, c1, c2, c3⟩ := HS2.out.cells
  obtain ⟨u0, u1, u2, u3, _⟩ := HK2.out.cells
  go_wp2_with fail
  go_quiet (fail)
  go_wp2_with fail
  refine (room_any (HS2.out.drewN _)).mono ?_
  rintro e W3 ⟨rfl, q, rfl⟩
  have hrm : decide ((most : Int) - (N.length : Int) < 1) = true := by have := HLT.out; simp; omega
  go_wp2_with fail
  go_ret2
  exact ⟨rfl, HB2.out.os, HB2.out.tape, HB2.out.output, HB2.out.size, HB2.out.block⟩
/-- Make. -/
theorem make_any {w : World} {sb g tb cap most : Nat} {N : List Nd} (h : St w sb g tb cap most N) (k : K4) (hk : InK k) :
    Calls Tryz.prog 58 #[.pointer (some ⟨sb, 0, none⟩), .agg #[.int .u32 (k.1 : Int), .int .u32 (k.2.1 : Int), .int .u32 (k.2.2.1 : Int), .int .u32 (k.2.2.2 : Int)]] w fun e w' => ∃ g' cap', e = .returned (.tuple #[.int .u32 ((mkZ N most k).2.1 : Int), errV (mkZ N most k).2.2]) ∧ St w' sb g' tb cap' most (mkZ N most k).1 ∧ Frm [sb, g, tb] w w' ∧ (g' = g ∨ w.heap.size ≤ g') := by
  by_cases hf : FitZ N k
  · cases hn : findZ N k with
    | some i =>
      rw [mk_there hf hn]
      refine (make_there h k hk hf hn).mono ?_
      rintro e w' ⟨rfl, hb⟩
      exact ⟨g, cap, rfl, h.later hb, Frm.of_below hb, Or.inl rfl⟩
    | none =>
      rcases Nat.lt_or_ge N.length most with hl | hl
      · rw [mk_add hf hn hl]
        exact make_add h k hk hf hn hl
      · rw [mk_full hf hn hl]
        refine (make_full h k hk hf hn hl).mono ?_
        rintro e w' ⟨rfl, hb⟩
        exact ⟨g, cap, rfl, h.later hb, Frm.of_below hb, Or.inl rfl⟩
  · rw [mk_bad hf]
    refine (make_bad h k hk hf).mono ?_
    rintro e w' ⟨rfl, hb⟩
    exact ⟨g, cap, rfl, h.later hb, Frm.of_below hb, Or.inl rfl⟩
/-- Of no store. -/
theorem fit_nil (k : K4) (hk : InK k) (w : World) : Calls Tryz.prog 72 #[.pointer none, .agg #[.int .u32 (k.1 : Int), .int .u32 (k.2.1 : Int), .int .u32 (k.2.2.1 : Int), .int .u32 (k.2.2.2 : Int)]] w fun e w' => e = .returned (.bool false) ∧ Below w.heap.size w w' := by
  have HK := Lib.hid hk
  clear hk
  go_enter Tryz.func72, Tryz.ntmps72
  go_wp2_with fail
  refine (level_nil k.1 HK.out.1 _).mono ?_
  rintro e w' ⟨rfl, rfl⟩
  go_wp2
  go_ret
  exact ⟨rfl, bel1 _ _⟩
theorem make_nil (k : K4) (hk : InK k) (w : World) : Calls Tryz.prog 58 #[.pointer none, .agg #[.int .u32 (k.1 : Int), .int .u32 (k.2.1 : Int), .int .u32 (k.2.2.1 : Int), .int .u32 (k.2.2.2 : Int)]] w fun e w' => e = .returned (.tuple #[.int .u32 0, .iface 48 (.int .i64 1)]) ∧ Below w.heap.size w w' := by
  have HK := Lib.hid hk
  clear hk
  go_enter Tryz.func58, Tryz.ntmps58
  go_wp2_with fail
  have HB := Lib.hid (bel1 w (.cells #[.int .u32 (k.1 : Int), .int .u32 (k.2.1 : Int), .int .u32 (k.2.2.1 : Int), .int .u32 (k.2.2.2 : Int)] 63))
  generalize w.alloc (.cells #[.int .u32 (k.1 : Int), .int .u32 (k.2.1 : Int), .int .u32 (k.2.2.1 : Int), .int .u32 (k.2.2.2 : Int)] 63) = W1 at *
  refine (fit_nil k HK.out _).mono ?_
  rintro e W2 ⟨rfl, hb⟩
  have HB2 := Lib.hid (HB.out.trans (hb.mono HB.out.size))
  go_wp2
  go_ret2
  exact ⟨rfl, HB2.out⟩
theorem empty_nil (level : Int) (w : World) : Calls Tryz.prog 56 #[.pointer none, .int .i64 level] w fun e w' => e = .returned (.tuple #[.int .u32 0, .iface 48 (.int .i64 1)]) ∧ w = w' := by
  go_enter Tryz.func56, Tryz.ntmps56
  go_wp2_with fail
  refine (is_nil 0 _ (by omega)).mono ?_
  rintro e w' ⟨rfl, rfl⟩
  go_wp2
  go_ret2
  exact ⟨rfl, rfl⟩
end Go.Proofs.YtaapkngpnlnjeaaGreatDoor
end

section
namespace Go.Proofs.YtaapkngpnlnjeaaGreatDoor
open Go.RowKit Go.Maps
set_option maxRecDepth 100000

set_option maxHeartbeats 1000000 in
theorem of_good {w : World} {sb g tb cap most : Nat} {N : List Nd} (h : St w sb g tb cap most N) (x : Nat) (hx : x < 4294967296) {n : Nd} (hn : N[x]? = some n) (hl : 0 < n.lv) :
    Calls Tryz.prog 41 #[.pointer (some ⟨sb, 0, none⟩), .int .u32 (x : Int)] w fun e w' => e = .returned (.tuple #[kv n.k, .bool true]) ∧ Below w.heap.size w w' := by
  have hlv : lvZ N x = (n.lv : Int) := by unfold lvZ; rw [hn]
  have HB := Lib.hid (bel1 w (.cells #[.int .u32 ((0 : Nat) : Int), .int .u32 ((0 : Nat) : Int), .int .u32 ((0 : Nat) : Int), .int .u32 ((0 : Nat) : Int)] 63))
  have HS := Lib.hid (h.later HB.out)
  have HK := Lib.hid (k_new w (0, 0, 0, 0))
  have hg : decide ((n.lv : Int) < 1) = false := by simp; omega
  have hil : x < N.length := (List.getElem?_eq_some_iff.1 hn).1
  have hi : (x : Int) < (N.length : Int) := by omega
  have hi0 : (0 : Int) ≤ (x : Int) := by omega
  obtain ⟨s0, s1, s2, s3, _, _⟩ := HS.out.sq hn
  obtain ⟨c0, c1, c2, c3⟩ := HS.out.cells
  obtain ⟨u0, u1, u2, u3, f0, f1, f2, f3⟩ := HK.out.cells
  have hLV := level_any HS.out x hx
  rw [hlv] at hLV
  have HLV := Lib.hid hLV
  clear h hn hlv hLV
  simp only [Int.ofNat_zero] at *
  go_enter Tryz.func41, Tryz.ntmps41
  go_wp2_with fail
  refine HLV.out.mono ?_
  rintro e w' ⟨rfl, rfl⟩
  go_wp2
  refine bodyPost_ret (v := _) (by simp [results, Tryz.results41, go_sem]; rfl) rfl ?_
  exact ⟨rfl, bel1 _ _⟩
set_option maxHeartbeats 1000000 in
theorem of_bad {w : World} {sb g tb cap most : Nat} {N : List Nd} (h : St w sb g tb cap most N) (x : Nat) (hx : x < 4294967296) (hl : lvZ N x < 1) :
    Calls Tryz.prog 41 #[.pointer (some ⟨sb, 0, none⟩), .int .u32 (x : Int)] w fun e w' => e = .returned (.tuple #[kv (0, 0, 0, 0), .bool false]) ∧ Below w.heap.size w w' := by
  have HB := Lib.hid (bel1 w (.cells #[.int .u32 ((0 : Nat) : Int), .int .u32 ((0 : Nat) : Int), .int .u32 ((0 : Nat) : Int), .int .u32 ((0 : Nat) : Int)] 63))
  have HS := Lib.hid (h.later HB.out)
  have hg : decide (lvZ N x < 1) = true := by simpa using hl
  have HLV := Lib.hid (level_any HS.out x hx)
  clear h
  simp only [Int.ofNat_zero] at *
  go_enter Tryz.func41, Tryz.ntmps41
  go_wp2_with fail
  refine HLV.out.mono ?_
  rintro e w' ⟨rfl, rfl⟩
  go_wp2
  refine bodyPost_ret (v := _) (by simp [results, Tryz.results41, go_sem]; rfl) rfl ?_
  exact ⟨rfl, bel1 _ _⟩

theorem em_wf (most : Nat) : ∀ (n : Nat) (N : List Nd) (x : Nat), Wf N → N.length ≤ most → x < N.length → Wf (emZ most n N x).1 ∧ (emZ most n N x).1.length ≤ most ∧ N.length ≤ (emZ most n N x).1.length
  | 0, N, x, hw, hl, _ => ⟨hw, hl, Nat.le_refl _⟩
  | n + 1, N, x, hw, hl, hx => by
    obtain ⟨h1, h2, h3⟩ := mk_wf (x, x, x, x) hw hl
    unfold emZ
    split
    · rename_i he
      have hx' : (mkZ N most (x, x, x, x)).2.1 < (mkZ N most (x, x, x, x)).1.length := mk_lt hw he
      obtain ⟨g1, g2, g3⟩ := em_wf most n _ _ h1 h2 hx'
      exact ⟨g1, g2, Nat.le_trans h3 g3⟩
    · exact ⟨h1, h2, h3⟩
set_option maxHeartbeats 2000000 in
theorem empty_bad {w : World} {sb g tb cap most : Nat} {N : List Nd} (h : St w sb g tb cap most N) (level : Int) (hl : level < 0 ∨ 62 < level) :
    Calls Tryz.prog 56 #[.pointer (some ⟨sb, 0, none⟩), .int .i64 level] w fun e w' => e = .returned (.tuple #[.int .u32 0, .iface 48 (.int .i64 1)]) ∧ w = w' := by
  have hd : decide (0 < N.length) = true := by have := h.wf.two; simp; omega
  have HIS : Hid (Calls Tryz.prog 33 #[.pointer (some ⟨sb, 0, none⟩), .int .u32 ((0 : Nat) : Int)] w fun e w' => e = .returned (.bool true) ∧ w = w') := by
    have := is_any h 0 (by omega)
    rw [hd] at this
    exact this
  clear h
  by_cases h0 : level < 0
  · have g0 : decide (level < 0) = true := by simpa using h0
    go_enter Tryz.func56, Tryz.ntmps56
    go_wp2_with fail
    refine HIS.out.mono ?_
    rintro e w' ⟨rfl, rfl⟩
    go_wp2
    go_ret2
    exact ⟨rfl, rfl⟩
  · have g0 : decide (level < 0) = false := by simpa using h0
    have g1 : decide (62 < level) = true := by simp; omega
    go_enter Tryz.func56, Tryz.ntmps56
    go_wp2_with fail
    refine HIS.out.mono ?_
    rintro e w' ⟨rfl, rfl⟩
    go_wp2
    go_ret2
    exact ⟨rfl, rfl⟩
set_option maxHeartbeats 2000000 in
theorem empty_any {w : World} {sb g tb cap most : Nat} {N : List Nd} (h : St w sb g tb cap most N) (level : Nat) (hl : level ≤ 62) :
    Calls Tryz.prog 56 #[.pointer (some ⟨sb, 0, none⟩), .int .i64 (level : Int)] w fun e w' => ∃ g' cap', e = .returned (.tuple #[.int .u32 ((emZ most level N 0).2.1 : Int), errV (emZ most level N 0).2.2]) ∧ St w' sb g' tb cap' most (emZ most level N 0).1 ∧ Frm [sb, g, tb] w w' ∧ (g' = g ∨ w.heap.size ≤ g') := by
  have hd : decide (0 < N.length) = true := by have := h.wf.two; simp; omega
  have HIS : Hid (Calls Tryz.prog 33 #[.pointer (some ⟨sb, 0, none⟩), .int .u32 ((0 : Nat) : Int)] w fun e w' => e = .returned (.bool true) ∧ w = w') := by
    have := is_any h 0 (by omega)
    rw [hd] at this
    exact this
  have HS := Lib.hid h
  have g0 : decide ((level : Int) < 0) = false := by simp
  have g1 : decide ((62 : Int) < (level : Int)) = false := by simp; omega
  clear h hd
  go_enter Tryz.func56, Tryz.ntmps56
  go_wp2_with fail
  refine HIS.out.mono ?_
  rintro e w' ⟨rfl, rfl⟩
  go_wp2_with fail
  clear g0 g1
  go_loopg [6, 7, 8, 22] level (fun m xv av ev i wr => ∃ (j x gg cc : Nat) (M : List Nd), m = level - j ∧ j ≤ level ∧ i = .int .i64 (j : Int) ∧ xv = .int .u32 (x : Int) ∧ St wr sb gg tb cc most M ∧ emZ most level N 0 = emZ most (level - j) M x ∧ x < M.length ∧ Frm [sb, g, tb] w wr ∧ (gg = g ∨ w.heap.size ≤ gg))
  case atStart => exact ⟨0, 0, g, cap, N, rfl, Nat.zero_le _, rfl, rfl, HS.out, rfl, by have := HS.out.wf.two; omega, Frm.refl _ _, Or.inl rfl⟩
  case round =>
    obtain ⟨j, x, gg, cc, M, hm, hj, rfl, rfl, hS, hE, hx, hF, hg⟩ := hrel
    have HM := Lib.hid hm
    have HS1 := Lib.hid hS
    have HE := Lib.hid hE
    have HX := Lib.hid hx
    have HF := Lib.hid hF
    have HG := Lib.hid hg
    clear hm hS hE hx hF hg HS
    by_cases hlt : j < level
    · have hgj : decide ((j : Int) < (level : Int)) = true := by simp; omega
      have HIK : Hid (InK (x, x, x, x)) := by
        have h1 := HX.out
        have h2 := HS1.out.room
        have h3 := HS1.out.most_le
        exact ⟨by show x < _; omega, by show x < _; omega, by show x < _; omega, by show x < _; omega⟩
      have HEN : Hid (emZ most (level - j) M x = if (mkZ M most (x, x, x, x)).2.2 = 0 then emZ most (level - (j + 1)) (mkZ M most (x, x, x, x)).1 (mkZ M most (x, x, x, x)).2.1 else ((mkZ M most (x, x, x, x)).1, 0, (mkZ M most (x, x, x, x)).2.2)) := by
        show _ = _
        rw [show level - j = (level - (j + 1)) + 1 by omega]
        rfl
      go_wp2_with fail
      refine (make_any HS1.out (x, x, x, x) HIK.out).mono ?_
      rintro e W1 ⟨g1, c1, rfl, hS, hF, hg⟩
      have HS2 := Lib.hid hS
      have HF2 : Hid (Frm [sb, g, tb] w W1) := by
        refine HF.out.trans hF (fun b hb => ?_)
        simp only [List.mem_cons, List.not_mem_nil, or_false] at hb
        rcases hb with e | e | e
        · exact Or.inl (by simp [e])
        · rcases HG.out with e' | e'
          · exact Or.inl (by simp [e, e'])
          · exact Or.inr (by omega)
        · exact Or.inl (by simp [e])
      have HG2 : Hid (g1 = g ∨ w.heap.size ≤ g1) := by
        rcases hg with e | e
        · rcases HG.out with e' | e'
          · exact Or.inl (by omega)
          · exact Or.inr (by omega)
        · exact Or.inr (Nat.le_trans HF.out.size e)
      clear hS hF hg
      by_cases he : (mkZ M most (x, x, x, x)).2.2 = 0
      · have HLT := Lib.hid (mk_lt HS1.out.wf he)
        have hen := HEN.out
        rw [if_pos he] at hen
        have HEN2 := Lib.hid hen
        clear hen
        have hev : errV (mkZ M most (x, x, x, x)).2.2 = .nilIface := by unfold errV; rw [if_pos he]
        rw [hev]
        generalize (mkZ M most (x, x, x, x)).2.1 = y at *
        generalize (mkZ M most (x, x, x, x)).1 = M2 at *
        clear he hev HEN
        go_wp2_with fail
        go_roundg (level - (j + 1))
        case measure => rw [HM.out]; omega
        case rel => exact ⟨j + 1, y, g1, c1, M2, rfl, hlt, by go_num, rfl, HS2.out, by rw [HE.out, HEN2.out], HLT.out, HF2.out, HG2.out⟩
      · have hen := HEN.out
        rw [if_neg he] at hen
        have HEN2 := Lib.hid (HE.out.trans hen)
        clear hen
        have hev : errV (mkZ M most (x, x, x, x)).2.2 = .iface 48 (.int .i64 ((mkZ M most (x, x, x, x)).2.2 : Int)) := by unfold errV; rw [if_neg he]
        rw [hev]
        have HEV := Lib.hid hev
        clear he hev HEN HE
        go_wp2_with fail
        go_ret2
        refine ⟨g1, c1, ?_, by rw [HEN2.out]; exact HS2.out, HF2.out, HG2.out⟩
        rw [HEN2.out]
        simp only [HEV.out]
        rfl
    · obtain rfl : j = level := by omega
      have hgj : decide ((j : Int) < (j : Int)) = false := by simp
      have he := HE.out
      rw [Nat.sub_self] at he
      have HE2 : Hid (emZ most j N 0 = (M, x, 0)) := he
      clear he HE
      go_wp2_with fail
      go_ret2
      refine ⟨gg, cc, ?_, by rw [HE2.out]; exact HS1.out, HF.out, HG.out⟩
      rw [HE2.out]; rfl
end Go.Proofs.YtaapkngpnlnjeaaGreatDoor
end

section
namespace Go.Proofs.YtaapkngpnlnjeaaGreatDoor
open Go.RowKit Go.Maps
set_option maxRecDepth 100000

theorem pow_61 {n : Nat} (h : n < 62) : (2 : Int) ^ n ≤ 2305843009213693952 := by
  have h1 : (2 : Nat) ^ n ≤ 2 ^ 61 := Nat.pow_le_pow_right (by decide) (by omega)
  have h2 : ((2 ^ n : Nat) : Int) ≤ ((2 ^ 61 : Nat) : Int) := Int.ofNat_le.2 h1
  rw [Int.natCast_pow] at h2
  exact h2
theorem below_drewN {B : Nat} {w W : World} (h : Below B w W) (q : Nat) : Below B w (W.drewN q) := ⟨h.os, h.tape, h.output, h.size, h.block⟩
theorem bel2 (w : World) (o1 o2 : Obj) : Below w.heap.size w ((w.alloc o1).alloc o2) := (bel1 w o1).trans ((bel1 _ o2).mono (by simp))
theorem bel3 (w : World) (o1 o2 o3 : Obj) : Below w.heap.size w (((w.alloc o1).alloc o2).alloc o3) := (bel2 w o1 o2).trans ((bel1 _ o3).mono (by simp; omega))
theorem and_one7 (z : Int) : bits .and .i64 z 1 = z % 2 := by
  have h1 : (BitVec.ofInt 64 1).toNat = 2 ^ 1 - 1 := by decide
  have key : (BitVec.ofInt 64 z &&& BitVec.ofInt 64 1).toNat = (z % ((2 ^ 64 : Nat) : Int)).toNat % 2 ^ 1 := by
    rw [BitVec.toNat_and, BitVec.toNat_ofInt, h1, Nat.and_two_pow_sub_one_eq_mod]
  show IntKind.i64.wrap ((BitVec.ofInt 64 z &&& BitVec.ofInt 64 1).toNat : Nat) = z % 2
  rw [key, IntKind.wrap_i64]
  omega
theorem across_any (i : Nat) (hi : i < 4) (w : World) : Calls Tryz.prog 71 #[.int .i64 (i : Int)] w fun e w' => e = .returned (.int .i64 (3 - (i : Int))) ∧ w = w' := by
  have h1 : IntKind.i64.wrap (3 - (i : Int)) = 3 - (i : Int) := IntWalk.i64_in _ (by omega)
  go_enter Tryz.func71, Tryz.ntmps71
  go_wp2
  go_ret
  exact ⟨rfl, rfl⟩
theorem span_any (n : Nat) (h : n < 62) (w : World) : Calls Tryz.prog 38 #[.int .i64 ((n : Int) + 1)] w fun e w' => e = .returned (.agg #[.int .i64 (-2 ^ n), .int .i64 (-2 ^ n), .int .i64 (2 ^ n), .int .i64 (2 ^ n)]) ∧ Below w.heap.size w w' := by
  have h0 := pow_pos2 n
  have h1 := pow_61 h
  have e1 : wrap64 (2 ^ n) = 2 ^ n := IntWalk.wrap64_in _ (by omega)
  have e2 : wrap64 (-2 ^ n) = -2 ^ n := IntWalk.wrap64_in _ (by omega)
  go_enter Tryz.func38, Tryz.ntmps38
  go_wp2
  refine bodyPost_ret (v := _) (by simp [results, Tryz.results38, go_sem]; rfl) rfl ?_
  exact ⟨rfl, bel1 _ _⟩
/-- Which of four. -/
def qn (r b : Bool) : Nat := (if r then 1 else 0) + 2 * (if b then 1 else 0)
theorem bit_qb (X : Int) (n : Nat) : X / 2 ^ n % 2 = ((if qb n X then 1 else 0 : Nat) : Int) := by
  unfold qb
  rcases Int.emod_two_eq (X / 2 ^ n) with h | h
  · rw [h]; simp
  · rw [h]; simp
theorem quarter_any (X Y : Int) (n : Nat) (h : n < 62) (w : World) : Calls Tryz.prog 42 #[.agg #[.int .i64 X, .int .i64 Y], .int .i64 ((n : Int) + 1)] w fun e w' => e = .returned (.int .i64 (qn (qb n X) (qb n Y) : Int)) ∧ Below w.heap.size w w' := by
  have a1 : bits .and .i64 (X / 2 ^ n) 1 = ((if qb n X then 1 else 0 : Nat) : Int) := by rw [and_one7, bit_qb]
  have a2 : bits .and .i64 (Y / 2 ^ n) 1 = ((if qb n Y then 1 else 0 : Nat) : Int) := by rw [and_one7, bit_qb]
  have q1 : (if qb n X then 1 else 0 : Nat) ≤ 1 := by split <;> omega
  have q2 : (if qb n Y then 1 else 0 : Nat) ≤ 1 := by split <;> omega
  unfold qn
  generalize (if qb n X then 1 else 0 : Nat) = p at *
  generalize (if qb n Y then 1 else 0 : Nat) = q at *
  go_enter Tryz.func42, Tryz.ntmps42
  go_wp2_with fail
  go_quiet (fail)
  go_wp2
  go_ret
  exact ⟨rfl, below_drewN (bel1 _ _) _⟩
theorem fieldFrom (a b c d : Value) (w : World) : (Instr.field 83 (.agg #[a, b, c, d]) 0).run Tryz.prog w = .ok (.agg #[a, b]) w := by kernel_rfl
theorem fromCorner_any (a b : Int) (n : Nat) (h : n < 62) (ha : inS n a = true) (hb : inS n b = true) (w : World) : Calls Tryz.prog 40 #[.agg #[.int .i64 a, .int .i64 b], .int .i64 ((n : Int) + 1)] w fun e w' => e = .returned (.agg #[.int .i64 (a + 2 ^ n), .int .i64 (b + 2 ^ n)]) ∧ Below w.heap.size w w' := by
  have hf := fieldFrom
  have h0 := pow_61 h
  rw [inS_iff] at ha hb
  have e1 : wrap64 (a + 2 ^ n) = a + 2 ^ n := IntWalk.wrap64_in _ (by omega)
  have e2 : wrap64 (b + 2 ^ n) = b + 2 ^ n := IntWalk.wrap64_in _ (by omega)
  clear ha hb h0
  go_enter Tryz.func40, Tryz.ntmps40
  go_wp2_with fail
  refine (span_any n h _).mono ?_
  rintro e W1 ⟨rfl, hb⟩
  have HB : Hid (Below w.heap.size w W1) := (bel2 w _ _).trans (hb.mono (by simp; omega))
  obtain ⟨c0, c1, _, _⟩ := ((((pt_new w a b 55).later (bel1 _ _)).later hb).later (bel1 W1 (.cells #[.int .i64 (-2 ^ n), .int .i64 (-2 ^ n)] 55))).two
  have HR := Lib.hid (((pt_new (w.alloc (.cells #[.int .i64 a, .int .i64 b] 55)) 0 0 55).later hb).later (bel1 W1 (.cells #[.int .i64 (-2 ^ n), .int .i64 (-2 ^ n)] 55)))
  obtain ⟨r0, r1, f0, f1⟩ := HR.out.two
  have es : (w.alloc (.cells #[.int .i64 a, .int .i64 b] 55)).heap.size = w.heap.size + 1 := by simp
  rw [es] at r0 r1 f0 f1 HR
  clear hb es
  have HB2 : Hid (Below w.heap.size w (W1.alloc (.cells #[.int .i64 (-2 ^ n), .int .i64 (-2 ^ n)] 55))) := HB.out.trans ((bel1 _ _).mono HB.out.size)
  go_wp2
  obtain ⟨W, hW, hb, hn⟩ := put_two HR.out HB2.out (by omega) (a + 2 ^ n) (b + 2 ^ n)
  rw [hW]
  obtain ⟨q0, q1, _⟩ := hn.two
  refine bodyPost_ret (v := _) (by simp [results, Tryz.results40, go_sem, q0, q1]; rfl) rfl ?_
  exact ⟨rfl, hb⟩
theorem right_any {w : World} {sb g tb cap most : Nat} {N : List Nd} (h : St w sb g tb cap most N) (x : Nat) (hx : x < 4294967296) : Calls Tryz.prog 37 #[.agg #[.pointer (some ⟨sb, 0, none⟩), .int .u32 (x : Int)]] w fun e w' => e = .returned (.bool (decide (3 ≤ lvZ N x))) ∧ Below w.heap.size w w' := by
  have HB := Lib.hid (bel1 w (.cells #[.pointer (some ⟨sb, 0, none⟩), .int .u32 (x : Int)] 34))
  have HS := Lib.hid (h.later HB.out)
  clear h
  go_enter Tryz.func37, Tryz.ntmps37
  go_wp2_with fail
  refine (level_any HS.out x hx).mono ?_
  rintro e W1 ⟨rfl, rfl⟩
  go_wp2
  go_ret
  exact ⟨rfl, HB.out⟩
end Go.Proofs.YtaapkngpnlnjeaaGreatDoor
end

section
namespace Go.Proofs.YtaapkngpnlnjeaaGreatDoor
open Go.RowKit

/-- The worlds that keep what a world has. -/
def Up (w : World) : Type := { W : World // Below w.heap.size w W }
theorem Up.cell {w : World} {p : Addr} {v : Value} (h : w.cell? p = some v) (z : Up w) : z.1.cell? p = some v := by rw [z.2.cell (blk_lt h)]; exact h
theorem Up.calls {w : World} {f : FuncId} {args : Array Value} {v : Value} (h : ∀ W, Below w.heap.size w W → Calls Tryz.prog f args W fun e w' => e = .returned v ∧ Below W.heap.size W w') (z : Up w) :
    Calls Tryz.prog f args z.1 fun e' w' => e' = .returned v ∧ ∃ z' : Up w, w' = z'.1 :=
  (h z.1 z.2).mono fun _ w' ⟨h1, h2⟩ => ⟨h1, ⟨w', z.2.trans (h2.mono z.2.size)⟩, rfl⟩
theorem Up.callsE {w : World} {f : FuncId} {args : Array Value} {v : Value} (h : ∀ W, Below w.heap.size w W → Calls Tryz.prog f args W fun e w' => e = .returned v ∧ W = w') (z : Up w) :
    Calls Tryz.prog f args z.1 fun e' w' => e' = .returned v ∧ ∃ z' : Up w, w' = z'.1 :=
  (h z.1 z.2).mono fun _ w' ⟨h1, h2⟩ => ⟨h1, ⟨w', h2 ▸ z.2⟩, rfl⟩
theorem Up.me (w : World) : Nonempty (Up w) := ⟨⟨w, Below.refl _ _⟩⟩
theorem region_up {P : Program} {id : Nat} {Q : Exit → Act → World → Prop} {a : Act} {w : World} {l : List Oper} (hm : P.follows .mixedOrders = true) (hB : Region.lexB .any l.toArray = true)
    (h : wpQuiet P l.toArray (fun w' => ∃ z : Up w, w' = z.1) (fun a' => ∀ w', (∃ z : Up w, w' = z.1) → Q .normal a' w') l a) : (Code.region id l.toArray true).wp P Q a w :=
  wp_region_quiet (C := fun w' => ∃ z : Up w, w' = z.1) hm hB ⟨⟨_, below_drewN (Below.refl _ w) 1⟩, rfl⟩ (by simpa using h)
end Go.Proofs.YtaapkngpnlnjeaaGreatDoor
end
