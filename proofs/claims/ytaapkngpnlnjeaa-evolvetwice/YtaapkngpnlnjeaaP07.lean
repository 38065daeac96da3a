-- P07
import Derived.Test.YtaapkngpnlnjeaaMake6
import Derived.Test.YtaapkngpnlnjeaaP02
import Derived.Test.YtaapkngpnlnjeaaP04
import Derived.Deep.QuietTactic
section
namespace Go.Proofs.Ytaapkngpnlnjeaa
open Go.RowKit Go.Maps
set_option maxRecDepth 100000

set_option maxHeartbeats 2000000 in
theorem make_bad {w : World} {sb g tb cap most : Nat} {N : List Nd} (h : St w sb g tb cap most N) (k : K4) (hk : InK k) (hf : ¬ FitZ N k) :
    Calls Try.prog 33 #[.pointer (some ⟨sb, 0, none⟩), .agg #[.int .u32 (k.1 : Int), .int .u32 (k.2.1 : Int), .int .u32 (k.2.2.1 : Int), .int .u32 (k.2.2.2 : Int)]] w fun e w' => e = .returned (.tuple #[.int .u32 0, .iface 56 (.int .i64 1)]) ∧ Below w.heap.size w w' := by
  have HS := Lib.hid h
  have HK := Lib.hid hk
  have HF := Lib.hid hf
  clear h hk hf
  go_enter Try.func33, Try.ntmps33
  go_wp2_with fail
  have HB := Lib.hid (bel1 w (.cells #[.int .u32 (k.1 : Int), .int .u32 (k.2.1 : Int), .int .u32 (k.2.2.1 : Int), .int .u32 (k.2.2.2 : Int)] 46))
  have HS1 := Lib.hid (HS.out.later HB.out)
  generalize w.alloc (.cells #[.int .u32 (k.1 : Int), .int .u32 (k.2.1 : Int), .int .u32 (k.2.2.1 : Int), .int .u32 (k.2.2.2 : Int)] 46) = W1 at *
  refine (fit_any HS1.out k HK.out).mono ?_
  rintro e W2 ⟨rfl, hb⟩
  have HB2 := Lib.hid (HB.out.trans (hb.mono HB.out.size))
  clear hb HS1 HB
  have hfit : decide (FitZ N k) = false := by simpa using HF.out
  go_wp2_with fail
  go_ret2
  exact ⟨rfl, HB2.out⟩
set_option maxHeartbeats 2000000 in
theorem make_there {w : World} {sb g tb cap most : Nat} {N : List Nd} (h : St w sb g tb cap most N) (k : K4) (hk : InK k) (hf : FitZ N k) {i : Nat} (hn : findZ N k = some i) :
    Calls Try.prog 33 #[.pointer (some ⟨sb, 0, none⟩), .agg #[.int .u32 (k.1 : Int), .int .u32 (k.2.1 : Int), .int .u32 (k.2.2.1 : Int), .int .u32 (k.2.2.2 : Int)]] w fun e w' => e = .returned (.tuple #[.int .u32 (i : Int), .nilIface]) ∧ Below w.heap.size w w' := by
  have HS := Lib.hid h
  have HK := Lib.hid hk
  have HF := Lib.hid hf
  have HN := Lib.hid hn
  clear h hk hf hn
  go_enter Try.func33, Try.ntmps33
  go_wp2_with fail
  have HB := Lib.hid (bel1 w (.cells #[.int .u32 (k.1 : Int), .int .u32 (k.2.1 : Int), .int .u32 (k.2.2.1 : Int), .int .u32 (k.2.2.2 : Int)] 46))
  have HS1 := Lib.hid (HS.out.later HB.out)
  have HK1 := Lib.hid (k_new w k)
  generalize w.alloc (.cells #[.int .u32 (k.1 : Int), .int .u32 (k.2.1 : Int), .int .u32 (k.2.2.1 : Int), .int .u32 (k.2.2.2 : Int)] 46) = W1 at *
  refine (fit_any HS1.out k HK.out).mono ?_
  rintro e W2 ⟨rfl, hb⟩
  have HB2 := Lib.hid (HB.out.trans (hb.mono HB.out.size))
  have HS2 := Lib.hid (HS1.out.later hb)
  have HK2 := Lib.hid (HK1.out.later hb)
  clear hb HS1 HK1 HB
  have hfit : decide (FitZ N k) = true := by simpa using HF.out
  have hlk := HS2.out.tab.lookS k HK.out HN.out
  obtain ⟨c0, c1, c2, c3⟩ := HS2.out.cells
  obtain ⟨u0, u1, u2, u3, _⟩ := HK2.out.cells
  go_wp2_with fail
  go_quiet (fail)
  go_wp2_with fail
  go_ret2
  exact ⟨rfl, HB2.out.os, HB2.out.tape, HB2.out.output, HB2.out.size, HB2.out.block⟩
set_option maxHeartbeats 2000000 in
theorem make_full {w : World} {sb g tb cap most : Nat} {N : List Nd} (h : St w sb g tb cap most N) (k : K4) (hk : InK k) (hf : FitZ N k) (hn : findZ N k = none) (hl : most ≤ N.length) :
    Calls Try.prog 33 #[.pointer (some ⟨sb, 0, none⟩), .agg #[.int .u32 (k.1 : Int), .int .u32 (k.2.1 : Int), .int .u32 (k.2.2.1 : Int), .int .u32 (k.2.2.2 : Int)]] w fun e w' => e = .returned (.tuple #[.int .u32 0, .iface 56 (.int .i64 7)]) ∧ Below w.heap.size w w' := by
  have HS := Lib.hid h
  have HK := Lib.hid hk
  have HF := Lib.hid hf
  have HN := Lib.hid hn
  have HLT := Lib.hid hl
  clear h hk hf hn hl
  go_enter Try.func33, Try.ntmps33
  go_wp2_with fail
  have HB := Lib.hid (bel1 w (.cells #[.int .u32 (k.1 : Int), .int .u32 (k.2.1 : Int), .int .u32 (k.2.2.1 : Int), .int .u32 (k.2.2.2 : Int)] 46))
  have HS1 := Lib.hid (HS.out.later HB.out)
  have HK1 := Lib.hid (k_new w k)
  generalize w.alloc (.cells #[.int .u32 (k.1 : Int), .int .u32 (k.2.1 : Int), .int .u32 (k.2.2.1 : Int), .int .u32 (k.2.2.2 : Int)] 46) = W1 at *
  refine (fit_any HS1.out k HK.out).mono ?_
  rintro e W2 ⟨rfl, hb⟩
  have HB2 := Lib.hid (HB.out.trans (hb.mono HB.out.size))
  have HS2 := Lib.hid (HS1.out.later hb)
  have HK2 := Lib.hid (HK1.out.later hb)
  clear hb HS1 HK1 HB
  have hfit : decide (FitZ N k) = true := by simpa using HF.out
  have hlk := HS2.out.tab.lookQ k HK.out HN.out
  obtain ⟨c0, c1, c2, c3⟩ := HS2.out.cells
  obtain ⟨u0, u1, u2, u3, _⟩ := HK2.out.cells
  go_wp2_with fail
  go_quiet (fail)
  go_wp2_with fail
  refine (room_any (HS2.out.drewN _)).mono ?_
  rintro e W3 ⟨rfl, q, rfl⟩
  have hrm : decide ((most : Int) - (N.length : Int) < 1) = true := by have := HLT.out; simp; omega
  go_wp2_with fail
  go_ret2
  exact ⟨rfl, HB2.out.os, HB2.out.tape, HB2.out.output, HB2.out.size, HB2.out.block⟩
/-- Make. -/
theorem make_any {w : World} {sb g tb cap most : Nat} {N : List Nd} (h : St w sb g tb cap most N) (k : K4) (hk : InK k) :
    Calls Try.prog 33 #[.pointer (some ⟨sb, 0, none⟩), .agg #[.int .u32 (k.1 : Int), .int .u32 (k.2.1 : Int), .int .u32 (k.2.2.1 : Int), .int .u32 (k.2.2.2 : Int)]] w fun e w' => ∃ g' cap', e = .returned (.tuple #[.int .u32 ((mkZ N most k).2.1 : Int), errV (mkZ N most k).2.2]) ∧ St w' sb g' tb cap' most (mkZ N most k).1 ∧ Frm [sb, g, tb] w w' ∧ (g' = g ∨ w.heap.size ≤ g') := by
  by_cases hf : FitZ N k
  · cases hn : findZ N k with
    | some i =>
      rw [mk_there hf hn]
      refine (make_there h k hk hf hn).mono ?_
      rintro e w' ⟨rfl, hb⟩
      exact ⟨g, cap, rfl, h.later hb, Frm.of_below hb, Or.inl rfl⟩
    | none =>
      rcases Nat.lt_or_ge N.length most with hl | hl
      · rw [mk_add hf hn hl]
        exact make_add h k hk hf hn hl
      · rw [mk_full hf hn hl]
        refine (make_full h k hk hf hn hl).mono ?_
        rintro e w' ⟨rfl, hb⟩
        exact ⟨g, cap, rfl, h.later hb, Frm.of_below hb, Or.inl rfl⟩
  · rw [mk_bad hf]
    refine (make_bad h k hk hf).mono ?_
    rintro e w' ⟨rfl, hb⟩
    exact ⟨g, cap, rfl, h.later hb, Frm.of_below hb, Or.inl rfl⟩
/-- Of no store. -/
theorem fit_nil (k : K4) (hk : InK k) (w : World) : Calls Try.prog 45 #[.pointer none, .agg #[.int .u32 (k.1 : Int), .int .u32 (k.2.1 : Int), .int .u32 (k.2.2.1 : Int), .int .u32 (k.2.2.2 : Int)]] w fun e w' => e = .returned (.bool false) ∧ Below w.heap.size w w' := by
  have HK := Lib.hid hk
  clear hk
  go_enter Try.func45, Try.ntmps45
  go_wp2_with fail
  refine (level_nil k.1 HK.out.1 _).mono ?_
  rintro e w' ⟨rfl, rfl⟩
  go_wp2
  go_ret
  exact ⟨rfl, bel1 _ _⟩
theorem make_nil (k : K4) (hk : InK k) (w : World) : Calls Try.prog 33 #[.pointer none, .agg #[.int .u32 (k.1 : Int), .int .u32 (k.2.1 : Int), .int .u32 (k.2.2.1 : Int), .int .u32 (k.2.2.2 : Int)]] w fun e w' => e = .returned (.tuple #[.int .u32 0, .iface 56 (.int .i64 1)]) ∧ Below w.heap.size w w' := by
  have HK := Lib.hid hk
  clear hk
  go_enter Try.func33, Try.ntmps33
  go_wp2_with fail
  have HB := Lib.hid (bel1 w (.cells #[.int .u32 (k.1 : Int), .int .u32 (k.2.1 : Int), .int .u32 (k.2.2.1 : Int), .int .u32 (k.2.2.2 : Int)] 46))
  generalize w.alloc (.cells #[.int .u32 (k.1 : Int), .int .u32 (k.2.1 : Int), .int .u32 (k.2.2.1 : Int), .int .u32 (k.2.2.2 : Int)] 46) = W1 at *
  refine (fit_nil k HK.out _).mono ?_
  rintro e W2 ⟨rfl, hb⟩
  have HB2 := Lib.hid (HB.out.trans (hb.mono HB.out.size))
  go_wp2
  go_ret2
  exact ⟨rfl, HB2.out⟩
end Go.Proofs.Ytaapkngpnlnjeaa
end

section
namespace Go.Proofs.Ytaapkngpnlnjeaa
open Go.RowKit Go.Maps
set_option maxRecDepth 100000

set_option maxHeartbeats 1000000 in
theorem of_good {w : World} {sb g tb cap most : Nat} {N : List Nd} (h : St w sb g tb cap most N) (x : Nat) (hx : x < 4294967296) {n : Nd} (hn : N[x]? = some n) (hl : 0 < n.lv) :
    Calls Try.prog 17 #[.pointer (some ⟨sb, 0, none⟩), .int .u32 (x : Int)] w fun e w' => e = .returned (.tuple #[kv n.k, .bool true]) ∧ Below w.heap.size w w' := by
  have hlv : lvZ N x = (n.lv : Int) := by unfold lvZ; rw [hn]
  have HB := Lib.hid (bel1 w (.cells #[.int .u32 ((0 : Nat) : Int), .int .u32 ((0 : Nat) : Int), .int .u32 ((0 : Nat) : Int), .int .u32 ((0 : Nat) : Int)] 46))
  have HS := Lib.hid (h.later HB.out)
  have HK := Lib.hid (k_new w (0, 0, 0, 0))
  have hg : decide ((n.lv : Int) < 1) = false := by simp; omega
  have hil : x < N.length := (List.getElem?_eq_some_iff.1 hn).1
  have hi : (x : Int) < (N.length : Int) := by omega
  have hi0 : (0 : Int) ≤ (x : Int) := by omega
  obtain ⟨s0, s1, s2, s3, _, _⟩ := HS.out.sq hn
  obtain ⟨c0, c1, c2, c3⟩ := HS.out.cells
  obtain ⟨u0, u1, u2, u3, f0, f1, f2, f3⟩ := HK.out.cells
  have hLV := level_any HS.out x hx
  rw [hlv] at hLV
  have HLV := Lib.hid hLV
  clear h hn hlv hLV
  simp only [Int.ofNat_zero] at *
  go_enter Try.func17, Try.ntmps17
  go_wp2_with fail
  refine HLV.out.mono ?_
  rintro e w' ⟨rfl, rfl⟩
  go_wp2
  refine bodyPost_ret (v := _) (by simp [results, Try.results17, go_sem]; rfl) rfl ?_
  exact ⟨rfl, bel1 _ _⟩
set_option maxHeartbeats 1000000 in
theorem of_bad {w : World} {sb g tb cap most : Nat} {N : List Nd} (h : St w sb g tb cap most N) (x : Nat) (hx : x < 4294967296) (hl : lvZ N x < 1) :
    Calls Try.prog 17 #[.pointer (some ⟨sb, 0, none⟩), .int .u32 (x : Int)] w fun e w' => e = .returned (.tuple #[kv (0, 0, 0, 0), .bool false]) ∧ Below w.heap.size w w' := by
  have HB := Lib.hid (bel1 w (.cells #[.int .u32 ((0 : Nat) : Int), .int .u32 ((0 : Nat) : Int), .int .u32 ((0 : Nat) : Int), .int .u32 ((0 : Nat) : Int)] 46))
  have HS := Lib.hid (h.later HB.out)
  have hg : decide (lvZ N x < 1) = true := by simpa using hl
  have HLV := Lib.hid (level_any HS.out x hx)
  clear h
  simp only [Int.ofNat_zero] at *
  go_enter Try.func17, Try.ntmps17
  go_wp2_with fail
  refine HLV.out.mono ?_
  rintro e w' ⟨rfl, rfl⟩
  go_wp2
  refine bodyPost_ret (v := _) (by simp [results, Try.results17, go_sem]; rfl) rfl ?_
  exact ⟨rfl, bel1 _ _⟩

theorem em_wf (most : Nat) : ∀ (n : Nat) (N : List Nd) (x : Nat), Wf N → N.length ≤ most → x < N.length → Wf (emZ most n N x).1 ∧ (emZ most n N x).1.length ≤ most ∧ N.length ≤ (emZ most n N x).1.length
  | 0, N, x, hw, hl, _ => ⟨hw, hl, Nat.le_refl _⟩
  | n + 1, N, x, hw, hl, hx => by
    obtain ⟨h1, h2, h3⟩ := mk_wf (x, x, x, x) hw hl
    unfold emZ
    split
    · rename_i he
      have hx' : (mkZ N most (x, x, x, x)).2.1 < (mkZ N most (x, x, x, x)).1.length := mk_lt hw he
      obtain ⟨g1, g2, g3⟩ := em_wf most n _ _ h1 h2 hx'
      exact ⟨g1, g2, Nat.le_trans h3 g3⟩
    · exact ⟨h1, h2, h3⟩
end Go.Proofs.Ytaapkngpnlnjeaa
end

section
namespace Go.Proofs.Ytaapkngpnlnjeaa
open Go.RowKit Go.Maps
set_option maxRecDepth 100000

theorem pow_61 {n : Nat} (h : n < 62) : (2 : Int) ^ n ≤ 2305843009213693952 := by
  have h1 : (2 : Nat) ^ n ≤ 2 ^ 61 := Nat.pow_le_pow_right (by decide) (by omega)
  have h2 : ((2 ^ n : Nat) : Int) ≤ ((2 ^ 61 : Nat) : Int) := Int.ofNat_le.2 h1
  rw [Int.natCast_pow] at h2
  exact h2
theorem below_drewN {B : Nat} {w W : World} (h : Below B w W) (q : Nat) : Below B w (W.drewN q) := ⟨h.os, h.tape, h.output, h.size, h.block⟩
theorem bel2 (w : World) (o1 o2 : Obj) : Below w.heap.size w ((w.alloc o1).alloc o2) := (bel1 w o1).trans ((bel1 _ o2).mono (by simp))
theorem bel3 (w : World) (o1 o2 o3 : Obj) : Below w.heap.size w (((w.alloc o1).alloc o2).alloc o3) := (bel2 w o1 o2).trans ((bel1 _ o3).mono (by simp; omega))
theorem and_one7 (z : Int) : bits .and .i64 z 1 = z % 2 := by
  have h1 : (BitVec.ofInt 64 1).toNat = 2 ^ 1 - 1 := by decide
  have key : (BitVec.ofInt 64 z &&& BitVec.ofInt 64 1).toNat = (z % ((2 ^ 64 : Nat) : Int)).toNat % 2 ^ 1 := by
    rw [BitVec.toNat_and, BitVec.toNat_ofInt, h1, Nat.and_two_pow_sub_one_eq_mod]
  show IntKind.i64.wrap ((BitVec.ofInt 64 z &&& BitVec.ofInt 64 1).toNat : Nat) = z % 2
  rw [key, IntKind.wrap_i64]
  omega
/-- Which of four. -/
def qn (r b : Bool) : Nat := (if r then 1 else 0) + 2 * (if b then 1 else 0)
theorem bit_qb (X : Int) (n : Nat) : X / 2 ^ n % 2 = ((if qb n X then 1 else 0 : Nat) : Int) := by
  unfold qb
  rcases Int.emod_two_eq (X / 2 ^ n) with h | h
  · rw [h]; simp
  · rw [h]; simp
end Go.Proofs.Ytaapkngpnlnjeaa
end

section
namespace Go.Proofs.Ytaapkngpnlnjeaa
open Go.RowKit

/-- The worlds that keep what a world has. -/
def Up (w : World) : Type := { W : World // Below w.heap.size w W }
theorem Up.cell {w : World} {p : Addr} {v : Value} (h : w.cell? p = some v) (z : Up w) : z.1.cell? p = some v := by rw [z.2.cell (blk_lt h)]; exact h
theorem Up.calls {w : World} {f : FuncId} {args : Array Value} {v : Value} (h : ∀ W, Below w.heap.size w W → Calls Try.prog f args W fun e w' => e = .returned v ∧ Below W.heap.size W w') (z : Up w) :
    Calls Try.prog f args z.1 fun e' w' => e' = .returned v ∧ ∃ z' : Up w, w' = z'.1 :=
  (h z.1 z.2).mono fun _ w' ⟨h1, h2⟩ => ⟨h1, ⟨w', z.2.trans (h2.mono z.2.size)⟩, rfl⟩
theorem Up.callsE {w : World} {f : FuncId} {args : Array Value} {v : Value} (h : ∀ W, Below w.heap.size w W → Calls Try.prog f args W fun e w' => e = .returned v ∧ W = w') (z : Up w) :
    Calls Try.prog f args z.1 fun e' w' => e' = .returned v ∧ ∃ z' : Up w, w' = z'.1 :=
  (h z.1 z.2).mono fun _ w' ⟨h1, h2⟩ => ⟨h1, ⟨w', h2 ▸ z.2⟩, rfl⟩
theorem Up.me (w : World) : Nonempty (Up w) := ⟨⟨w, Below.refl _ _⟩⟩
theorem region_up {P : Program} {id : Nat} {Q : Exit → Act → World → Prop} {a : Act} {w : World} {l : List Oper} (hm : P.follows .mixedOrders = true) (hB : Region.lexB .any l.toArray = true)
    (h : wpQuiet P l.toArray (fun w' => ∃ z : Up w, w' = z.1) (fun a' => ∀ w', (∃ z : Up w, w' = z.1) → Q .normal a' w') l a) : (Code.region id l.toArray true).wp P Q a w :=
  wp_region_quiet (C := fun w' => ∃ z : Up w, w' = z.1) hm hB ⟨⟨_, below_drewN (Below.refl _ w) 1⟩, rfl⟩ (by simpa using h)
end Go.Proofs.Ytaapkngpnlnjeaa
end
