/- Package grid: All, as an iterator: its contract. -/
import Derived.Test.YtlafbkehlglfoaaDoorGr2
import Derived.Test.YtlafbkehlglfoaaDoorRgf
import Derived.WalkKit
import Derived.OwnWalkIn
import Derived.TacticsInMore
import Derived.LoopNIn
import Derived.LoopIn
import Derived.Shelf.Abstract
namespace Go.Proofs.YtlafbkehlglfoaaDoor
open Go.RowKit Go.Shelf

attribute [local go_sem] Oper.semAt_some

theorem Nums.of_block {W W' : World} {b : Nat} {zs : List Int} (h : Nums W b zs) (he : W'.heap[b]? = W.heap[b]?) : Nums W' b zs := by
  have hlt : b < W'.heap.size := by
    have h1 := h.1
    apply Classical.byContradiction
    intro hn
    rw [Array.getElem?_eq_none (by omega), Array.getElem?_eq_getElem h1] at he
    cases he
  exact ⟨hlt, fun j z hz => ⟨(World.cell?_of_block (a := ⟨b, j, none⟩) he).trans (h.2 j z hz).1, (World.frozen?_of_block (a := ⟨b, j, none⟩) he).trans (h.2 j z hz).2⟩⟩

theorem Tryd.yieldNil (l : Nat) (w : World) : (binOp .eql 41 (.func (.yield l) #[] #[]) .nilFunc).run Tryd.prog w = .ok (.bool false) w := by kernel_rfl
set_option maxRecDepth 100000 in
set_option maxHeartbeats 2000000 in
theorem all_iter (x y X Y : Int) (wd hg n : Nat) (hw : 1 ≤ wd) (hh : 1 ≤ hg) (hX : X = x + wd) (hY' : Y = y + hg) (x0 : -9223372036854775808 ≤ x) (y0 : -9223372036854775808 ≤ y) (X1 : X ≤ 9223372036854775807) (Y1 : Y ≤ 9223372036854775807) (l B : Nat) (J Jx : Nat → World → Prop)
    (hJ : ∀ k W W', J k W → Below W.heap.size W W' → J k W')
    (hY : ∀ (i j : Nat) W, i < wd → j < hg → B < W.heap.size → J (wd * j + i) W → YieldAt Fence.wide (n - 1) Tryd.prog l #[.agg #[.int .i64 (x + i), .int .i64 (y + j)]] W fun e W' =>
      (e = .returned (.bool true) ∧ J (wd * j + i + 1) W' ∧ W'.heap[B]? = W.heap[B]?) ∨ (e = .returned (.bool false) ∧ Jx (wd * j + i + 1) W'))
    (W : World) (hB : W.heap.size = B) (h0 : J 0 W) :
    CallsIn Fence.wide n Tryd.prog 24 #[.agg #[.int .i64 x, .int .i64 y, .int .i64 X, .int .i64 Y], .func (.yield l) #[] #[]] W fun e W' => (∃ v, e = .returned v) ∧ (J (wd * hg) W' ∨ ∃ k, Jx k W') := by
  subst hX hY'
  have hyn := Tryd.yieldNil l
  have HE := Lib.hid (fun w => empty_any x y (x + wd) (y + hg) w)
  rw [show noPts x y (x + wd) (y + hg) = false by unfold noPts; simp only [Bool.or_eq_false_iff, decide_eq_false_iff_not]; omega] at HE
  have HJ := Lib.hid hJ
  have HY := Lib.hid hY
  have HN0 : Hid (Nums (W.alloc (.cells #[.int .i64 x, .int .i64 y, .int .i64 (x + wd), .int .i64 (y + hg)] 34)) B [x, y, x + wd, y + hg]) := by
    have := rc_new W x y (x + wd) (y + hg) 34
    rw [hB] at this
    exact this
  have H0 : Hid (J 0 (W.alloc (.cells #[.int .i64 x, .int .i64 y, .int .i64 (x + wd), .int .i64 (y + hg)] 34))) := hJ 0 W _ h0 (bel1 W _)
  clear hJ hY h0
  refine callsIn_of_wp Tryd.func24 rfl trivial ?_ rfl
  simp only [Tryd.ntmps24, List.size_toArray, List.length_cons, List.length_nil, Nat.reduceAdd, Nat.reduceSub, Array.replicate_succ, Array.replicate_zero, List.push_toArray, List.append_toArray, List.nil_append, List.cons_append]
  gi_wp2_with fail
  refine ⟨trivial, fun h => (by cases h), CallsIn.mono ((callsIn_wide (n := n - 1)).2 (HE.out _)) ?_⟩
  rintro e w1 ⟨rfl, hb⟩
  have HJ1 := Lib.hid (HJ.out 0 _ _ H0.out hb)
  have HN1 := Lib.hid (HN0.out.later hb)
  clear hb HN0 H0
  obtain ⟨c0, c1, c2, c3, _⟩ := HN1.out.four
  gi_wp2_with fail
  gi_loopw [4] (fun p wr => ∃ j : Nat, p = .int .i64 (y + j) ∧ j ≤ hg ∧ J (wd * j) wr ∧ Nums wr B [x, y, x + wd, y + hg])
    (fun p wr => (y + hg - intOf p).toNat)
  case atStart => exact ⟨0, by simp, by omega, HJ1.out, HN1.out⟩
  case round =>
    obtain ⟨j, rfl, hj, hjs, hns⟩ := hrel
    have HJ2 := Lib.hid hjs
    have HN2 := Lib.hid hns
    clear hjs hns HJ1 HN1 c0 c1 c2 c3
    obtain ⟨c0, c1, c2, c3, _⟩ := HN2.out.four
    by_cases hlt : j < hg
    · gi_wp2_with fail
      gi_loopw [5] (fun p wr => ∃ i : Nat, p = .int .i64 (x + i) ∧ i ≤ wd ∧ J (wd * j + i) wr ∧ Nums wr B [x, y, x + wd, y + hg])
        (fun p wr => (x + wd - intOf p).toNat)
      case atStart => exact ⟨0, by simp, by omega, HJ2.out, HN2.out⟩
      case round =>
        obtain ⟨i, rfl, hi, hjs, hns⟩ := hrel
        have HJ3 := Lib.hid hjs
        have HN3 := Lib.hid hns
        clear hjs hns HJ2 HN2 c0 c1 c2 c3
        obtain ⟨c0, c1, c2, c3, _⟩ := HN3.out.four
        by_cases hli : i < wd
        · obtain ⟨fn, tmps, assign, body, hy, hR⟩ := HY.out i j wr hli hlt HN3.out.1 HJ3.out
          have HR := Lib.hid hR
          clear hR
          gi_wp2
          refine ⟨fun h => (by cases h), HR.out.mono ?_⟩
          rintro e W3 (⟨rfl, hJ4, hk⟩ | ⟨rfl, hx⟩)
          · have HJ4 := Lib.hid hJ4
            have HN4 := Lib.hid (HN3.out.of_block hk)
            clear hJ4 hk HR hy c0 c1 c2 c3
            gi_wp2
            go_roundw
            case rel => exact ⟨i + 1, by go_num, by omega, HJ4.out, HN4.out⟩
            case measure => simp [intOf]; omega
          · have HX := Lib.hid hx
            clear hx HR hy
            gi_wp2
            refine bodyPost_ret (results_none rfl _ _ _) rfl ?_
            exact ⟨⟨_, rfl⟩, .inr ⟨_, HX.out⟩⟩
        · obtain rfl : i = wd := by omega
          gi_wp2
          go_roundw
          case rel => exact ⟨j + 1, by go_num, by omega, by rw [Nat.mul_add, Nat.mul_one]; exact HJ3.out, HN3.out⟩
          case measure => simp [intOf]; omega
    · obtain rfl : j = hg := by omega
      gi_wp2
      go_end0
      exact ⟨⟨_, rfl⟩, .inl HJ2.out⟩

set_option maxRecDepth 100000 in
theorem all_none (x y X Y : Int) (h : noPts x y X Y = true) (l : Nat) (w : World) :
    Calls Tryd.prog 24 #[.agg #[.int .i64 x, .int .i64 y, .int .i64 X, .int .i64 Y], .func (.yield l) #[] #[]] w fun e w' => (∃ v, e = .returned v) ∧ Below w.heap.size w w' := by
  have HE := Lib.hid (fun w => empty_any x y X Y w)
  rw [h] at HE
  clear h
  go_enter Tryd.func24, Tryd.ntmps24
  go_wp2_with fail
  refine (HE.out _).mono ?_
  rintro e w1 ⟨rfl, hb⟩
  have HB : Hid (Below w.heap.size w w1) := (bel1 w _).trans (hb.mono (by simp))
  clear hb
  go_wp2
  go_returns
  exact ⟨⟨_, rfl⟩, HB.out⟩
end Go.Proofs.YtlafbkehlglfoaaDoor
