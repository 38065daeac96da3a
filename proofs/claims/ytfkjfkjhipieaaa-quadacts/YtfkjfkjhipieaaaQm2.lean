/- Package quad: middle, inMiddle, Centre: contracts. -/
import Derived.Test.YtfkjfkjhipieaaaQm
namespace Go.Proofs.Ytfkjfkjhipieaaa
open Go.RowKit Go.Maps
set_option maxRecDepth 100000

theorem kept {w w' : World} {b : Nat} {o : Obj} (h : w.heap[b]? = some o) (hb : Below w.heap.size w w') : w'.heap[b]? = some o := by
  rw [hb.block b (Array.getElem?_eq_some_iff.1 h).1]; exact h
theorem new_2 (w : World) (o1 o2 : Obj) : ((w.alloc o1).alloc o2).heap[w.heap.size + 1]? = some o2 := by
  have := heap_alloc_new (w.alloc o1) o2
  rw [show (w.alloc o1).heap.size = w.heap.size + 1 by simp] at this
  exact this
theorem new_3 (w : World) (o1 o2 o3 : Obj) : (((w.alloc o1).alloc o2).alloc o3).heap[w.heap.size + 1 + 1]? = some o3 := by
  have := heap_alloc_new ((w.alloc o1).alloc o2) o3
  rw [show ((w.alloc o1).alloc o2).heap.size = w.heap.size + 1 + 1 by simp] at this
  exact this
theorem k_res2 {w W : World} {B b : Nat} {k : K4} (hb : Below B w W) (hB : B ≤ b) (h : W.heap[b]? = some (kO k)) (d : K4) :
    ∃ W', ((((W.setCell ⟨b, 0, none⟩ (.int .u32 (d.1 : Int))).setCell ⟨b, 1, none⟩ (.int .u32 (d.2.1 : Int))).setCell ⟨b, 2, none⟩ (.int .u32 (d.2.2.1 : Int))).setCell ⟨b, 3, none⟩ (.int .u32 (d.2.2.2 : Int))) = W' ∧ Below B w W' ∧ W'.heap[b]? = some (kO d) :=
  ⟨_, rfl, (((hb.setCell (p := ⟨b, 0, none⟩) hB _).setCell (p := ⟨b, 1, none⟩) hB _).setCell (p := ⟨b, 2, none⟩) hB _).setCell (p := ⟨b, 3, none⟩) hB _, KAt.put h d⟩
theorem of_sqk {w : World} {sb g tb cap most : Nat} {N : List Nd} (h : St w sb g tb cap most N) {n x : Nat} (hx : Sq N (n + 1) x) :
    Calls Try.prog 19 #[.pointer (some ⟨sb, 0, none⟩), .int .u32 (x : Int)] w fun e w' => e = .returned (.tuple #[.agg #[.int .u32 ((kidZ N x).1 : Int), .int .u32 ((kidZ N x).2.1 : Int), .int .u32 ((kidZ N x).2.2.1 : Int), .int .u32 ((kidZ N x).2.2.2 : Int)], .bool true]) ∧ Below w.heap.size w w' := of_sq h hx
set_option maxHeartbeats 2000000 in
theorem middle_any {w : World} {sb g tb cap most : Nat} {N : List Nd} (h : St w sb g tb cap most N) {n : Nat} {k : K4} (hk : Fo N (n + 1) k) :
    Calls Try.prog 36 #[.pointer (some ⟨sb, 0, none⟩), .agg #[.int .u32 (k.1 : Int), .int .u32 (k.2.1 : Int), .int .u32 (k.2.2.1 : Int), .int .u32 (k.2.2.2 : Int)]] w fun e w' => e = .returned (.agg #[.int .u32 ((midK N k).1 : Int), .int .u32 ((midK N k).2.1 : Int), .int .u32 ((midK N k).2.2.1 : Int), .int .u32 ((midK N k).2.2.2 : Int)]) ∧ Below w.heap.size w w' := by
  have HS := Lib.hid h
  have HK := Lib.hid hk
  clear h hk
  go_enter Try.func36, Try.ntmps36
  go_wp2_with fail
  go_loopg [6, 7, 8, 9, 11] 4 (fun m v6 v7 v8 v9 cnt wr => ∃ (j : Nat) (f : Nat → Nat), m = 4 - j ∧ j ≤ 4 ∧ cnt = .int .i64 (j : Int) ∧ wr.heap[w.heap.size + 1 + 1]? = some (kO (mk4 f)) ∧ (∀ i, i < j → f i = midF N k i) ∧ Below w.heap.size w wr ∧ wr.heap[w.heap.size + 1]? = some (kO (0, 0, 0, 0)))
  case atStart =>
    refine ⟨0, fun _ => 0, rfl, Nat.zero_le _, rfl, ?_, fun i hi => by omega, bel3 _ _ _ _, ?_⟩
    · exact new_3 _ _ _ _
    · exact kept (new_2 _ _ _) (bel1 _ _)
  case round =>
    obtain ⟨j, f, hm, hj, rfl, hb, hf, hB, hr⟩ := hrel
    have HM := Lib.hid hm
    have HBK := Lib.hid hb
    have HF := Lib.hid hf
    have HB := Lib.hid hB
    have HR := Lib.hid hr
    have HS1 := Lib.hid (HS.out.later hB)
    clear hm hb hf hB hr
    by_cases hlt : j < 4
    · have hgj : decide ((j : Int) < 4) = true := by simp; omega
      have hix := kix k hlt
      have HX := Lib.hid (fo_iff.1 HK.out j hlt)
      go_wp2_with fail
      refine (of_sqk HS1.out HX.out).mono ?_
      rintro e w5 ⟨rfl, hb⟩
      have HB5 := Lib.hid (HB.out.trans (hb.mono HB.out.size))
      have HBK5 := Lib.hid (kept HBK.out hb)
      have HR5 := Lib.hid (kept HR.out hb)
      clear hb HB HBK HR
      go_wp2_with fail
      refine (across_any j hlt _).mono ?_
      rintro e w6 ⟨rfl, rfl⟩
      have hk6 := k_cell (i := 3 - j) (k := kidZ N (kAt k j)) (heap_alloc_new w5 (.cells #[.int .u32 ((kidZ N (kAt k j)).1 : Int), .int .u32 ((kidZ N (kAt k j)).2.1 : Int), .int .u32 ((kidZ N (kAt k j)).2.2.1 : Int), .int .u32 ((kidZ N (kAt k j)).2.2.2 : Int)] 56)) (by omega)
      have HB6 := Lib.hid (HB5.out.trans ((bel1 w5 (.cells #[.int .u32 ((kidZ N (kAt k j)).1 : Int), .int .u32 ((kidZ N (kAt k j)).2.1 : Int), .int .u32 ((kidZ N (kAt k j)).2.2.1 : Int), .int .u32 ((kidZ N (kAt k j)).2.2.2 : Int)] 56)).mono HB5.out.size))
      have HBK6 := Lib.hid (kept HBK5.out (bel1 w5 (.cells #[.int .u32 ((kidZ N (kAt k j)).1 : Int), .int .u32 ((kidZ N (kAt k j)).2.1 : Int), .int .u32 ((kidZ N (kAt k j)).2.2.1 : Int), .int .u32 ((kidZ N (kAt k j)).2.2.2 : Int)] 56)))
      have HR6 := Lib.hid (kept HR5.out (bel1 w5 (.cells #[.int .u32 ((kidZ N (kAt k j)).1 : Int), .int .u32 ((kidZ N (kAt k j)).2.1 : Int), .int .u32 ((kidZ N (kAt k j)).2.2.1 : Int), .int .u32 ((kidZ N (kAt k j)).2.2.2 : Int)] 56)))
      have hm6 := k_cell HBK6.out hlt
      generalize w5.alloc (.cells #[.int .u32 ((kidZ N (kAt k j)).1 : Int), .int .u32 ((kidZ N (kAt k j)).2.1 : Int), .int .u32 ((kidZ N (kAt k j)).2.2.1 : Int), .int .u32 ((kidZ N (kAt k j)).2.2.2 : Int)] 56) = W6 at *
      clear HBK5 HR5 HB5
      have hcast : (3 : Int) - (j : Int) = ((3 - j : Nat) : Int) := by omega
      obtain ⟨t1, t2⟩ := hk6
      obtain ⟨t3, t4⟩ := hm6
      have i1 : (0 : Int) ≤ ((3 - j : Nat) : Int) := by omega
      have i2 : ((3 - j : Nat) : Int) < 4 := by omega
      have i3 : (0 : Int) ≤ (j : Int) := by omega
      have i4 : (j : Int) < 4 := by omega
      rw [hcast]
      clear hcast
      have HV : Hid (kAt (kidZ N (kAt k j)) (3 - j) = midF N k j) := rfl
      generalize kAt (kidZ N (kAt k j)) (3 - j) = v at *
      generalize 3 - j = q at *
      go_wp2_with fail
      go_roundg (4 - (j + 1))
      case measure => rw [HM.out]; omega
      case rel =>
        refine ⟨j + 1, fun i => if i = j then v else f i, rfl, by omega, by go_num, ?_, fun i hi => ?_, HB6.out.setCell (p := ⟨w.heap.size + 1 + 1, j, none⟩) (by show _ ≤ _ + 1 + 1; omega) _, ?_⟩
        · rw [k_set HBK6.out hlt v]
          refine congrArg some (congrArg kO (mk4_ext fun i hi => ?_))
          show (if i = j then v else kAt (mk4 f) i) = _
          rw [kAt_mk4 _ hi]
        · show (if i = j then v else f i) = _
          by_cases e : i = j
          · subst e; rw [if_pos rfl]; exact HV.out
          · rw [if_neg e]; exact HF.out i (by omega)
        · rw [Below.heap_setCell _ _ _ _ (by simp)]; exact HR6.out
    · obtain rfl : j = 4 := by omega
      have hgj : decide (((4 : Nat) : Int) < 4) = false := by simp
      have HE : Hid (mk4 f = midK N k) := mk4_ext HF.out
      rw [HE.out] at HBK
      obtain ⟨c0, c1, c2, c3⟩ := k_cells HBK.out
      obtain ⟨r0, r1, r2, r3, q0, q1, q2, q3⟩ := KAt.cells (k := (0, 0, 0, 0)) HR.out
      go_wp2_with fail
      obtain ⟨W, hW, hb, hk⟩ := k_res2 HB.out (by omega) HR.out (midK N k)
      rw [hW]
      obtain ⟨t0, t1, t2, t3⟩ := k_cells hk
      refine bodyPost_ret (v := _) (by simp [results, Try.results36, go_sem, t0, t1, t2, t3]; rfl) rfl ?_
      exact ⟨rfl, hb⟩
end Go.Proofs.Ytfkjfkjhipieaaa
