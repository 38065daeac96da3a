/- The law QuadRoom: its walk. -/
import Derived.Test.YtfkjfkjhipieaaaQN
namespace Go.Proofs.Ytfkjfkjhipieaaa
open Go.RowKit Go.Maps
set_option maxRecDepth 100000

theorem room7 (m : Int) : ∃ n : Nat, 2 ≤ n ∧ n ≤ 301 ∧ wrap64 (2 + wrap64 ((IntKind.u64.wrap m).tmod 300)) = (n : Int) := by
  have h0 : 0 ≤ IntKind.u64.wrap m := by rw [IntKind.wrap_u64]; omega
  rw [IntWalk.rem_in _ _ h0]
  generalize IntKind.u64.wrap m = x at *
  refine ⟨2 + (x % 300).toNat, by omega, by omega, ?_⟩
  rw [IntWalk.wrap64_in (x % 300) (by omega), IntWalk.wrap64_in _ (by omega)]
  omega
theorem eqNo (w : World) : (binOp .eql 32 (.agg #[.pointer none, .int .u32 0]) (.agg #[.pointer none, .int .u32 0])).run Try.prog w = .ok (.bool true) w := by kernel_rfl
set_option maxHeartbeats 4000000 in
theorem qroom_any (room a b : Int) (w : World) : Calls Try.prog 5 #[.int .i64 room, .agg #[.int .i64 a, .int .i64 b]] w fun e w' => e = .returned (.bool true) ∧ Below w.heap.size w w' := by
  have HB := Lib.hid (bel1 w (.cells #[.int .i64 a, .int .i64 b] 40))
  have HQ : Hid ((w.alloc (.cells #[.int .i64 a, .int .i64 b] 40)).heap[w.heap.size]? = some (ptO a b)) := heap_alloc_new _ _
  obtain ⟨n, hn2, hn3, hrm⟩ := room7 room
  go_enter Try.func5, Try.ntmps5
  go_wp2_with fail
  generalize w.alloc (.cells #[.int .i64 a, .int .i64 b] 40) = W0 at *
  refine (lives7_any _).mono ?_
  rintro e W1 ⟨rfl, hb⟩
  have HB1 := Lib.hid (HB.out.trans (hb.mono HB.out.size))
  have HQ1 := Lib.hid (keptN HQ.out hb)
  clear hb HB HQ
  obtain ⟨q0, q1⟩ := pt_cells HQ1.out
  go_wp2_with fail
  refine (pright_any a b _).mono ?_
  rintro e W2 ⟨rfl, hb⟩
  have HB2 := Lib.hid (HB1.out.trans (hb.mono HB1.out.size))
  have HQ2 := Lib.hid (keptN HQ1.out hb)
  clear hb HB1 HQ1 q0 q1
  cases hab : (onP a && onP b) with
  | false =>
    go_wp2_with fail
    refine (lives7_any _).mono ?_
    rintro e W3 ⟨rfl, hb⟩
    have HB3 := Lib.hid (HB2.out.trans (hb.mono HB2.out.size))
    go_wp2_with fail
    go_ret
    exact ⟨rfl, HB3.out⟩
  | true =>
    have HAB := Lib.hid hab
    clear hab
    have hen := eqNo
    go_wp2_with fail
    refine (new_good n hn2 (by omega) _).mono ?_
    rintro e W3 ⟨sb, g, tb, rfl, hS, hB, l1, l2, l3⟩
    have HS := Lib.hid hS
    have HB3 := Lib.hid (HB2.out.trans (hB.mono HB2.out.size))
    have HQ3 := Lib.hid (keptN HQ2.out hB)
    have hsz : w.heap.size ≤ W2.heap.size := HB2.out.size
    have hq2 : w.heap.size < W2.heap.size := (Array.getElem?_eq_some_iff.1 HQ2.out).1
    have HQO : Hid (Ob W3 sb g tb w.heap.size (ptO a b)) := ⟨HQ3.out, by omega, by omega, by omega⟩
    clear hS hB HB2 HQ2 HQ3
    go_wp2_with fail
    refine (qnew_any HS.out).mono ?_
    rintro e W4 ⟨g4, N4, hnx, hres⟩
    obtain ⟨hb4, l4⟩ := hnx.bel (B := w.heap.size) (by omega) (by omega) (by omega) HB3.out.size
    have HB4 := Lib.hid (HB3.out.trans hb4)
    have HQ4 := Lib.hid (HQO.out.nx hnx)
    obtain ⟨cap4, hS4⟩ := hnx.st
    have HS4 := Lib.hid hS4
    clear hnx hb4 hS4 HB3 HS HQO
    unfold plV at hres
    rcases hres with ⟨r, rfl, hem, hl⟩ | ⟨rfl, hfull⟩
    · have HEM := Lib.hid hem
      have HHE := Lib.hid hl
      clear hem hl
      have HBA := Lib.hid (bel1 W4 (.cells #[.pointer (some ⟨sb, 0, none⟩), .int .u32 (r : Int)] 32))
      have HP5 := Lib.hid (Ob.new HS4.out #[.pointer (some ⟨sb, 0, none⟩), .int .u32 (r : Int)] 32)
      have HB5 := Lib.hid (HB4.out.trans (HBA.out.mono HB4.out.size))
      have HS5 := Lib.hid (HS4.out.later HBA.out)
      have HQ5 := Lib.hid (HQ4.out.later HBA.out)
      clear HBA HS4 HB4 HQ4
      obtain ⟨d, hd⟩ := far_ex 2 (by omega) a b HAB.out
      have HD := Lib.hid hd
      have HSE := Lib.hid (set_any (n := 2) HS5.out HEM.out.1 (by omega) (HHE.out.mono (by omega)) a b true HAB.out hd)
      obtain ⟨q0, q1⟩ := pt_cells HQ5.out.at_
      clear hd
      go_wp2_with fail
      generalize W4.alloc (.cells #[.pointer (some ⟨sb, 0, none⟩), .int .u32 (r : Int)] 32) = W5 at *
      generalize W4.heap.size = pb at *
      refine HSE.out.mono ?_
      rintro e W6 ⟨g6, N6, hnx, hres⟩
      clear HSE q0 q1
      obtain ⟨hb6, l6⟩ := hnx.bel (B := w.heap.size) (by omega) (by omega) (by omega) HB5.out.size
      have HB6 := Lib.hid (HB5.out.trans hb6)
      obtain ⟨cap6, hS6⟩ := hnx.st
      have HS6 := Lib.hid hS6
      have HP6 := Lib.hid (HP5.out.nx hnx)
      have HQ6 := Lib.hid (HQ5.out.nx hnx)
      have HR6 := Lib.hid (hnx.sq HEM.out.1)
      have HA6 : Hid (∀ p q, alK N6 2 (kidZ N6 r) p q = false) := fun p q => by
        rw [hnx.al HS5.out.wf HEM.out.1]; exact em_al HEM.out p q
      have hru := Sq.u32 HS6.out HR6.out
      have HGR := Lib.hid (fun W (hb : Below W6.heap.size W6 W) => get_any (n := 2) (HS6.out.later hb) HR6.out (by omega) a b)
      have hgf := HA6.out a b
      clear hnx hb6 hS6 HB5 HS5 HP5 HQ5
      unfold plV at hres
      rcases hres with ⟨t, rfl, hsq, hal, hem⟩ | ⟨rfl, hfull⟩
      · have HSQ := Lib.hid hsq
        have HG1 : Hid (alK N6 (2 + d) (kidZ N6 t) a b = true) := by
          show _ = _
          rw [hal]
          show (if a = a ∧ b = b then true else _) = true
          rw [if_pos ⟨rfl, rfl⟩]
        have HCT : Hid (ctZ N6 t = 1) := by
          have := ct_list HS6.out.wf hsq (l := [(a, b)]) (by simp) (fun p q => by
            rw [hal]
            show _ ↔ (if p = a ∧ q = b then true else alK N4 2 (kidZ N4 r) p q) = true
            rw [em_al HEM.out p q]
            simp)
          rw [this]; rfl
        clear hsq hal hem
        have HBA := Lib.hid (bel1 W6 (.cells #[.pointer (some ⟨sb, 0, none⟩), .int .u32 (t : Int)] 32))
        have HT7 := Lib.hid (Ob.new HS6.out #[.pointer (some ⟨sb, 0, none⟩), .int .u32 (t : Int)] 32)
        have HB7 := Lib.hid (HB6.out.trans (HBA.out.mono HB6.out.size))
        have HS7 := Lib.hid (HS6.out.later HBA.out)
        have HP7 := Lib.hid (HP6.out.later HBA.out)
        have HQ7 := Lib.hid (HQ6.out.later HBA.out)
        have htu := Sq.u32 HS7.out HSQ.out
        have HBL := Lib.hid HBA.out
        clear HBA HS6 HB6 HP6 HQ6
        obtain ⟨q0, q1⟩ := pt_cells HQ7.out.at_
        have HGA := Lib.hid (get_any (n := 2 + d) HS7.out HSQ.out (by omega) a b)
        rw [HG1.out] at HGA
        go_wp2_with fail
        generalize W6.alloc (.cells #[.pointer (some ⟨sb, 0, none⟩), .int .u32 (t : Int)] 32) = W7 at *
        refine HGA.out.mono ?_
        rintro e W8 ⟨rfl, hb⟩
        have HB8 := Lib.hid (HB7.out.trans (hb.mono HB7.out.size))
        have HS8 := Lib.hid (HS7.out.later hb)
        have HP8 := Lib.hid (HP7.out.later hb)
        have HT8 := Lib.hid (HT7.out.later hb)
        have HQ8 := Lib.hid (HQ7.out.later hb)
        have HBM := Lib.hid (HBL.out.trans (hb.mono HBL.out.size))
        clear hb HB7 HS7 HP7 HT7 HQ7 HGA q0 q1 HBL
        obtain ⟨t0, t1⟩ := pl_cells HT8.out.at_
        obtain ⟨q0, q1⟩ := pt_cells HQ8.out.at_
        obtain ⟨p0, p1⟩ := pl_cells HP8.out.at_
        have HCA := Lib.hid (count_any HS8.out t htu)
        rw [HCT.out] at HCA
        go_wp2_with fail
        refine HCA.out.mono ?_
        rintro e W9 ⟨rfl, hW9⟩
        rw [← hW9]
        clear hW9 HCA W9
        have HGB := Lib.hid (HGR.out W8 HBM.out)
        rw [hgf] at HGB
        go_wp2_with fail
        refine HGB.out.mono ?_
        rintro e W9 ⟨rfl, hb⟩
        have HB9 := Lib.hid (HB8.out.trans (hb.mono HB8.out.size))
        clear hb
        go_wp2_with fail
        go_ret
        exact ⟨rfl, HB9.out⟩
      · clear hfull
        have hbA := bel2 W6 (.cells #[.pointer none, .int .u32 0] 32) (.cells #[.int .i64 7] 63)
        have HB7 := Lib.hid (HB6.out.trans (hbA.mono HB6.out.size))
        have HS7 := Lib.hid (HS6.out.later hbA)
        have HP7 := Lib.hid (HP6.out.later hbA)
        have HQ7 := Lib.hid (HQ6.out.later hbA)
        have HN7 : Hid (((W6.alloc (.cells #[.pointer none, .int .u32 0] 32)).alloc (.cells #[.int .i64 7] 63)).heap[W6.heap.size]? = some noO) := keptN (heap_alloc_new _ _) (bel1 _ _)
        have HBA := Lib.hid hbA
        clear hbA HS6 HP6 HQ6
        go_wp2_with fail
        refine (fis_one 7 (by omega) _ _ _ (cell_n1 _ _ _ _)).mono ?_
        rintro e W7 ⟨rfl, hW7⟩
        rw [hW7] at HB7 HS7 HP7 HQ7 HN7 HBA
        clear hW7
        obtain ⟨n0, n1, _⟩ := no_cells HN7.out
        obtain ⟨q0, q1⟩ := pt_cells HQ7.out.at_
        obtain ⟨p0, p1⟩ := pl_cells HP7.out.at_
        have HGB := Lib.hid (HGR.out W7 HBA.out)
        rw [hgf] at HGB
        go_wp2_with fail
        refine HGB.out.mono ?_
        rintro e W9 ⟨rfl, hb⟩
        have HB9 := Lib.hid (HB7.out.trans (hb.mono HB7.out.size))
        have HS9 := Lib.hid (HS7.out.later hb)
        have HP9 := Lib.hid (HP7.out.later hb)
        clear hb p0 p1 q0 q1 n0 n1 HGB
        obtain ⟨p0, p1⟩ := pl_cells HP9.out.at_
        have HCA := Lib.hid (count_any HS9.out r hru)
        have hc0 : ctZ N6 r = 0 := by
          have := ct_list (n := 2) HS9.out.wf HR6.out (l := []) (by simp) (fun p q => by rw [HA6.out]; simp)
          rw [this]; rfl
        rw [hc0] at HCA
        go_wp2_with fail
        refine HCA.out.mono ?_
        rintro e W10 ⟨rfl, rfl⟩
        go_wp2_with fail
        go_ret
        exact ⟨rfl, HB9.out⟩
    · clear hfull
      have hbA := bel2 W4 (.cells #[.pointer none, .int .u32 0] 32) (.cells #[.int .i64 7] 63)
      have HB7 := Lib.hid (HB4.out.trans (hbA.mono HB4.out.size))
      have HN7 : Hid (((W4.alloc (.cells #[.pointer none, .int .u32 0] 32)).alloc (.cells #[.int .i64 7] 63)).heap[W4.heap.size]? = some noO) := keptN (heap_alloc_new _ _) (bel1 _ _)
      clear hbA
      go_wp2_with fail
      refine (fis_one 7 (by omega) _ _ _ (cell_n1 _ _ _ _)).mono ?_
      rintro e W7 ⟨rfl, hW7⟩
      rw [hW7] at HB7 HN7
      clear hW7
      obtain ⟨n0, n1, _⟩ := no_cells HN7.out
      go_wp2_with fail
      go_ret
      exact ⟨rfl, HB7.out⟩
theorem qroom_walk (room : Int) (_ : (Lit.int .i64 room).wf = true) (x y : Int) (w : World) : Calls Try.prog 5 #[.int .i64 room, .agg #[.int .i64 x, .int .i64 y]] w fun e w' => e = .returned (.bool true) ∧ Below w.heap.size w w' := qroom_any room x y w
end Go.Proofs.Ytfkjfkjhipieaaa
