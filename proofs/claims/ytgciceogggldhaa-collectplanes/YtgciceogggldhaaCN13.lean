/- The laws of layer 13: their example; CollectNone: contracts. -/
import Derived.Test.YtgciceogggldhaaRe13
import Derived.Test.YtgciceogggldhaaEm6
import Derived.Test.YtgciceogggldhaaFis
namespace Go.Proofs.Ytgciceogggldhaa
open Go.RowKit Go.Maps
set_option maxRecDepth 100000

theorem em4_len : (emZ 99 4 N0 0).1.length = 6 := by decide +kernel
theorem em4_ned : nedF (emZ 99 4 N0 0).1 [] = [true, true, false, false, false, false] := by decide +kernel
theorem em4_cmp : cmpN (emZ 99 4 N0 0).1 [true, true, false, false, false, false] = N0 := by kernel_rfl
theorem fn_eql (v : Value) (tc : Nat) (h : v = .func (.func 23) #[] #[.pointer (some ⟨tc, 0, none⟩)]) (W : World) : (binOp .eql 40 v .nilFunc).run Try.prog W = .ok (.bool false) W := by
  subst h
  kernel_rfl
set_option maxHeartbeats 2000000 in
theorem lives13_any (w : World) : Calls Try.prog 5 #[] w fun e w' => e = .returned (.bool true) ∧ Below w.heap.size w w' := by
  go_enter Try.func5, Try.ntmps5
  go_wp2_with fail
  refine (new_good 99 (by omega) (by omega) _).mono ?_
  rintro e W1 ⟨sb, g, tb, rfl, hS, hB, l1, l2, l3⟩
  have HS := Lib.hid hS
  have HB := Lib.hid hB
  have HEM := Lib.hid (empty_any hS 4 (by omega))
  rw [show ((4 : Nat) : Int) = 4 from rfl] at HEM
  clear hS hB
  go_wp2_with fail
  refine HEM.out.mono ?_
  clear HEM
  rintro e W2 ⟨g2, cap2, rfl, hS, hF, hg⟩
  obtain ⟨E, hE⟩ : ∃ E, (emZ 99 4 N0 0).1 = E := ⟨_, rfl⟩
  have hlen := em4_len
  have hned := em4_ned
  have hcmp := em4_cmp
  rw [hE] at hlen hned hcmp hS
  have HS2 := Lib.hid hS
  have HLEN := Lib.hid hlen
  have HB2 : Hid (Below w.heap.size w W2) := HB.out.trans (hF.below (fun b hb => by
    simp only [List.mem_cons, List.not_mem_nil, or_false] at hb
    rcases hb with rfl | rfl | rfl <;> omega) HB.out.size)
  have HCO := Lib.hid (collect_any hS (L := []) (LRow.nil W2 none) (l := 0) (c := 0) rfl (by omega))
  rw [hned, hcmp] at HCO
  clear hE hlen hned hcmp hS hF hg HS HB
  generalize (emZ 99 4 N0 0).2.1 = x0 at *
  generalize errV (emZ 99 4 N0 0).2.2 = x1 at *
  go_wp2_with fail
  refine HCO.out.mono ?_
  clear HCO
  rintro e W3 ⟨v, fb, fg, ftb, fcap, rfl, hst, hnow, hb, l4, l5, l6⟩
  obtain ⟨tc, mb, hv, hcell, hmp, htc⟩ := hnow.ex
  have HST := Lib.hid hst
  have HB3 := Lib.hid (HB2.out.trans (hb.mono HB2.out.size))
  have HS3 := Lib.hid (HS2.out.later hb)
  have he := fn_eql v tc hv
  have hn1 := now_any hcell hmp 1 (by decide)
  have hn2 := now_any hcell hmp 2 (by decide)
  rw [show nowA [true, true, false, false, false, false] 1 = some (.int .u32 1) from rfl, show ((1 : Nat) : Int) = 1 from rfl] at hn1
  rw [show nowA [true, true, false, false, false, false] 2 = none from rfl, show ((2 : Nat) : Int) = 2 from rfl] at hn2
  have HN1 := Lib.hid hn1
  have HN2 := Lib.hid hn2
  clear hst hnow hb hcell hmp hn1 hn2 HB2 HS2
  subst hv
  go_wp2_with fail
  refine HN1.out.mono ?_
  rintro e W4 ⟨rfl, hW⟩
  rw [← hW]
  clear hW W4
  simp only [Option.getD_some, Option.isSome_some]
  go_wp2_with fail
  refine HN2.out.mono ?_
  rintro e W4 ⟨rfl, hW⟩
  rw [← hW]
  clear hW W4
  simp only [Option.getD_none, Option.isSome_none]
  go_wp2_with fail
  refine (len_any HST.out).mono ?_
  rintro e W4 ⟨rfl, hW⟩
  rw [← hW]
  clear hW W4
  rw [show (N0.length : Int) = 2 from rfl]
  go_wp2_with fail
  refine (room_any HST.out).mono ?_
  rintro e W4 ⟨rfl, q, hW⟩
  rw [show (((99 : Nat) : Int) - (N0.length : Int)) = 97 from rfl]
  have HB4 : Hid (Below w.heap.size w W4) := by
    show Below _ _ _
    rw [hW]; exact ⟨HB3.out.os, HB3.out.tape, HB3.out.output, HB3.out.size, HB3.out.block⟩
  have HS4 : Hid (St W4 sb g2 tb cap2 99 E) := by
    show St _ _ _ _ _ _ _
    rw [hW]; exact HS3.out.drewN q
  clear hW HB3 HS3 HST
  go_wp2_with fail
  refine (len_any HS4.out).mono ?_
  rintro e W5 ⟨rfl, hW⟩
  rw [← hW]
  clear hW W5
  rw [show (E.length : Int) = 6 by rw [HLEN.out]; rfl]
  go_wp2_with fail
  go_ret
  exact ⟨rfl, HB4.out⟩
set_option maxHeartbeats 2000000 in
theorem collectNone_any (x : Nat) (hx : x < 4294967296) (w : World) : Calls Try.prog 4 #[.int .u32 (x : Int)] w fun e w' => e = .returned (.bool true) ∧ Below w.heap.size w w' := by
  go_enter Try.func4, Try.ntmps4
  go_wp2_with fail
  refine (lives13_any w).mono ?_
  rintro e W1 ⟨rfl, hb⟩
  have HB1 := Lib.hid hb
  have HBA := Lib.hid (hb.trans ((bel1 W1 (.cells #[.int .u32 (x : Int)] 34)).mono hb.size))
  clear hb
  go_wp2_with fail
  generalize W1.alloc (.cells #[.int .u32 (x : Int)] 34) = W2 at *
  refine (collect_nil W2 _).mono ?_
  rintro e W3 ⟨v, rfl, hnow, hb⟩
  obtain ⟨tc, mb, hv, hcell, hmp, htc⟩ := hnow.ex
  have HB3 := Lib.hid (HBA.out.trans (hb.mono HBA.out.size))
  have hn1 := now_any hcell hmp x hx
  simp only [Option.getD_none, Option.isSome_none] at hn1
  have HN1 := Lib.hid hn1
  clear hnow hb hcell hmp hn1 HBA HB1
  subst hv
  go_wp2_with fail
  refine HN1.out.mono ?_
  rintro e W4 ⟨rfl, hW⟩
  rw [← hW]
  clear hW W4 HN1
  have he : ∀ W, (binOp .eql 28 (.pointer none) (.pointer none)).run Try.prog W = .ok (.bool true) W := fun W => by kernel_rfl
  have HB4 := Lib.hid (HB3.out.trans ((bel1 W3 (.cells #[.int .i64 1] 53)).mono HB3.out.size))
  have HC4 : Hid ((W3.alloc (.cells #[.int .i64 1] 53)).cell? ⟨W3.heap.size, 0, none⟩ = some (.int .i64 1)) := (Lib.cell_of_heap (heap_alloc_new W3 _) 0).trans rfl
  go_wp2_with fail
  refine (fis_one 1 (by decide) _ _ _ HC4.out).mono ?_
  rintro e W5 ⟨rfl, hW⟩
  rw [← hW]
  clear hW W5 HC4
  generalize W3.alloc (.cells #[.int .i64 1] 53) = W4 at *
  have HBA := Lib.hid (HB4.out.trans ((bel1 W4 (.cells #[.int .u32 (x : Int)] 34)).mono HB4.out.size))
  have HL : Hid (LRow (W4.alloc (.cells #[.int .u32 (x : Int)] 34)) (some ⟨W4.heap.size, 0, none⟩) [x]) := fun j y hj => by
    have : j = 0 := by
      have := (List.getElem?_eq_some_iff.1 hj).1
      simpa using this
    subst this
    obtain rfl : x = y := by simpa using hj
    refine ⟨hx, W4.heap.size, 0, rfl, by simp, ?_⟩
    exact (Lib.cell_of_heap (heap_alloc_new W4 _) 0).trans rfl
  go_wp2_with fail
  refine (reach13_nil _ HL.out rfl (by simp)).mono ?_
  rintro e W6 ⟨qb, rfl, hmq, hb⟩
  have HB6 := Lib.hid (HBA.out.trans (hb.mono HBA.out.size))
  have hlen := hmq.len_ [0, 1] (by decide) (fun a => by
    unfold inQ
    by_cases h : a ∈ [0, 1]
    · rw [if_pos h]; exact ⟨fun _ => rfl, fun _ => h⟩
    · rw [if_neg h]; exact ⟨fun hh => absurd hh h, fun hh => by cases hh⟩)
  rw [show (([0, 1] : List Nat).length : Int) = 2 from rfl] at hlen
  clear hmq hb HBA HL
  go_wp2_with fail
  go_ret
  exact ⟨rfl, HB6.out⟩
end Go.Proofs.Ytgciceogggldhaa
