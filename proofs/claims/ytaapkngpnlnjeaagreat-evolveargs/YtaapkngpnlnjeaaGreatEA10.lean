/- The law EvolveArgs: its walk. -/
import Derived.Test.YtaapkngpnlnjeaaGreatP11
import Derived.Test.YtaapkngpnlnjeaaGreatFis
namespace Go.Proofs.YtaapkngpnlnjeaaGreat
open Go.RowKit Go.Maps
set_option maxRecDepth 100000

theorem wrap_u64 (z : Int) : 0 ≤ IntKind.u64.wrap z ∧ IntKind.u64.wrap z < 18446744073709551616 := by
  have : IntKind.u64.wrap z = z % 18446744073709551616 := by simp [IntKind.wrap, IntKind.bits, IntKind.signed]
  rw [this]
  omega
theorem cell_n10 (w : World) (v : Value) (t : TypeId) : (w.alloc (.cells #[v] t)).cell? ⟨w.heap.size, 0, none⟩ = some v := by rw [Lib.cell_of_heap (heap_alloc_new w _)]; rfl
set_option maxHeartbeats 4000000 in
theorem eargs_zero (x : Nat) (hx : x < 4294967296) (p : Int) (hp : p = 0) (room : Nat) (hr : room < 256) (w : World) :
    Calls Tryz.prog 5 #[.int .u32 (x : Int), .int .i64 p, .int .u8 (room : Int)] w fun e w' => e = .returned (.bool true) ∧ Below w.heap.size w w' := by
  obtain ⟨c, hc, hcl⟩ : ∃ c : Nat, IntKind.u64.wrap ((x : Int) * 11400714819323198485) = (c : Int) ∧ c < 18446744073709551616 := by
    have h1 := wrap_u64 ((x : Int) * 11400714819323198485)
    exact ⟨(IntKind.u64.wrap ((x : Int) * 11400714819323198485)).toNat, by omega, by omega⟩
  have HR := Lib.hid hr
  subst hp
  clear hr
  go_enter Tryz.func5, Tryz.ntmps5
  go_wp2_with fail
  refine (lives10_any _).mono ?_
  rintro e W1 ⟨rfl, hb⟩
  have HB1 := Lib.hid hb
  clear hb
  go_wp2_with fail
  refine (new_good 500 (by omega) (by omega) _).mono ?_
  rintro e W2 ⟨sb, g, tb, rfl, hS, hB, l1, l2, l3⟩
  have HS2 := Lib.hid hS
  have HB2 := Lib.hid (HB1.out.trans (hB.mono HB1.out.size))
  have HL : Hid (w.heap.size ≤ sb ∧ w.heap.size ≤ g ∧ w.heap.size ≤ tb) := by have := HB1.out.size; exact ⟨by omega, by omega, by omega⟩
  clear hS hB l1 l2 l3 HB1
  go_wp2_with fail
  refine (enew_any HS2.out).mono ?_
  rintro e W3 ⟨mb, rfl, hmb, hme, hB3⟩
  have HM3 := Lib.hid (hme.later (bel1 W3 (.cells #[.int .u64 (c : Int)] 66)))
  have HB3 := Lib.hid ((HB2.out.trans (hB3.mono HB2.out.size)).trans ((bel1 W3 (.cells #[.int .u64 (c : Int)] 66)).mono (Nat.le_trans HB2.out.size hB3.size)))
  have HAB : Hid (Abv w.heap.size sb g tb mb FbT.no) := by
    obtain ⟨a1, a2, a3⟩ := HL.out
    have := HB2.out.size
    exact ⟨by omega, by omega, by omega, by omega, fun b e => absurd e no_bl⟩
  have HRW : Hid (RowS (W3.alloc (.cells #[.int .u64 (c : Int)] 66)) sb g tb (some ⟨W3.heap.size, 0, none⟩) [c]) := by
    obtain ⟨cap, hs⟩ := hme.st
    exact rowS_new hs c _
  clear hmb hme hB3 HB2 HS2 HL
  go_wp2_with fail
  generalize W3.alloc (.cells #[.int .u64 (c : Int)] 66) = W4 at *
  generalize W3.heap.size = rb at *
  refine (bld10 HM3.out 3 (by omega) [c] (by simp) (by simpa using hcl) _ 1 HRW.out).mono ?_
  rintro e W5 ⟨g5, N5, hmx, hres⟩
  have HL5 : Hid (N5.length ≤ 23) := Nat.le_trans hmx.len (by decide)
  obtain ⟨q, rfl, hcq⟩ := bld_out hres (by have := HL5.out; omega)
  have HC := Lib.hid hcq
  have HB5 := Lib.hid (HAB.out.below HB3.out HB3.out.size hmx)
  have HAB5 := Lib.hid (HAB.out.mx HB3.out.size hmx)
  have HM5 := Lib.hid hmx.me
  have hqu : q < 4294967296 := by obtain ⟨cs, hs⟩ := hmx.me.st; exact Sq.u32 hs hcq.1
  clear hres hcq hmx HM3 HRW HB3 HAB
  have HN6 := Lib.hid (enext_any HM5.out (n := 1) (p := 0) HC.out.1 (by omega))
  rw [show ((0 : Nat) : Int) = 0 from rfl] at HN6
  go_wp2_with fail
  refine HN6.out.mono ?_
  rintro e W6 ⟨g6, N6, fb6, m6, hmx, hres⟩
  have HL6 : Hid (N6.length ≤ 50) := Nat.le_trans hmx.len (by have := HL5.out; have : cE 1 = 27 := rfl; omega)
  obtain ⟨r6, rfl, _, _⟩ := res_good hres (by have := HL6.out; omega)
  have HB6 := Lib.hid (HAB5.out.below HB5.out HB5.out.size hmx)
  have HM6 := Lib.hid hmx.me
  clear hres hmx HN6 HM5 HB5 HAB5 HL5
  go_wp2_with fail
  have h1lv : lvZ N6 1 = 0 := sq_alive HM6.out.wf
  refine (enext_bad HM6.out 1 (by omega) 0 (Or.inr (by rw [h1lv]; omega))).mono ?_
  rintro e W7 ⟨rfl, rfl⟩
  clear h1lv
  obtain ⟨cs6, hs6⟩ := HM6.out.st
  have HS6 := Lib.hid hs6
  have hl20 : N6.length ≤ 1048576 := Nat.le_trans hs6.room hs6.most_le
  have hcv : IntKind.u32.wrap (N6.length : Int) = (N6.length : Int) := IntWalk.u32_in _ (by omega)
  clear hs6
  go_wp2_with fail
  refine (len_any HS6.out).mono ?_
  rintro e W7 ⟨rfl, rfl⟩
  go_wp2_with fail
  refine (enext_bad HM6.out N6.length (by omega) 0 (Or.inr (by rw [lv_none (Nat.le_refl _)]; omega))).mono ?_
  rintro e W7 ⟨rfl, rfl⟩
  clear hcv
  go_wp2_with fail
  refine (forget_nil _).mono ?_
  rintro e W7 ⟨rfl, rfl⟩
  go_wp2_with fail
  refine (change_nil _ _).mono ?_
  rintro e W7 ⟨rfl, rfl⟩
  go_wp2_with fail
  refine (enext_nil 0 0 _).mono ?_
  rintro e W7 ⟨rfl, rfl⟩
  have hr8 := HR.out
  have hw8 : IntKind.u8.wrap ((room : Int).tmod 40) = (room : Int) % 40 := by rw [Int.tmod_eq_emod_of_nonneg (by omega)]; exact IntWalk.u8_in _ (by omega)
  have hw9 : IntKind.i64.wrap ((room : Int) % 40) = (room : Int) % 40 := IntWalk.i64_in _ (by omega)
  have hwa : IntKind.i64.wrap (40 + (room : Int) % 40) = 40 + (room : Int) % 40 := IntWalk.i64_in _ (by omega)
  go_wp2_with fail
  clear hr8 hw8 hw9 hwa
  rw [show (40 : Int) + (room : Int) % 40 = ((40 + room % 40 : Nat) : Int) by omega]
  refine (new_good (40 + room % 40) (by omega) (by omega) _).mono ?_
  rintro e W8 ⟨sb8, g8, tb8, rfl, hS, hB, l1, l2, l3⟩
  have HS8 := Lib.hid (hS.later (bel1 W8 (.cells #[.int .u64 (c : Int)] 66)))
  have HB8 := Lib.hid ((HB6.out.trans (hB.mono HB6.out.size)).trans ((bel1 W8 (.cells #[.int .u64 (c : Int)] 66)).mono (Nat.le_trans HB6.out.size hB.size)))
  have HL8 : Hid (w.heap.size ≤ sb8 ∧ w.heap.size ≤ g8 ∧ w.heap.size ≤ tb8) := by have := HB6.out.size; exact ⟨by omega, by omega, by omega⟩
  have HRW8 : Hid (RowS (W8.alloc (.cells #[.int .u64 (c : Int)] 66)) sb8 g8 tb8 (some ⟨W8.heap.size, 0, none⟩) [c]) := rowS_new hS c _
  clear hS hB l1 l2 l3
  go_wp2_with fail
  generalize W8.alloc (.cells #[.int .u64 (c : Int)] 66) = W9 at *
  generalize W8.heap.size = rb8 at *
  generalize hmo : 40 + room % 40 = mo at *
  refine (build_any HS8.out 3 (by omega) [c] (by simp) (by simpa using hcl) _ 1 HRW8.out).mono ?_
  rintro e Wa ⟨ga, Na, hnx, hres⟩
  have HLa : Hid (Na.length ≤ 23) := by
    obtain ⟨E, hE, hl⟩ := hnx.ext
    have hb3 : bC 3 = 21 := rfl
    rw [hb3] at hl
    show Na.length ≤ 23
    rw [hE, List.length_append]
    show 2 + E.length ≤ 23
    omega
  obtain ⟨y, rfl, hcy⟩ := bld_out hres (by have := HLa.out; omega)
  have HCY := Lib.hid hcy
  have HBa : Hid (Below w.heap.size w Wa) := by
    refine HB8.out.trans (hnx.frm.below (fun b hb => ?_) HB8.out.size)
    obtain ⟨a1, a2, a3⟩ := HL8.out
    simp only [List.mem_cons, List.not_mem_nil, or_false] at hb
    rcases hb with e | e | e <;> omega
  have HGa : Hid (w.heap.size ≤ ga) := by
    have := HB8.out.size
    have := HL8.out.2.1
    show w.heap.size ≤ ga
    rcases hnx.gin with e | e <;> omega
  obtain ⟨csa, hsa⟩ := hnx.st
  have HSa := Lib.hid hsa
  clear hres hcy hnx hsa hmo HB8 HRW8 HS8
  go_wp2_with fail
  refine (enew_any HSa.out).mono ?_
  rintro e Wb ⟨mbb, rfl, hmb, hme, hBb⟩
  have HMb := Lib.hid hme
  have HBb := Lib.hid (HBa.out.trans (hBb.mono HBa.out.size))
  have HABb : Hid (Abv w.heap.size sb8 ga tb8 mbb FbT.no) := by
    obtain ⟨a1, a2, a3⟩ := HL8.out
    have := HBa.out.size
    exact ⟨a1, HGa.out, a3, by omega, fun b e => by cases e⟩
  have HNb := Lib.hid (enext_any hme (n := 1) (p := 1) HCY.out.1 (Nat.le_refl _))
  clear hmb hme hBb
  go_wp2_with fail
  refine HNb.out.mono ?_
  rintro e Wc ⟨gc, Nc, fbc, mc, hmx, hres⟩
  have HBX := Lib.hid (HABb.out.below HBb.out HBb.out.size hmx)
  clear hmx HNb
  rcases hres with ⟨z, rfl, _, _⟩ | ⟨rfl, _⟩
  · go_wp2_with fail
    refine (fis_one 1 (by omega) _ _ _ (cell_n10 _ _ _)).mono ?_
    rintro e w1 ⟨rfl, hw⟩
    have HX1 : Hid (Below w.heap.size w w1) := by show Below w.heap.size w w1; rw [← hw]; exact HBX.out.trans ((bel1 Wc _).mono HBX.out.size)
    clear hw HBX
    go_wp2_with fail
    refine (fis_one 1 (by omega) _ _ _ (cell_n10 _ _ _)).mono ?_
    rintro e w2 ⟨rfl, hw⟩
    have HX2 : Hid (Below w.heap.size w w2) := by show Below w.heap.size w w2; rw [← hw]; exact HX1.out.trans ((bel1 w1 _).mono HX1.out.size)
    clear hw HX1
    go_wp2_with fail
    refine (fis_one 1 (by omega) _ _ _ (cell_n10 _ _ _)).mono ?_
    rintro e w3 ⟨rfl, hw⟩
    have HX3 : Hid (Below w.heap.size w w3) := by show Below w.heap.size w w3; rw [← hw]; exact HX2.out.trans ((bel1 w2 _).mono HX2.out.size)
    clear hw HX2
    go_wp2_with fail
    refine (known_nil _).mono ?_
    rintro e wk ⟨rfl, rfl⟩
    go_wp2_with fail
    go_ret
    exact ⟨rfl, HX3.out⟩
  · go_wp2_with fail
    refine (fis_one 1 (by omega) _ _ _ (cell_n10 _ _ _)).mono ?_
    rintro e w1 ⟨rfl, hw⟩
    have HX1 : Hid (Below w.heap.size w w1) := by show Below w.heap.size w w1; rw [← hw]; exact HBX.out.trans ((bel1 Wc _).mono HBX.out.size)
    clear hw HBX
    go_wp2_with fail
    refine (fis_one 1 (by omega) _ _ _ (cell_n10 _ _ _)).mono ?_
    rintro e w2 ⟨rfl, hw⟩
    have HX2 : Hid (Below w.heap.size w w2) := by show Below w.heap.size w w2; rw [← hw]; exact HX1.out.trans ((bel1 w1 _).mono HX1.out.size)
    clear hw HX1
    go_wp2_with fail
    refine (fis_one 1 (by omega) _ _ _ (cell_n10 _ _ _)).mono ?_
    rintro e w3 ⟨rfl, hw⟩
    have HX3 : Hid (Below w.heap.size w w3) := by show Below w.heap.size w w3; rw [← hw]; exact HX2.out.trans ((bel1 w2 _).mono HX2.out.size)
    clear hw HX2
    go_wp2_with fail
    refine (known_nil _).mono ?_
    rintro e wk ⟨rfl, rfl⟩
    go_wp2_with fail
    refine (fis_one 7 (by omega) _ _ _ (cell_n10 _ _ _)).mono ?_
    rintro e w4 ⟨rfl, hw⟩
    have HX4 : Hid (Below w.heap.size w w4) := by show Below w.heap.size w w4; rw [← hw]; exact HX3.out.trans ((bel1 w3 _).mono HX3.out.size)
    clear hw HX3
    go_wp2_with fail
    go_ret
    exact ⟨rfl, HX4.out⟩
set_option maxHeartbeats 4000000 in
theorem eargs_one (x : Nat) (hx : x < 4294967296) (p : Int) (hp : p = 1) (room : Nat) (hr : room < 256) (w : World) :
    Calls Tryz.prog 5 #[.int .u32 (x : Int), .int .i64 p, .int .u8 (room : Int)] w fun e w' => e = .returned (.bool true) ∧ Below w.heap.size w w' := by
  obtain ⟨c, hc, hcl⟩ : ∃ c : Nat, IntKind.u64.wrap ((x : Int) * 11400714819323198485) = (c : Int) ∧ c < 18446744073709551616 := by
    have h1 := wrap_u64 ((x : Int) * 11400714819323198485)
    exact ⟨(IntKind.u64.wrap ((x : Int) * 11400714819323198485)).toNat, by omega, by omega⟩
  have HR := Lib.hid hr
  subst hp
  clear hr
  go_enter Tryz.func5, Tryz.ntmps5
  go_wp2_with fail
  refine (lives10_any _).mono ?_
  rintro e W1 ⟨rfl, hb⟩
  have HB1 := Lib.hid hb
  clear hb
  go_wp2_with fail
  refine (new_good 500 (by omega) (by omega) _).mono ?_
  rintro e W2 ⟨sb, g, tb, rfl, hS, hB, l1, l2, l3⟩
  have HS2 := Lib.hid hS
  have HB2 := Lib.hid (HB1.out.trans (hB.mono HB1.out.size))
  have HL : Hid (w.heap.size ≤ sb ∧ w.heap.size ≤ g ∧ w.heap.size ≤ tb) := by have := HB1.out.size; exact ⟨by omega, by omega, by omega⟩
  clear hS hB l1 l2 l3 HB1
  go_wp2_with fail
  refine (enew_any HS2.out).mono ?_
  rintro e W3 ⟨mb, rfl, hmb, hme, hB3⟩
  have HM3 := Lib.hid (hme.later (bel1 W3 (.cells #[.int .u64 (c : Int)] 66)))
  have HB3 := Lib.hid ((HB2.out.trans (hB3.mono HB2.out.size)).trans ((bel1 W3 (.cells #[.int .u64 (c : Int)] 66)).mono (Nat.le_trans HB2.out.size hB3.size)))
  have HAB : Hid (Abv w.heap.size sb g tb mb FbT.no) := by
    obtain ⟨a1, a2, a3⟩ := HL.out
    have := HB2.out.size
    exact ⟨by omega, by omega, by omega, by omega, fun b e => absurd e no_bl⟩
  have HRW : Hid (RowS (W3.alloc (.cells #[.int .u64 (c : Int)] 66)) sb g tb (some ⟨W3.heap.size, 0, none⟩) [c]) := by
    obtain ⟨cap, hs⟩ := hme.st
    exact rowS_new hs c _
  clear hmb hme hB3 HB2 HS2 HL
  go_wp2_with fail
  generalize W3.alloc (.cells #[.int .u64 (c : Int)] 66) = W4 at *
  generalize W3.heap.size = rb at *
  refine (bld10 HM3.out 3 (by omega) [c] (by simp) (by simpa using hcl) _ 1 HRW.out).mono ?_
  rintro e W5 ⟨g5, N5, hmx, hres⟩
  have HL5 : Hid (N5.length ≤ 23) := Nat.le_trans hmx.len (by decide)
  obtain ⟨q, rfl, hcq⟩ := bld_out hres (by have := HL5.out; omega)
  have HC := Lib.hid hcq
  have HB5 := Lib.hid (HAB.out.below HB3.out HB3.out.size hmx)
  have HAB5 := Lib.hid (HAB.out.mx HB3.out.size hmx)
  have HM5 := Lib.hid hmx.me
  have hqu : q < 4294967296 := by obtain ⟨cs, hs⟩ := hmx.me.st; exact Sq.u32 hs hcq.1
  clear hres hcq hmx HM3 HRW HB3 HAB
  have HN6 := Lib.hid (enext_any HM5.out (n := 1) (p := 1) HC.out.1 (by omega))
  rw [show ((1 : Nat) : Int) = 1 from rfl] at HN6
  go_wp2_with fail
  refine HN6.out.mono ?_
  rintro e W6 ⟨g6, N6, fb6, m6, hmx, hres⟩
  have HL6 : Hid (N6.length ≤ 50) := Nat.le_trans hmx.len (by have := HL5.out; have : cE 1 = 27 := rfl; omega)
  obtain ⟨r6, rfl, _, _⟩ := res_good hres (by have := HL6.out; omega)
  have HB6 := Lib.hid (HAB5.out.below HB5.out HB5.out.size hmx)
  have HM6 := Lib.hid hmx.me
  clear hres hmx HN6 HM5 HB5 HAB5 HL5
  go_wp2_with fail
  have h1lv : lvZ N6 1 = 0 := sq_alive HM6.out.wf
  refine (enext_bad HM6.out 1 (by omega) 0 (Or.inr (by rw [h1lv]; omega))).mono ?_
  rintro e W7 ⟨rfl, rfl⟩
  clear h1lv
  obtain ⟨cs6, hs6⟩ := HM6.out.st
  have HS6 := Lib.hid hs6
  have hl20 : N6.length ≤ 1048576 := Nat.le_trans hs6.room hs6.most_le
  have hcv : IntKind.u32.wrap (N6.length : Int) = (N6.length : Int) := IntWalk.u32_in _ (by omega)
  clear hs6
  go_wp2_with fail
  refine (len_any HS6.out).mono ?_
  rintro e W7 ⟨rfl, rfl⟩
  go_wp2_with fail
  refine (enext_bad HM6.out N6.length (by omega) 0 (Or.inr (by rw [lv_none (Nat.le_refl _)]; omega))).mono ?_
  rintro e W7 ⟨rfl, rfl⟩
  clear hcv
  go_wp2_with fail
  refine (forget_nil _).mono ?_
  rintro e W7 ⟨rfl, rfl⟩
  go_wp2_with fail
  refine (change_nil _ _).mono ?_
  rintro e W7 ⟨rfl, rfl⟩
  go_wp2_with fail
  refine (enext_nil 0 0 _).mono ?_
  rintro e W7 ⟨rfl, rfl⟩
  have hr8 := HR.out
  have hw8 : IntKind.u8.wrap ((room : Int).tmod 40) = (room : Int) % 40 := by rw [Int.tmod_eq_emod_of_nonneg (by omega)]; exact IntWalk.u8_in _ (by omega)
  have hw9 : IntKind.i64.wrap ((room : Int) % 40) = (room : Int) % 40 := IntWalk.i64_in _ (by omega)
  have hwa : IntKind.i64.wrap (40 + (room : Int) % 40) = 40 + (room : Int) % 40 := IntWalk.i64_in _ (by omega)
  go_wp2_with fail
  clear hr8 hw8 hw9 hwa
  rw [show (40 : Int) + (room : Int) % 40 = ((40 + room % 40 : Nat) : Int) by omega]
  refine (new_good (40 + room % 40) (by omega) (by omega) _).mono ?_
  rintro e W8 ⟨sb8, g8, tb8, rfl, hS, hB, l1, l2, l3⟩
  have HS8 := Lib.hid (hS.later (bel1 W8 (.cells #[.int .u64 (c : Int)] 66)))
  have HB8 := Lib.hid ((HB6.out.trans (hB.mono HB6.out.size)).trans ((bel1 W8 (.cells #[.int .u64 (c : Int)] 66)).mono (Nat.le_trans HB6.out.size hB.size)))
  have HL8 : Hid (w.heap.size ≤ sb8 ∧ w.heap.size ≤ g8 ∧ w.heap.size ≤ tb8) := by have := HB6.out.size; exact ⟨by omega, by omega, by omega⟩
  have HRW8 : Hid (RowS (W8.alloc (.cells #[.int .u64 (c : Int)] 66)) sb8 g8 tb8 (some ⟨W8.heap.size, 0, none⟩) [c]) := rowS_new hS c _
  clear hS hB l1 l2 l3
  go_wp2_with fail
  generalize W8.alloc (.cells #[.int .u64 (c : Int)] 66) = W9 at *
  generalize W8.heap.size = rb8 at *
  generalize hmo : 40 + room % 40 = mo at *
  refine (build_any HS8.out 3 (by omega) [c] (by simp) (by simpa using hcl) _ 1 HRW8.out).mono ?_
  rintro e Wa ⟨ga, Na, hnx, hres⟩
  have HLa : Hid (Na.length ≤ 23) := by
    obtain ⟨E, hE, hl⟩ := hnx.ext
    have hb3 : bC 3 = 21 := rfl
    rw [hb3] at hl
    show Na.length ≤ 23
    rw [hE, List.length_append]
    show 2 + E.length ≤ 23
    omega
  obtain ⟨y, rfl, hcy⟩ := bld_out hres (by have := HLa.out; omega)
  have HCY := Lib.hid hcy
  have HBa : Hid (Below w.heap.size w Wa) := by
    refine HB8.out.trans (hnx.frm.below (fun b hb => ?_) HB8.out.size)
    obtain ⟨a1, a2, a3⟩ := HL8.out
    simp only [List.mem_cons, List.not_mem_nil, or_false] at hb
    rcases hb with e | e | e <;> omega
  have HGa : Hid (w.heap.size ≤ ga) := by
    have := HB8.out.size
    have := HL8.out.2.1
    show w.heap.size ≤ ga
    rcases hnx.gin with e | e <;> omega
  obtain ⟨csa, hsa⟩ := hnx.st
  have HSa := Lib.hid hsa
  clear hres hcy hnx hsa hmo HB8 HRW8 HS8
  go_wp2_with fail
  refine (enew_any HSa.out).mono ?_
  rintro e Wb ⟨mbb, rfl, hmb, hme, hBb⟩
  have HMb := Lib.hid hme
  have HBb := Lib.hid (HBa.out.trans (hBb.mono HBa.out.size))
  have HABb : Hid (Abv w.heap.size sb8 ga tb8 mbb FbT.no) := by
    obtain ⟨a1, a2, a3⟩ := HL8.out
    have := HBa.out.size
    exact ⟨a1, HGa.out, a3, by omega, fun b e => by cases e⟩
  have HNb := Lib.hid (enext_any hme (n := 1) (p := 1) HCY.out.1 (Nat.le_refl _))
  clear hmb hme hBb
  go_wp2_with fail
  refine HNb.out.mono ?_
  rintro e Wc ⟨gc, Nc, fbc, mc, hmx, hres⟩
  have HBX := Lib.hid (HABb.out.below HBb.out HBb.out.size hmx)
  clear hmx HNb
  rcases hres with ⟨z, rfl, _, _⟩ | ⟨rfl, _⟩
  · go_wp2_with fail
    refine (fis_one 1 (by omega) _ _ _ (cell_n10 _ _ _)).mono ?_
    rintro e w1 ⟨rfl, hw⟩
    have HX1 : Hid (Below w.heap.size w w1) := by show Below w.heap.size w w1; rw [← hw]; exact HBX.out.trans ((bel1 Wc _).mono HBX.out.size)
    clear hw HBX
    go_wp2_with fail
    refine (fis_one 1 (by omega) _ _ _ (cell_n10 _ _ _)).mono ?_
    rintro e w2 ⟨rfl, hw⟩
    have HX2 : Hid (Below w.heap.size w w2) := by show Below w.heap.size w w2; rw [← hw]; exact HX1.out.trans ((bel1 w1 _).mono HX1.out.size)
    clear hw HX1
    go_wp2_with fail
    refine (fis_one 1 (by omega) _ _ _ (cell_n10 _ _ _)).mono ?_
    rintro e w3 ⟨rfl, hw⟩
    have HX3 : Hid (Below w.heap.size w w3) := by show Below w.heap.size w w3; rw [← hw]; exact HX2.out.trans ((bel1 w2 _).mono HX2.out.size)
    clear hw HX2
    go_wp2_with fail
    refine (known_nil _).mono ?_
    rintro e wk ⟨rfl, rfl⟩
    go_wp2_with fail
    go_ret
    exact ⟨rfl, HX3.out⟩
  · go_wp2_with fail
    refine (fis_one 1 (by omega) _ _ _ (cell_n10 _ _ _)).mono ?_
    rintro e w1 ⟨rfl, hw⟩
    have HX1 : Hid (Below w.heap.size w w1) := by show Below w.heap.size w w1; rw [← hw]; exact HBX.out.trans ((bel1 Wc _).mono HBX.out.size)
    clear hw HBX
    go_wp2_with fail
    refine (fis_one 1 (by omega) _ _ _ (cell_n10 _ _ _)).mono ?_
    rintro e w2 ⟨rfl, hw⟩
    have HX2 : Hid (Below w.heap.size w w2) := by show Below w.heap.size w w2; rw [← hw]; exact HX1.out.trans ((bel1 w1 _).mono HX1.out.size)
    clear hw HX1
    go_wp2_with fail
    refine (fis_one 1 (by omega) _ _ _ (cell_n10 _ _ _)).mono ?_
    rintro e w3 ⟨rfl, hw⟩
    have HX3 : Hid (Below w.heap.size w w3) := by show Below w.heap.size w w3; rw [← hw]; exact HX2.out.trans ((bel1 w2 _).mono HX2.out.size)
    clear hw HX2
    go_wp2_with fail
    refine (known_nil _).mono ?_
    rintro e wk ⟨rfl, rfl⟩
    go_wp2_with fail
    refine (fis_one 7 (by omega) _ _ _ (cell_n10 _ _ _)).mono ?_
    rintro e w4 ⟨rfl, hw⟩
    have HX4 : Hid (Below w.heap.size w w4) := by show Below w.heap.size w w4; rw [← hw]; exact HX3.out.trans ((bel1 w3 _).mono HX3.out.size)
    clear hw HX3
    go_wp2_with fail
    go_ret
    exact ⟨rfl, HX4.out⟩
set_option maxHeartbeats 4000000 in
theorem eargs_bad (x : Nat) (hx : x < 4294967296) (p : Int) (hp : p < 0 ∨ p > 1) (room : Nat) (hr : room < 256) (w : World) :
    Calls Tryz.prog 5 #[.int .u32 (x : Int), .int .i64 p, .int .u8 (room : Int)] w fun e w' => e = .returned (.bool true) ∧ Below w.heap.size w w' := by
  obtain ⟨c, hc, hcl⟩ : ∃ c : Nat, IntKind.u64.wrap ((x : Int) * 11400714819323198485) = (c : Int) ∧ c < 18446744073709551616 := by
    have h1 := wrap_u64 ((x : Int) * 11400714819323198485)
    exact ⟨(IntKind.u64.wrap ((x : Int) * 11400714819323198485)).toNat, by omega, by omega⟩
  have HR := Lib.hid hr
  have HPW := Lib.hid hp
  have q0 : (p == 0) = false := by rw [beq_eq_false_iff_ne]; omega
  have q1 : (p == 1) = false := by rw [beq_eq_false_iff_ne]; omega
  clear hr hp
  go_enter Tryz.func5, Tryz.ntmps5
  go_wp2_with fail
  refine (lives10_any _).mono ?_
  rintro e W1 ⟨rfl, hb⟩
  have HB1 := Lib.hid hb
  clear hb
  go_wp2_with fail
  refine (new_good 500 (by omega) (by omega) _).mono ?_
  rintro e W2 ⟨sb, g, tb, rfl, hS, hB, l1, l2, l3⟩
  have HS2 := Lib.hid hS
  have HB2 := Lib.hid (HB1.out.trans (hB.mono HB1.out.size))
  have HL : Hid (w.heap.size ≤ sb ∧ w.heap.size ≤ g ∧ w.heap.size ≤ tb) := by have := HB1.out.size; exact ⟨by omega, by omega, by omega⟩
  clear hS hB l1 l2 l3 HB1
  go_wp2_with fail
  refine (enew_any HS2.out).mono ?_
  rintro e W3 ⟨mb, rfl, hmb, hme, hB3⟩
  have HM3 := Lib.hid (hme.later (bel1 W3 (.cells #[.int .u64 (c : Int)] 66)))
  have HB3 := Lib.hid ((HB2.out.trans (hB3.mono HB2.out.size)).trans ((bel1 W3 (.cells #[.int .u64 (c : Int)] 66)).mono (Nat.le_trans HB2.out.size hB3.size)))
  have HAB : Hid (Abv w.heap.size sb g tb mb FbT.no) := by
    obtain ⟨a1, a2, a3⟩ := HL.out
    have := HB2.out.size
    exact ⟨by omega, by omega, by omega, by omega, fun b e => absurd e no_bl⟩
  have HRW : Hid (RowS (W3.alloc (.cells #[.int .u64 (c : Int)] 66)) sb g tb (some ⟨W3.heap.size, 0, none⟩) [c]) := by
    obtain ⟨cap, hs⟩ := hme.st
    exact rowS_new hs c _
  clear hmb hme hB3 HB2 HS2 HL
  go_wp2_with fail
  generalize W3.alloc (.cells #[.int .u64 (c : Int)] 66) = W4 at *
  generalize W3.heap.size = rb at *
  refine (bld10 HM3.out 3 (by omega) [c] (by simp) (by simpa using hcl) _ 1 HRW.out).mono ?_
  rintro e W5 ⟨g5, N5, hmx, hres⟩
  have HL5 : Hid (N5.length ≤ 23) := Nat.le_trans hmx.len (by decide)
  obtain ⟨q, rfl, hcq⟩ := bld_out hres (by have := HL5.out; omega)
  have HC := Lib.hid hcq
  have HB5 := Lib.hid (HAB.out.below HB3.out HB3.out.size hmx)
  have HAB5 := Lib.hid (HAB.out.mx HB3.out.size hmx)
  have HM5 := Lib.hid hmx.me
  have hqu : q < 4294967296 := by obtain ⟨cs, hs⟩ := hmx.me.st; exact Sq.u32 hs hcq.1
  clear hres hcq hmx HM3 HRW HB3 HAB
  have HN6 := Lib.hid (enext_bad HM5.out q hqu p (by have h3 : lvZ N5 q = ((3 : Nat) : Int) := HC.out.1; have := HPW.out; omega))
  go_wp2_with fail
  refine HN6.out.mono ?_
  rintro e W6 ⟨rfl, rfl⟩
  have HB6 := Lib.hid HB5.out
  have HM6 := Lib.hid HM5.out
  generalize N5 = N6 at *
  clear HN6 HM5 HB5 HAB5 HL5
  go_wp2_with fail
  have h1lv : lvZ N6 1 = 0 := sq_alive HM6.out.wf
  refine (enext_bad HM6.out 1 (by omega) 0 (Or.inr (by rw [h1lv]; omega))).mono ?_
  rintro e W7 ⟨rfl, rfl⟩
  clear h1lv
  obtain ⟨cs6, hs6⟩ := HM6.out.st
  have HS6 := Lib.hid hs6
  have hl20 : N6.length ≤ 1048576 := Nat.le_trans hs6.room hs6.most_le
  have hcv : IntKind.u32.wrap (N6.length : Int) = (N6.length : Int) := IntWalk.u32_in _ (by omega)
  clear hs6
  go_wp2_with fail
  refine (len_any HS6.out).mono ?_
  rintro e W7 ⟨rfl, rfl⟩
  go_wp2_with fail
  refine (enext_bad HM6.out N6.length (by omega) 0 (Or.inr (by rw [lv_none (Nat.le_refl _)]; omega))).mono ?_
  rintro e W7 ⟨rfl, rfl⟩
  clear hcv
  go_wp2_with fail
  refine (forget_nil _).mono ?_
  rintro e W7 ⟨rfl, rfl⟩
  go_wp2_with fail
  refine (change_nil _ _).mono ?_
  rintro e W7 ⟨rfl, rfl⟩
  go_wp2_with fail
  refine (enext_nil 0 0 _).mono ?_
  rintro e W7 ⟨rfl, rfl⟩
  have hr8 := HR.out
  have hw8 : IntKind.u8.wrap ((room : Int).tmod 40) = (room : Int) % 40 := by rw [Int.tmod_eq_emod_of_nonneg (by omega)]; exact IntWalk.u8_in _ (by omega)
  have hw9 : IntKind.i64.wrap ((room : Int) % 40) = (room : Int) % 40 := IntWalk.i64_in _ (by omega)
  have hwa : IntKind.i64.wrap (40 + (room : Int) % 40) = 40 + (room : Int) % 40 := IntWalk.i64_in _ (by omega)
  go_wp2_with fail
  clear hr8 hw8 hw9 hwa
  rw [show (40 : Int) + (room : Int) % 40 = ((40 + room % 40 : Nat) : Int) by omega]
  refine (new_good (40 + room % 40) (by omega) (by omega) _).mono ?_
  rintro e W8 ⟨sb8, g8, tb8, rfl, hS, hB, l1, l2, l3⟩
  have HS8 := Lib.hid (hS.later (bel1 W8 (.cells #[.int .u64 (c : Int)] 66)))
  have HB8 := Lib.hid ((HB6.out.trans (hB.mono HB6.out.size)).trans ((bel1 W8 (.cells #[.int .u64 (c : Int)] 66)).mono (Nat.le_trans HB6.out.size hB.size)))
  have HL8 : Hid (w.heap.size ≤ sb8 ∧ w.heap.size ≤ g8 ∧ w.heap.size ≤ tb8) := by have := HB6.out.size; exact ⟨by omega, by omega, by omega⟩
  have HRW8 : Hid (RowS (W8.alloc (.cells #[.int .u64 (c : Int)] 66)) sb8 g8 tb8 (some ⟨W8.heap.size, 0, none⟩) [c]) := rowS_new hS c _
  clear hS hB l1 l2 l3
  go_wp2_with fail
  generalize W8.alloc (.cells #[.int .u64 (c : Int)] 66) = W9 at *
  generalize W8.heap.size = rb8 at *
  generalize hmo : 40 + room % 40 = mo at *
  refine (build_any HS8.out 3 (by omega) [c] (by simp) (by simpa using hcl) _ 1 HRW8.out).mono ?_
  rintro e Wa ⟨ga, Na, hnx, hres⟩
  have HLa : Hid (Na.length ≤ 23) := by
    obtain ⟨E, hE, hl⟩ := hnx.ext
    have hb3 : bC 3 = 21 := rfl
    rw [hb3] at hl
    show Na.length ≤ 23
    rw [hE, List.length_append]
    show 2 + E.length ≤ 23
    omega
  obtain ⟨y, rfl, hcy⟩ := bld_out hres (by have := HLa.out; omega)
  have HCY := Lib.hid hcy
  have HBa : Hid (Below w.heap.size w Wa) := by
    refine HB8.out.trans (hnx.frm.below (fun b hb => ?_) HB8.out.size)
    obtain ⟨a1, a2, a3⟩ := HL8.out
    simp only [List.mem_cons, List.not_mem_nil, or_false] at hb
    rcases hb with e | e | e <;> omega
  have HGa : Hid (w.heap.size ≤ ga) := by
    have := HB8.out.size
    have := HL8.out.2.1
    show w.heap.size ≤ ga
    rcases hnx.gin with e | e <;> omega
  obtain ⟨csa, hsa⟩ := hnx.st
  have HSa := Lib.hid hsa
  clear hres hcy hnx hsa hmo HB8 HRW8 HS8
  go_wp2_with fail
  refine (enew_any HSa.out).mono ?_
  rintro e Wb ⟨mbb, rfl, hmb, hme, hBb⟩
  have HMb := Lib.hid hme
  have HBb := Lib.hid (HBa.out.trans (hBb.mono HBa.out.size))
  have HABb : Hid (Abv w.heap.size sb8 ga tb8 mbb FbT.no) := by
    obtain ⟨a1, a2, a3⟩ := HL8.out
    have := HBa.out.size
    exact ⟨a1, HGa.out, a3, by omega, fun b e => by cases e⟩
  have HNb := Lib.hid (enext_any hme (n := 1) (p := 1) HCY.out.1 (Nat.le_refl _))
  clear hmb hme hBb
  go_wp2_with fail
  refine HNb.out.mono ?_
  rintro e Wc ⟨gc, Nc, fbc, mc, hmx, hres⟩
  have HBX := Lib.hid (HABb.out.below HBb.out HBb.out.size hmx)
  clear hmx HNb
  rcases hres with ⟨z, rfl, _, _⟩ | ⟨rfl, _⟩
  · go_wp2_with fail
    refine (fis_one 1 (by omega) _ _ _ (cell_n10 _ _ _)).mono ?_
    rintro e w1 ⟨rfl, hw⟩
    have HX1 : Hid (Below w.heap.size w w1) := by show Below w.heap.size w w1; rw [← hw]; exact HBX.out.trans ((bel1 Wc _).mono HBX.out.size)
    clear hw HBX
    go_wp2_with fail
    refine (fis_one 1 (by omega) _ _ _ (cell_n10 _ _ _)).mono ?_
    rintro e w2 ⟨rfl, hw⟩
    have HX2 : Hid (Below w.heap.size w w2) := by show Below w.heap.size w w2; rw [← hw]; exact HX1.out.trans ((bel1 w1 _).mono HX1.out.size)
    clear hw HX1
    go_wp2_with fail
    refine (fis_one 1 (by omega) _ _ _ (cell_n10 _ _ _)).mono ?_
    rintro e w3 ⟨rfl, hw⟩
    have HX3 : Hid (Below w.heap.size w w3) := by show Below w.heap.size w w3; rw [← hw]; exact HX2.out.trans ((bel1 w2 _).mono HX2.out.size)
    clear hw HX2
    go_wp2_with fail
    refine (fis_one 1 (by omega) _ _ _ (cell_n10 _ _ _)).mono ?_
    rintro e w4 ⟨rfl, hw⟩
    have HX4 : Hid (Below w.heap.size w w4) := by show Below w.heap.size w w4; rw [← hw]; exact HX3.out.trans ((bel1 w3 _).mono HX3.out.size)
    clear hw HX3
    go_wp2_with fail
    refine (known_nil _).mono ?_
    rintro e wk ⟨rfl, rfl⟩
    go_wp2_with fail
    go_ret
    exact ⟨rfl, HX4.out⟩
  · go_wp2_with fail
    refine (fis_one 1 (by omega) _ _ _ (cell_n10 _ _ _)).mono ?_
    rintro e w1 ⟨rfl, hw⟩
    have HX1 : Hid (Below w.heap.size w w1) := by show Below w.heap.size w w1; rw [← hw]; exact HBX.out.trans ((bel1 Wc _).mono HBX.out.size)
    clear hw HBX
    go_wp2_with fail
    refine (fis_one 1 (by omega) _ _ _ (cell_n10 _ _ _)).mono ?_
    rintro e w2 ⟨rfl, hw⟩
    have HX2 : Hid (Below w.heap.size w w2) := by show Below w.heap.size w w2; rw [← hw]; exact HX1.out.trans ((bel1 w1 _).mono HX1.out.size)
    clear hw HX1
    go_wp2_with fail
    refine (fis_one 1 (by omega) _ _ _ (cell_n10 _ _ _)).mono ?_
    rintro e w3 ⟨rfl, hw⟩
    have HX3 : Hid (Below w.heap.size w w3) := by show Below w.heap.size w w3; rw [← hw]; exact HX2.out.trans ((bel1 w2 _).mono HX2.out.size)
    clear hw HX2
    go_wp2_with fail
    refine (fis_one 1 (by omega) _ _ _ (cell_n10 _ _ _)).mono ?_
    rintro e w4 ⟨rfl, hw⟩
    have HX4 : Hid (Below w.heap.size w w4) := by show Below w.heap.size w w4; rw [← hw]; exact HX3.out.trans ((bel1 w3 _).mono HX3.out.size)
    clear hw HX3
    go_wp2_with fail
    refine (known_nil _).mono ?_
    rintro e wk ⟨rfl, rfl⟩
    go_wp2_with fail
    refine (fis_one 7 (by omega) _ _ _ (cell_n10 _ _ _)).mono ?_
    rintro e w5 ⟨rfl, hw⟩
    have HX5 : Hid (Below w.heap.size w w5) := by show Below w.heap.size w w5; rw [← hw]; exact HX4.out.trans ((bel1 w4 _).mono HX4.out.size)
    clear hw HX4
    go_wp2_with fail
    go_ret
    exact ⟨rfl, HX5.out⟩
end Go.Proofs.YtaapkngpnlnjeaaGreat
