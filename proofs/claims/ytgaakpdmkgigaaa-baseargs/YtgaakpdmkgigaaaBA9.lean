/- The law BaseArgs: its walk. -/
import Derived.Test.YtgaakpdmkgigaaaLv9
import Derived.Test.YtgaakpdmkgigaaaFis
namespace Go.Proofs.Ytgaakpdmkgigaaa
open Go.RowKit Go.Maps
set_option maxRecDepth 100000

theorem cell_n9 (w : World) (v : Value) (t : TypeId) : (w.alloc (.cells #[v] t)).cell? ⟨w.heap.size, 0, none⟩ = some v := by rw [Lib.cell_of_heap (heap_alloc_new w _)]; rfl
theorem back_nil0 (w : World) : Calls Try.prog 25 #[.pointer none, .int .i64 0] w fun e w' => e = .returned (.tuple #[]) ∧ w = w' := by
  go_enter Try.func25, Try.ntmps25
  go_wp2
  refine bodyPost_ret (v := _) (by simp [results, Try.results25, go_sem]; rfl) rfl ?_
  exact ⟨rfl, rfl⟩
theorem square9_nil (f : Nat) (hf : f < 65536) (w : World) : Calls Try.prog 24 #[.int .u16 (f : Int), .pointer none] w fun e w' => e = .returned (.tuple #[.int .u32 0, .iface 58 (.int .i64 1)]) ∧ Below w.heap.size w w' := by
  have HB := Lib.hid (bel1 w (.cells #[.int .u32 0, .int .u32 0, .int .u32 0, .int .u32 0] 49))
  have HO := Lib.hid (heap_alloc_new w (.cells #[.int .u32 0, .int .u32 0, .int .u32 0, .int .u32 0] 49))
  go_enter Try.func24, Try.ntmps24
  go_wp2_with fail
  generalize w.alloc (.cells #[.int .u32 0, .int .u32 0, .int .u32 0, .int .u32 0] 49) = W0 at *
  go_loopg [7, 8, 9] 1 (fun m v7 v8 cnt wr => m = 1 ∧ cnt = .int .i64 0 ∧ wr.heap[w.heap.size]? = some (kO (0, 0, 0, 0)) ∧ Below w.heap.size w wr)
  case atStart => exact ⟨rfl, rfl, HO.out, HB.out⟩
  case round =>
    clear HO HB
    obtain ⟨hm, rfl, hO, hB⟩ := hrel
    have HO := Lib.hid hO
    have HB := Lib.hid hB
    clear hO hB
    have HQT := Lib.hid (quarter9_any f hf 0 (by omega))
    go_wp2_with fail
    refine (HQT.out _).mono ?_
    rintro e w5 ⟨rfl, hb⟩
    have HO5 := Lib.hid (kept HO.out hb)
    have HB5 := Lib.hid (HB.out.trans (hb.mono HB.out.size))
    clear hb HO HB
    unfold kV
    go_wp2_with fail
    have HIK : Hid (InK (qK f 0)) := by
      have : ∀ j, kAt (qK f 0) j < 4294967296 := fun j => by
        unfold qK mk4 kAt
        split <;> (simp only []; split <;> omega)
      exact ⟨this 0, this 1, this 2, this 3⟩
    refine (make_nil (qK f 0) HIK.out _).mono ?_
    rintro e w6 ⟨rfl, hb⟩
    have HO6 := Lib.hid (kept HO5.out hb)
    have HB6 := Lib.hid (HB5.out.trans (hb.mono HB5.out.size))
    clear hb HO5 HB5
    obtain ⟨t3, t4⟩ := k_cell (i := 0) HO6.out (by omega)
    go_wp2_with fail
    go_ret2
    exact ⟨rfl, HB6.out.setCell (p := ⟨w.heap.size, 0, none⟩) (Nat.le_refl _) _⟩
theorem sqr_nil (f : Nat) (hf : f < 65536) (w : World) : Calls Try.prog 13 #[.pointer none, .int .u16 (f : Int)] w fun e w' => e = .returned (.tuple #[.int .u32 0, .iface 58 (.int .i64 1)]) ∧ Below w.heap.size w w' := by
  go_enter Try.func13, Try.ntmps13
  go_wp2_with fail
  refine (mark_nil _).mono ?_
  rintro e w5 ⟨rfl, rfl⟩
  go_wp2_with fail
  refine (square9_nil f hf _).mono ?_
  rintro e w6 ⟨rfl, hb⟩
  have HB := Lib.hid hb
  clear hb
  go_wp2_with fail
  refine (back_nil0 _).mono ?_
  rintro e w7 ⟨rfl, rfl⟩
  go_wp2_with fail
  go_ret2
  exact ⟨rfl, HB.out⟩
theorem keptR9 {w w' : World} {b : Nat} {o : Obj} (h : w.heap[b]? = some o) (hb : Below w.heap.size w w') : w'.heap[b]? = some o := by
  rw [hb.block b (Array.getElem?_eq_some_iff.1 h).1]; exact h
theorem frm_bel9 {w0 w1 w2 : World} {sb g tb : Nat} (h : Below w0.heap.size w0 w1) (h1 : w0.heap.size ≤ sb ∧ w0.heap.size ≤ g ∧ w0.heap.size ≤ tb) (hf : Frm [sb, g, tb] w1 w2) : Below w0.heap.size w0 w2 := by
  refine h.trans (hf.below (fun b hb => ?_) h.size)
  simp only [List.mem_cons, List.not_mem_nil, or_false] at hb
  rcases hb with e | e | e <;> omega
set_option maxHeartbeats 4000000 in
theorem bargs_walk (f : Int) (wf : (Lit.int .u16 f).wf = true) (room : Int) (wr : (Lit.int .u8 room).wf = true) (w : World) :
    Calls Try.prog 5 #[.int .u16 f, .int .u8 room] w fun e w' => e = .returned (.bool true) ∧ Below w.heap.size w w' := by
  obtain ⟨f, rfl⟩ : ∃ n : Nat, f = (n : Int) := ⟨f.toNat, by simp [Lit.wf, IntKind.min, IntKind.max, IntKind.signed, IntKind.bits] at wf; omega⟩
  obtain ⟨room, rfl⟩ : ∃ n : Nat, room = (n : Int) := ⟨room.toNat, by simp [Lit.wf, IntKind.min, IntKind.max, IntKind.signed, IntKind.bits] at wr; omega⟩
  have hf : f < 65536 := by simp [Lit.wf, IntKind.min, IntKind.max, IntKind.signed, IntKind.bits] at wf; omega
  have hr : room < 256 := by simp [Lit.wf, IntKind.min, IntKind.max, IntKind.signed, IntKind.bits] at wr; omega
  clear wf wr
  have HF := Lib.hid hf
  have HR := Lib.hid hr
  clear hf hr
  go_enter Try.func5, Try.ntmps5
  go_wp2_with fail
  refine (lives9_any _).mono ?_
  rintro e W1 ⟨rfl, hb⟩
  have HB1 := Lib.hid hb
  clear hb
  go_wp2_with fail
  refine (new_good 40 (by omega) (by omega) _).mono ?_
  rintro e W2 ⟨sb, g, tb, rfl, hS, hB, l1, l2, l3⟩
  have HS2 := Lib.hid hS
  have HB2 := Lib.hid (HB1.out.trans (hB.mono HB1.out.size))
  have HL : Hid (w.heap.size ≤ sb ∧ w.heap.size ≤ g ∧ w.heap.size ≤ tb) := by have := HB1.out.size; exact ⟨by omega, by omega, by omega⟩
  clear hS hB l1 l2 l3 HB1
  go_wp2_with fail
  refine (sqr_any HS2.out f HF.out).mono ?_
  rintro e W3 ⟨g3, N3, hnx, hres⟩
  have HN3 := Lib.hid hnx
  clear hnx
  rcases hres with ⟨sq, rfl, hsq⟩ | ⟨rfl, -, hfull⟩
  case inr => exact absurd hfull (by decide)
  have HSQ := Lib.hid hsq.1
  clear hsq
  obtain ⟨cap3, hS3⟩ := HN3.out.st
  have HS3 := Lib.hid hS3
  clear hS3
  have HB3 := Lib.hid (frm_bel9 HB2.out HL.out HN3.out.frm)
  have HL3 : Hid (N3.length ≤ 7) := by obtain ⟨E, hE, hEl⟩ := HN3.out.ext; rw [hE, List.length_append]; show 2 + E.length ≤ 7; omega
  have HFO : Hid (Fo N3 2 (sq, sq, sq, sq)) := fun r b => by rw [pick_all]; exact HSQ.out
  have HG3 : Hid (w.heap.size ≤ sb ∧ w.heap.size ≤ g3 ∧ w.heap.size ≤ tb) := by
    have h1 := HN3.out.gin
    have h2 := HB2.out.size
    obtain ⟨a, b, c⟩ := HL.out
    exact ⟨a, by omega, c⟩
  clear HN3 HB2 HS2 HL
  go_wp2_with fail
  refine (make_sq HS3.out (n := 2) (by omega) HFO.out).mono ?_
  rintro e W4 ⟨g4, N4, hnx, hres⟩
  have HN4 := Lib.hid hnx
  clear hnx
  have HL4 : Hid (N4.length ≤ 8) := by obtain ⟨E, hE, hEl⟩ := HN4.out.ext; have := HL3.out; show N4.length ≤ 8; rw [hE, List.length_append]; omega
  rcases hres with ⟨up, rfl, hup, _, _⟩ | ⟨rfl, hfull⟩
  case inr => exact absurd (Nat.le_trans hfull HL4.out) (by decide)
  have HUP := Lib.hid hup
  clear hup
  obtain ⟨cap4, hS4⟩ := HN4.out.st
  have HS4 := Lib.hid hS4
  have hsu := Sq.u32 HS3.out HSQ.out
  have hupu := Sq.u32 hS4 HUP.out
  clear hS4
  have HB4 := Lib.hid (frm_bel9 HB3.out HG3.out HN4.out.frm)
  have HBA := Lib.hid (heap_alloc_new W4 (.cells #[.int .u32 0, .int .u32 1, .int .u32 (up : Int), .int .u32 99] 42))
  clear HN4 HB3 HS3 HFO HG3 HL3
  go_wp2_with fail
  have HS5 := Lib.hid (HS4.out.later (bel1 W4 (.cells #[.int .u32 0, .int .u32 1, .int .u32 (up : Int), .int .u32 99] 42)))
  have HB5 := Lib.hid (HB4.out.trans ((bel1 W4 (.cells #[.int .u32 0, .int .u32 1, .int .u32 (up : Int), .int .u32 99] 42)).mono HB4.out.size))
  have HLV : Hid (∀ j, j < 4 → lvZ N4 (kAt (0, 1, up, 99) j) ≠ 2 ∧ kAt (0, 1, up, 99) j < 4294967296) := by
    intro j hj
    have h0 : lvZ N4 0 = 0 := sq_dead HS4.out.wf
    have h1 : lvZ N4 1 = 0 := sq_alive HS4.out.wf
    have h2 : lvZ N4 up = 3 := HUP.out
    have h3 : lvZ N4 99 = -1 := lv_none (by have := HL4.out; omega)
    rcases (show j = 0 ∨ j = 1 ∨ j = 2 ∨ j = 3 by omega) with rfl | rfl | rfl | rfl
    · exact ⟨by show lvZ N4 0 ≠ 2; rw [h0]; decide, by show (0 : Nat) < 4294967296; omega⟩
    · exact ⟨by show lvZ N4 1 ≠ 2; rw [h1]; decide, by show (1 : Nat) < 4294967296; omega⟩
    · exact ⟨by show lvZ N4 up ≠ 2; rw [h2]; decide, hupu⟩
    · exact ⟨by show lvZ N4 99 ≠ 2; rw [h3]; decide, by show (99 : Nat) < 4294967296; omega⟩
  clear HS4 HB4
  generalize W4.alloc (.cells #[.int .u32 0, .int .u32 1, .int .u32 (up : Int), .int .u32 99] 42) = W5 at *
  generalize W4.heap.size = lb at *
  clear hupu
  go_loopg [12, 13, 14, 15, 16, 52] 4 (fun m v12 v13 v14 v15 v16 cnt wr => ∃ (j : Nat), m = 4 - j ∧ j ≤ 4 ∧ cnt = .int .i64 (j : Int) ∧ Below W5.heap.size W5 wr)
  case atStart => exact ⟨0, rfl, Nat.zero_le _, rfl, Below.refl _ _⟩
  case round =>
    obtain ⟨j, hm, hj, rfl, hB⟩ := hrel
    have HM := Lib.hid hm
    have HBW := Lib.hid hB
    have HS6 := Lib.hid (HS5.out.later hB)
    have HA6 := Lib.hid (keptR9 HBA.out hB)
    clear hm hB
    by_cases hlt : j < 4
    · have hgj : decide ((j : Int) < 4) = true := by simp; omega
      have hcell : wr.cell? ⟨lb, j, none⟩ = some (.int .u32 (kAt (0, 1, up, 99) j : Int)) := by
        rcases (show j = 0 ∨ j = 1 ∨ j = 2 ∨ j = 3 by omega) with rfl | rfl | rfl | rfl <;> (rw [Lib.cell_of_heap HA6.out]; rfl)
      obtain ⟨hlv, hxu⟩ := HLV.out j hlt
      have HLX := Lib.hid hlv
      clear hlv
      have i3 : (0 : Int) ≤ (j : Int) := by omega
      have i4 : (j : Int) < 4 := by omega
      generalize kAt (0, 1, up, 99) j = x at *
      go_wp2_with fail
      refine (read_bad HS6.out x hxu HLX.out).mono ?_
      rintro e w7 ⟨rfl, rfl⟩
      go_wp2_with fail
      refine (next_bad HS6.out x hxu HLX.out).mono ?_
      rintro e w7 ⟨rfl, rfl⟩
      go_wp2_with fail
      refine (fis_one 1 (by omega) _ _ _ (cell_n9 _ _ _)).mono ?_
      rintro e w7 ⟨rfl, hw7⟩
      have HB7 : Hid (Below W5.heap.size W5 w7) := by show Below W5.heap.size W5 w7; rw [← hw7]; exact HBW.out.trans ((bel1 wr _).mono HBW.out.size)
      clear hw7 HBW
      go_wp2_with fail
      refine (fis_one 1 (by omega) _ _ _ (cell_n9 _ _ _)).mono ?_
      rintro e w8 ⟨rfl, hw8⟩
      have HB8 : Hid (Below W5.heap.size W5 w8) := by show Below W5.heap.size W5 w8; rw [← hw8]; exact HB7.out.trans ((bel1 w7 _).mono HB7.out.size)
      clear hw8 HB7
      go_wp2_with fail
      go_roundg (4 - (j + 1))
      case measure => rw [HM.out]; omega
      case rel => exact ⟨j + 1, rfl, by omega, by go_num, HB8.out⟩
    · obtain rfl : j = 4 := by omega
      have hgj : decide (((4 : Nat) : Int) < 4) = false := by simp
      have HB6 := Lib.hid (HB5.out.trans (HBW.out.mono HB5.out.size))
      clear HB5 HBW HBA HA6 HS5 HS6 HLV
      go_wp2_with fail
      refine (sqr_nil f HF.out _).mono ?_
      rintro e w7 ⟨rfl, hb⟩
      have HB7 := Lib.hid (HB6.out.trans (hb.mono HB6.out.size))
      clear hb HB6
      go_wp2_with fail
      refine (read_nil sq hsu _).mono ?_
      rintro e w8 ⟨rfl, rfl⟩
      go_wp2_with fail
      refine (next_nil sq hsu _).mono ?_
      rintro e w8 ⟨rfl, rfl⟩
      have hr8 := HR.out
      have hw8 : IntKind.u8.wrap ((room : Int).tmod 8) = (room : Int) % 8 := by rw [Int.tmod_eq_emod_of_nonneg (by omega)]; exact IntWalk.u8_in _ (by omega)
      have hw9 : IntKind.i64.wrap ((room : Int) % 8) = (room : Int) % 8 := IntWalk.i64_in _ (by omega)
      have hwa : IntKind.i64.wrap (2 + (room : Int) % 8) = 2 + (room : Int) % 8 := IntWalk.i64_in _ (by omega)
      go_wp2_with fail
      clear hr8 hw8 hw9 hwa
      rw [show (2 : Int) + (room : Int) % 8 = ((2 + room % 8 : Nat) : Int) by omega]
      refine (new_good (2 + room % 8) (by omega) (by omega) _).mono ?_
      rintro e w9 ⟨sb9, g9, tb9, rfl, hS, hB, l1, l2, l3⟩
      have HS9 := Lib.hid hS
      have HB9 := Lib.hid (HB7.out.trans (hB.mono HB7.out.size))
      have HL9 : Hid (w.heap.size ≤ sb9 ∧ w.heap.size ≤ g9 ∧ w.heap.size ≤ tb9) := by have := HB7.out.size; exact ⟨by omega, by omega, by omega⟩
      clear hS hB l1 l2 l3 HB7
      go_wp2_with fail
      refine (sqr_any HS9.out f HF.out).mono ?_
      rintro e wx ⟨gx, Nx9, hnx, hres⟩
      have HBX := Lib.hid (frm_bel9 HB9.out HL9.out hnx.frm)
      clear hnx HB9 HL9 HS9
      rcases hres with ⟨r, rfl, _⟩ | ⟨rfl, _, _⟩
      · go_wp2_with fail
        refine (fis_one 1 (by omega) _ _ _ (cell_n9 _ _ _)).mono ?_
        rintro e w1 ⟨rfl, hw⟩
        have HX1 : Hid (Below w.heap.size w w1) := by show Below w.heap.size w w1; rw [← hw]; exact HBX.out.trans ((bel1 wx _).mono HBX.out.size)
        clear hw HBX
        go_wp2_with fail
        refine (fis_one 1 (by omega) _ _ _ (cell_n9 _ _ _)).mono ?_
        rintro e w2 ⟨rfl, hw⟩
        have HX2 : Hid (Below w.heap.size w w2) := by show Below w.heap.size w w2; rw [← hw]; exact HX1.out.trans ((bel1 w1 _).mono HX1.out.size)
        clear hw HX1
        go_wp2_with fail
        refine (fis_one 1 (by omega) _ _ _ (cell_n9 _ _ _)).mono ?_
        rintro e w3 ⟨rfl, hw⟩
        have HX3 : Hid (Below w.heap.size w w3) := by show Below w.heap.size w w3; rw [← hw]; exact HX2.out.trans ((bel1 w2 _).mono HX2.out.size)
        clear hw HX2
        go_wp2_with fail
        go_ret
        exact ⟨rfl, HX3.out⟩
      · go_wp2_with fail
        refine (fis_one 1 (by omega) _ _ _ (cell_n9 _ _ _)).mono ?_
        rintro e w1 ⟨rfl, hw⟩
        have HX1 : Hid (Below w.heap.size w w1) := by show Below w.heap.size w w1; rw [← hw]; exact HBX.out.trans ((bel1 wx _).mono HBX.out.size)
        clear hw HBX
        go_wp2_with fail
        refine (fis_one 1 (by omega) _ _ _ (cell_n9 _ _ _)).mono ?_
        rintro e w2 ⟨rfl, hw⟩
        have HX2 : Hid (Below w.heap.size w w2) := by show Below w.heap.size w w2; rw [← hw]; exact HX1.out.trans ((bel1 w1 _).mono HX1.out.size)
        clear hw HX1
        go_wp2_with fail
        refine (fis_one 1 (by omega) _ _ _ (cell_n9 _ _ _)).mono ?_
        rintro e w3 ⟨rfl, hw⟩
        have HX3 : Hid (Below w.heap.size w w3) := by show Below w.heap.size w w3; rw [← hw]; exact HX2.out.trans ((bel1 w2 _).mono HX2.out.size)
        clear hw HX2
        go_wp2_with fail
        refine (fis_one 7 (by omega) _ _ _ (cell_n9 _ _ _)).mono ?_
        rintro e w4 ⟨rfl, hw⟩
        have HX4 : Hid (Below w.heap.size w w4) := by show Below w.heap.size w w4; rw [← hw]; exact HX3.out.trans ((bel1 w3 _).mono HX3.out.size)
        clear hw HX3
        go_wp2_with fail
        go_ret
        exact ⟨rfl, HX4.out⟩
end Go.Proofs.Ytgaakpdmkgigaaa
