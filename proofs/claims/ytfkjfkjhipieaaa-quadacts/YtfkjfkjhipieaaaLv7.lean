/- The laws' example of layer 7. -/
import Derived.Test.YtfkjfkjhipieaaaQx
namespace Go.Proofs.Ytfkjfkjhipieaaa
open Go.RowKit Go.Maps
set_option maxRecDepth 100000

theorem Nx.bel {w w' : World} {sb tb most g g' c B : Nat} {N N' : List Nd} (h : Nx sb tb most w g N c w' g' N') (h1 : B ≤ sb) (h2 : B ≤ g) (h3 : B ≤ tb) (h4 : B ≤ w.heap.size) : Below B w w' ∧ B ≤ g' := by
  refine ⟨h.frm.below (fun b hb => ?_) h4, ?_⟩
  · simp only [List.mem_cons, List.not_mem_nil, or_false] at hb
    omega
  · rcases h.gin with e | e <;> omega
theorem Nx.len {w w' : World} {sb tb most g g' c : Nat} {N N' : List Nd} (h : Nx sb tb most w g N c w' g' N') : N'.length ≤ N.length + c := by
  obtain ⟨E, rfl, hE⟩ := h.ext
  rw [List.length_append]; omega
theorem em_al {N : List Nd} {n x : Nat} (h : Em N (n + 1) x) (a b : Int) : alK N n (kidZ N x) a b = false := by
  rw [al_root, h.2]
  cases inS n a <;> cases inS n b <;> rfl
theorem Nx.al {w w' : World} {sb tb most g g' c n x : Nat} {N N' : List Nd} (h : Nx sb tb most w g N c w' g' N') (hw : Wf N) (hx : Sq N (n + 1) x) (a b : Int) : alK N' n (kidZ N' x) a b = alK N n (kidZ N x) a b := by
  obtain ⟨E, rfl, _⟩ := h.ext
  rw [kid_app E hx.lt, alK_app hw E (hx.kid hw)]
theorem far_eg : Far 2 2 5 (-9) := by
  refine ⟨by decide, by decide, fun i hi => ?_⟩
  have : i = 0 ∨ i = 1 := by omega
  rcases this with rfl | rfl <;> decide
set_option maxHeartbeats 4000000 in
theorem lives7_any (w : World) : Calls Try.prog 7 #[] w fun e w' => e = .returned (.bool true) ∧ Below w.heap.size w w' := by
  go_enter Try.func7, Try.ntmps7
  go_wp2_with fail
  refine (new_good 900 (by omega) (by omega) _).mono ?_
  rintro e W1 ⟨sb, g, tb, rfl, hS, hB, l1, l2, l3⟩
  have HS := Lib.hid hS
  have HB := Lib.hid hB
  clear hS hB
  go_wp2_with fail
  refine (qnew_any HS.out).mono ?_
  rintro e W2 ⟨g2, N2, hnx, hres⟩
  have hlen := hnx.len
  simp only [N0, List.length_cons, List.length_nil] at hlen
  obtain ⟨hb2, l4⟩ := hnx.bel l1 l2 l3 HB.out.size
  have HB2 := Lib.hid (HB.out.trans hb2)
  obtain ⟨cap2, hS2⟩ := hnx.st
  have HS2 := Lib.hid hS2
  clear hnx hb2 hS2 HB HS
  unfold plV at hres
  rcases hres with ⟨r, rfl, hem, hl⟩ | ⟨rfl, hfull⟩
  · have HEM := Lib.hid hem
    have HHE := Lib.hid hl
    clear hem hl
    have HBA := Lib.hid (bel1 W2 (.cells #[.pointer (some ⟨sb, 0, none⟩), .int .u32 (r : Int)] 32))
    have HP3 := Lib.hid (Ob.new HS2.out #[.pointer (some ⟨sb, 0, none⟩), .int .u32 (r : Int)] 32)
    have HB3 := Lib.hid (HB2.out.trans (HBA.out.mono HB2.out.size))
    have HS3 := Lib.hid (HS2.out.later HBA.out)
    clear HBA HS2 HB2
    have HSE := Lib.hid (set_any (n := 2) HS3.out HEM.out.1 (by omega) (HHE.out.mono (by omega)) 5 (-9) true (by decide) far_eg)
    go_wp2_with fail
    generalize W2.alloc (.cells #[.pointer (some ⟨sb, 0, none⟩), .int .u32 (r : Int)] 32) = W3 at *
    generalize W2.heap.size = pb at *
    refine HSE.out.mono ?_
    rintro e W4 ⟨g4, N4, hnx, hres⟩
    clear HSE
    have hlen4 := hnx.len
    obtain ⟨hb4, l5⟩ := hnx.bel l1 l4 l3 HB3.out.size
    have HB4 := Lib.hid (HB3.out.trans hb4)
    obtain ⟨cap4, hS4⟩ := hnx.st
    have HS4 := Lib.hid hS4
    have HP4 := Lib.hid (HP3.out.nx hnx)
    have HR4 := Lib.hid (hnx.sq HEM.out.1)
    clear hnx hb4 hS4 HB3 HS3 HP3
    unfold plV at hres
    rcases hres with ⟨t, rfl, hsq, hal, hem⟩ | ⟨rfl, hfull⟩
    · have HSQ := Lib.hid hsq
      have HG1 : Hid (alK N4 4 (kidZ N4 t) 5 (-9) = true) := by
        show _ = _
        rw [hal]; rfl
      have HG2 : Hid (alK N4 4 (kidZ N4 t) 5 (-8) = false) := by
        show _ = _
        rw [hal]
        show (if (5 : Int) = 5 ∧ (-8 : Int) = -9 then true else alK N2 2 (kidZ N2 r) 5 (-8)) = false
        rw [if_neg (by decide)]; exact em_al HEM.out _ _
      clear hsq hal hem
      have HBA := Lib.hid (bel1 W4 (.cells #[.pointer (some ⟨sb, 0, none⟩), .int .u32 (t : Int)] 32))
      have HT5 := Lib.hid (Ob.new HS4.out #[.pointer (some ⟨sb, 0, none⟩), .int .u32 (t : Int)] 32)
      have HB5 := Lib.hid (HB4.out.trans (HBA.out.mono HB4.out.size))
      have HS5 := Lib.hid (HS4.out.later HBA.out)
      have HP5 := Lib.hid (HP4.out.later HBA.out)
      clear HBA HS4 HB4 HP4
      have htu := Sq.u32 HS5.out HSQ.out
      have hru := Sq.u32 HS5.out HR4.out
      have HLV := Lib.hid (level_any HS5.out t htu)
      rw [show lvZ N4 t = ((2 + 2 + 1 : Nat) : Int) from HSQ.out] at HLV
      go_wp2_with fail
      generalize W4.alloc (.cells #[.pointer (some ⟨sb, 0, none⟩), .int .u32 (t : Int)] 32) = W5 at *
      generalize W4.heap.size = qb5 at *
      refine HLV.out.mono ?_
      rintro e W6 ⟨rfl, rfl⟩
      clear HLV
      obtain ⟨t0, t1⟩ := pl_cells HT5.out.at_
      have HGA := Lib.hid (get_any (n := 4) HS5.out HSQ.out (by omega) 5 (-9))
      rw [HG1.out] at HGA
      go_wp2_with fail
      refine HGA.out.mono ?_
      rintro e W6 ⟨rfl, hb⟩
      have HB6 := Lib.hid (HB5.out.trans (hb.mono HB5.out.size))
      have HS6 := Lib.hid (HS5.out.later hb)
      have HP6 := Lib.hid (HP5.out.later hb)
      have HT6 := Lib.hid (HT5.out.later hb)
      clear hb HB5 HS5 HP5 HT5 HGA t0 t1
      obtain ⟨t0, t1⟩ := pl_cells HT6.out.at_
      have HGA := Lib.hid (get_any (n := 4) HS6.out HSQ.out (by omega) 5 (-8))
      rw [HG2.out] at HGA
      go_wp2_with fail
      refine HGA.out.mono ?_
      rintro e W7 ⟨rfl, hb⟩
      have HB7 := Lib.hid (HB6.out.trans (hb.mono HB6.out.size))
      have HS7 := Lib.hid (HS6.out.later hb)
      have HP7 := Lib.hid (HP6.out.later hb)
      clear hb HB6 HS6 HP6 HT6 HGA t0 t1
      obtain ⟨p0, p1⟩ := pl_cells HP7.out.at_
      have HLV := Lib.hid (level_any HS7.out r hru)
      rw [show lvZ N4 r = ((3 : Nat) : Int) from HR4.out] at HLV
      go_wp2_with fail
      refine HLV.out.mono ?_
      rintro e W8 ⟨rfl, rfl⟩
      go_wp2_with fail
      go_ret
      exact ⟨rfl, HB7.out⟩
    · exfalso
      omega
  · exfalso
    omega
end Go.Proofs.Ytfkjfkjhipieaaa
