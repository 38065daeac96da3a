/- The law BaseFours: cells; its walk. -/
import Derived.Test.YtgaakpdmkgigaaaLv9
import Derived.Test.YtgaakpdmkgigaaaNx9
namespace Go.Proofs.Ytgaakpdmkgigaaa
open Go.RowKit Go.Maps
set_option maxRecDepth 100000

theorem bit_16 (f k : Nat) : (f / 2 ^ k % 2 = 1) ↔ f.testBit k = true := by rw [Nat.testBit_eq_decide_div_mod_eq, decide_eq_true_eq]
theorem cells16_any (f : Nat) (hf : f < 65536) (w : World) : Calls Try.prog 7 #[.int .u16 (f : Int)] w fun e w' => ∃ v, e = .returned v ∧ OwP w' w.heap.size v (cells16 f) ∧ Below w.heap.size w w' := by
  obtain ⟨i0, hi, hz0, hz1, hz2⟩ := infoP7
  have HI := Lib.hid hi
  have HZ0 := Lib.hid hz0
  have HZ1 := Lib.hid hz1
  have HZ2 := Lib.hid hz2
  clear hi hz0 hz1 hz2
  go_enter Try.func7, Try.ntmps7
  go_wp2_with fail
  go_loopg [3, 4, 5] 16 (fun m v3 v4 cnt wr => ∃ j : Nat, m = 16 - j ∧ j ≤ 16 ∧ cnt = .int .i64 (j : Int) ∧ OwP wr w.heap.size v3 (((List.range j).filter fun i => f.testBit i).map fun i => (((i % 4 : Nat) : Int), ((i / 4 : Nat) : Int))) ∧ Below w.heap.size w wr)
  case atStart => exact ⟨0, rfl, Nat.zero_le _, rfl, own_nil _ _, Below.refl _ _⟩
  case round =>
    obtain ⟨j, hm, hj, rfl, ho, hb⟩ := hrel
    have HM := Lib.hid hm
    have HO := Lib.hid ho
    have HB := Lib.hid hb
    clear hm ho hb
    by_cases hlt : j < 16
    · have hgj : decide ((j : Int) < 16) = true := by simp; omega
      have hbt := bit_u16 f j hf
      have HFL : Hid ((((List.range (j + 1)).filter fun i => f.testBit i).map fun i => (((i % 4 : Nat) : Int), ((i / 4 : Nat) : Int))) = (((List.range j).filter fun i => f.testBit i).map fun i => (((i % 4 : Nat) : Int), ((i / 4 : Nat) : Int))) ++ if f.testBit j then [((j : Int) % 4, (j : Int) / 4)] else []) := by
        show _ = _
        rw [List.range_succ, List.filter_append, List.map_append]
        congr 1
        cases h : f.testBit j <;> simp [List.filter, h]
      have hlen : ((((List.range j).filter fun i => f.testBit i).map fun i => (((i % 4 : Nat) : Int), ((i / 4 : Nat) : Int))) : List (Int × Int)).length ≤ 16 := by
        rw [List.length_map]
        exact Nat.le_trans (List.length_filter_le _ _) (by simp; omega)
      generalize (((List.range j).filter fun i => f.testBit i).map fun i => (((i % 4 : Nat) : Int), ((i / 4 : Nat) : Int))) = F at *
      cases hbj : f.testBit j with
      | false =>
        rw [hbj] at hbt HFL
        clear hbj
        go_wp2_with fail
        go_roundg (16 - (j + 1))
        case measure => rw [HM.out]; omega
        case rel =>
          refine ⟨j + 1, rfl, by omega, by go_num, ?_, HB.out⟩
          rw [HFL.out]
          simp only [Bool.false_eq_true, if_false, List.append_nil]
          exact HO.out
      | true =>
        rw [hbj] at hbt HFL
        clear hbj
        go_wp2_with (at_builtin; refine wpList_append_own_at _ rfl _ _ 26 rfl w.heap.size 32 i0 (.agg #[.int .i64 0, .int .i64 0]) 2 16 Try.underlying26 HI.out HZ0.out HZ1.out HZ2.out rfl (by decide) _ _ _ rfl (World.ownsRow.alloc HO.out _) ⟨wr.heap.size, 0, none⟩ 1 1 [.int .i64 ((j : Int) % 4), .int .i64 ((j : Int) / 4)] rfl rfl ?_ ?_ ?_ ?_ ?_ ?_; (exact cell_pair _ _ _ _); (intro u hu; simp at hu; rcases hu with rfl | rfl <;> rfl); (unfold maxLen; omega); (omega); (have := HB.out.size; simp; omega); intro v' w7 hown4 hgrow _ hat; have HG := Lib.hid hgrow; have HO4 := Lib.hid hown4; clear hgrow hown4 hat)
        have HB7 := Lib.hid ((HB.out.alloc HB.out.size (.cells #[.int .i64 ((j : Int) % 4), .int .i64 ((j : Int) / 4)] 32)).grown HG.out (by have := HB.out.size; simp; omega) (fun k hk => (World.ownsRow.lt HO.out k hk).1))
        go_roundg (16 - (j + 1))
        case measure => rw [HM.out]; omega
        case rel =>
          refine ⟨j + 1, rfl, by omega, by go_num, ?_, HB7.out⟩
          rw [HFL.out]
          simp only [if_true]
          unfold OwP
          rw [ptVs_snoc, List.length_append]
          exact HO4.out
    · obtain rfl : j = 16 := by omega
      have hgj : decide (((16 : Nat) : Int) < 16) = false := by simp
      go_wp2_with fail
      go_ret
      exact ⟨_, rfl, HO.out, HB.out⟩
theorem mid16 (f : Nat) : Mid (cells16 f) := by
  intro c hc
  unfold cells16 at hc
  simp only [List.mem_map, List.mem_filter, List.mem_range] at hc
  obtain ⟨i, ⟨hi, _⟩, rfl⟩ := hc
  refine ⟨?_, ?_, ?_, ?_⟩ <;> simp only <;> omega
theorem mem_out16 {f : Nat} {x y : Int} (h : x < 0 ∨ 4 ≤ x ∨ y < 0 ∨ 4 ≤ y) : (x, y) ∉ cells16 f := by
  intro hc
  unfold cells16 at hc
  simp only [List.mem_map, List.mem_filter, List.mem_range, Prod.mk.injEq] at hc
  obtain ⟨i, ⟨hi, _⟩, h1, h2⟩ := hc
  omega
theorem at_any9 (f : Nat) (hf : f < 65536) (x y : Int) (w : World) : Calls Try.prog 8 #[.int .u16 (f : Int), .int .i64 x, .int .i64 y] w fun e w' => e = .returned (.bool (decide ((x, y) ∈ cells16 f))) ∧ w = w' := by
  by_cases h : x < 0 ∨ 4 ≤ x ∨ y < 0 ∨ 4 ≤ y
  · rw [decide_eq_false (mem_out16 h)]
    exact at_out f x y h w
  · obtain ⟨a, rfl⟩ : ∃ n : Nat, x = (n : Int) := ⟨x.toNat, by omega⟩
    obtain ⟨b, rfl⟩ : ∃ n : Nat, y = (n : Int) := ⟨y.toNat, by omega⟩
    have hm := mem16 (f := f) (i := 4 * b + a) (by omega)
    rw [show (4 * b + a) % 4 = a by omega, show (4 * b + a) / 4 = b by omega] at hm
    rw [show decide (((a : Int), (b : Int)) ∈ cells16 f) = f.testBit (4 * b + a) by rw [Bool.eq_iff_iff, decide_eq_true_eq]; exact hm]
    exact at_in f hf a b (by omega) (by omega) w
theorem frm_belf {w0 w1 w2 : World} {sb g tb : Nat} (h : Below w0.heap.size w0 w1) (h1 : w0.heap.size ≤ sb ∧ w0.heap.size ≤ g ∧ w0.heap.size ≤ tb) (hf : Frm [sb, g, tb] w1 w2) : Below w0.heap.size w0 w2 := by
  refine h.trans (hf.below (fun b hb => ?_) h.size)
  simp only [List.mem_cons, List.not_mem_nil, or_false] at hb
  rcases hb with e | e | e <;> omega
theorem keptf {w w' : World} {b : Nat} {o : Obj} (h : w.heap[b]? = some o) (hb : Below w.heap.size w w') : w'.heap[b]? = some o := by
  rw [hb.block b (Array.getElem?_eq_some_iff.1 h).1]; exact h
def bO6 (f : Nat → Bool) : Obj := .cells #[.bool (f 0), .bool (f 1), .bool (f 2), .bool (f 3)] 34
set_option maxHeartbeats 4000000 in
theorem bfours_any (f : Nat) (hf : f < 65536) (x y : Int) (hx : -128 ≤ x ∧ x ≤ 127) (hy : -128 ≤ y ∧ y ≤ 127) (w : World) :
    Calls Try.prog 3 #[.int .u16 (f : Int), .int .i8 x, .int .i8 y] w fun e w' => e = .returned (.bool true) ∧ Below w.heap.size w w' := by
  have HF := Lib.hid hf
  have HXY := Lib.hid (And.intro hx hy)
  clear hf hx hy
  go_enter Try.func3, Try.ntmps3
  go_wp2_with fail
  refine (lives9_any _).mono ?_
  rintro e W1 ⟨rfl, hb⟩
  have HB1 := Lib.hid hb
  clear hb
  go_wp2_with fail
  refine (cells16_any f HF.out _).mono ?_
  rintro e W2 ⟨vl, rfl, ho, hb⟩
  obtain ⟨la, lcap, hle, hlr, _⟩ := ho.ro
  subst hle
  have HL2 := Lib.hid hlr
  have HB2 := Lib.hid (HB1.out.trans (hb.mono HB1.out.size))
  clear hb ho hlr HB1
  go_wp2_with fail
  go_loopg [9, 29] 16 (fun m v9 cnt wr => ∃ j : Nat, m = 16 - j ∧ j ≤ 16 ∧ cnt = .int .i64 (j : Int) ∧ Below W2.heap.size W2 wr)
  case atStart => exact ⟨0, rfl, Nat.zero_le _, rfl, Below.refl _ _⟩
  case round =>
    obtain ⟨j, hm, hj, rfl, hb⟩ := hrel
    have HM := Lib.hid hm
    have HB3 := Lib.hid hb
    clear hm hb
    by_cases hlt : j < 16
    · have hgj : decide ((j : Int) < 16) = true := by simp; omega
      have hbt := bit_u16 f j HF.out
      have hat := at_in f HF.out (j % 4) (j / 4) (by omega) (by omega)
      rw [show 4 * (j / 4) + j % 4 = j by omega, show ((j % 4 : Nat) : Int) = (j : Int) % 4 by omega, show ((j / 4 : Nat) : Int) = (j : Int) / 4 by omega] at hat
      rw [show (j : Int) % 4 = (j : Int).tmod 4 from (Int.tmod_eq_emod_of_nonneg (by omega)).symm, show (j : Int) / 4 = IntKind.i64.wrap ((j : Int) / 4) from (IntWalk.i64_in _ (by omega)).symm] at hat
      have HAT := Lib.hid hat
      clear hat
      have t5 : (f.testBit j != f.testBit j) = false := by simp
      generalize f.testBit j = bj at *
      go_wp2_with fail
      go_region_with (first | (go_at_call 8; with_reducible refine (HAT.out _).mono ?_; rintro e w9 ⟨rfl, rfl⟩) | fail)
      go_wp2_with fail
      go_roundg (16 - (j + 1))
      case measure => rw [HM.out]; omega
      case rel => exact ⟨j + 1, rfl, by omega, by go_num, below_drewN HB3.out _⟩
    · obtain rfl : j = 16 := by omega
      have hgj : decide (((16 : Nat) : Int) < 16) = false := by simp
      have HL3 := Lib.hid (HL2.out.later HB3.out)
      have HB4 := Lib.hid (HB2.out.trans (HB3.out.mono HB2.out.size))
      clear HL2 HB3 HB2
      obtain ⟨⟨x1, x2⟩, y1, y2⟩ := HXY.out
      have w1 : IntKind.i64.wrap x = x := IntWalk.i64_in _ (by omega)
      have w2 : IntKind.i64.wrap y = y := IntWalk.i64_in _ (by omega)
      have w3 : ∀ b : Bool, (b != b) = false := fun b => by simp
      generalize wr = W3 at *
      go_wp2_with fail
      refine (at_any9 f HF.out x y _).mono ?_
      rintro e w4 ⟨rfl, rfl⟩
      generalize hdm : decide ((x, y) ∈ cells16 f) = bd at *
      have HDM := Lib.hid hdm
      clear hdm
      go_wp2_with fail
      refine (has_refB (cells16 f) la lcap x y _ HL3.out (by have := len16 f; omega)).mono ?_
      rintro e w4 ⟨rfl, hb4⟩
      rw [HDM.out]
      have HL4 := Lib.hid (HL3.out.later hb4)
      have HB5 := Lib.hid (HB4.out.trans (hb4.mono HB4.out.size))
      clear hb4 HL3 HB4
      have w4' := w3 bd
      go_wp2_with fail
      refine (next_ref (cells16 f) la lcap _ HL4.out (by have := len16 f; omega) (mid16 f)).mono ?_
      rintro e w5 ⟨vn, L, rfl, hon, hLn, hLm, hLl, hb5⟩
      obtain ⟨na, ncap, hne, hnr, _⟩ := hon.ro
      subst hne
      have HN5 := Lib.hid hnr
      have HLM := Lib.hid hLm
      have HLL : Hid (L.length ≤ 1000) := by have := len16 f; show L.length ≤ 1000; omega
      have HB6 := Lib.hid (HB5.out.trans (hb5.mono HB5.out.size))
      clear hon hLn hLm hLl hb5 hnr HL4 HB5 w1 w2 w3 w4'
      go_wp2_with fail
      refine (inner_any f HF.out _).mono ?_
      rintro e w6 ⟨rfl, hb6⟩
      have HN6 := Lib.hid ((HN5.out.later hb6).later (bel1 w6 (bO6 (innF f))))
      have HB7 := Lib.hid ((HB6.out.trans (hb6.mono HB6.out.size)).trans ((bel1 w6 (bO6 (innF f))).mono (Nat.le_trans HB6.out.size hb6.size)))
      have HI6 : Hid ((w6.alloc (bO6 (innF f))).heap[w6.heap.size]? = some (bO (innF f))) := heap_alloc_new w6 (bO6 (innF f))
      clear hb6 HN5 HB6
      unfold bV
      go_wp2_with fail
      have HI6' : Hid (Below (w6.alloc (bO6 (innF f))).heap.size (w6.alloc (bO6 (innF f))) (w6.alloc (bO6 (innF f)))) := Below.refl _ _
      have hlt6 : w6.heap.size < (w6.alloc (bO6 (innF f))).heap.size := by simp
      unfold bO6 at *
      generalize w6.alloc (.cells #[.bool (innF f 0), .bool (innF f 1), .bool (innF f 2), .bool (innF f 3)] 34) = W6 at *
      generalize w6.heap.size = ib at *
      clear HI6' hlt6
      refine (new_good 100 (by omega) (by omega) _).mono ?_
      rintro e W7 ⟨sb, g, tb, rfl, hS, hB, l1, l2, l3⟩
      have HS7 := Lib.hid hS
      have HC7 := Lib.hid hB
      have HLL7 : Hid (W6.heap.size ≤ sb ∧ W6.heap.size ≤ g ∧ W6.heap.size ≤ tb) := ⟨l1, l2, l3⟩
      clear hS hB l1 l2 l3
      go_wp2_with fail
      refine (sqr_any HS7.out f HF.out).mono ?_
      rintro e W8 ⟨g8, N8, hnx, hres⟩
      have HN8 := Lib.hid hnx
      clear hnx
      rcases hres with ⟨sq, rfl, hsq⟩ | ⟨rfl, -, hfull⟩
      case inr => exact absurd hfull (by decide)
      have HFR := Lib.hid hsq
      have HSQ := Lib.hid hsq.1
      clear hsq
      obtain ⟨cap8, hS8⟩ := HN8.out.st
      have HS8 := Lib.hid hS8
      have hsu := Sq.u32 hS8 HSQ.out
      clear hS8
      have HC8 := Lib.hid (frm_belf HC7.out HLL7.out HN8.out.frm)
      have HL8 : Hid (N8.length ≤ 7) := by obtain ⟨E, hE, hEl⟩ := HN8.out.ext; show N8.length ≤ 7; rw [hE, List.length_append]; show 2 + E.length ≤ 7; omega
      have HG8 : Hid (W6.heap.size ≤ sb ∧ W6.heap.size ≤ g8 ∧ W6.heap.size ≤ tb) := by
        have h1 := HN8.out.gin
        have h2 := HC7.out.size
        obtain ⟨a, b, c⟩ := HLL7.out
        exact ⟨a, by omega, c⟩
      clear HN8 HS7 HC7 HLL7
      go_wp2_with fail
      refine (read_any HS8.out HSQ.out).mono ?_
      rintro e W9 ⟨f2, hrd, rfl, hb9⟩
      obtain rfl : f2 = f := hrd.uniq (HFR.out.rd HF.out)
      have HRD := Lib.hid hrd
      have HS9 := Lib.hid (HS8.out.later hb9)
      have HC9 := Lib.hid (HC8.out.trans (hb9.mono HC8.out.size))
      clear hrd hb9 HS8 HC8
      go_wp2_with fail
      refine (next_any HS9.out HSQ.out).mono ?_
      rintro e W10 ⟨g10, N10, f3, hrd3, hnx, hres⟩
      obtain rfl : f3 = f2 := hrd3.uniq HRD.out
      have HN10 := Lib.hid hnx
      have HL10 : Hid (N10.length ≤ 8) := by obtain ⟨E, hE, hEl⟩ := hnx.ext; have := HL8.out; show N10.length ≤ 8; rw [hE, List.length_append]; omega
      clear hnx hrd3
      rcases hres with ⟨md, rfl, hmd, hkd, _⟩ | ⟨rfl, hfull⟩
      case inr => exact absurd (Nat.le_trans hfull HL10.out) (by decide)
      have HMD := Lib.hid hmd
      have HKD := Lib.hid hkd
      clear hmd hkd
      obtain ⟨cap10, hS10⟩ := HN10.out.st
      have HS10 := Lib.hid hS10
      have hmu := Sq.u32 hS10 HMD.out
      clear hS10
      have HSQ10 : Hid (Sq N10 2 sq) := by obtain ⟨E, hE, _⟩ := HN10.out.ext; show Sq N10 2 sq; rw [hE]; exact HSQ.out.app E
      have HC10 := Lib.hid (frm_belf HC9.out HG8.out HN10.out.frm)
      clear HN10 HS9 HC9 HG8 HL8
      go_wp2_with fail
      refine (of_sqk HS10.out HMD.out).mono ?_
      rintro e W11 ⟨rfl, hb11⟩
      rw [HKD.out]
      have HC12 := Lib.hid ((HC10.out.trans (hb11.mono HC10.out.size)).trans ((bel1 W11 (.cells #[.int .u32 ((nK f3).1 : Int), .int .u32 ((nK f3).2.1 : Int), .int .u32 ((nK f3).2.2.1 : Int), .int .u32 ((nK f3).2.2.2 : Int)] 49)).mono (Nat.le_trans HC10.out.size hb11.size)))
      have HS12 := Lib.hid ((HS10.out.later hb11).later (bel1 W11 (.cells #[.int .u32 ((nK f3).1 : Int), .int .u32 ((nK f3).2.1 : Int), .int .u32 ((nK f3).2.2.1 : Int), .int .u32 ((nK f3).2.2.2 : Int)] 49)))
      have HK12 : Hid ((W11.alloc (.cells #[.int .u32 ((nK f3).1 : Int), .int .u32 ((nK f3).2.1 : Int), .int .u32 ((nK f3).2.2.1 : Int), .int .u32 ((nK f3).2.2.2 : Int)] 49)).heap[W11.heap.size]? = some (kO (nK f3))) := heap_alloc_new W11 _
      clear hb11 HS10 HC10
      go_wp2_with fail
      generalize W11.alloc (.cells #[.int .u32 ((nK f3).1 : Int), .int .u32 ((nK f3).2.1 : Int), .int .u32 ((nK f3).2.2.1 : Int), .int .u32 ((nK f3).2.2.2 : Int)] 49) = W12 at *
      generalize W11.heap.size = kb at *
      clear W11
      go_loopg [22, 23, 91] 4 (fun m v22 v23 cnt wr => ∃ j : Nat, m = 4 - j ∧ j ≤ 4 ∧ cnt = .int .i64 (j : Int) ∧ Below W12.heap.size W12 wr)
      case atStart => exact ⟨0, rfl, Nat.zero_le _, rfl, Below.refl _ _⟩
      case round =>
        obtain ⟨j, hm, hj, rfl, hb⟩ := hrel
        have HM2 := Lib.hid hm
        have HBW := Lib.hid hb
        clear hm hb
        have HC13 := Lib.hid (HC12.out.trans (HBW.out.mono HC12.out.size))
        by_cases hlt : j < 4
        · have hgj2 : decide ((j : Int) < 4) = true := by simp; omega
          have HN13 := Lib.hid (HN6.out.later HC13.out)
          have HI13 := Lib.hid (keptf HI6.out HC13.out)
          have HK13 := Lib.hid (keptf HK12.out HBW.out)
          have hmem : decide ((1 + (j : Int) % 2, 1 + (j : Int) / 2) ∈ L) = innF f3 j := by
            rw [Bool.eq_iff_iff, decide_eq_true_eq, HLM.out]
            have := inn16 f3 hlt
            rw [show ((1 + j % 2 : Nat) : Int) = 1 + (j : Int) % 2 by omega, show ((1 + j / 2 : Nat) : Int) = 1 + (j : Int) / 2 by omega] at this
            rw [this]
          have HMEM := Lib.hid hmem
          clear hmem
          go_wp2_with fail
          refine (has_refB L na ncap _ _ _ HN13.out (by have := HLL.out; omega)).mono ?_
          rintro e w14 ⟨rfl, hb14⟩
          rw [HMEM.out]
          have HBW2 := Lib.hid (HBW.out.trans (hb14.mono HBW.out.size))
          obtain ⟨t1, _⟩ := b_cell (keptf HI13.out hb14) hlt
          obtain ⟨t3, _⟩ := k_cell (keptf HK13.out hb14) hlt
          clear hb14 HN13 HI13 HK13 HC13 HBW
          have hkv : kAt (nK f3) j = if innF f3 j then 1 else 0 := by unfold nK; rw [kAt_mk4 _ hlt]
          rw [hkv] at t3
          clear hkv
          have i3 : (0 : Int) ≤ (j : Int) := by omega
          have i4 : (j : Int) < 4 := by omega
          generalize innF f3 j = bi at *
          cases bi with
          | false =>
            simp only [Bool.false_eq_true, if_false] at t3
            go_wp2_with fail
            go_roundg (4 - (j + 1))
            case measure => rw [HM2.out]; omega
            case rel => exact ⟨j + 1, rfl, by omega, by go_num, HBW2.out⟩
          | true =>
            simp only [if_true] at t3
            go_wp2_with fail
            go_roundg (4 - (j + 1))
            case measure => rw [HM2.out]; omega
            case rel => exact ⟨j + 1, rfl, by omega, by go_num, HBW2.out⟩
        · obtain rfl : j = 4 := by omega
          have hgj2 : decide (((4 : Nat) : Int) < 4) = false := by simp
          have HS13 := Lib.hid (HS12.out.later HBW.out)
          have HL1 := Lib.hid (level_any HS13.out sq hsu)
          have HL2 := Lib.hid (level_any HS13.out md hmu)
          rw [show lvZ N10 sq = ((2 : Nat) : Int) from HSQ10.out] at HL1
          rw [show lvZ N10 md = ((1 : Nat) : Int) from HMD.out] at HL2
          have hff : ((f3 : Int) == (f3 : Int)) = true := by simp
          have HBE := Lib.hid (HB7.out.trans (HC13.out.mono HB7.out.size))
          clear HBW HC13 HC12 HS12 HS13
          go_wp2_with fail
          refine HL1.out.mono ?_
          rintro e w15 ⟨rfl, rfl⟩
          go_wp2_with fail
          refine HL2.out.mono ?_
          rintro e w15 ⟨rfl, rfl⟩
          go_wp2_with fail
          go_ret
          exact ⟨rfl, HBE.out⟩
theorem bfours_walk (f : Int) (wf : (Lit.int .u16 f).wf = true) (x : Int) (wx : (Lit.int .i8 x).wf = true) (y : Int) (wy : (Lit.int .i8 y).wf = true) (w : World) :
    Calls Try.prog 3 #[.int .u16 f, .int .i8 x, .int .i8 y] w fun e w' => e = .returned (.bool true) ∧ Below w.heap.size w w' := by
  simp [Lit.wf, IntKind.min, IntKind.max, IntKind.signed, IntKind.bits] at wf wx wy
  obtain ⟨f, rfl⟩ : ∃ n : Nat, f = (n : Int) := ⟨f.toNat, by omega⟩
  exact bfours_any f (by omega) x y (by omega) (by omega) w
end Go.Proofs.Ytgaakpdmkgigaaa
