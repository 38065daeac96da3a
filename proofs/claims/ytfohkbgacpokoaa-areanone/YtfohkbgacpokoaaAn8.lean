/- The law AreaNone: its walk. -/
import Derived.Test.YtfohkbgacpokoaaLv8
import Derived.Test.YtfohkbgacpokoaaNed8
import Derived.Test.YtfohkbgacpokoaaFis
namespace Go.Proofs.Ytfohkbgacpokoaa
open Go.RowKit Go.Maps
set_option maxRecDepth 100000

theorem cell_n0 (w : World) (v : Value) (t : TypeId) : (w.alloc (.cells #[v] t)).cell? ⟨w.heap.size, 0, none⟩ = some v := by simp
theorem rect55 (a b : Int) (ha : -1000 < a ∧ a < 1000) (hb : -1000 < b ∧ b < 1000) : rightR a b (a + 5) (b + 5) = true ∧ (R4.mk a b (a + 5) (b + 5)).no = false := by
  refine ⟨?_, ?_⟩
  · unfold rightR noPts onP
    simp only [Bool.and_eq_true, Bool.not_eq_true', Bool.or_eq_false_iff, decide_eq_true_eq, decide_eq_false_iff_not]
    omega
  · rw [R4.no_not]; simp only; omega
/-- There is no room for five by five cells beside four squares without living cells. -/
theorem fill_full {w : World} {sb g tb cap : Nat} {N : List Nd} (h : St w sb g tb cap 9 N) {x : Nat} (hx : Em N 3 x) (hE : HasEm N 3) (a b : Int) (ha : -1000 < a ∧ a < 1000) (hb : -1000 < b ∧ b < 1000) :
    Calls Try.prog 7 #[.agg #[.pointer (some ⟨sb, 0, none⟩), .int .u32 (x : Int)], .agg #[.int .i64 a, .int .i64 b, .int .i64 (a + 5), .int .i64 (b + 5)], .bool true] w fun e w' => e = .returned (.tuple #[.agg #[.pointer none, .int .u32 0], .iface 55 (.int .i64 7)]) ∧ ∃ g' N', Nx sb tb 9 w g N N'.length w' g' N' := by
  obtain ⟨hr, hno⟩ := rect55 a b ha hb
  refine (fill8_any h (n0 := 2) hx.1 (by omega) ⟨a, b, a + 5, b + 5⟩ hr true).mono ?_
  rintro e w' ⟨g', N', n, ⟨l1, l2, l3, _⟩, hnx, hnew, hres⟩
  rcases hres with ⟨y, rfl, hc⟩ | ⟨rfl, _⟩
  · exfalso
    obtain ⟨cap', hs⟩ := hnx.st
    obtain ⟨E, hE', _⟩ := hnx.ext
    have hE2 : HasEm N' 3 := by rw [hE']; exact hE.app h.wf E
    have hroom := hs.room
    have h2 := pow_two2 n
    obtain ⟨⟨i1, i2⟩, i3, i4⟩ := l3
    have := need10 hs.wf hE2 hc.1 l1 (a + 2 ^ n) (b + 2 ^ n) (by simp only at i1 i2; omega) (by simp only at i3 i4; omega) (fun X Y hX hY => by
      rw [hc.2 X Y hX hY]
      unfold Fp shR
      rw [em_al8 hx]
      simp only
      rw [show a + 5 + 2 ^ n = a + 2 ^ n + 5 by omega, show b + 5 + 2 ^ n = b + 2 ^ n + 5 by omega]
      rfl)
    omega
  · exact ⟨rfl, g', N', hnx⟩
theorem tmod_rng (x : Int) : -1000 < x.tmod 1000 ∧ x.tmod 1000 < 1000 := by
  have h1 := Int.tmod_lt_of_pos x (show (0 : Int) < 1000 by decide)
  have h2 := Int.tmod_lt_of_pos (-x) (show (0 : Int) < 1000 by decide)
  rw [Int.neg_tmod] at h2
  omega
set_option maxHeartbeats 8000000 in
theorem anone_any (x y m : Int) (hm : -9223372036854775808 ≤ m ∧ m ≤ 9223372036854775807) (w : World) : Calls Try.prog 4 #[.agg #[.int .i64 x, .int .i64 y], .int .i64 m] w fun e w' => e = .returned (.bool true) ∧ Below w.heap.size w w' := by
  have HB := Lib.hid (bel1 w (.cells #[.int .i64 x, .int .i64 y] 23))
  have HQ : Hid ((w.alloc (.cells #[.int .i64 x, .int .i64 y] 23)).heap[w.heap.size]? = some (ptO x y)) := heap_alloc_new _ _
  have HLI := Lib.hid (fun W => lives8_any W)
  have HR2 := Lib.hid (fun W => rect8_any 0 0 2 2 (by unfold I64; omega) (by unfold I64; omega) W)
  rw [show (0 : Int) + 2 = 2 from rfl] at HR2
  have HF0 := Lib.hid (fun W => fill8_nil ⟨0, 0, 2, 2⟩ true W)
  have HP0 := Lib.hid (fun W => paste_nil8 W)
  have HC0 := Lib.hid (fun W => cells_nil8 W)
  have HBN := Lib.hid (fun W => box8_nil W)
  have HPN := Lib.hid (fun W => plane8_any W)
  go_enter Try.func4, Try.ntmps4
  go_wp2_with fail
  generalize w.alloc (.cells #[.int .i64 x, .int .i64 y] 23) = W0 at *
  refine (HLI.out _).mono ?_
  rintro e W1 ⟨rfl, hb⟩
  have HB1 := Lib.hid (HB.out.trans (hb.mono HB.out.size))
  have HQ1 := Lib.hid (keep8 HQ.out hb)
  clear hb HB HQ HLI
  go_wp2_with fail
  refine (HR2.out _).mono ?_
  rintro e W2 ⟨rfl, hb⟩
  have HB2 := Lib.hid (HB1.out.trans (hb.mono HB1.out.size))
  have HQ2 := Lib.hid (keep8 HQ1.out hb)
  clear hb HB1 HQ1 HR2
  go_wp2_with fail
  refine (HF0.out _).mono ?_
  rintro e W3 ⟨rfl, hb⟩
  have hb3 := hb.trans ((bel1 W3 (.cells #[.pointer none, .int .u32 0] 31)).mono hb.size)
  have HB3 := Lib.hid (HB2.out.trans (hb3.mono HB2.out.size))
  have HQ3 := Lib.hid (keep8 HQ2.out hb3)
  clear hb hb3 HB2 HQ2 HF0
  go_wp2_with fail
  generalize W3.alloc (.cells #[.pointer none, .int .u32 0] 31) = W4 at *
  refine (HP0.out _).mono ?_
  rintro e W5 ⟨rfl, hb⟩
  have hb3 := hb.trans ((bel1 W5 (.cells #[.pointer none, .int .u32 0] 31)).mono hb.size)
  have HB5 := Lib.hid (HB3.out.trans (hb3.mono HB3.out.size))
  have HQ5 := Lib.hid (keep8 HQ3.out hb3)
  clear hb hb3 HB3 HQ3 HP0
  go_wp2_with fail
  generalize W5.alloc (.cells #[.pointer none, .int .u32 0] 31) = W6 at *
  refine (HC0.out _).mono ?_
  rintro e W7 ⟨rfl, hb⟩
  have HB7 := Lib.hid (HB5.out.trans (hb.mono HB5.out.size))
  have HQ7 := Lib.hid (keep8 HQ5.out hb)
  clear hb HB5 HQ5 HC0
  go_wp2_with fail
  refine (HPN.out _).mono ?_
  rintro e W8 ⟨sb, g, tb, cap, x1, N, rfl, hS, hem, hlen, hb, l1, l2, l3⟩
  have HB8 := Lib.hid (HB7.out.trans (hb.mono HB7.out.size))
  have HQ8 := Lib.hid (keep8 HQ7.out hb)
  have HCN : Hid (∀ M : Int, M < 0 → Calls Try.prog 15 #[.agg #[.pointer (some ⟨sb, 0, none⟩), .int .u32 (x1 : Int)], .agg #[.int .i64 0, .int .i64 0, .int .i64 0, .int .i64 0], .int .i64 M] W8 fun e w' => e = .returned (.tuple #[.slice none 0 0, .iface 55 (.int .i64 1)]) ∧ Below W8.heap.size W8 w') := fun M hM => cells_neg8 hS x1 (Sq.u32 hS hem.1) M hM
  clear hS hem hb l1 l2 l3 HB7 HQ7 HPN hlen
  go_wp2_with fail
  all_goals
    refine (HCN.out _ (by omega)).mono ?_
    rintro e W9 ⟨rfl, hb⟩
    have HB9 := Lib.hid (HB8.out.trans (hb.mono HB8.out.size))
    have HQ9 := Lib.hid (keep8 HQ8.out hb)
    clear hb HB8 HQ8 HCN
    go_wp2_with fail
    refine (HBN.out _).mono ?_
    rintro e WA ⟨rfl, hb⟩
    have hb3 := hb.trans ((bel1 WA (.cells #[.int .i64 0, .int .i64 0, .int .i64 0, .int .i64 0] 26)).mono hb.size)
    have HBA := Lib.hid (HB9.out.trans (hb3.mono HB9.out.size))
    have HQA := Lib.hid (keep8 HQ9.out hb3)
    clear hb hb3 HB9 HQ9 HBN
    go_wp2_with fail
    generalize WA.alloc (.cells #[.int .i64 0, .int .i64 0, .int .i64 0, .int .i64 0] 26) = WB at *
    refine (new_good 9 (by omega) (by omega) _).mono ?_
    rintro e WC ⟨sb2, gb2, tb2, rfl, hS, hb, l1, l2, l3⟩
    have HBC := Lib.hid (HBA.out.trans (hb.mono HBA.out.size))
    have HQC := Lib.hid (keep8 HQA.out hb)
    have hsz := HBA.out.size
    have HSC := Lib.hid hS
    have HGE : Hid (w.heap.size + 1 ≤ sb2 ∧ w.heap.size + 1 ≤ gb2 ∧ w.heap.size + 1 ≤ tb2) := by
      show _ ∧ _
      have := (Array.getElem?_eq_some_iff.1 HQA.out).1
      omega
    clear hb hS l1 l2 l3 HBA HQA hsz
    go_wp2_with fail
    refine (qnew_any HSC.out).mono ?_
    rintro e WD ⟨gb3, N3, hnx, hres⟩
    have hlen := nx_len8 hnx
    simp only [N0, List.length_cons, List.length_nil] at hlen
    have hge := HGE.out
    obtain ⟨hb2, l4⟩ := nx_bel8 (B := w.heap.size + 1) hnx hge.1 hge.2.1 hge.2.2 (by have := (Array.getElem?_eq_some_iff.1 HQC.out).1; omega)
    have hlp : Lp w sb2 gb3 tb2 9 N3 WD := ⟨hnx.st, HBC.out.trans (hb2.mono (Nat.le_succ _)), by omega, by omega, by omega⟩
    have HLP := Lib.hid hlp
    have hq1 : WD.heap[w.heap.size]? = some (ptO x y) := by rw [hb2.block _ (Nat.lt_succ_self _)]; exact HQC.out
    have HQD : Hid (Ob WD sb2 gb3 tb2 w.heap.size (ptO x y)) := ⟨hq1, by omega, by omega, by omega⟩
    clear hnx hb2 hlp hq1 HSC HBC HQC hge l4
    unfold plV at hres
    rcases hres with ⟨r, rfl, hem, hhe⟩ | ⟨_, hfull⟩
    · have HFF : Hid (∀ (a b : Int), (-1000 < a ∧ a < 1000) → (-1000 < b ∧ b < 1000) → ∀ W, Lp w sb2 gb3 tb2 9 N3 W → Calls Try.prog 7 #[.agg #[.pointer (some ⟨sb2, 0, none⟩), .int .u32 (r : Int)], .agg #[.int .i64 a, .int .i64 b, .int .i64 (a + 5), .int .i64 (b + 5)], .bool true] W fun e w' => e = .returned (.tuple #[.agg #[.pointer none, .int .u32 0], .iface 55 (.int .i64 7)]) ∧ ∃ g' N', Nx sb2 tb2 9 W gb3 N3 N'.length w' g' N') := fun a b ha hb W hW => by
        obtain ⟨cap', hs⟩ := hW.st
        exact fill_full hs hem hhe a b ha hb
      clear hem hhe
      have HP1 := Lib.hid (ob_new8 HLP.out #[.pointer (some ⟨sb2, 0, none⟩), .int .u32 (r : Int)] 31)
      have HBP := Lib.hid (bel1 WD (.cells #[.pointer (some ⟨sb2, 0, none⟩), .int .u32 (r : Int)] 31))
      have HL1 := Lib.hid (HLP.out.later HBP.out)
      have HQ1 := Lib.hid (HQD.out.later HBP.out)
      have hpb : w.heap.size < WD.heap.size := HQD.out.lt
      clear HLP HQD
      go_upto_region 10 with fail
      generalize WD.alloc (.cells #[.pointer (some ⟨sb2, 0, none⟩), .int .u32 (r : Int)] 31) = WE at *
      generalize WD.heap.size = pb at *
      obtain ⟨p0, p1⟩ := pl_cells HP1.out.at_
      obtain ⟨q0, q1⟩ := pt_cells HQ1.out.at_
      have hx := tmod_rng x
      have hy := tmod_rng y
      have HRE := Lib.hid (fun W => rect8_any (x.tmod 1000) (y.tmod 1000) 5 5 (by unfold I64; omega) (by unfold I64; omega) W)
      have HFL := Lib.hid (HFF.out _ _ hx hy)
      have hw1 : IntKind.i64.wrap (x.tmod 1000) = x.tmod 1000 := IntWalk.i64_in _ (by omega)
      have hw2 : IntKind.i64.wrap (y.tmod 1000) = y.tmod 1000 := IntWalk.i64_in _ (by omega)
      clear HFF hx hy
      have hk : Lp w sb2 gb3 tb2 9 N3 WE.drew := HL1.out.drew
      have hk2 : Lp w sb2 gb3 tb2 9 N3 (WE.alloc (.cells #[.pointer none, .int .u32 0] 31)).drew := (HL1.out.later (bel1 _ _)).drew
      have hz0 : Ob (WE.alloc (.cells #[.pointer none, .int .u32 0] 31)).drew sb2 gb3 tb2 WE.heap.size zeO8 := ob_drew8 (ob_new8 HL1.out _ _)
      have hp0 : Ob WE.drew sb2 gb3 tb2 pb (plO sb2 r) := ob_drew8 HP1.out
      have hp2 : Ob (WE.alloc (.cells #[.pointer none, .int .u32 0] 31)).drew sb2 gb3 tb2 pb (plO sb2 r) := ob_drew8 (HP1.out.later (bel1 _ _))
      have hq0 : Ob WE.drew sb2 gb3 tb2 w.heap.size (ptO x y) := ob_drew8 HQ1.out
      have hq2 : Ob (WE.alloc (.cells #[.pointer none, .int .u32 0] 31)).drew sb2 gb3 tb2 w.heap.size (ptO x y) := ob_drew8 (HQ1.out.later (bel1 _ _))
      have hlt2 := HP1.out.lt
      have hsz := HL1.out.bel.size
      have n1 : ¬ pb = WE.heap.size := by omega
      have n2 : ¬ WE.heap.size = pb := by omega
      have n3 : ¬ w.heap.size = WE.heap.size := by omega
      have n4 : ¬ WE.heap.size = w.heap.size := by omega
      go_cut [20] from 67 to 79 (fun v20 wx => v20 = .iface 55 (.int .i64 7) ∧ Below w.heap.size w wx)
      case first =>
        go_region_held3 (fun w' => (w'.cell? ⟨pb, 0, none⟩ = some (.pointer (some ⟨sb2, 0, none⟩)) ∧ w'.cell? ⟨pb, 1, none⟩ = some (.int .u32 (r : Int))) ∧ w'.cell? ⟨w.heap.size, 0, none⟩ = some (.int .i64 x) ∧ w'.cell? ⟨w.heap.size, 1, none⟩ = some (.int .i64 y)) (go_keep)
          (first
            | (go_at_call 13; refine (HRE.out _).mono ?_; rintro e wl ⟨rfl, hb⟩; have hl : Lp w sb2 gb3 tb2 9 N3 wl := Lp.later (by assumption) hb; have hpl : Ob wl sb2 gb3 tb2 pb (plO sb2 r) := Ob.later (by assumption) hb; have hql : Ob wl sb2 gb3 tb2 w.heap.size (ptO x y) := Ob.later (by assumption) hb; have k1 := pl_cells hpl.at_; have k1q := pt_cells hql.at_; have hll := hpl.lt; have hls := hl.bel.size; have m1 : ¬ pb = wl.heap.size := (by omega); have m2 : ¬ wl.heap.size = pb := (by omega); have m1q : ¬ w.heap.size = wl.heap.size := (by omega); have m2q : ¬ wl.heap.size = w.heap.size := (by omega); (first | (have hz1 : Ob wl sb2 gb3 tb2 WE.heap.size zeO8 := Ob.later (by assumption) hb; have k2 := ze_cells8 hz1.at_) | skip); clear hb)
            | (go_at_call 7; refine (HFL.out _ (by first | exact hl | exact hl.later (bel1 _ _))).mono ?_; rintro e wm ⟨rfl, g9, M9, hnx⟩; (first | have hm : Lp w sb2 g9 tb2 9 M9 wm := Lp.nx hl hnx | have hm : Lp w sb2 g9 tb2 9 M9 wm := Lp.nx (hl.later (bel1 _ _)) hnx); (first | have hpm : Ob wm sb2 g9 tb2 pb (plO sb2 r) := Ob.nx hpl hnx | have hpm : Ob wm sb2 g9 tb2 pb (plO sb2 r) := Ob.nx (hpl.later (bel1 _ _)) hnx); (first | have hqm : Ob wm sb2 g9 tb2 w.heap.size (ptO x y) := Ob.nx hql hnx | have hqm : Ob wm sb2 g9 tb2 w.heap.size (ptO x y) := Ob.nx (hql.later (bel1 _ _)) hnx); have k3 := pl_cells hpm.at_; have k3q := pt_cells hqm.at_; have hmm := hpm.lt; have m3 : ¬ pb = wm.heap.size := (by omega); have m4 : ¬ wm.heap.size = pb := (by omega); have m3q : ¬ w.heap.size = wm.heap.size := (by omega); have m4q : ¬ wm.heap.size = w.heap.size := (by omega); (first | (have hz2 : Ob wm sb2 g9 tb2 WE.heap.size zeO8 := Ob.nx hz1 hnx; have k4 := ze_cells8 hz2.at_) | (have hz2 : Ob wm sb2 g9 tb2 wl.heap.size zeO8 := Ob.nx (ob_new8 hl _ _) hnx; have k4 := ze_cells8 hz2.at_) | skip)))
        all_goals go_wp2_with fail
        all_goals go_meet
        all_goals first | exact ⟨rfl, ((hm.set ⟨hz2.sb_, hz2.g_, hz2.tb_⟩ (by omega) _).set ⟨hz2.sb_, hz2.g_, hz2.tb_⟩ (by omega) _).bel⟩ | exact ⟨rfl, (hm.later (bel1 _ _)).bel⟩ | exact ⟨rfl, hm.bel⟩
      case rest =>
        obtain ⟨rfl, hbw⟩ := hcut
        have HBW := Lib.hid hbw
        clear hbw hk hk2 hz0 hp0 hp2 hq0 hq2 hlt2 hsz n1 n2 n3 n4 HFL HRE HL1 HP1 HQ1 p0 p1 q0 q1 hw1 hw2
        go_wp2_with fail
        refine (fis_one 1 (by omega) _ _ _ (cell_n0 _ _ _)).mono ?_
        rintro e V1 ⟨rfl, hV⟩
        have HV1 : Hid (Below w.heap.size w V1) := by
          show Below _ _ _
          rw [← hV]; exact HBW.out.trans ((bel1 _ _).mono HBW.out.size)
        clear hV HBW
        go_wp2_with fail
        refine (fis_one 1 (by omega) _ _ _ (cell_n0 _ _ _)).mono ?_
        rintro e V2 ⟨rfl, hV⟩
        have HV2 : Hid (Below w.heap.size w V2) := by
          show Below _ _ _
          rw [← hV]; exact HV1.out.trans ((bel1 _ _).mono HV1.out.size)
        clear hV HV1
        go_wp2_with fail
        refine (fis_one 1 (by omega) _ _ _ (cell_n0 _ _ _)).mono ?_
        rintro e V3 ⟨rfl, hV⟩
        have HV3 : Hid (Below w.heap.size w V3) := by
          show Below _ _ _
          rw [← hV]; exact HV2.out.trans ((bel1 _ _).mono HV2.out.size)
        clear hV HV2
        go_wp2_with fail
        refine (fis_one 1 (by omega) _ _ _ (cell_n0 _ _ _)).mono ?_
        rintro e V4 ⟨rfl, hV⟩
        have HV4 : Hid (Below w.heap.size w V4) := by
          show Below _ _ _
          rw [← hV]; exact HV3.out.trans ((bel1 _ _).mono HV3.out.size)
        clear hV HV3
        go_wp2_with fail
        refine (fis_one 7 (by omega) _ _ _ (cell_n0 _ _ _)).mono ?_
        rintro e V5 ⟨rfl, hV⟩
        have HV5 : Hid (Below w.heap.size w V5) := by
          show Below _ _ _
          rw [← hV]; exact HV4.out.trans ((bel1 _ _).mono HV4.out.size)
        clear hV HV4
        go_wp2_with fail
        go_ret
        exact ⟨rfl, HV5.out⟩
    · omega
end Go.Proofs.Ytfohkbgacpokoaa
