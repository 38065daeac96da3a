/- Package clock: Step of a time of generation 0, of near cells: contract. -/
import Derived.Test.YtaapkngpnlnjeaaGreatDoorSt11
namespace Go.Proofs.YtaapkngpnlnjeaaGreatDoor
open Go.RowKit Go.Maps Go.Shelf
set_option maxRecDepth 100000

theorem tm3_cells {w : World} {b : Nat} {p v z : Value} (h : w.heap[b]? = some (.cells #[p, v, z] 37 (0, 0))) : (w.cell? ⟨b, 0, none⟩ = some p ∧ w.cell? ⟨b, 1, none⟩ = some v ∧ w.cell? ⟨b, 2, none⟩ = some z) ∧ w.frozen? ⟨b, 0, none⟩ = false ∧ w.frozen? ⟨b, 1, none⟩ = false ∧ w.frozen? ⟨b, 2, none⟩ = false :=
  ⟨⟨by rw [Lib.cell_of_heap h]; rfl, by rw [Lib.cell_of_heap h]; rfl, by rw [Lib.cell_of_heap h]; rfl⟩, Lib.frozen_of_heap h 0, Lib.frozen_of_heap h 1, Lib.frozen_of_heap h 2⟩
theorem put_tm {w w' : World} {sb tb mb most g g' c b : Nat} {N N' : List Nd} {fb fb' : FbT} {m m' : Stp → Option Value} {p v z : Value} (h : Mx sb tb mb most w g N fb m c w' g' N' fb' m') (hb : Oe w' sb g' tb mb fb' b (.cells #[p, v, z] 37 (0, 0))) (hw : w.heap.size ≤ b) (p' v' z' : Value) :
    ∃ W, ((w'.setCell ⟨b, 0, none⟩ p').setCell ⟨b, 1, none⟩ v').setCell ⟨b, 2, none⟩ z' = W ∧ Mx sb tb mb most w g N fb m c W g' N' fb' m' ∧ Oe W sb g' tb mb fb' b (.cells #[p', v', z'] 37 (0, 0)) := by
  have h0 : Oe (w'.setCell ⟨b, 0, none⟩ p') sb g' tb mb fb' b (.cells #[p', v, z] 37 (0, 0)) := ⟨by have := hb.at_; simp only [World.setCell, Array.getElem?_modify, this]; simp, hb.sb_, hb.g_, hb.tb_, hb.mb_, hb.fb_⟩
  have h1 : Oe ((w'.setCell ⟨b, 0, none⟩ p').setCell ⟨b, 1, none⟩ v') sb g' tb mb fb' b (.cells #[p', v', z] 37 (0, 0)) := ⟨by have := hb.at_; simp only [World.setCell, Array.getElem?_modify, this]; simp, hb.sb_, hb.g_, hb.tb_, hb.mb_, hb.fb_⟩
  have h2 : Oe (((w'.setCell ⟨b, 0, none⟩ p').setCell ⟨b, 1, none⟩ v').setCell ⟨b, 2, none⟩ z') sb g' tb mb fb' b (.cells #[p', v', z'] 37 (0, 0)) := ⟨by have := hb.at_; simp only [World.setCell, Array.getElem?_modify, this]; simp, hb.sb_, hb.g_, hb.tb_, hb.mb_, hb.fb_⟩
  exact ⟨_, rfl, ((h.set hb hw p').set h0 hw v').set h1 hw z', h2⟩
/-- What Step comes to. -/
def Step11 (sb tb mb most : Nat) (w : World) (g : Nat) (N : List Nd) (fb : FbT) (m : Stp → Option Value) (G : Plane) (r0 : Nat) (e : Ending) (w' : World) : Prop :=
  ∃ c g' N' fb' m', Mx sb tb mb most w g N fb m c w' g' N' fb' m' ∧ (r0 = 1 → Wid G 4 → N'.length ≤ N.length + 4772) ∧
    ((∃ n' r : Nat, e = .returned (.tuple #[.agg #[.pointer (some ⟨sb, 0, none⟩), .int .u32 (r : Int), .int .u64 (r0 : Int)], .nilIface]) ∧ PG N' n' r (gens r0 G) ∧ Low11 n' (gens r0 G)) ∨ (e = .returned (.tuple #[.agg #[.pointer none, .int .u32 0, .int .u64 0], .iface 48 (.int .i64 7)]) ∧ most ≤ N'.length))
theorem Later11.gen {sb tb mb most : Nat} {w : World} {g : Nat} {N : List Nd} {fb : FbT} {m : Stp → Option Value} {G : Plane} {r0 : Nat} {e : Ending} {w' : World} (h : Later11 sb tb mb most w g N fb m G r0 e w') : ∃ (r : Nat) (pa : Option Addr) (xi : Int) (ev : Value) (c g' : Nat) (N' : List Nd) (fb' : FbT) (m' : Stp → Option Value), e = .returned (.tuple #[.agg #[.pointer pa, .int .u32 xi], ev]) ∧ Mx sb tb mb most w g N fb m c w' g' N' fb' m' ∧ (r0 = 1 → Wid G 4 → N'.length ≤ N.length + 4772) ∧
    ((ev = .nilIface ∧ pa = some ⟨sb, 0, none⟩ ∧ xi = (r : Int) ∧ ∃ n', PG N' n' r (gens r0 G) ∧ Low11 n' (gens r0 G)) ∨ (ev = .iface 48 (.int .i64 7) ∧ pa = none ∧ xi = 0 ∧ most ≤ N'.length)) := by
  obtain ⟨c, g', N', fb', m', h1, h2, h3⟩ := h
  rcases h3 with ⟨n', r, rfl, h4, h5⟩ | ⟨rfl, h4⟩
  · exact ⟨r, _, _, _, c, g', N', fb', m', rfl, h1, h2, Or.inl ⟨rfl, rfl, rfl, n', h4, h5⟩⟩
  · exact ⟨0, _, _, _, c, g', N', fb', m', rfl, h1, h2, Or.inr ⟨rfl, rfl, rfl, h4⟩⟩
theorem wrap_n {n : Nat} (h : n < 18446744073709551616) : IntKind.u64.wrap (n : Int) = (n : Int) := by rw [IntKind.wrap_u64]; omega
set_option maxHeartbeats 8000000 in
theorem step_clock {w : World} {sb g tb most mb : Nat} {N : List Nd} {fb : FbT} {m : Stp → Option Value} (h : Me w sb g tb most N mb fb m) {n x : Nat} {G : Plane} (hp : PG N n x G) (hn : n ≤ 58) {r0 : Nat} (hr0 : r0 < 288230376151711744)
    {D : Nat} (hD : D ≤ w.heap.size) (hV : 0 < D) (hA : Abv D sb g tb mb fb) (hT : TabAt 0 Lib.deBruijn64tab w) :
    Calls Tryz.prog 11 #[.agg #[.pointer (some ⟨sb, 0, none⟩), .int .u32 (x : Int), .int .u64 0], .pointer (some ⟨mb, 0, none⟩), .int .u64 (r0 : Int)] w fun e w' => Step11 sb tb mb most w g N fb m G r0 e w' := by
  have HPG := Lib.hid hp
  have HA := Lib.hid hA
  have HT := Lib.hid hT
  have hxu : x < 4294967296 := by obtain ⟨cap, hs⟩ := h.st; exact Sq.u32 hs hp.sq
  have hbA := bel1 w (.cells #[.pointer (some ⟨sb, 0, none⟩), .int .u32 (x : Int), .int .u64 0] 37)
  have hbB := bel1 (w.alloc (.cells #[.pointer (some ⟨sb, 0, none⟩), .int .u32 (x : Int), .int .u64 0] 37)) (.cells #[.pointer none, .int .u32 0, .int .u64 0] 37)
  have HT0 : Hid (Oe ((w.alloc (.cells #[.pointer (some ⟨sb, 0, none⟩), .int .u32 (x : Int), .int .u64 0] 37)).alloc (.cells #[.pointer none, .int .u32 0, .int .u64 0] 37)) sb g tb mb fb w.heap.size (tmO sb x 0)) := (Oe.new h _ _).later hbB
  have hr1 := Oe.new (h.later hbA) #[.pointer none, .int .u32 0, .int .u64 0] 37
  rw [show (w.alloc (.cells #[.pointer (some ⟨sb, 0, none⟩), .int .u32 (x : Int), .int .u64 0] 37)).heap.size = w.heap.size + 1 by simp] at hr1
  have HR0 := Lib.hid hr1
  have HM0 := Lib.hid (Mx.of_below h (bel2 w (.cells #[.pointer (some ⟨sb, 0, none⟩), .int .u32 (x : Int), .int .u64 0] 37) (.cells #[.pointer none, .int .u32 0, .int .u64 0] 37)))
  have HGW : Hid (Wid G 288230376151711744) := hp.wid.mono (by
    have := pow_mono hn
    have h58 : (2 : Int) ^ 58 = 288230376151711744 := by decide
    omega)
  have hct := pg_ct h.wf hp
  have hlb : decide ((n : Int) + 1 < 3) = false := decide_eq_false (by have := hp.two; omega)
  have HNN := Lib.hid hn
  clear hct h hp hA hT hbA hbB hr1
  go_enter Tryz.func11, Tryz.ntmps11
  go_upto_region 1 with fail
  generalize (w.alloc (.cells #[.pointer (some ⟨sb, 0, none⟩), .int .u32 (x : Int), .int .u64 0] 37)).alloc (.cells #[.pointer none, .int .u32 0, .int .u64 0] 37) = W0 at *
  have HLV := Lib.hid (fun z : Up W0 => Up.callsE (fun W hW => by obtain ⟨cap, hs⟩ := (HM0.out.me.later hW).st; exact level_any hs x hxu) z)
  rw [show lvZ N x = (n : Int) + 1 from HPG.out.sq] at HLV
  obtain ⟨t0, t1, t2⟩ := tm_cells HT0.out.at_
  obtain ⟨sv0, cl0, hth, m0, m1, mv, m2, mt, m3⟩ := HM0.out.me.cells
  have hne := Up.me W0
  have c0 := fun z : Up W0 => Up.cell t0 z
  have c1 := fun z : Up W0 => Up.cell t1 z
  have c2 := fun z : Up W0 => Up.cell m0 z
  have hns := neSt11 sb
  clear t0 t1 t2 hth m0 m1 mv m2 mt m3
  refine region_up (by kernel_rfl) (by kernel_rfl) ?_
  repeat (go_big_quiet_step ((first | (go_at_call 17; with_reducible exact HLV.out _) | fail)))
  refine wpQuiet_nil ?_
  rintro w1 ⟨⟨W1, hW1⟩, hw1⟩
  obtain rfl : w1 = W1 := hw1
  have HM1 := Lib.hid ((HM0.out.trans (Mx.of_below HM0.out.me hW1)).mono (show 0 + 0 ≤ 0 by omega))
  have HT1 := Lib.hid (HT0.out.later hW1)
  have HR1 := Lib.hid (HR0.out.later hW1)
  clear hW1 HM0 HT0 HR0 c0 c1 c2 hne HLV hns hlb
  obtain ⟨t0, t1, t2⟩ := tm_cells HT1.out.at_
  have hD1 : D ≤ w1.heap.size := Nat.le_trans hD HM1.out.frm.size
  -- the last stretch: later
  have FIN : ∀ (w2 : World), Mx sb tb mb most w g N fb m 0 w2 g N fb m → Oe w2 sb g tb mb fb w.heap.size (tmO sb x 0) → Oe w2 sb g tb mb fb (w.heap.size + 1) (.cells #[.pointer none, .int .u32 0, .int .u64 0] 37 (0, 0)) → Calls Tryz.prog 26 #[.agg #[.pointer (some ⟨sb, 0, none⟩), .int .u32 (x : Int), .int .u64 0], .pointer (some ⟨mb, 0, none⟩), .int .u64 (r0 : Int)] w2 fun e w' => Later11 sb tb mb most w2 g N fb m G r0 e w' := fun w2 hm _ _ =>
    later_clock hm.me HPG.out HGW.out 0 hr0 (Nat.le_trans hD hm.frm.size) hV HA.out (tab_below HT.out (HA.out.below (Below.refl D w) hD hm) hV)
  have HFIN := Lib.hid FIN
  clear FIN
  have hs2 : IntKind.u64.wrap (4611686018427387904 - 0) = 4611686018427387904 := by decide
  have hq1 : decide ((4611686018427387904 : Int) < (r0 : Int)) = false := decide_eq_false (by omega)
  have hq2 : decide (4611686018427387904 < r0) = false := decide_eq_false (by omega)
  by_cases hz : r0 = 0
  · have hz1 : decide ((0 : Int) < (r0 : Int)) = false := decide_eq_false (by omega)
    have hz2 : decide (0 < r0) = false := decide_eq_false (by omega)
    clear t0 t1 t2 hz
    obtain ⟨t0, t1, t2⟩ := tm_cells HT1.out.at_
    go_wp2_with fail
    refine (HFIN.out _ HM1.out HT1.out HR1.out).mono ?_
    rintro e w5 hl5
    obtain ⟨r5, pa5, xi5, ev5, c5, g5, N5, fb5, m5, rfl, hmx5, hone5, hcase5⟩ := hl5.gen
    have HM5 := Lib.hid (HM1.out.trans hmx5)
    have HT5 := Lib.hid (HT1.out.mx hmx5)
    have HR5 := Lib.hid (HR1.out.mx hmx5)
    have HO5 := Lib.hid hone5
    clear hl5 hmx5 hone5 t0 t1 t2 HFIN
    have hb6 := bel1 w5 (.cells #[.pointer pa5, .int .u32 xi5] 34)
    have HP6 : Hid (Oe (w5.alloc (.cells #[.pointer pa5, .int .u32 xi5] 34)) sb g5 tb mb fb5 w5.heap.size (.cells #[.pointer pa5, .int .u32 xi5] 34 (0, 0))) := Oe.new HM5.out.me _ _
    have HM6 := Lib.hid (HM5.out.trans (Mx.of_below HM5.out.me hb6))
    have HT6 := Lib.hid (HT5.out.later hb6)
    have HR6 := Lib.hid (HR5.out.later hb6)
    clear hb6 HM5 HT5 HR5
    rcases hcase5 with ⟨rfl, rfl, rfl, n', h1, h2⟩ | ⟨rfl, rfl, rfl, h1⟩
    · have HP1 := Lib.hid h1
      have HP2 := Lib.hid h2
      clear h1 h2
      go_upto_region 10 with fail
      generalize w5.alloc (.cells #[.pointer (some ⟨sb, 0, none⟩), .int .u32 (r5 : Int)] 34) = w6 at *
      generalize w5.heap.size = pb at *
      obtain ⟨t0, t1, t2⟩ := tm_cells HT6.out.at_
      obtain ⟨p0, p1⟩ := pl_cells HP6.out.at_
      obtain ⟨⟨q0, q1, q2⟩, f0, f1, f2⟩ := tm3_cells HR6.out.at_
      obtain ⟨W, hW, hMW, hRW⟩ := put_tm HM6.out HR6.out (Nat.le_succ _) (.pointer (some ⟨sb, 0, none⟩)) (.int .u32 ((r5 : Nat) : Int)) (.int .u64 (r0 : Int))
      have hw1 := wrap_n (n := r0) (by omega)
      have hw2 : IntKind.u64.wrap (0 + (r0 : Int)) = (r0 : Int) := by rw [Int.zero_add]; exact hw1
      go_wp2_with fail
      refine bodyPost_ret (tm_ret11 rfl rfl rfl hRW.at_) rfl ?_
      exact ⟨_, g5, N5, fb5, m5, hMW, HO5.out, Or.inl ⟨n', r5, rfl, HP1.out, HP2.out⟩⟩
    · have HF := Lib.hid h1
      clear h1
      go_upto_region 8 with fail
      generalize w5.alloc (.cells #[.pointer none, .int .u32 0] 34) = w6 at *
      generalize w5.heap.size = pb at *
      obtain ⟨⟨q0, q1, q2⟩, f0, f1, f2⟩ := tm3_cells HR6.out.at_
      obtain ⟨W, hW, hMW, hRW⟩ := put_tm HM6.out HR6.out (Nat.le_succ _) (.pointer none) (.int .u32 0) (.int .u64 0)
      go_wp2_with fail
      refine bodyPost_ret (tm_ret11 rfl rfl rfl hRW.at_) rfl ?_
      exact ⟨_, g5, N5, fb5, m5, hMW, HO5.out, Or.inr ⟨rfl, HF.out⟩⟩
  · have hz1 : decide ((0 : Int) < (r0 : Int)) = true := decide_eq_true (by omega)
    have hz2 : decide (0 < r0) = true := decide_eq_true (by omega)
    clear hz
    have hg1 : decide ((288230376151711744 : Int) ≤ (r0 : Int)) = false := decide_eq_false (by omega)
    have hg2 : decide (288230376151711744 ≤ r0) = false := decide_eq_false (by omega)
    have HCT : Hid (Calls Tryz.prog 20 #[.pointer (some ⟨sb, 0, none⟩), .int .u32 (x : Int)] w1 fun e w' => e = .returned (.int .u64 (ctZ N x : Int)) ∧ w1 = w') := by
      obtain ⟨cap, hs⟩ := HM1.out.me.st
      exact count_any hs x hxu
    generalize ctZ N x = ct at *
    by_cases hc : ct = 0
    · have hc1 : decide ((0 : Int) < (ct : Int)) = false := decide_eq_false (by omega)
      have hc2 : decide (0 < ct) = false := decide_eq_false (by omega)
      go_wp2_with fail
      refine HCT.out.mono ?_
      rintro e w3 ⟨rfl, rfl⟩
      clear t0 t1 t2 HCT
      obtain ⟨t0, t1, t2⟩ := tm_cells HT1.out.at_
      go_wp2_with fail
      refine (HFIN.out _ HM1.out HT1.out HR1.out).mono ?_
      rintro e w5 hl5
      obtain ⟨r5, pa5, xi5, ev5, c5, g5, N5, fb5, m5, rfl, hmx5, hone5, hcase5⟩ := hl5.gen
      have HM5 := Lib.hid (HM1.out.trans hmx5)
      have HT5 := Lib.hid (HT1.out.mx hmx5)
      have HR5 := Lib.hid (HR1.out.mx hmx5)
      have HO5 := Lib.hid hone5
      clear hl5 hmx5 hone5 t0 t1 t2 HFIN
      have hb6 := bel1 w5 (.cells #[.pointer pa5, .int .u32 xi5] 34)
      have HP6 : Hid (Oe (w5.alloc (.cells #[.pointer pa5, .int .u32 xi5] 34)) sb g5 tb mb fb5 w5.heap.size (.cells #[.pointer pa5, .int .u32 xi5] 34 (0, 0))) := Oe.new HM5.out.me _ _
      have HM6 := Lib.hid (HM5.out.trans (Mx.of_below HM5.out.me hb6))
      have HT6 := Lib.hid (HT5.out.later hb6)
      have HR6 := Lib.hid (HR5.out.later hb6)
      clear hb6 HM5 HT5 HR5
      rcases hcase5 with ⟨rfl, rfl, rfl, n', h1, h2⟩ | ⟨rfl, rfl, rfl, h1⟩
      · have HP1 := Lib.hid h1
        have HP2 := Lib.hid h2
        clear h1 h2
        go_upto_region 10 with fail
        generalize w5.alloc (.cells #[.pointer (some ⟨sb, 0, none⟩), .int .u32 (r5 : Int)] 34) = w6 at *
        generalize w5.heap.size = pb at *
        obtain ⟨t0, t1, t2⟩ := tm_cells HT6.out.at_
        obtain ⟨p0, p1⟩ := pl_cells HP6.out.at_
        obtain ⟨⟨q0, q1, q2⟩, f0, f1, f2⟩ := tm3_cells HR6.out.at_
        obtain ⟨W, hW, hMW, hRW⟩ := put_tm HM6.out HR6.out (Nat.le_succ _) (.pointer (some ⟨sb, 0, none⟩)) (.int .u32 ((r5 : Nat) : Int)) (.int .u64 (r0 : Int))
        have hw1 := wrap_n (n := r0) (by omega)
        have hw2 : IntKind.u64.wrap (0 + (r0 : Int)) = (r0 : Int) := by rw [Int.zero_add]; exact hw1
        go_wp2_with fail
        refine bodyPost_ret (tm_ret11 rfl rfl rfl hRW.at_) rfl ?_
        exact ⟨_, g5, N5, fb5, m5, hMW, HO5.out, Or.inl ⟨n', r5, rfl, HP1.out, HP2.out⟩⟩
      · have HF := Lib.hid h1
        clear h1
        go_upto_region 8 with fail
        generalize w5.alloc (.cells #[.pointer none, .int .u32 0] 34) = w6 at *
        generalize w5.heap.size = pb at *
        obtain ⟨⟨q0, q1, q2⟩, f0, f1, f2⟩ := tm3_cells HR6.out.at_
        obtain ⟨W, hW, hMW, hRW⟩ := put_tm HM6.out HR6.out (Nat.le_succ _) (.pointer none) (.int .u32 0) (.int .u64 0)
        go_wp2_with fail
        refine bodyPost_ret (tm_ret11 rfl rfl rfl hRW.at_) rfl ?_
        exact ⟨_, g5, N5, fb5, m5, hMW, HO5.out, Or.inr ⟨rfl, HF.out⟩⟩
    · have hc1 : decide ((0 : Int) < (ct : Int)) = true := decide_eq_true (by omega)
      have hc2 : decide (0 < ct) = true := decide_eq_true (by omega)
      have HNR : Hid (Calls Tryz.prog 25 #[.agg #[.pointer (some ⟨sb, 0, none⟩), .int .u32 (x : Int), .int .u64 0]] w1 fun e w' => e = .returned (.bool true) ∧ Below w1.heap.size w1 w') := by
        obtain ⟨cap, hs⟩ := HM1.out.me.st
        exact near_low hs HPG.out.sq HNN.out 0
      go_wp2_with fail
      refine HCT.out.mono ?_
      rintro e w3 ⟨rfl, rfl⟩
      clear HCT
      go_wp2_with fail
      refine HNR.out.mono ?_
      rintro e w3 ⟨rfl, hb3⟩
      have HM3 := Lib.hid ((HM1.out.trans (Mx.of_below HM1.out.me hb3)).mono (show 0 + 0 ≤ 0 by omega))
      have HT3 := Lib.hid (HT1.out.later hb3)
      have HR3 := Lib.hid (HR1.out.later hb3)
      clear t0 t1 t2 hb3 HNR HM1 HT1 HR1
      obtain ⟨t0, t1, t2⟩ := tm_cells HT3.out.at_
      go_wp2_with fail
      refine (HFIN.out _ HM3.out HT3.out HR3.out).mono ?_
      rintro e w5 hl5
      obtain ⟨r5, pa5, xi5, ev5, c5, g5, N5, fb5, m5, rfl, hmx5, hone5, hcase5⟩ := hl5.gen
      have HM5 := Lib.hid (HM3.out.trans hmx5)
      have HT5 := Lib.hid (HT3.out.mx hmx5)
      have HR5 := Lib.hid (HR3.out.mx hmx5)
      have HO5 := Lib.hid hone5
      clear hl5 hmx5 hone5 t0 t1 t2 HFIN
      have hb6 := bel1 w5 (.cells #[.pointer pa5, .int .u32 xi5] 34)
      have HP6 : Hid (Oe (w5.alloc (.cells #[.pointer pa5, .int .u32 xi5] 34)) sb g5 tb mb fb5 w5.heap.size (.cells #[.pointer pa5, .int .u32 xi5] 34 (0, 0))) := Oe.new HM5.out.me _ _
      have HM6 := Lib.hid (HM5.out.trans (Mx.of_below HM5.out.me hb6))
      have HT6 := Lib.hid (HT5.out.later hb6)
      have HR6 := Lib.hid (HR5.out.later hb6)
      clear hb6 HM5 HT5 HR5
      rcases hcase5 with ⟨rfl, rfl, rfl, n', h1, h2⟩ | ⟨rfl, rfl, rfl, h1⟩
      · have HP1 := Lib.hid h1
        have HP2 := Lib.hid h2
        clear h1 h2
        go_upto_region 10 with fail
        generalize w5.alloc (.cells #[.pointer (some ⟨sb, 0, none⟩), .int .u32 (r5 : Int)] 34) = w6 at *
        generalize w5.heap.size = pb at *
        obtain ⟨t0, t1, t2⟩ := tm_cells HT6.out.at_
        obtain ⟨p0, p1⟩ := pl_cells HP6.out.at_
        obtain ⟨⟨q0, q1, q2⟩, f0, f1, f2⟩ := tm3_cells HR6.out.at_
        obtain ⟨W, hW, hMW, hRW⟩ := put_tm HM6.out HR6.out (Nat.le_succ _) (.pointer (some ⟨sb, 0, none⟩)) (.int .u32 ((r5 : Nat) : Int)) (.int .u64 (r0 : Int))
        have hw1 := wrap_n (n := r0) (by omega)
        have hw2 : IntKind.u64.wrap (0 + (r0 : Int)) = (r0 : Int) := by rw [Int.zero_add]; exact hw1
        go_wp2_with fail
        refine bodyPost_ret (tm_ret11 rfl rfl rfl hRW.at_) rfl ?_
        exact ⟨_, g5, N5, fb5, m5, hMW, HO5.out, Or.inl ⟨n', r5, rfl, HP1.out, HP2.out⟩⟩
      · have HF := Lib.hid h1
        clear h1
        go_upto_region 8 with fail
        generalize w5.alloc (.cells #[.pointer none, .int .u32 0] 34) = w6 at *
        generalize w5.heap.size = pb at *
        obtain ⟨⟨q0, q1, q2⟩, f0, f1, f2⟩ := tm3_cells HR6.out.at_
        obtain ⟨W, hW, hMW, hRW⟩ := put_tm HM6.out HR6.out (Nat.le_succ _) (.pointer none) (.int .u32 0) (.int .u64 0)
        go_wp2_with fail
        refine bodyPost_ret (tm_ret11 rfl rfl rfl hRW.at_) rfl ?_
        exact ⟨_, g5, N5, fb5, m5, hMW, HO5.out, Or.inr ⟨rfl, HF.out⟩⟩
end Go.Proofs.YtaapkngpnlnjeaaGreatDoor
