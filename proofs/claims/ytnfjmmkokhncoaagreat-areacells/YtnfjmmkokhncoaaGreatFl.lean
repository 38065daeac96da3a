/- Package area: the painter's fill: contract. -/
import Derived.Test.YtnfjmmkokhncoaaGreatM10
import Derived.Test.YtnfjmmkokhncoaaGreatM05
namespace Go.Proofs.YtnfjmmkokhncoaaGreat
open Go.RowKit Go.Maps
set_option maxRecDepth 100000

theorem two8 {most : Nat} {e : Ending} {N : List Nd} {n : Nat} {f : Int → Int → Nat} {N' : List Nd} (h : Res8 most e N n f N') :
    ∃ (r : Nat) (ev : Value), e = .returned (.tuple #[.int .u32 (r : Int), ev]) ∧ New8 N n f N' ∧ ((ev = .nilIface ∧ Con N' n r f) ∨ (ev = .iface 52 (.int .i64 7) ∧ most ≤ N'.length)) := by
  obtain ⟨hn, ⟨r, rfl, h⟩ | ⟨rfl, h⟩⟩ := h
  · exact ⟨r, _, rfl, hn, Or.inl ⟨rfl, h⟩⟩
  · exact ⟨0, _, rfl, hn, Or.inr ⟨rfl, h⟩⟩
/-- A painter remembers. -/
theorem Pn.put {w : World} {sb g tb mb ab most c : Nat} {N : List Nd} {P : R4} (h : Pn w sb g tb mb ab most N P c) {a : Part} (ha : PtOk P a) {y : Nat} (h0 : Sq0 N a.n a.x) (hc : Con N a.n y (Tc N a.n a.x a.r c [])) :
    ∃ w', (Instr.mapUpdate 135 (.map (some mb)) (.agg #[.int .u32 (a.x : Int), .int .i64 (a.n : Int), .int .i64 a.r.x, .int .i64 a.r.y, .int .i64 a.r.X, .int .i64 a.r.Y]) (.int .u32 (y : Int))).run Tryz.prog w = .ok () w' ∧
      Px sb tb mb ab most P c w g N w' g N := by
  obtain ⟨cap, hs⟩ := h.st
  obtain ⟨m, h1, h2⟩ := h.mm
  obtain ⟨w', r1, r2, r3⟩ := h1.put a ha (.int .u32 (y : Int))
  obtain ⟨m1, m2, m3⟩ := h.mb_
  refine ⟨w', r1, ⟨⟨⟨cap, ?_⟩, ?_, ⟨_, r2, fun b v hv => ?_⟩, h.mb_, h.ab_⟩, Frm.of_grown r3 (fun b e => by cases e; simp), Or.inl rfl, [], by simp⟩⟩
  · obtain ⟨l1, l2, l3⟩ := hs.lt
    exact hs.keep (r3.block sb l1 (fun e => m1 (Option.some.inj e))) (r3.block g l2 (fun e => m2 (Option.some.inj e))) (r3.block tb l3 (fun e => m3 (Option.some.inj e)))
  · rw [r3.block ab h.alt (fun e => h.am (Option.some.inj e))]; exact h.pt
  · by_cases e : b = a
    · subst e
      rw [if_pos rfl] at hv
      exact ⟨h0, y, (Option.some.inj hv).symm, hc⟩
    · rw [if_neg e] at hv
      exact h2 b v hv
/-- What a painter remembers, asked. -/
theorem Pn.look {w : World} {sb g tb mb ab most c : Nat} {N : List Nd} {P : R4} (h : Pn w sb g tb mb ab most N P c) {a : Part} (ha : PtOk P a) :
    ∃ (y : Nat) (ok : Bool), (∀ W : Up w, (Instr.lookup 135 (.map (some mb)) (.agg #[.int .u32 (a.x : Int), .int .i64 (a.n : Int), .int .i64 a.r.x, .int .i64 a.r.y, .int .i64 a.r.X, .int .i64 a.r.Y]) true).run Tryz.prog W.1 = .ok (.tuple #[.int .u32 (y : Int), .bool ok]) W.1) ∧
      (ok = true → Sq0 N a.n a.x ∧ Con N a.n y (Tc N a.n a.x a.r c [])) := by
  obtain ⟨m, h1, h2⟩ := h.mm
  cases hm : m a with
  | some v =>
    obtain ⟨h0, y, rfl, hc⟩ := h2 a v hm
    exact ⟨y, true, fun W => ((h1.later W.2).look a ha).1 _ hm, fun _ => ⟨h0, hc⟩⟩
  | none => exact ⟨0, false, fun W => ((h1.later W.2).look a ha).2 hm, fun h => by cases h⟩
theorem tc_nil {N : List Nd} {n x : Nat} {r : R4} {c : Nat} (hr : r.no = true) (X Y : Int) : Tc N n x r c [] X Y = getZ N n x X Y := by
  unfold Tc
  rw [R4.has_no hr]; simp
theorem tc_whole {N : List Nd} {n x y : Nat} {r : R4} {c : Nat} (hr : r = ⟨0, 0, 2 ^ n, 2 ^ n⟩) (X Y : Int) (hX : 0 ≤ X ∧ X < 2 ^ n) (hY : 0 ≤ Y ∧ Y < 2 ^ n) : Tc N n x r c [] X Y = Tc N n y r c [] X Y := by
  unfold Tc
  rw [show r.has X Y = true by rw [R4.has_iff, hr]; exact ⟨hX, hY⟩]
  simp
theorem wholeB_iff {a : Part} (h : wholeB a = true) : a.r = ⟨0, 0, 2 ^ a.n, 2 ^ a.n⟩ := by
  obtain ⟨x, n, ⟨p, q, P, Q⟩⟩ := a
  simp only [wholeB, Bool.and_eq_true, beq_iff_eq] at h
  obtain ⟨⟨h1, h2⟩, h3, h4⟩ := h
  simp only [h1, h2, h3, h4]
set_option maxHeartbeats 8000000 in
theorem fill_any (sb tb mb ab most : Nat) (P : R4) (c : Nat) (hc : c ≤ 1) : ∀ (n : Nat) {w : World} {g : Nat} {N : List Nd} (_ : Pn w sb g tb mb ab most N P c) {x : Nat} {r : R4} (_ : n ≤ 62) (_ : Sq0 N n x) (_ : RIn n r) (_ : Pr P n r),
    Calls Tryz.prog 102 #[.pointer (some ⟨ab, 0, none⟩), .agg #[.int .u32 (x : Int), .int .i64 (n : Int), .int .i64 r.x, .int .i64 r.y, .int .i64 r.X, .int .i64 r.Y]] w fun e w' => ∃ g' N', Px sb tb mb ab most P c w g N w' g' N' ∧ Res8 most e N n (Tc N n x r c []) N' := by
  intro n
  induction n with
  | zero =>
    intro w g N h x r hn hx hi hr
    have HB := Lib.hid (bel1 w (.cells #[.int .u32 (x : Int), .int .i64 0, .int .i64 r.x, .int .i64 r.y, .int .i64 r.X, .int .i64 r.Y] 83))
    have HP0 := Lib.hid h
    have HP := Lib.hid (h.later HB.out)
    have ho : Oc (w.alloc (.cells #[.int .u32 (x : Int), .int .i64 0, .int .i64 r.x, .int .i64 r.y, .int .i64 r.X, .int .i64 r.Y] 83)) sb g tb mb w.heap.size (ptO8 ⟨x, 0, r⟩) := Oc.new h _ _
    have HO := Lib.hid ho
    have HX := Lib.hid hx
    have HI := Lib.hid hi
    have HE := Lib.hid (fun w => rempty_any r.x r.y r.X r.Y w)
    clear h hx hi hr ho
    rw [show (((0 : Nat) : Int)) = 0 from rfl]
    cases hno : noPts r.x r.y r.X r.Y with
    | true =>
      have HNO : Hid (r.no = true) := by
        show _ = _
        unfold noPts at hno; unfold R4.no; exact hno
      rw [hno] at HE
      clear hno
      obtain ⟨c0, c1, c2, c3, c4, c5⟩ := pt_cells8 HO.out.at_
      simp only at c0 c1 c2 c3 c4 c5
      rw [show (((0 : Nat) : Int)) = 0 from rfl] at c1
      go_enter Tryz.func102, Tryz.ntmps102
      go_wp2_with fail
      generalize w.alloc (.cells #[.int .u32 (x : Int), .int .i64 0, .int .i64 r.x, .int .i64 r.y, .int .i64 r.X, .int .i64 r.Y] 83) = W0 at *
      refine (HE.out _).mono ?_
      rintro e W1 ⟨rfl, hb⟩
      have HB1 := Lib.hid (HB.out.trans (hb.mono HB.out.size))
      have HP1 := Lib.hid (HP.out.later hb)
      have HO1 := Lib.hid (HO.out.later hb)
      clear hb HB HP HO c0 c1 c2 c3 c4 c5
      obtain ⟨c0, c1, c2, c3, c4, c5⟩ := pt_cells8 HO1.out.at_
      simp only at c0 c1 c2 c3 c4 c5
      rw [show (((0 : Nat) : Int)) = 0 from rfl] at c1
      have HRE := Lib.hid (real_any HP1.out (by omega) HX.out)
      rw [show (((0 : Nat) : Int)) = 0 from rfl] at HRE
      go_wp2_with fail
      refine HRE.out.mono ?_
      rintro e W2 ⟨g', N', hpx, hres⟩
      have HPX := Lib.hid ((Px.of_below HP0.out HB1.out).trans hpx)
      have HR : Hid (Res8 most e N 0 (Tc N 0 x r c []) N') := hres.of fun X Y _ _ => (tc_nil HNO.out X Y).symm
      clear hpx hres
      obtain ⟨y, ev, rfl, _⟩ := two8 HR.out
      go_wp2_with fail
      go_ret2
      exact ⟨g', N', HPX.out, HR.out⟩
    | false =>
      have HNO : Hid (r.no = false) := by
        show _ = _
        unfold noPts at hno; unfold R4.no; exact hno
      rw [hno] at HE
      clear hno
      obtain ⟨c0, c1, c2, c3, c4, c5⟩ := pt_cells8 HO.out.at_
      simp only at c0 c1 c2 c3 c4 c5
      go_enter Tryz.func102, Tryz.ntmps102
      go_wp2_with fail
      generalize w.alloc (.cells #[.int .u32 (x : Int), .int .i64 0, .int .i64 r.x, .int .i64 r.y, .int .i64 r.X, .int .i64 r.Y] 83) = W0 at *
      refine (HE.out _).mono ?_
      rintro e W1 ⟨rfl, hb⟩
      have HB1 := Lib.hid (HB.out.trans (hb.mono HB.out.size))
      have HP1 := Lib.hid (HP.out.later hb)
      have HO1 := Lib.hid (HO.out.later hb)
      clear hb HB HP HO c0 c1 c2 c3 c4 c5
      obtain ⟨c0, c1, c2, c3, c4, c5⟩ := pt_cells8 HO1.out.at_
      simp only at c0 c1 c2 c3 c4 c5
      rw [show (((0 : Nat) : Int)) = 0 from rfl] at c1
      obtain ⟨p0, p1, p2⟩ := pn_cells HP1.out.pt
      go_wp2_with fail
      go_ret2
      refine ⟨g, N, Px.of_below HP0.out HB1.out, New8.refl _ _ _, Or.inl ⟨c, rfl, ?_, fun X Y hX hY => ?_⟩⟩
      · have : c = 0 ∨ c = 1 := by omega
        rcases this with rfl | rfl
        · exact sq_dead HP0.out.wf
        · exact sq_alive HP0.out.wf
      · show c = _
        unfold Tc
        have hin := (HI.out).resolve_left (by rw [HNO.out]; decide)
        have hlt := R4.no_not.1 HNO.out
        rw [show r.has X Y = true by
          rw [R4.has_iff]
          have e0 : (2 : Int) ^ 0 = 1 := rfl
          rw [e0] at hin hX hY
          omega]
        simp
  | succ n ih =>
    intro w g N h x r hn hx hi hr
    have hn62 : n < 62 := by omega
    rw [show (((n + 1 : Nat)) : Int) = (n : Int) + 1 by omega]
    have HB := Lib.hid (bel1 w (.cells #[.int .u32 (x : Int), .int .i64 ((n : Int) + 1), .int .i64 r.x, .int .i64 r.y, .int .i64 r.X, .int .i64 r.Y] 83))
    have HP0 := Lib.hid h
    have HP := Lib.hid (h.later HB.out)
    have ho : Oc (w.alloc (.cells #[.int .u32 (x : Int), .int .i64 (((n + 1 : Nat)) : Int), .int .i64 r.x, .int .i64 r.y, .int .i64 r.X, .int .i64 r.Y] 83)) sb g tb mb w.heap.size (ptO8 ⟨x, n + 1, r⟩) := Oc.new h _ _
    rw [show (((n + 1 : Nat)) : Int) = (n : Int) + 1 by omega] at ho
    have HO := Lib.hid ho
    have HX := Lib.hid hx
    have HI := Lib.hid hi
    have HPR := Lib.hid hr
    have HE := Lib.hid (fun w => rempty_any r.x r.y r.X r.Y w)
    have hal := HP.out.alt
    have HNA : Hid (w.heap.size ≠ ab) := by
      show _ ≠ _
      have := h.alt; omega
    clear h hx hi hr ho
    cases hno : noPts r.x r.y r.X r.Y with
    | true =>
      have HNO : Hid (r.no = true) := by
        show _ = _
        unfold noPts at hno; unfold R4.no; exact hno
      rw [hno] at HE
      clear hno
      obtain ⟨c0, c1, c2, c3, c4, c5⟩ := pt_cells8 HO.out.at_
      simp only at c0 c1 c2 c3 c4 c5
      rw [show (((n + 1 : Nat)) : Int) = (n : Int) + 1 by omega] at c1
      go_enter Tryz.func102, Tryz.ntmps102
      go_wp2_with fail
      generalize w.alloc (.cells #[.int .u32 (x : Int), .int .i64 ((n : Int) + 1), .int .i64 r.x, .int .i64 r.y, .int .i64 r.X, .int .i64 r.Y] 83) = W0 at *
      refine (HE.out _).mono ?_
      rintro e W1 ⟨rfl, hb⟩
      have HB1 := Lib.hid (HB.out.trans (hb.mono HB.out.size))
      have HP1 := Lib.hid (HP.out.later hb)
      have HO1 := Lib.hid (HO.out.later hb)
      clear hb HB HP HO c0 c1 c2 c3 c4 c5
      obtain ⟨c0, c1, c2, c3, c4, c5⟩ := pt_cells8 HO1.out.at_
      simp only at c0 c1 c2 c3 c4 c5
      rw [show (((n + 1 : Nat)) : Int) = (n : Int) + 1 by omega] at c1
      have HRE := Lib.hid (real_any HP1.out hn HX.out)
      rw [show (((n + 1 : Nat)) : Int) = (n : Int) + 1 by omega] at HRE
      go_wp2_with fail
      refine HRE.out.mono ?_
      rintro e W2 ⟨g', N', hpx, hres⟩
      have HPX := Lib.hid ((Px.of_below HP0.out HB1.out).trans hpx)
      have HR : Hid (Res8 most e N (n + 1) (Tc N (n + 1) x r c []) N') := hres.of fun X Y _ _ => (tc_nil HNO.out X Y).symm
      clear hpx hres
      obtain ⟨y, ev, rfl, _⟩ := two8 HR.out
      go_wp2_with fail
      go_ret2
      exact ⟨g', N', HPX.out, HR.out⟩
    | false =>
      have HNO : Hid (r.no = false) := by
        show _ = _
        unfold noPts at hno; unfold R4.no; exact hno
      rw [hno] at HE
      clear hno
      obtain ⟨c0, c1, c2, c3, c4, c5⟩ := pt_cells8 HO.out.at_
      simp only at c0 c1 c2 c3 c4 c5
      rw [show (((n + 1 : Nat)) : Int) = (n : Int) + 1 by omega] at c1
      go_enter Tryz.func102, Tryz.ntmps102
      go_wp2_with fail
      generalize w.alloc (.cells #[.int .u32 (x : Int), .int .i64 ((n : Int) + 1), .int .i64 r.x, .int .i64 r.y, .int .i64 r.X, .int .i64 r.Y] 83) = W0 at *
      refine (HE.out _).mono ?_
      rintro e W1 ⟨rfl, hb⟩
      have HB1 := Lib.hid (HB.out.trans (hb.mono HB.out.size))
      have HP1 := Lib.hid (HP.out.later hb)
      have HO1 := Lib.hid (HO.out.later hb)
      clear hb HB HP HO c0 c1 c2 c3 c4 c5 hal
      obtain ⟨c0, c1, c2, c3, c4, c5⟩ := pt_cells8 HO1.out.at_
      simp only at c0 c1 c2 c3 c4 c5
      rw [show (((n + 1 : Nat)) : Int) = (n : Int) + 1 by omega] at c1
      have h0 : ((n : Int) + 1 == 0) = false := by rw [beq_eq_false_iff_ne]; omega
      have hwh := fun W => whole_any ⟨x, n + 1, r⟩ hn W
      simp only at hwh
      rw [show (((n + 1 : Nat)) : Int) = (n : Int) + 1 by omega] at hwh
      have HWH := Lib.hid hwh
      clear hwh
      go_wp2_with fail
      refine (HWH.out _).mono ?_
      rintro e W2 ⟨rfl, hb⟩
      have HB2 := Lib.hid (HB1.out.trans (hb.mono HB1.out.size))
      have HP2 := Lib.hid (HP1.out.later hb)
      have HO2 := Lib.hid (HO1.out.later hb)
      clear hb HB1 HP1 HO1 c0 c1 c2 c3 c4 c5 HWH
      obtain ⟨c0, c1, c2, c3, c4, c5⟩ := pt_cells8 HO2.out.at_
      simp only at c0 c1 c2 c3 c4 c5
      rw [show (((n + 1 : Nat)) : Int) = (n : Int) + 1 by omega] at c1
      go_upto_if 34 with fail
      go_cut [] from 34 to 35 (fun wx => ∃ z : Nat, Sq0 N (n + 1) z ∧ (∀ X Y, 0 ≤ X ∧ X < 2 ^ (n + 1) → 0 ≤ Y ∧ Y < 2 ^ (n + 1) → Tc N (n + 1) z r c [] X Y = Tc N (n + 1) x r c [] X Y) ∧ Px sb tb mb ab most P c w g N wx g N ∧ Oc wx sb g tb mb w.heap.size (ptO8 ⟨z, n + 1, r⟩))
      case first =>
        cases hwb : wholeB ⟨x, n + 1, r⟩ with
        | true =>
          have HWB := Lib.hid hwb
          clear hwb
          have hfz : W2.frozen? ⟨w.heap.size, 0, none⟩ = false := Lib.frozen_of_heap HO2.out.at_ 0
          go_wp2_with fail
          go_meet
          refine ⟨0, Or.inl rfl, fun X Y hX hY => tc_whole (wholeB_iff HWB.out) X Y hX hY, (Px.of_below HP0.out HB2.out).set HO2.out HNA.out (Nat.le_refl _) _, ?_, HO2.out.sb_, HO2.out.g_, HO2.out.tb_, HO2.out.mb_⟩
          have := HO2.out.at_
          simp only [World.setCell, Array.getElem?_modify, this, ptO8]
          simp
        | false =>
          go_wp2_with fail
          go_meet
          exact ⟨x, HX.out, fun X Y _ _ => rfl, Px.of_below HP0.out HB2.out, HO2.out⟩
      case rest =>
        obtain ⟨z, hz, htc, hpx, ho⟩ := hcut
        have HZ := Lib.hid hz
        have HTC := Lib.hid htc
        have HPX := Lib.hid hpx
        have HP3 := Lib.hid hpx.pn
        have HO3 := Lib.hid ho
        clear hz htc hpx ho HB2 HP2 HO2 c0 c1 c2 c3 c4 c5 HX HE
        have HOK : Hid (PtOk P ⟨z, n + 1, r⟩) := by
          refine ⟨?_, hn, HNO.out, HI.out, HPR.out⟩
          obtain ⟨cap, hs⟩ := HP3.out.st
          rcases HZ.out with e | e
          · simp only [e]; omega
          · have := e.lt
            have := hs.room
            have := hs.most_le
            simp only; omega
        have hcast : (((n + 1 : Nat)) : Int) = (n : Int) + 1 := by omega
        obtain ⟨y0, ok, hlk, hok⟩ := HP3.out.look HOK.out
        simp only at hlk hok
        rw [hcast] at hlk
        have HYK := Lib.hid hok
        clear hok
        obtain ⟨c0, c1, c2, c3, c4, c5⟩ := pt_cells8 HO3.out.at_
        simp only at c0 c1 c2 c3 c4 c5
        rw [hcast] at c1
        clear hcast
        obtain ⟨p0, p1, p2⟩ := pn_cells HP3.out.pt
        have hne := Up.me wc
        have g0 := fun z : Up wc => Up.cell c0 z
        have g1 := fun z : Up wc => Up.cell c1 z
        have g2 := fun z : Up wc => Up.cell c2 z
        have g3 := fun z : Up wc => Up.cell c3 z
        have g4 := fun z : Up wc => Up.cell c4 z
        have g5 := fun z : Up wc => Up.cell c5 z
        have q2 := fun z : Up wc => Up.cell p2 z
        go_upto_region 7 with fail
        refine region_up (by kernel_rfl) (by kernel_rfl) ?_
        repeat (go_big_quiet_step (fail))
        refine wpQuiet_nil ?_
        rintro w5 ⟨⟨W5, hW5⟩, hw5⟩
        obtain rfl : w5 = W5 := hw5
        have HPX5 := Lib.hid (HPX.out.trans (Px.of_below HP3.out hW5))
        have HP5 := Lib.hid (HP3.out.later hW5)
        have HO5 := Lib.hid (HO3.out.later hW5)
        clear hne g0 g1 g2 g3 g4 g5 q2 c0 c1 c2 c3 c4 c5 p0 p1 p2 hlk hW5 HPX HP3 HO3
        cases ok with
        | true =>
          go_wp2_with fail
          go_ret2
          exact ⟨g, N, HPX5.out, New8.refl _ _ _, Or.inl ⟨y0, rfl, (HYK.out trivial).2.of HTC.out⟩⟩
        | false =>
          clear HYK
          have hcast : (((n + 1 : Nat)) : Int) = (n : Int) + 1 := by omega
          obtain ⟨c0, c1, c2, c3, c4, c5⟩ := pt_cells8 HO5.out.at_
          simp only at c0 c1 c2 c3 c4 c5
          rw [hcast] at c1
          clear hcast
          have HFO := Lib.hid (four_any HP5.out HZ.out)
          go_wp2_with fail
          refine HFO.out.mono ?_
          rintro e w6 ⟨rfl, hb⟩
          have HP6 := Lib.hid (HP5.out.later hb)
          have HPX6 := Lib.hid (HPX5.out.trans (Px.of_below HP5.out hb))
          have HO6 := Lib.hid (HO5.out.later hb)
          clear hb HP5 HPX5 HO5 HFO c0 c1 c2 c3 c4 c5
          generalize hkd : kidZ N z = k0 at *
          have HKD := Lib.hid hkd
          clear hkd
          have hk0 : Oc (w6.alloc (.cells #[.int .u32 (k0.1 : Int), .int .u32 (k0.2.1 : Int), .int .u32 (k0.2.2.1 : Int), .int .u32 (k0.2.2.2 : Int)] 96)) sb g tb mb w6.heap.size (kO k0) := Oc.new HP6.out _ _
          have HK7 := Lib.hid hk0
          have hb7 := bel1 w6 (.cells #[.int .u32 (k0.1 : Int), .int .u32 (k0.2.1 : Int), .int .u32 (k0.2.2.1 : Int), .int .u32 (k0.2.2.2 : Int)] 96)
          have HPX7 := Lib.hid (HPX6.out.trans (Px.of_below HP6.out hb7))
          have HO7 := Lib.hid (HO6.out.later hb7)
          have HKB : Hid (w.heap.size ≤ w6.heap.size ∧ w.heap.size ≠ w6.heap.size ∧ w6.heap.size ≠ ab) := ⟨HPX6.out.frm.size, by have := HO6.out.lt; omega, by have := HP6.out.alt; omega⟩
          obtain ⟨k1, k2, k3, k4⟩ := k_cells HK7.out.at_
          clear hk0 hb7 HP6 HPX6 HO6
          go_wp2_with fail
          generalize w6.alloc (.cells #[.int .u32 (k0.1 : Int), .int .u32 (k0.2.1 : Int), .int .u32 (k0.2.2.1 : Int), .int .u32 (k0.2.2.2 : Int)] 96) = W7 at *
          generalize w6.heap.size = kb at *
          clear k1 k2 k3 k4 w6
          go_loopg [9, 10, 11, 12, 52] 4 (fun m v9 v10 v11 v12 cnt wr => ∃ (j g8 : Nat) (M8 : List Nd) (f : Nat → Nat), m = 4 - j ∧ j ≤ 4 ∧ cnt = .int .i64 (j : Int) ∧ Px sb tb mb ab most P c w g N wr g8 M8 ∧ New8 N (n + 1) (Tc N (n + 1) z r c []) M8 ∧ Oc wr sb g8 tb mb w.heap.size (ptO8 ⟨z, n + 1, r⟩) ∧ Oc wr sb g8 tb mb kb (kO (mk4 f)) ∧ (∀ i, j ≤ i → i < 4 → f i = kAt k0 i) ∧ (∀ a b, pl a b < j → Con M8 n (f (pl a b)) (qF (Tc N (n + 1) z r c []) n a b)))
          case atStart => exact ⟨0, g, N, kAt k0, rfl, Nat.zero_le _, rfl, HPX7.out, New8.refl _ _ _, HO7.out, HK7.out, fun i _ _ => rfl, fun a b h => by omega⟩
          case round =>
            clear HPX7 HO7 HK7
            obtain ⟨j, g8, M8, f, hm, hj, rfl, hpx, hnew, ho, hk, hf1, hf2⟩ := hrel
            have HM := Lib.hid hm
            have HPX8 := Lib.hid hpx
            have HP8 := Lib.hid hpx.pn
            have HNW8 := Lib.hid hnew
            have HO8 := Lib.hid ho
            have HK8 := Lib.hid hk
            have HF1 := Lib.hid hf1
            have HF2 := Lib.hid hf2
            clear hm hpx hnew ho hk hf1 hf2
            by_cases hlt : j < 4
            · have hgj : decide ((j : Int) < 4) = true := by simp; omega
              obtain ⟨a, b, hjp⟩ := pl_of hlt
              have hix := kix k0 hlt
              have hcast : (((n + 1 : Nat)) : Int) = (n : Int) + 1 := by omega
              obtain ⟨c0, c1, c2, c3, c4, c5⟩ := pt_cells8 HO8.out.at_
              simp only at c0 c1 c2 c3 c4 c5
              rw [hcast] at c1
              clear hcast
              have HKA : Hid (kAt k0 j = pick k0 a b) := by
                show _ = _
                rw [hjp]; exact (pick_kAt k0 a b).symm
              have HS8 : Hid (Sq0 N n (kAt k0 j)) := by
                show Sq0 _ _ _
                rw [HKA.out, ← HKD.out]; exact HZ.out.kid HP0.out.wf a b
              have HIH : Hid (∀ W, Below wr.heap.size wr W → Calls Tryz.prog 102 #[.pointer (some ⟨ab, 0, none⟩), .agg #[.int .u32 (kAt k0 j : Int), .int .i64 (n : Int), .int .i64 (qR r n a b).x, .int .i64 (qR r n a b).y, .int .i64 (qR r n a b).X, .int .i64 (qR r n a b).Y]] W fun e w' => ∃ g' N', Px sb tb mb ab most P c wr g8 M8 w' g' N' ∧ Res8 most e M8 n (qF (Tc N (n + 1) z r c []) n a b) N') := fun W hb => by
                obtain ⟨E, hE⟩ := HPX8.out.ext
                refine (ih (HP8.out.later hb) (by omega) (hE ▸ HS8.out.app E) (qR_in r n a b) (qR_pr HPR.out HI.out a b)).mono ?_
                rintro e w' ⟨g', N', h1, h2⟩
                refine ⟨g', N', (Px.of_below HP8.out hb).trans h1, h2.of fun X Y hX hY => ?_⟩
                have hw8 := HP8.out.wf
                rw [hE] at hw8 ⊢
                rw [Tc_app HP0.out.wf E hw8 HS8.out, HKA.out, ← HKD.out]
                exact Tc_q (L := []) (fun p hp => by cases hp) a b hX hY
              have hqu := fun W => quarter8_any r n hn62 a b W
              rw [← hjp] at hqu
              have HQU := Lib.hid hqu
              have HJP := Lib.hid hjp
              clear hqu hjp HKA HS8
              generalize qR r n a b = q at *
              generalize kAt k0 j = x1 at *
              have i1 : (0 : Int) ≤ (j : Int) := by omega
              have i2 : (j : Int) < 4 := by omega
              have hw1 : IntKind.i64.wrap (n : Int) = (n : Int) := IntWalk.i64_in _ (by omega)
              go_upto_region 14 with fail
              go_cut [11, 12] from 56 to 71 (fun v11 v12 wx => ∃ (y g9 : Nat) (M9 : List Nd), Px sb tb mb ab most P c wr g8 M8 wx g9 M9 ∧ v11 = .int .u32 (y : Int) ∧ New8 M8 n (qF (Tc N (n + 1) z r c []) n a b) M9 ∧ ((v12 = .nilIface ∧ Con M9 n y (qF (Tc N (n + 1) z r c []) n a b)) ∨ (v12 = .iface 52 (.int .i64 7) ∧ most ≤ M9.length)))
              case first =>
                refine region_sq 12 (fun W => Below wr.heap.size wr W) [(0, 1), (1, 1), (2, 1), (3, 2), (4, 1), (5, 1), (6, 2), (7, 1), (8, 2), (9, 1), (10, 0), (11, 1), (12, 3), (13, 1), (14, 1), (15, 1), (16, 1), (17, 1)] (by kernel_rfl) (by kernel_rfl) rfl (by intro c a d v w h; cases d <;> exact h) (by kernel_rfl) (below_drewN (Below.refl _ wr) 1) ?_
                refine ⟨_, ?_, rfl, by rfl, ?_, ?_⟩
                rotate_left
                · intro W; go_simp; first | done | rfl
                conv => arg 6; simp only [Act.put, List.setIfInBounds_toArray, List.set_cons_zero, List.set_cons_succ]
                refine ⟨_, ?_, rfl, by rfl, ?_, ?_⟩
                rotate_left
                · intro W; go_simp; first | done | rfl
                conv => arg 6; simp only [Act.put, List.setIfInBounds_toArray, List.set_cons_zero, List.set_cons_succ]
                refine ⟨_, ?_, rfl, by rfl, ?_, ?_⟩
                rotate_left
                · intro W; go_simp; first | done | rfl
                conv => arg 6; simp only [Act.put, List.setIfInBounds_toArray, List.set_cons_zero, List.set_cons_succ]
                refine ⟨_, ?_, rfl, by rfl, ?_, ?_⟩
                rotate_left
                · intro W hW
                  have y := pt_cells8 (HO8.out.later hW).at_
                  simp only [Int.natCast_add, Int.natCast_one] at y
                  obtain ⟨y0, y1, y2, y3, y4, y5⟩ := y
                  go_simp; first | done | rfl
                conv => arg 6; simp only [Act.put, List.setIfInBounds_toArray, List.set_cons_zero, List.set_cons_succ]
                refine ⟨_, ?_, rfl, by rfl, ?_, ?_⟩
                rotate_left
                · intro W; go_simp; first | done | rfl
                conv => arg 6; simp only [Act.put, List.setIfInBounds_toArray, List.set_cons_zero, List.set_cons_succ]
                refine ⟨_, ?_, rfl, by rfl, ?_, ?_⟩
                rotate_left
                · intro W; go_simp; first | done | rfl
                conv => arg 6; simp only [Act.put, List.setIfInBounds_toArray, List.set_cons_zero, List.set_cons_succ]
                refine ⟨_, ?_, rfl, by rfl, ?_, ?_⟩
                rotate_left
                · intro W hW
                  have y := pt_cells8 (HO8.out.later hW).at_
                  simp only [Int.natCast_add, Int.natCast_one] at y
                  obtain ⟨y0, y1, y2, y3, y4, y5⟩ := y
                  go_simp; first | done | rfl
                conv => arg 6; simp only [Act.put, List.setIfInBounds_toArray, List.set_cons_zero, List.set_cons_succ]
                refine ⟨_, ?_, rfl, by rfl, ?_, ?_⟩
                rotate_left
                · intro W; go_simp; first | done | rfl
                conv => arg 6; simp only [Act.put, List.setIfInBounds_toArray, List.set_cons_zero, List.set_cons_succ]
                refine ⟨_, ?_, rfl, by rfl, ?_, ?_⟩
                rotate_left
                · intro W hW
                  have y := pt_cells8 (HO8.out.later hW).at_
                  simp only [Int.natCast_add, Int.natCast_one] at y
                  obtain ⟨y0, y1, y2, y3, y4, y5⟩ := y
                  go_simp; first | done | rfl
                conv => arg 6; simp only [Act.put, List.setIfInBounds_toArray, List.set_cons_zero, List.set_cons_succ]
                refine ⟨_, ?_, rfl, by rfl, ?_, ?_⟩
                rotate_left
                · intro W; go_simp; first | done | rfl
                conv => arg 6; simp only [Act.put, List.setIfInBounds_toArray, List.set_cons_zero, List.set_cons_succ]
                refine ⟨_, rfl, by rfl, fun K hK => ?_⟩
                go_simp
                refine (HQU.out _).mono ?_
                rintro e wq ⟨rfl, hbq⟩
                have HBQ : Hid (Below wr.heap.size wr wq) := ⟨hbq.os, hbq.tape, hbq.output, hbq.size, hbq.block⟩
                clear hbq
                refine hK _ _ HBQ.out ?_
                clear hK K
                conv => arg 6; simp only [Act.put, List.setIfInBounds_toArray, List.set_cons_zero, List.set_cons_succ]
                refine ⟨_, ?_, rfl, by rfl, ?_, ?_⟩
                rotate_left
                · intro W; go_simp; first | done | rfl
                conv => arg 6; simp only [Act.put, List.setIfInBounds_toArray, List.set_cons_zero, List.set_cons_succ]
                refine ⟨_, rfl, by rfl, fun K hK => ?_⟩
                go_simp
                refine (HIH.out _ HBQ.out).mono ?_
                rintro e w9 ⟨g9, M9, hpx, hres⟩
                obtain ⟨y, ev, rfl, hn8, hres2⟩ := two8 hres
                have HRS := Lib.hid hres2
                have HN9 := Lib.hid hn8
                have HX9 := Lib.hid hpx
                clear hres hres2 hn8 hpx
                refine hK _ _ ?_
                clear hK K
                conv => arg 6; simp only [Act.put, List.setIfInBounds_toArray, List.set_cons_zero, List.set_cons_succ]
                refine ⟨_, ?_, rfl, by rfl, ?_, ?_⟩
                rotate_left
                · intro W; go_simp; first | done | rfl
                conv => arg 6; simp only [Act.put, List.setIfInBounds_toArray, List.set_cons_zero, List.set_cons_succ]
                refine ⟨_, ?_, rfl, by rfl, ?_, ?_⟩
                rotate_left
                · intro W; go_simp; first | done | rfl
                conv => arg 6; simp only [Act.put, List.setIfInBounds_toArray, List.set_cons_zero, List.set_cons_succ]
                refine ⟨_, ?_, rfl, by rfl, ?_, ?_⟩
                rotate_left
                · intro W; go_simp; first | done | rfl
                conv => arg 6; simp only [Act.put, List.setIfInBounds_toArray, List.set_cons_zero, List.set_cons_succ]
                refine ⟨_, ?_, rfl, by rfl, ?_, ?_⟩
                rotate_left
                · intro W; go_simp; first | done | rfl
                conv => arg 6; simp only [Act.put, List.setIfInBounds_toArray, List.set_cons_zero, List.set_cons_succ]
                refine ⟨_, ?_, rfl, by rfl, ?_, ?_⟩
                rotate_left
                · intro W; go_simp; first | done | rfl
                conv => arg 6; simp only [Act.put, List.setIfInBounds_toArray, List.set_cons_zero, List.set_cons_succ]
                unfold wpSq
                all_goals go_wp2
                all_goals go_meet
                all_goals exact ⟨y, g9, M9, HX9.out, rfl, HN9.out, HRS.out⟩
              case rest =>
                obtain ⟨y, g9, M9, hpx, rfl, hnew, hres⟩ := hcut
                have HPX9 := Lib.hid (HPX8.out.trans hpx)
                have HEX : Hid (∃ E, M9 = M8 ++ E) := hpx.ext
                have HO9 := Lib.hid (HO8.out.px hpx)
                have HK9 := Lib.hid (HK8.out.px hpx)
                have HNW9 := Lib.hid (HNW8.out.trans HP8.out.wf hnew.up)
                have HWF8 := Lib.hid HP8.out.wf
                clear hpx hnew HIH HQU c0 c1 c2 c3 c4 c5 HO8 HK8 HNW8 HPX8 HP8 hix
                rcases hres with ⟨rfl, hcon⟩ | ⟨rfl, hfull⟩
                · have HC := Lib.hid hcon
                  clear hcon
                  obtain ⟨kc1, kc2⟩ := k_cell HK9.out.at_ hlt
                  go_wp2_with fail
                  go_roundg (4 - (j + 1))
                  case measure => rw [HM.out]; omega
                  case rel =>
                    have hks := HK9.out.set hlt y
                    rw [show (mk4 fun i => if i = j then y else kAt (mk4 f) i) = mk4 (fun i => if i = j then y else f i) from mk4_ext fun i hi => by show (if i = j then y else kAt (mk4 f) i) = _; rw [kAt_mk4 _ hi]] at hks
                    refine ⟨j + 1, g9, M9, _, rfl, by omega, by go_num, HPX9.out.set HK9.out HKB.out.2.2 HKB.out.1 _, HNW9.out, HO9.out.other (by show kb ≠ w.heap.size; exact Ne.symm HKB.out.2.1) _, hks, fun i hi hi4 => ?_, fun a' b' hab => ?_⟩
                    · show (if i = j then y else f i) = _
                      rw [if_neg (by omega)]; exact HF1.out i (by omega) hi4
                    · by_cases e : pl a' b' = j
                      · simp only [e, if_true]
                        have e2 : pl a' b' = pl a b := e.trans HJP.out
                        obtain ⟨rfl, rfl⟩ := pl_inj.1 e2
                        exact HC.out
                      · simp only [if_neg e]
                        obtain ⟨E, rfl⟩ := HEX.out
                        exact (HF2.out a' b' (by omega)).app HWF8.out E
                · have HC := Lib.hid hfull
                  clear hfull
                  go_wp2_with fail
                  go_ret2
                  exact ⟨g9, M9, HPX9.out, (HNW9.out).of HTC.out, Or.inr ⟨rfl, HC.out⟩⟩
            · obtain rfl : j = 4 := by omega
              have hgs : decide (((4 : Nat) : Int) < 4) = false := by simp
              have HCN : Hid (∀ r1 b1, Con M8 n (pick (mk4 f) r1 b1) (qF (Tc N (n + 1) z r c []) n r1 b1)) := fun r1 b1 => by
                rw [pick_kAt, kAt_mk4 _ (pl_lt _ _)]
                exact HF2.out r1 b1 (pl_lt _ _)
              generalize hkk : mk4 f = kk at *
              clear HF1 HF2 hkk
              have HMK : Hid (∀ W, Below wr.heap.size wr W → Calls Tryz.prog 74 #[.pointer (some ⟨sb, 0, none⟩), .agg #[.int .u32 (kk.1 : Int), .int .u32 (kk.2.1 : Int), .int .u32 (kk.2.2.1 : Int), .int .u32 (kk.2.2.2 : Int)]] W fun e w' => ∃ g' N', Px sb tb mb ab most P c wr g8 M8 w' g' N' ∧ Res8 most e M8 (n + 1) (Tc N (n + 1) z r c []) N') := fun W hb => by
                refine (make_con (HP8.out.later hb) hn62 HCN.out).mono ?_
                rintro e w' ⟨g', N', h1, h2⟩
                exact ⟨g', N', (Px.of_below HP8.out hb).trans h1, h2⟩
              obtain ⟨p0, p1, p2⟩ := pn_cells HP8.out.pt
              obtain ⟨k1, k2, k3, k4⟩ := k_cells HK8.out.at_
              go_upto_region 19 with fail
              go_cut [13, 14] from 79 to 87 (fun v11 v12 wx => ∃ (y g9 : Nat) (M9 : List Nd), Px sb tb mb ab most P c wr g8 M8 wx g9 M9 ∧ v11 = .int .u32 (y : Int) ∧ New8 M8 (n + 1) (Tc N (n + 1) z r c []) M9 ∧ ((v12 = .nilIface ∧ Con M9 (n + 1) y (Tc N (n + 1) z r c [])) ∨ (v12 = .iface 52 (.int .i64 7) ∧ most ≤ M9.length)))
              case first =>
                go_region_with (first
                  | (go_at_call 74; refine (HMK.out _ (below_drewN (Below.refl _ wr) 1)).mono ?_; rintro e w9 ⟨g9, M9, hpx, hres⟩; obtain ⟨y, ev, rfl, hn8, hres2⟩ := two8 hres; have HRS := Lib.hid hres2; have HN9 := Lib.hid hn8; have HX9 := Lib.hid hpx; clear hres hres2 hn8 hpx))
                all_goals go_wp2
                all_goals go_meet
                all_goals exact ⟨y, g9, M9, HX9.out, rfl, HN9.out, HRS.out⟩
              case rest =>
                obtain ⟨y, g9, M9, hpx, rfl, hnew, hres⟩ := hcut
                have HPX9 := Lib.hid (HPX8.out.trans hpx)
                have HO9 := Lib.hid (HO8.out.px hpx)
                have HNW9 := Lib.hid (HNW8.out.trans HP8.out.wf hnew)
                clear hpx hnew HMK p0 p1 p2 k1 k2 k3 k4 HO8 HK8 HNW8 HPX8 HP8
                rcases hres with ⟨rfl, hcon⟩ | ⟨rfl, hfull⟩
                · have HC := Lib.hid hcon
                  clear hcon
                  have HP9 := Lib.hid HPX9.out.pn
                  have hcast : (((n + 1 : Nat)) : Int) = (n : Int) + 1 := by omega
                  obtain ⟨c0, c1, c2, c3, c4, c5⟩ := pt_cells8 HO9.out.at_
                  simp only at c0 c1 c2 c3 c4 c5
                  rw [hcast] at c1
                  obtain ⟨p0, p1, p2⟩ := pn_cells HP9.out.pt
                  have HTA : Hid (Sq0 M9 (n + 1) z ∧ Tc M9 (n + 1) z r c [] = Tc N (n + 1) z r c []) := by
                    obtain ⟨E, hE⟩ := HPX9.out.ext
                    have hw9 := HP9.out.wf
                    rw [hE] at hw9 ⊢
                    exact ⟨HZ.out.app E, Tc_app HP0.out.wf E hw9 HZ.out r c []⟩
                  obtain ⟨wm, hput, hpm⟩ := HP9.out.drew.put (a := ⟨z, n + 1, r⟩) (y := y) HOK.out HTA.out.1 (by rw [HTA.out.2]; exact HC.out)
                  simp only at hput
                  rw [hcast] at hput
                  have HPM := Lib.hid hpm.undrew
                  clear hpm hcast
                  go_upto_region 22 with fail
                  go_region_with fail
                  all_goals go_wp2_with fail
                  all_goals go_ret2
                  all_goals exact ⟨g9, M9, HPX9.out.trans HPM.out, (HNW9.out).of HTC.out, Or.inl ⟨y, rfl, HC.out.of HTC.out⟩⟩
                · have HC := Lib.hid hfull
                  clear hfull
                  go_wp2_with fail
                  go_ret2
                  exact ⟨g9, M9, HPX9.out, (HNW9.out).of HTC.out, Or.inr ⟨rfl, HC.out⟩⟩
end Go.Proofs.YtnfjmmkokhncoaaGreat
