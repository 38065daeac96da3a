-- M28
import Derived.Test.YtnfjmmkokhncoaaGreatFo8
import Derived.Test.YtnfjmmkokhncoaaGreatM07
import Derived.BigQuiet
section
namespace Go.Proofs.YtnfjmmkokhncoaaGreat
open Go.RowKit Go.Maps
set_option maxRecDepth 100000

/-- What a finder remembers, asked in any world that keeps what was there. -/
theorem Fc.lookU {w : World} {sb g tb cb bb fb most : Nat} {N : List Nd} {P : R4} (h : Fc w sb g tb cb bb fb most N P) {a : Part} (ha : PtOk P a) :
    ∃ (c : Nat) (ok : Bool), (∀ W, Below w.heap.size w W → (Instr.lookup 118 (.map (some cb)) (.agg #[.int .u32 (a.x : Int), .int .i64 (a.n : Int), .int .i64 a.r.x, .int .i64 a.r.y, .int .i64 a.r.X, .int .i64 a.r.Y]) true).run Tryz.prog W = .ok (.tuple #[.int .u64 (c : Int), .bool ok]) W) ∧ (ok = true → c = ctP N a.n a.x a.r) := by
  obtain ⟨m, h1, h2⟩ := h.mm
  cases hm : m a with
  | some v =>
    obtain rfl := h2 a v hm
    exact ⟨ctP N a.n a.x a.r, true, fun W hb => ((h1.later hb).look a ha).1 _ hm, fun _ => rfl⟩
  | none => exact ⟨0, false, fun W hb => ((h1.later hb).look a ha).2 hm, fun h => by cases h⟩
theorem whole_iff {a : Part} (h : wholeB a = true) : a.r = ⟨0, 0, 2 ^ a.n, 2 ^ a.n⟩ := by
  obtain ⟨x, n, ⟨p, q, X, Y⟩⟩ := a
  unfold wholeB at h
  simp only [Bool.and_eq_true, beq_iff_eq] at h
  obtain ⟨⟨h1, h2⟩, h3, h4⟩ := h
  simp only [h1, h2, h3, h4]
/-- Count of a part of a square of a level. -/
def CnS (sb g tb cb bb fb most : Nat) (N : List Nd) (P : R4) (n : Nat) : Prop := ∀ {w : World} (_ : Fc w sb g tb cb bb fb most N P) {x : Nat} {r : R4} (_ : Sq N n x) (_ : RIn n r) (_ : Pr P n r) (_ : (cellsQ N n x).length ≤ 1000000),
    Calls Tryz.prog 35 #[.pointer (some ⟨fb, 0, none⟩), .agg #[.int .u32 (x : Int), .int .i64 (n : Int), .int .i64 r.x, .int .i64 r.y, .int .i64 r.X, .int .i64 r.Y]] w fun e w' => e = .returned (.int .u64 (ctP N n x r : Int)) ∧ Fc w' sb g tb cb bb fb most N P ∧ Frm [cb] w w'
set_option maxHeartbeats 16000000 in
theorem cn_step (sb g tb cb bb fb most : Nat) (N : List Nd) (P : R4) (n : Nat) (ih : ∀ m, n = m + 1 → CnS sb g tb cb bb fb most N P m) : CnS sb g tb cb bb fb most N P n := by
  intro w h x r hx hi hp hl
  obtain ⟨cap, hs⟩ := h.st
  have hxu := Sq.u32 hs hx
  have hwf := hs.wf
  have hn62 : n ≤ 62 := by
    cases n with
    | zero => omega
    | succ m => have := hx.le62 hwf; omega
  have HB := Lib.hid (bel1 w (.cells #[.int .u32 (x : Int), .int .i64 (n : Int), .int .i64 r.x, .int .i64 r.y, .int .i64 r.X, .int .i64 r.Y] 83))
  have HF := Lib.hid (h.later HB.out)
  have ho : (w.alloc (.cells #[.int .u32 (x : Int), .int .i64 (n : Int), .int .i64 r.x, .int .i64 r.y, .int .i64 r.X, .int .i64 r.Y] 83)).heap[w.heap.size]? = some (ptO8 ⟨x, n, r⟩) := heap_alloc_new w _
  have HO := Lib.hid ho
  have HCT := Lib.hid (fun W (hb : Below w.heap.size w W) => count_any (hs.later hb) x hxu)
  have HE := Lib.hid (fun W => rempty_any r.x r.y r.X r.Y W)
  have HWH := Lib.hid (fun W => whole_any ⟨x, n, r⟩ hn62 W)
  have HX := Lib.hid hx
  have HI := Lib.hid hi
  have HP := Lib.hid hp
  have HL := Lib.hid hl
  have HWF := Lib.hid hwf
  have HXU : Hid (x < 1048576) := by
    show _ < _
    have := hx.lt; have := hs.room; have := hs.most_le; omega
  have HFEW : Hid (ctZ N x = (cellsQ N n x).length) := ct_few hwf hx hl
  have HLT := Lib.hid h.lt
  clear h hx hi hp hl hs hwf ho hxu
  generalize hct : ctZ N x = ct at *
  have HCZ := Lib.hid hct
  clear hct
  go_enter Tryz.func35, Tryz.ntmps35
  go_upto_region 1 with fail
  generalize w.alloc (.cells #[.int .u32 (x : Int), .int .i64 (n : Int), .int .i64 r.x, .int .i64 r.y, .int .i64 r.X, .int .i64 r.Y] 83) = W0 at *
  obtain ⟨c0, c1, c2, c3, c4, c5⟩ := pt_cells8 HO.out
  simp only at c0 c1 c2 c3 c4 c5
  obtain ⟨f0, f1, f2⟩ := fn_cells HF.out.ft
  have hne := Up.me W0
  have q0 := fun z : Up W0 => Up.cell c0 z
  have q1 := fun z : Up W0 => Up.cell c1 z
  have q2 := fun z : Up W0 => Up.cell c2 z
  have q3 := fun z : Up W0 => Up.cell c3 z
  have q4 := fun z : Up W0 => Up.cell c4 z
  have q5 := fun z : Up W0 => Up.cell c5 z
  have q6 := fun z : Up W0 => Up.cell f0 z
  have HS1 := Lib.hid (fun z : Up W0 => Up.calls (fun W _ => HE.out W) z)
  have HS2 := Lib.hid (fun z : Up W0 => Up.callsE (fun W hb => HCT.out W (HB.out.trans (hb.mono HB.out.size))) z)
  clear c0 c1 c2 c3 c4 c5 f0 f1 f2
  cases hno : noPts r.x r.y r.X r.Y with
  | true =>
    rw [hno] at HS1
    refine region_up (by kernel_rfl) (by kernel_rfl) ?_
    repeat (go_big_quiet_step ((first | (go_at_call 40; with_reducible exact HS1.out _) | (go_at_call 16; with_reducible exact HS2.out _))))
    refine wpQuiet_nil ?_
    rintro w2 ⟨⟨W2, hW2⟩, rfl⟩
    go_wp2_with fail
    go_ret
    refine ⟨?_, HF.out.later hW2, Frm.of_below (HB.out.trans (hW2.mono HB.out.size))⟩
    unfold ctP
    rw [ptL_no (show r.no = true from hno)]; rfl
  | false =>
    rw [hno] at HS1
    have HNO : Hid (r.no = false) := hno
    clear hno
    by_cases h0 : ct = 0
    · subst h0
      refine region_up (by kernel_rfl) (by kernel_rfl) ?_
      repeat (go_big_quiet_step ((first | (go_at_call 40; with_reducible exact HS1.out _) | (go_at_call 16; with_reducible exact HS2.out _))))
      refine wpQuiet_nil ?_
      rintro w2 ⟨⟨W2, hW2⟩, rfl⟩
      go_wp2_with fail
      go_ret
      refine ⟨?_, HF.out.later hW2, Frm.of_below (HB.out.trans (hW2.mono HB.out.size))⟩
      unfold ctP
      rw [ptL_dead HWF.out HX.out HCZ.out r]; rfl
    · have hc0 : ((ct : Int) == 0) = false := by rw [beq_eq_false_iff_ne]; omega
      refine region_up (by kernel_rfl) (by kernel_rfl) ?_
      repeat (go_big_quiet_step ((first | (go_at_call 40; with_reducible exact HS1.out _) | (go_at_call 16; with_reducible exact HS2.out _))))
      refine wpQuiet_nil ?_
      rintro w2 ⟨⟨W2, hW2⟩, rfl⟩
      clear q0 q1 q2 q3 q4 q5 q6 hne HS1 HS2 hc0
      have HB2 := Lib.hid (HB.out.trans (hW2.mono HB.out.size))
      have HF2 := Lib.hid (HF.out.later hW2)
      have HO2 := Lib.hid (keep8 HO.out hW2)
      clear hW2 HB HF HO
      obtain ⟨c0, c1, c2, c3, c4, c5⟩ := pt_cells8 HO2.out
      simp only at c0 c1 c2 c3 c4 c5
      go_wp2_with fail
      refine (HWH.out _).mono ?_
      rintro e W3 ⟨rfl, hb⟩
      have HB3 := Lib.hid (HB2.out.trans (hb.mono HB2.out.size))
      have HF3 := Lib.hid (HF2.out.later hb)
      have HO3 := Lib.hid (keep8 HO2.out hb)
      clear hb HB2 HF2 HO2 HWH c0 c1 c2 c3 c4 c5
      obtain ⟨c0, c1, c2, c3, c4, c5⟩ := pt_cells8 HO3.out
      simp only at c0 c1 c2 c3 c4 c5
      obtain ⟨f0, f1, f2⟩ := fn_cells HF3.out.ft
      have hne := Up.me W3
      have q0 := fun z : Up W3 => Up.cell c0 z
      have q1 := fun z : Up W3 => Up.cell c1 z
      have q2 := fun z : Up W3 => Up.cell c2 z
      have q3 := fun z : Up W3 => Up.cell c3 z
      have q4 := fun z : Up W3 => Up.cell c4 z
      have q5 := fun z : Up W3 => Up.cell c5 z
      have q6 := fun z : Up W3 => Up.cell f0 z
      have q7 := fun z : Up W3 => Up.cell f1 z
      have HS2 := Lib.hid (fun z : Up W3 => Up.callsE (fun W hb => HCT.out W (HB3.out.trans (hb.mono HB3.out.size))) z)
      clear c0 c1 c2 c3 c4 c5 f0 f1 f2
      have HWP : Hid (wholeB ⟨x, n, r⟩ = true → ctP N n x r = ct) := by
        show _ → _
        intro hw
        rw [HFEW.out]
        unfold ctP
        rw [ptL_whole (whole_iff hw)]
      have HWN : Hid (wholeB ⟨x, n, r⟩ = false → ∃ m, n = m + 1) := by
        show _ → _
        intro hw
        refine ⟨n - 1, ?_⟩
        by_cases hn : n = 0
        · subst hn
          have := whole_zero HNO.out HI.out
          rw [this] at hw
          have h1 : wholeB ⟨x, 0, ⟨0, 0, 2 ^ 0, 2 ^ 0⟩⟩ = true := by simp [wholeB]
          rw [h1] at hw
          cases hw
        · omega
      cases hw : wholeB ⟨x, n, r⟩ with
      | true =>
        have HE := HWP.out hw
        go_upto_region 4 with fail
        refine region_up (by kernel_rfl) (by kernel_rfl) ?_
        repeat (go_big_quiet_step ((go_at_call 16; with_reducible exact HS2.out _)))
        refine wpQuiet_nil ?_
        rintro w2 ⟨⟨W2, hW2⟩, rfl⟩
        go_wp2_with fail
        go_ret
        exact ⟨by rw [HE]; rfl, HF3.out.later hW2, Frm.of_below (HB3.out.trans (hW2.mono HB3.out.size))⟩
      | false =>
        obtain ⟨m, rfl⟩ := HWN.out hw
        clear HWN HWP HS2 hw
        have ha : PtOk P ⟨x, m + 1, r⟩ := ⟨HXU.out, hn62, HNO.out, HI.out, HP.out⟩
        have HA := Lib.hid ha
        obtain ⟨c, ok, hlk, hok⟩ := HF3.out.lookU ha
        have HOK := Lib.hid hok
        have hlu : ∀ z : Up W3, (Instr.lookup 118 (.map (some cb)) (.agg #[.int .u32 (x : Int), .int .i64 ((m : Int) + 1), .int .i64 r.x, .int .i64 r.y, .int .i64 r.X, .int .i64 r.Y]) true).run Tryz.prog z.1 = .ok (.tuple #[.int .u64 (c : Int), .bool ok]) z.1 := fun z => hlk z.1 z.2
        clear hok ha hlk
        go_upto_region 5 with fail
        refine region_up (by kernel_rfl) (by kernel_rfl) ?_
        repeat (go_big_quiet_step (fail))
        refine wpQuiet_nil ?_
        rintro w2 ⟨⟨W5, hW5⟩, rfl⟩
        clear q0 q1 q2 q3 q4 q5 q6 q7 hne hlu
        have HB5 := Lib.hid (HB3.out.trans (hW5.mono HB3.out.size))
        have HF5 := Lib.hid (HF3.out.later hW5)
        have HO5 := Lib.hid (keep8 HO3.out hW5)
        clear hW5 HB3 HF3 HO3
        cases ok with
        | true =>
          go_wp2_with fail
          go_ret
          exact ⟨by rw [← HOK.out trivial]; rfl, HF5.out, Frm.of_below HB5.out⟩
        | false =>
          clear HOK
          have HSQ : Hid (∀ a b, Sq N m (pick (kidZ N x) a b)) := HX.out.kid HWF.out
          have HLE : Hid (∀ j, j ≤ 4 → cjP N m (kidZ N x) r j ≤ 1000000) := by
            show ∀ j, _ → _
            intro j hj
            have h1 := ptJ_le N m (kidZ N x) r (4 - j) j
            rw [show j + (4 - j) = 4 by omega, ← ptL_succ] at h1
            exact Nat.le_trans h1 (Nat.le_trans (ptL_le N (m + 1) x r) HL.out)
          have HRES : Hid (cjP N m (kidZ N x) r 4 = ctP N (m + 1) x r) := (ctP_succ N m x r).symm
          have HIC : Hid (∀ (W : World) (a b : Bool), Fc W sb g tb cb bb fb most N P → Calls Tryz.prog 35 #[.pointer (some ⟨fb, 0, none⟩), .agg #[.int .u32 (pick (kidZ N x) a b : Int), .int .i64 (m : Int), .int .i64 (qR r m a b).x, .int .i64 (qR r m a b).y, .int .i64 (qR r m a b).X, .int .i64 (qR r m a b).Y]] W fun e w' => e = .returned (.int .u64 (ctP N m (pick (kidZ N x) a b) (qR r m a b) : Int)) ∧ Fc w' sb g tb cb bb fb most N P ∧ Frm [cb] W w') := by
            show ∀ (W : World) (a b : Bool), _
            intro W a b hf
            exact ih m rfl hf (HSQ.out a b) (qR_in r m a b) (qR_pr HP.out HI.out a b) (Nat.le_trans (cellsQ_kid N m x a b) HL.out)
          have HFO : Hid (∀ W, Fc W sb g tb cb bb fb most N P → Calls Tryz.prog 64 #[.pointer (some ⟨fb, 0, none⟩), .agg #[.int .u32 (x : Int), .int .i64 ((m : Int) + 1), .int .i64 r.x, .int .i64 r.y, .int .i64 r.X, .int .i64 r.Y]] W fun e w' => e = .returned (fourP (kidZ N x) m r) ∧ Below W.heap.size W w') := by
            show ∀ W, _ → _
            intro W hf
            exact fourC_any hf HX.out r
          have HMN : Hid (w.heap.size ≠ cb) := by show _ ≠ _; have := HLT.out; omega
          have HRN : Hid (∃ res, res = ctP N (m + 1) x r) := ⟨_, rfl⟩
          obtain ⟨res, hres⟩ := HRN.out
          rw [← hres] at HRES
          have HRE := Lib.hid hres
          clear hres HRN HX HL HP HSQ HFEW HCZ
          clear ih
          generalize kidZ N x = k0 at *
          obtain ⟨c0, c1, c2, c3, c4, c5⟩ := pt_cells8 HO5.out
          have c1' : w2.cell? ⟨w.heap.size, 1, none⟩ = some (.int .i64 ((m : Int) + 1)) := c1
          simp only at c0 c2 c3 c4 c5
          clear c1
          go_wp2_with fail
          refine (HFO.out _ HF5.out).mono ?_
          rintro e W6 ⟨rfl, hb⟩
          have HF6 := Lib.hid (HF5.out.later hb)
          have HO6 := Lib.hid (keep8 HO5.out hb)
          have HR6 : Hid (Frm [cb] w W6) := Frm.of_below (HB5.out.trans (hb.mono HB5.out.size))
          clear hb HF5 HO5 HB5 HFO c0 c1' c2 c3 c4 c5
          go_wp2_with fail
          go_loopg [7, 9, 46] 4 (fun mm v7 v9 cnt wr => ∃ j : Nat, mm = 4 - j ∧ j ≤ 4 ∧ cnt = .int .i64 (j : Int) ∧ v7 = .int .u64 (cjP N m k0 r j : Int) ∧ Fc wr sb g tb cb bb fb most N P ∧ Frm [cb] w wr ∧ wr.heap[w.heap.size]? = some (ptO8 ⟨x, m + 1, r⟩))
          case atStart => exact ⟨0, rfl, Nat.zero_le _, rfl, rfl, HF6.out, HR6.out, HO6.out⟩
          case round =>
            clear HF6 HO6 HR6
            obtain ⟨j, hm, hj, rfl, rfl, hf, hr, ho⟩ := hrel
            have HM := Lib.hid hm
            have HF := Lib.hid hf
            have HR := Lib.hid hr
            have HO := Lib.hid ho
            clear hm hf hr ho
            by_cases hlt : j < 4
            · have hgj : decide ((j : Int) < 4) = true := by simp; omega
              have hix := fun w => pix k0 m r hlt w
              obtain ⟨a, b, hjp⟩ := pl_of hlt
              have hq : pq k0 m r j = (pick k0 a b, (m : Int), qR r m a b) := by
                unfold pq
                rw [hjp, (pl_dec a b).1, (pl_dec a b).2, pick_kAt]
              simp only [hq] at hix
              have hsucc : cjP N m k0 r (j + 1) = cjP N m k0 r j + ctP N m (pick k0 a b) (qR r m a b) := by
                rw [cjP_succ, hjp, (pl_dec a b).1, (pl_dec a b).2, pick_kAt]
              have hle := HLE.out (j + 1) (by omega)
              rw [hsucc] at hle
              have HSU := Lib.hid hsucc
              have HCC := Lib.hid (fun W hf => HIC.out W a b hf)
              clear hq hjp hsucc
              generalize pick k0 a b = y at *
              generalize qR r m a b = qr at *
              generalize hcq : ctP N m y qr = cq at *
              generalize hcj : cjP N m k0 r j = cj at *
              have i1 : (0 : Int) ≤ (j : Int) := by omega
              have i2 : (j : Int) < 4 := by omega
              have HBQ := Lib.hid (bel1 wr (.cells #[.int .u32 (y : Int), .int .i64 (m : Int), .int .i64 qr.x, .int .i64 qr.y, .int .i64 qr.X, .int .i64 qr.Y] 83))
              have HFQ := Lib.hid (HF.out.later HBQ.out)
              have HOQ := Lib.hid (keep8 HO.out HBQ.out)
              have HRQ : Hid (Frm [cb] w (wr.alloc (.cells #[.int .u32 (y : Int), .int .i64 (m : Int), .int .i64 qr.x, .int .i64 qr.y, .int .i64 qr.X, .int .i64 qr.Y] 83))) := HR.out.trans (Frm.of_below (F := [cb]) HBQ.out) (fun _ h => Or.inl h)
              go_wp2_with fail
              refine (HCC.out _ HFQ.out).mono ?_
              rintro e W7 ⟨rfl, hf7, hr7⟩
              have HF7 := Lib.hid hf7
              have HR7 : Hid (Frm [cb] w W7) := HRQ.out.trans hr7 (fun _ h => Or.inl h)
              have HO7 : Hid (W7.heap[w.heap.size]? = some (ptO8 ⟨x, m + 1, r⟩)) := by
                show _ = _
                rw [hr7.block _ (Array.getElem?_eq_some_iff.1 HOQ.out).1 (by simp [HMN.out])]
                exact HOQ.out
              clear hf7 hr7 HFQ HRQ HOQ HBQ HCC
              have u1 : IntKind.u64.wrap (18446744073709551615 - (cj : Int)) = 18446744073709551615 - (cj : Int) := IntWalk.u64_in _ (by omega)
              have u2 : min (cq : Int) (18446744073709551615 - (cj : Int)) = (cq : Int) := by omega
              have u3 : IntKind.u64.wrap ((cj : Int) + (cq : Int)) = (cj : Int) + (cq : Int) := IntWalk.u64_in _ (by omega)
              go_wp2_with fail
              go_roundg (4 - (j + 1))
              case measure => rw [HM.out]; omega
              case rel =>
                exact ⟨j + 1, rfl, by omega, by go_num, by rw [HSU.out, Int.natCast_add], HF7.out, HR7.out, HO7.out⟩
            · obtain rfl : j = 4 := by omega
              have hgs : decide (((4 : Nat) : Int) < 4) = false := by simp
              rw [HRES.out]
              obtain ⟨c0, c1, c2, c3, c4, c5⟩ := pt_cells8 HO.out
              have c1' : wr.cell? ⟨w.heap.size, 1, none⟩ = some (.int .i64 ((m : Int) + 1)) := c1
              simp only at c0 c2 c3 c4 c5
              clear c1
              obtain ⟨f0, f1, f2⟩ := fn_cells HF.out.ft
              have hd : Fc wr.drew sb g tb cb bb fb most N P := HF.out.drewN 1
              obtain ⟨wm, hput, hfn, hfr⟩ := hd.put HA.out res HRE.out
              have hput' : (Instr.mapUpdate 118 (.map (some cb)) (.agg #[.int .u32 (x : Int), .int .i64 ((m : Int) + 1), .int .i64 r.x, .int .i64 r.y, .int .i64 r.X, .int .i64 r.Y]) (.int .u64 (res : Int))).run Tryz.prog wr.drew = .ok () wm := hput
              have hrd : Frm [cb] w wr.drew := ⟨HR.out.os, HR.out.tape, HR.out.output, HR.out.size, HR.out.block⟩
              have HRZ : Hid (Frm [cb] w wm) := hrd.trans hfr (fun _ h => Or.inl h)
              have HFZ := Lib.hid hfn
              clear hd hfn hfr hput hrd
              go_upto_region 14 with fail
              go_region_with fail
              all_goals
                go_wp2_with fail
                go_ret
                exact ⟨by rw [← HRE.out]; rfl, HFZ.out, HRZ.out⟩
theorem count8_any (sb g tb cb bb fb most : Nat) (N : List Nd) (P : R4) : ∀ n, CnS sb g tb cb bb fb most N P n
  | 0 => cn_step sb g tb cb bb fb most N P 0 fun m e => by omega
  | n + 1 => cn_step sb g tb cb bb fb most N P (n + 1) fun m e => by
    obtain rfl : n = m := by omega
    exact count8_any sb g tb cb bb fb most N P n
end Go.Proofs.YtnfjmmkokhncoaaGreat
end

section
namespace Go.Proofs.YtnfjmmkokhncoaaGreat
open Go.RowKit Go.Maps
set_option maxRecDepth 100000

/-- A list has grown: besides, only one block may have changed. -/
structure Gw (cb : Nat) (w : World) (v : Value) (w' : World) (v' : Value) : Prop where
  os : w'.os = w.os
  tape : w'.tape = w.tape
  output : w'.output = w.output
  size : w.heap.size ≤ w'.heap.size
  block : ∀ b, b < w.heap.size → b ≠ cb → v.ownBlock ≠ some b → w'.heap[b]? = w.heap[b]?
  own : v'.ownBlock = v.ownBlock ∨ ∀ b, v'.ownBlock = some b → w.heap.size ≤ b
theorem Gw.refl (cb : Nat) (w : World) (v : Value) : Gw cb w v w v := ⟨rfl, rfl, rfl, Nat.le_refl _, fun _ _ _ _ => rfl, Or.inl rfl⟩
theorem Gw.trans {cb : Nat} {w w' w'' : World} {v v' v'' : Value} (h : Gw cb w v w' v') (h' : Gw cb w' v' w'' v'') : Gw cb w v w'' v'' := by
  refine ⟨h'.os.trans h.os, h'.tape.trans h.tape, h'.output.trans h.output, Nat.le_trans h.size h'.size, fun b hb hc hv => ?_, ?_⟩
  · rw [h'.block b (Nat.lt_of_lt_of_le hb h.size) hc ?_]
    · exact h.block b hb hc hv
    · rcases h.own with e | e
      · rw [e]; exact hv
      · intro e2; have := e b e2; omega
  · rcases h'.own with e | e
    · rw [e]; exact h.own
    · exact Or.inr fun b hb => Nat.le_trans h.size (e b hb)
theorem Gw.of_frm {cb : Nat} {w w' : World} (h : Frm [cb] w w') (v : Value) : Gw cb w v w' v := ⟨h.os, h.tape, h.output, h.size, fun b hb hc _ => h.block b hb (by simp [hc]), Or.inl rfl⟩
theorem Gw.of_below {cb : Nat} {w w' : World} (h : Below w.heap.size w w') (v : Value) : Gw cb w v w' v := Gw.of_frm (Frm.of_below h) v
theorem Gw.of_grown {cb : Nat} {w w' : World} {v v' : Value} (h : w.grownBy w' v.ownBlock) (ho : v'.ownBlock = v.ownBlock ∨ v'.ownBlock = some w.heap.size) : Gw cb w v w' v' :=
  ⟨h.os, h.tape, h.output, h.size, fun b hb _ hv => h.block b hb (fun e => hv e.symm), ho.imp id fun e b hb => by rw [e] at hb; cases hb; exact Nat.le_refl _⟩
theorem Gw.drewN {cb : Nat} {w w' : World} {v v' : Value} (h : Gw cb w v w' v') (q : Nat) : Gw cb w v (w'.drewN q) v' := ⟨h.os, h.tape, h.output, h.size, h.block, h.own⟩
theorem Fc.grown {w w' : World} {sb g tb cb bb fb most B : Nat} {N : List Nd} {P : R4} {row : Option Nat} (h : Fc w sb g tb cb bb fb most N P) (hg : w.grownBy w' row) (hB : sb < B ∧ g < B ∧ tb < B ∧ cb < B ∧ fb < B) (hr : ∀ b, row = some b → B ≤ b) : Fc w' sb g tb cb bb fb most N P := by
  have hlt := h.lt
  exact h.keep fun b hb => hg.block b (by omega) fun e => by have := hr b e.symm; omega
/-- The list's block stays one of the call's own. -/
theorem OwG.gw {cb B : Nat} {w w' : World} {v v' : Value} {l : List (Int × Int)} (h : OwG w B v l) (hg : Gw cb w v w' v') {b : Nat} (hb : b < B) (hB : B ≤ w.heap.size) (hc : b ≠ cb) : w'.heap[b]? = w.heap[b]? :=
  hg.block b (by omega) hc fun e => by have := (owG_block h e).1; omega
/-- The blocks of cells: the part, where its first cell lies. -/
structure Hc8 (w : World) (sb g tb cb bb fb most : Nat) (N : List Nd) (P : R4) (B : Nat) (v : Value) (a : Part) (fx fy : Int) (vc : Value) (l : List (Int × Int)) (W : World) : Prop where
  fn : Fc W sb g tb cb bb fb most N P
  gw : Gw cb w v W vc
  own : OwG W B vc l
  one : W.heap[w.heap.size]? = some (ptO8 a)
  two : W.heap[w.heap.size + 1]? = some (.cells #[.int .i64 fx, .int .i64 fy] 24 (0, 0))
  ne : w.heap.size ≠ cb ∧ w.heap.size + 1 ≠ cb
  far : ∀ b, vc.ownBlock = some b → b ≠ w.heap.size ∧ b ≠ w.heap.size + 1
theorem Hc8.lt {w W : World} {sb g tb cb bb fb most B : Nat} {N : List Nd} {P : R4} {v vc : Value} {a : Part} {fx fy : Int} {l : List (Int × Int)} (h : Hc8 w sb g tb cb bb fb most N P B v a fx fy vc l W) : w.heap.size + 1 < W.heap.size := (Array.getElem?_eq_some_iff.1 h.two).1
theorem Hc8.later {w W W' : World} {sb g tb cb bb fb most B : Nat} {N : List Nd} {P : R4} {v vc : Value} {a : Part} {fx fy : Int} {l : List (Int × Int)} (h : Hc8 w sb g tb cb bb fb most N P B v a fx fy vc l W) (hb : Below W.heap.size W W') : Hc8 w sb g tb cb bb fb most N P B v a fx fy vc l W' :=
  ⟨h.fn.later hb, h.gw.trans (Gw.of_below hb _), h.own.later hb, keep8 h.one hb, keep8 h.two hb, h.ne, h.far⟩
theorem Hc8.drewN {w W : World} {sb g tb cb bb fb most B : Nat} {N : List Nd} {P : R4} {v vc : Value} {a : Part} {fx fy : Int} {l : List (Int × Int)} (h : Hc8 w sb g tb cb bb fb most N P B v a fx fy vc l W) (q : Nat) : Hc8 w sb g tb cb bb fb most N P B v a fx fy vc l (W.drewN q) :=
  ⟨h.fn.drewN q, h.gw.drewN q, h.own, h.one, h.two, h.ne, h.far⟩
/-- A call that grows the list. -/
theorem Hc8.call {w W W' : World} {sb g tb cb bb fb most B : Nat} {N : List Nd} {P : R4} {v vc vc' : Value} {a : Part} {fx fy : Int} {l l' : List (Int × Int)} (h : Hc8 w sb g tb cb bb fb most N P B v a fx fy vc l W) (hf : Fc W' sb g tb cb bb fb most N P) (hg : Gw cb W vc W' vc') (ho : OwG W' B vc' l') : Hc8 w sb g tb cb bb fb most N P B v a fx fy vc' l' W' := by
  have hlt := h.lt
  refine ⟨hf, h.gw.trans hg, ho, ?_, ?_, h.ne, fun b hb => ?_⟩
  · rw [hg.block _ (by omega) h.ne.1 (fun e => (h.far _ e).1 rfl)]; exact h.one
  · rw [hg.block _ (by omega) h.ne.2 (fun e => (h.far _ e).2 rfl)]; exact h.two
  · rcases hg.own with e | e
    · exact h.far b (e ▸ hb)
    · have := e b hb; omega
/-- A call that keeps the list, but for the finder's map. -/
theorem Hc8.frm {w W W' : World} {sb g tb cb bb fb most B : Nat} {N : List Nd} {P : R4} {v vc : Value} {a : Part} {fx fy : Int} {l : List (Int × Int)} (h : Hc8 w sb g tb cb bb fb most N P B v a fx fy vc l W) (hf : Fc W' sb g tb cb bb fb most N P) (hr : Frm [cb] W W') (hcB : cb < B) : Hc8 w sb g tb cb bb fb most N P B v a fx fy vc l W' :=
  h.call hf (Gw.of_frm hr _) (h.own.keep fun b hb => hr.block b (owG_block h.own hb).2 (by have := (owG_block h.own hb).1; simp; omega))
end Go.Proofs.YtnfjmmkokhncoaaGreat
end
