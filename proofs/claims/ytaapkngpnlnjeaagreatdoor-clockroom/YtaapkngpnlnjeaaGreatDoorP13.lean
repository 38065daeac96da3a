-- P13
import Derived.Test.YtaapkngpnlnjeaaGreatDoorQx
import Derived.Test.YtaapkngpnlnjeaaGreatDoorNz10
import Derived.Test.YtaapkngpnlnjeaaGreatDoorP11
import Derived.Test.YtaapkngpnlnjeaaGreatDoorP12
import Derived.Test.YtaapkngpnlnjeaaGreatDoorQt
import Derived.Shelf.Spec.TrailingZeros
section
namespace Go.Proofs.YtaapkngpnlnjeaaGreatDoor
open Go.RowKit Go.Maps
set_option maxRecDepth 100000

theorem Nx.bel {w w' : World} {sb tb most g g' c B : Nat} {N N' : List Nd} (h : Nx sb tb most w g N c w' g' N') (h1 : B ≤ sb) (h2 : B ≤ g) (h3 : B ≤ tb) (h4 : B ≤ w.heap.size) : Below B w w' ∧ B ≤ g' := by
  refine ⟨h.frm.below (fun b hb => ?_) h4, ?_⟩
  · simp only [List.mem_cons, List.not_mem_nil, or_false] at hb
    omega
  · rcases h.gin with e | e <;> omega
theorem Nx.len {w w' : World} {sb tb most g g' c : Nat} {N N' : List Nd} (h : Nx sb tb most w g N c w' g' N') : N'.length ≤ N.length + c := by
  obtain ⟨E, rfl, hE⟩ := h.ext
  rw [List.length_append]; omega
theorem em_al {N : List Nd} {n x : Nat} (h : Em N (n + 1) x) (a b : Int) : alK N n (kidZ N x) a b = false := by
  rw [al_root, h.2]
  cases inS n a <;> cases inS n b <;> rfl
theorem Nx.al {w w' : World} {sb tb most g g' c n x : Nat} {N N' : List Nd} (h : Nx sb tb most w g N c w' g' N') (hw : Wf N) (hx : Sq N (n + 1) x) (a b : Int) : alK N' n (kidZ N' x) a b = alK N n (kidZ N x) a b := by
  obtain ⟨E, rfl, _⟩ := h.ext
  rw [kid_app E hx.lt, alK_app hw E (hx.kid hw)]
theorem far_eg : Far 2 2 5 (-9) := by
  refine ⟨by decide, by decide, fun i hi => ?_⟩
  have : i = 0 ∨ i = 1 := by omega
  rcases this with rfl | rfl <;> decide
end Go.Proofs.YtaapkngpnlnjeaaGreatDoor
end

section
namespace Go.Proofs.YtaapkngpnlnjeaaGreatDoor
open Go.RowKit Go.Maps
set_option maxRecDepth 100000

theorem res_cell11 {P : Program} {fn : Func} {tmps : Array Value} {w : World} {i j : Nat} {t : TypeId} {ad : Addr} {v u : Value} (hr : fn.results = #[.cell i t, .tmp j]) (ha : tmps.getD i undef = .pointer (some ad)) (hj : tmps.getD j undef = u) (hl : (loadVar t ad).run P w = .ok v w) : (results fn tmps).run P w = .ok (.tuple #[v, u]) w := by
  unfold results
  rw [hr]
  rw [Array.getD_eq_getD_getElem?] at ha hj
  simp [ha, hj, asAddr, hl]
theorem pl_ret11 {fn : Func} {tmps : Array Value} {w : World} {i j b : Nat} {p v u : Value} (hr : fn.results = #[.cell i 34, .tmp j]) (ha : tmps.getD i undef = .pointer (some ⟨b, 0, none⟩)) (hj : tmps.getD j undef = u) (h : w.heap[b]? = some (.cells #[p, v] 34 (0, 0))) : (results fn tmps).run Tryz.prog w = .ok (.tuple #[.agg #[p, v], u]) w :=
  res_cell11 hr ha hj (run_loadVar_row w b 34 34 _ (0, 0) _ h Tryz.underlying34 rfl (by as_aux_lemma => kernel_rfl))
theorem put_me {w w' : World} {sb tb mb most g g' c b : Nat} {N N' : List Nd} {fb fb' : FbT} {m m' : Stp → Option Value} {p v : Value} (h : Mx sb tb mb most w g N fb m c w' g' N' fb' m') (hb : Oe w' sb g' tb mb fb' b (.cells #[p, v] 34 (0, 0))) (hw : w.heap.size ≤ b) (p' v' : Value) :
    ∃ W, (w'.setCell ⟨b, 0, none⟩ p').setCell ⟨b, 1, none⟩ v' = W ∧ Mx sb tb mb most w g N fb m c W g' N' fb' m' ∧ Oe W sb g' tb mb fb' b (.cells #[p', v'] 34 (0, 0)) := by
  have h0 : Oe (w'.setCell ⟨b, 0, none⟩ p') sb g' tb mb fb' b (.cells #[p', v] 34 (0, 0)) := ⟨pl_set0 hb.at_ _, hb.sb_, hb.g_, hb.tb_, hb.mb_, hb.fb_⟩
  exact ⟨_, rfl, (h.set hb hw p').set h0 hw v', ⟨pl_set1 h0.at_ _, hb.sb_, hb.g_, hb.tb_, hb.mb_, hb.fb_⟩⟩
/-- What a leap comes to. -/
def Leaps (most : Nat) (e : Ending) (N' : List Nd) (sb : Nat) (H : Plane) : Prop :=
  (∃ n' r : Nat, e = .returned (.tuple #[plV sb r, .nilIface]) ∧ PG N' n' r H ∧ (n' = 2 ∨ ∃ a b, H a b = 1 ∧ ¬ (inS (n' - 1) a = true ∧ inS (n' - 1) b = true))) ∨ (e = .returned (.tuple #[.agg #[.pointer none, .int .u32 0], .iface 48 (.int .i64 7)]) ∧ most ≤ N'.length)
/-- Trim, of a plane with a function's cells. -/
theorem trim_pg {w : World} {sb g tb most mb : Nat} {N : List Nd} {fb : FbT} {m : Stp → Option Value} (h : Me w sb g tb most N mb fb m) {n x : Nat} {G : Plane} (hp : PG N n x G) :
    Calls Tryz.prog 47 #[.agg #[.pointer (some ⟨sb, 0, none⟩), .int .u32 (x : Int)]] w fun e w' => ∃ g' N', Mx sb tb mb most w g N fb m 1 w' g' N' fb m ∧ Leaps most e N' sb G := by
  obtain ⟨cap, hs⟩ := h.st
  refine (trim_any hs hp.sq hp.two hp.em).mono ?_
  rintro e w' ⟨k, hk2, hkn, ⟨g', N', hnx, hres⟩, hlow⟩
  refine ⟨g', N', Mx.of_nx h hnx, ?_⟩
  rcases hres with ⟨r, rfl, hsq, hal, hem⟩ | ⟨rfl, hf⟩
  · refine Or.inl ⟨k, r, rfl, ⟨hsq, hk2, fun p q => by rw [hal, hp.al], hem, hp.bin⟩, hlow.imp id ?_⟩
    rintro ⟨a, b, h1, h2⟩
    rw [hp.al] at h1
    exact ⟨a, b, of_decide_eq_true h1, h2⟩
  · exact Or.inr ⟨rfl, hf⟩
theorem pow_le_exp {i j : Nat} (h : (2 : Int) ^ i ≤ 2 ^ j) : i ≤ j := by
  apply Classical.byContradiction
  intro hn
  have h1 := pow_mono (show j + 1 ≤ i by omega)
  have h2 := pow_two2 j
  have h3 := pow_pos2 j
  omega
theorem wr_leap {R : Int} (h0 : 0 ≤ R) (h : R ≤ 1152921504606846976) : (wrap64 R = R ∧ wrap64 (2 * R) = 2 * R ∧ wrap64 (2 * R - 1) = 2 * R - 1) ∧ IntKind.i64.wrap R = R ∧ IntKind.i64.wrap (2 * R) = 2 * R ∧ IntKind.i64.wrap (2 * R - 1) = 2 * R - 1 :=
  ⟨⟨IntWalk.wrap64_in _ (by omega), IntWalk.wrap64_in _ (by omega), IntWalk.wrap64_in _ (by omega)⟩, IntWalk.i64_in _ (by omega), IntWalk.i64_in _ (by omega), IntWalk.i64_in _ (by omega)⟩
theorem on_leap {X : Int} (h0 : 0 ≤ X) (h : X < 2305843009213693952) : (onP X && onP 0) = true := by
  unfold onP
  simp only [Bool.and_eq_true, decide_eq_true_eq]
  omega
theorem wr_pow {R : Int} (h0 : 0 ≤ R) (h : R ≤ 1152921504606846976) : wrap64 R = R ∧ IntKind.i64.wrap R = R := ⟨IntWalk.wrap64_in _ (by omega), IntWalk.i64_in _ (by omega)⟩
theorem wr_six {n : Nat} (h : n < 62) : IntKind.i64.wrap ((n : Int) + 1 - 1) = (n : Int) := by rw [Int.add_sub_cancel]; exact IntWalk.i64_in _ (by omega)
/-- The sums of a leap: no wraps. -/
structure Wr11 (n P : Nat) (R X : Int) : Prop where
  e1 : wrap64 (2 ^ n) = 2 ^ n
  e2 : wrap64 (2 ^ P) = 2 ^ P
  e3 : wrap64 (2 ^ n + 2 ^ P) = R
  e4 : wrap64 (2 * R) = 2 * R
  e5 : wrap64 (2 * R - 1) = X
  f1 : IntKind.i64.wrap (2 ^ n) = 2 ^ n
  f2 : IntKind.i64.wrap (2 ^ P) = 2 ^ P
  f3 : IntKind.i64.wrap (2 ^ n + 2 ^ P) = R
  f4 : IntKind.i64.wrap (2 * R) = 2 * R
  f5 : IntKind.i64.wrap (2 * R - 1) = X
  e6 : IntKind.i64.wrap ((n : Int) + 1 - 1) = (n : Int)
theorem wr11 {n P : Nat} {R X : Int} (hR : R = 2 ^ n + 2 ^ P) (hX : X = 2 * R - 1) (h : R ≤ 1152921504606846976) (hn : n < 62) : Wr11 n P R X := by
  have h1 := pow_pos2 n
  have h2 := pow_pos2 P
  have w1 := wr_pow (R := 2 ^ n) (by omega) (by omega)
  have w2 := wr_pow (R := 2 ^ P) (by clear w1; omega) (by clear w1; omega)
  have w3 := wr_leap (R := R) (by clear w1 w2; omega) h
  refine ⟨w1.1, w2.1, ?_, w3.1.2.1, ?_, w1.2, w2.2, ?_, w3.2.2.1, ?_, wr_six hn⟩
  · rw [← hR]; exact w3.1.1
  · rw [hX]; exact w3.1.2.2
  · rw [← hR]; exact w3.2.1
  · rw [hX]; exact w3.2.2.2
set_option maxHeartbeats 8000000 in
theorem leap_any {w : World} {sb g tb most mb : Nat} {N : List Nd} {fb : FbT} {m : Stp → Option Value} (h : Me w sb g tb most N mb fb m) {n x P : Nat} {G : Plane} (hp : PG N n x G) (hR : (2 : Int) ^ n + 2 ^ P ≤ 1152921504606846976) {d : Nat} (hd : Far n d (2 * (2 ^ n + 2 ^ P) - 1) 0) :
    Calls Tryz.prog 48 #[.agg #[.pointer (some ⟨sb, 0, none⟩), .int .u32 (x : Int)], .pointer (some ⟨mb, 0, none⟩), .int .i64 (P : Int)] w fun e w' => ∃ g' N' fb' m', Mx sb tb mb most w g N fb m (5 * d + 1 + cE (n + d - 1) + 1) w' g' N' fb' m' ∧ Leaps most e N' sb (gens (2 ^ P) G) := by
  obtain ⟨R, hRd⟩ : ∃ R : Int, R = 2 ^ n + 2 ^ P := ⟨_, rfl⟩
  rw [← hRd] at hR hd
  obtain ⟨X, hXd⟩ : ∃ X : Int, X = 2 * R - 1 := ⟨_, rfl⟩
  rw [← hXd] at hd
  have hn0 := pow_pos2 n
  have hP0 := pow_pos2 P
  have hn4 : (2 : Int) ^ 2 ≤ 2 ^ n := pow_mono hp.two
  have hn5 : (4 : Int) ≤ 2 ^ n := hn4
  obtain ⟨hd1, hd2, hd3⟩ := hd
  have hdn : ∃ k, n + d = k + 1 ∧ n ≤ k := by
    cases d with
    | zero =>
      simp only [Nat.add_zero, Bool.and_eq_true] at hd2
      have := (inS_iff.1 hd2.1).2
      omega
    | succ d => exact ⟨n + d, rfl, by omega⟩
  obtain ⟨k, hk, hnk⟩ := hdn
  have hk2 : 2 ≤ k := Nat.le_trans hp.two hnk
  have hRk : R ≤ 2 ^ k := by
    rw [hk, Bool.and_eq_true] at hd2
    have h1 := (inS_iff.1 hd2.1).2
    have h2 := pow_two2 k
    omega
  have hPk : P ≤ k := pow_le_exp (by omega)
  have hXon : (onP X && onP 0) = true := on_leap (by omega) (by omega)
  have hFar : Far n d X 0 := ⟨hd1, hd2, hd3⟩
  have hxu : x < 4294967296 := by obtain ⟨cap, hs⟩ := h.st; exact Sq.u32 hs hp.sq
  have hn62 := hp.sq.le62 h.wf
  have hP62 : P < 62 := by omega
  have HPG := Lib.hid hp
  have hbA := bel1 w (.cells #[.pointer (some ⟨sb, 0, none⟩), .int .u32 (x : Int)] 34)
  have hbB := bel1 (w.alloc (.cells #[.pointer (some ⟨sb, 0, none⟩), .int .u32 (x : Int)] 34)) (.cells #[.pointer none, .int .u32 0] 34)
  have HP0 : Hid (Oe ((w.alloc (.cells #[.pointer (some ⟨sb, 0, none⟩), .int .u32 (x : Int)] 34)).alloc (.cells #[.pointer none, .int .u32 0] 34)) sb g tb mb fb w.heap.size (plO sb x)) := (Oe.new h _ _).later hbB
  have hr0 := Oe.new (h.later hbA) #[.pointer none, .int .u32 0] 34
  rw [show (w.alloc (.cells #[.pointer (some ⟨sb, 0, none⟩), .int .u32 (x : Int)] 34)).heap.size = w.heap.size + 1 by simp] at hr0
  have HR0 := Lib.hid hr0
  have HM0 := Lib.hid (Mx.of_below h (bel2 w (.cells #[.pointer (some ⟨sb, 0, none⟩), .int .u32 (x : Int)] 34) (.cells #[.pointer none, .int .u32 0] 34)))
  have HFAR := Lib.hid hFar
  have HXON := Lib.hid hXon
  have HRK := Lib.hid hRk
  have HRD := Lib.hid hRd
  have HK := Lib.hid (And.intro hk (And.intro hnk (And.intro hk2 hPk)))
  have HFIN : Hid (∀ {N' : List Nd}, True) := fun {_} => trivial
  clear HFIN
  have HE := Lib.hid (wr11 hRd hXd hR hn62)
  clear hd1 hd2 hd3 hk hnk hk2 hRk hPk hXon hFar hbA hbB hr0 h hn4 hRd hXd hR
  go_enter Tryz.func48, Tryz.ntmps48
  go_upto_region 1 with fail
  generalize (w.alloc (.cells #[.pointer (some ⟨sb, 0, none⟩), .int .u32 (x : Int)] 34)).alloc (.cells #[.pointer none, .int .u32 0] 34) = W0 at *
  have HLV := Lib.hid (fun z : Up W0 => Up.callsE (fun W hW => by obtain ⟨cap, hs⟩ := (HM0.out.me.later hW).st; exact level_any hs x hxu) z)
  rw [show lvZ N x = (n : Int) + 1 from HPG.out.sq] at HLV
  obtain ⟨p0, p1⟩ := pl_cells HP0.out.at_
  have hne := Up.me W0
  have c0 := fun z : Up W0 => Up.cell p0 z
  have c1 := fun z : Up W0 => Up.cell p1 z
  clear p0 p1
  refine region_up (by kernel_rfl) (by kernel_rfl) ?_
  obtain ⟨e1, e2, e3, e4, e5, f1, f2, f3, f4, f5, e6⟩ := HE.out
  repeat (go_big_quiet_step ((first | (go_at_call 17; with_reducible exact HLV.out _) | fail)))
  refine wpQuiet_nil ?_
  rintro w1 ⟨⟨W1, hW1⟩, hw1⟩
  obtain rfl : w1 = W1 := hw1
  clear e1 e2 e3 e4 e5 f1 f2 f3 f4 f5 e6
  have HM1 := Lib.hid ((HM0.out.trans (Mx.of_below HM0.out.me hW1)).mono (show 0 + 0 ≤ 0 by omega))
  have HP1 := Lib.hid (HP0.out.later hW1)
  have HR1 := Lib.hid (HR0.out.later hW1)
  clear hW1 HM0 HP0 HR0 c0 c1 hne HLV
  have HRE : Hid (Calls Tryz.prog 43 #[.agg #[.pointer (some ⟨sb, 0, none⟩), .int .u32 (x : Int)], .agg #[.int .i64 X, .int .i64 0]] w1 fun e w' => Made sb tb most w1 g N (5 * d + 1) w' e (n + d) (n - 1 + d) (alK N n (kidZ N x))) := by
    obtain ⟨cap, hs⟩ := HM1.out.me.st
    exact reach_any hs HPG.out.sq HPG.out.two HPG.out.em _ _ HXON.out HFAR.out
  obtain ⟨p0, p1⟩ := pl_cells HP1.out.at_
  have e4 := HE.out.e4
  have e5 := HE.out.e5
  have f4 := HE.out.f4
  have f5 := HE.out.f5
  go_wp2_with fail
  clear e4 e5 f4 f5
  refine HRE.out.mono ?_
  rintro e w2 ⟨g2, N2, hnx, hres⟩
  have hmx2 := Mx.of_nx HM1.out.me hnx
  have HM2 := Lib.hid ((HM1.out.trans hmx2).mono (show 0 + (5 * d + 1) ≤ 5 * d + 1 by omega))
  have HP2 := Lib.hid (HP1.out.mx hmx2)
  have HR2 := Lib.hid (HR1.out.mx hmx2)
  clear hnx hmx2 HRE HM1 HP1 HR1 p0 p1
  obtain ⟨hk, hnk, hk2, hPk⟩ := HK.out
  have hpbr : w.heap.size ≤ w.heap.size + 1 := Nat.le_succ _
  rcases hres with ⟨r, rfl, hsq, hal, hem⟩ | ⟨rfl, hfull⟩
  · unfold plV
    have HPW : Hid (PG N2 (k + 1) r G) := by
      rw [hk] at hsq
      rw [hk] at hal
      exact ⟨hsq, by omega, fun p q => by rw [hal, HPG.out.al], by rw [show k + 1 - 1 = n - 1 + d by have := HPG.out.two; omega]; exact hem, HPG.out.bin⟩
    clear hsq hal hem
    have HNX := Lib.hid (enext_any HM2.out.me (n := k) (x := r) (p := P) HPW.out.sq hPk)
    have HB3 := Lib.hid (bel1 w2 (.cells #[.pointer (some ⟨sb, 0, none⟩), .int .u32 (r : Int)] 34))
    have HW3 : Hid (Oe (w2.alloc (.cells #[.pointer (some ⟨sb, 0, none⟩), .int .u32 (r : Int)] 34)) sb g2 tb mb _ w2.heap.size (plO sb r)) := Oe.new HM2.out.me _ _
    have HM3 := Lib.hid ((HM2.out.trans (Mx.of_below HM2.out.me HB3.out)).mono (show 5 * d + 1 + 0 ≤ 5 * d + 1 by omega))
    have HP3 := Lib.hid (HP2.out.later HB3.out)
    have HR3 := Lib.hid (HR2.out.later HB3.out)
    have HNX3 := Lib.hid (enext_any HM3.out.me (n := k) (x := r) (p := P) HPW.out.sq hPk)
    clear HNX HB3 HM2 HP2 HR2
    obtain ⟨v0, v1⟩ := pl_cells HW3.out.at_
    go_upto_region 5 with fail
    generalize w2.alloc (.cells #[.pointer (some ⟨sb, 0, none⟩), .int .u32 (r : Int)] 34) = w3 at *
    generalize w2.heap.size = wb at *
    go_wp2_with fail
    refine HNX3.out.mono ?_
    rintro e w4 ⟨g4, N4, fb4, m4, hmx4, hres4⟩
    have HM4 := Lib.hid ((HM3.out.trans hmx4))
    have HP4 := Lib.hid (HP3.out.mx hmx4)
    have HR4 := Lib.hid (HR3.out.mx hmx4)
    have HCN := Lib.hid ((HPW.out.con HM3.out.me.wf).mx HM3.out.me.wf hmx4)
    have HEM : Hid (HasEm N4 (k - 1)) := by
      obtain ⟨E, e1, _⟩ := hmx4.ext
      rw [e1]
      exact (HPW.out.em.mono (by omega)).app HM3.out.me.wf E
    clear hmx4 HNX3 HM3 HP3 HR3 v0 v1
    rcases hres4 with ⟨z, rfl, hsc, _⟩ | ⟨rfl, hfull⟩
    · have HPZ : Hid (PG N4 k z (gens (2 ^ P) G)) := by
        refine ⟨hsc.zq, hk2, fun p q => ?_, HEM.out, gens_bin _ HPG.out.bin⟩
        refine succ_plane HM4.out.me.wf HCN.out hsc ?_ p q
        refine (Wid.gens (2 ^ P) HPG.out.bin HPG.out.wid).mono ?_
        rw [pow_nat, ← HRD.out]
        exact HRK.out
      clear hsc
      have HTR := Lib.hid (trim_pg HM4.out.me HPZ.out)
      obtain ⟨p0, p1⟩ := pl_cells HP4.out.at_
      go_wp2_with fail
      refine HTR.out.mono ?_
      rintro e w5 ⟨g5, N5, hmx5, hlp⟩
      have HM5 := Lib.hid (HM4.out.trans hmx5)
      have HR5 := Lib.hid (HR4.out.mx hmx5)
      clear hmx5 HTR HM4 HP4 HR4 p0 p1
      rcases hlp with ⟨n5, r5, rfl, hpg5, hlow5⟩ | ⟨rfl, hfull⟩
      · obtain ⟨q0, q1, qf0, qf1⟩ := res_cells HR5.out.at_
        obtain ⟨W, hW, hMW, hRW⟩ := put_me HM5.out HR5.out hpbr (.pointer (some ⟨sb, 0, none⟩)) (.int .u32 ((r5 : Nat) : Int))
        unfold plV
        go_wp2_with fail
        refine bodyPost_ret (pl_ret11 rfl rfl rfl hRW.at_) rfl ?_
        exact ⟨g5, N5, fb4, m4, hMW.mono (by rw [show n + d - 1 = k by omega]; omega), Or.inl ⟨n5, r5, rfl, hpg5, hlow5⟩⟩
      · obtain ⟨q0, q1, qf0, qf1⟩ := res_cells HR5.out.at_
        obtain ⟨W, hW, hMW, hRW⟩ := put_me HM5.out HR5.out hpbr (.pointer none) (.int .u32 0)
        go_wp2_with fail
        refine bodyPost_ret (pl_ret11 rfl rfl rfl hRW.at_) rfl ?_
        exact ⟨g5, N5, fb4, m4, hMW.mono (by rw [show n + d - 1 = k by omega]; omega), Or.inr ⟨rfl, hfull⟩⟩
    · obtain ⟨q0, q1, qf0, qf1⟩ := res_cells HR4.out.at_
      obtain ⟨W, hW, hMW, hRW⟩ := put_me HM4.out HR4.out hpbr (.pointer none) (.int .u32 0)
      go_wp2_with fail
      refine bodyPost_ret (pl_ret11 rfl rfl rfl hRW.at_) rfl ?_
      exact ⟨g4, N4, fb4, m4, hMW.mono (by rw [show n + d - 1 = k by omega]; omega), Or.inr ⟨rfl, hfull⟩⟩
  · have HB3 := Lib.hid (bel1 w2 (.cells #[.pointer none, .int .u32 0] 34))
    have HM3 := Lib.hid ((HM2.out.trans (Mx.of_below HM2.out.me HB3.out)).mono (show 5 * d + 1 + 0 ≤ 5 * d + 1 by omega))
    have HR3 := Lib.hid (HR2.out.later HB3.out)
    clear HM2 HP2 HR2
    go_upto_region 3 with fail
    generalize w2.alloc (.cells #[.pointer none, .int .u32 0] 34) = w3 at *
    obtain ⟨q0, q1, qf0, qf1⟩ := res_cells HR3.out.at_
    obtain ⟨W, hW, hMW, hRW⟩ := put_me HM3.out HR3.out hpbr (.pointer none) (.int .u32 0)
    go_wp2_with fail
    refine bodyPost_ret (pl_ret11 rfl rfl rfl hRW.at_) rfl ?_
    exact ⟨g2, N2, fb, m, hMW.mono (by omega), Or.inr ⟨rfl, hfull⟩⟩
end Go.Proofs.YtaapkngpnlnjeaaGreatDoor
end

section
namespace Go.Proofs.YtaapkngpnlnjeaaGreatDoor
open Go.RowKit Go.Maps Go.Shelf
set_option maxRecDepth 100000

theorem tab_below {w w' : World} {D : Nat} (h : TabAt 0 Lib.deBruijn64tab w) (hb : Below D w w') (hD : 0 < D) : TabAt 0 Lib.deBruijn64tab w' := fun j hj => by
  rw [hb.cell (p := ⟨0, j, none⟩) hD]
  exact h j hj
set_option maxHeartbeats 1000000 in
theorem tz_core (x k idx : Nat) (w : World) (hx0 : ((x : Int) == 0) = false)
    (key : IntKind.u64.wrap (bits BinOp.and IntKind.u64 (x : Int) (IntKind.u64.wrap (-(x : Int))) * 285870213051353865) / 288230376151711744 = (idx : Int))
    (hi : idx < 64) (_ : k < 64) (hcell : w.cell? ⟨0, idx, none⟩ = some (.int .u8 (k : Int))) :
    Calls Tryz.prog 49 #[.int .u64 (x : Int)] w fun e w' => e = .returned (.int .i64 (k : Int)) ∧ w = w' := by
  have i1 : (0 : Int) ≤ (idx : Int) := by omega
  have i2 : (idx : Int) < 64 := by omega
  have wk : IntKind.i64.wrap (k : Int) = (k : Int) := IntWalk.i64_in _ (by omega)
  go_enter Tryz.func49, Tryz.ntmps49
  go_wp2_with (simp only [key])
  go_ret
  exact ⟨rfl, rfl⟩
theorem tzN_any (x : Nat) (h0 : 0 < x) (hx : x < 18446744073709551616) (w : World) (hT : TabAt 0 Lib.deBruijn64tab w) :
    Calls Tryz.prog 49 #[.int .u64 (x : Int)] w fun e w' => e = .returned (.int .i64 ((Lib.ctz 64 x : Nat) : Int)) ∧ w = w' := by
  obtain ⟨hlow, hk⟩ := Lib.lowest_bit 64 x (by omega) hx
  obtain ⟨hi, htab⟩ := Lib.deBruijn64_at _ hk
  have hcell := hT _ hi
  rw [htab] at hcell
  exact tz_core x _ _ w (by simp; omega) (tz64_key x _ hx (by omega) hlow) hi hk hcell
theorem pg_ct {N : List Nd} (hw : Wf N) {n x : Nat} {G : Plane} (h : PG N n x G) : ctZ N x = 0 ↔ ∀ p q, G p q ≠ 1 := by
  rw [ct_zero hw h.sq]
  constructor
  · intro hz p q e
    have := h.al p q
    rw [e, al_root, hz] at this
    simp at this
  · intro hz X Y
    rw [← get_mod N (n + 1) x X Y]
    have hp := pow_pos2 (n + 1)
    have e0 := Int.emod_nonneg X (show (2 : Int) ^ (n + 1) ≠ 0 by omega)
    have e1 := Int.emod_lt_of_pos X hp
    have e2 := Int.emod_nonneg Y (show (2 : Int) ^ (n + 1) ≠ 0 by omega)
    have e3 := Int.emod_lt_of_pos Y hp
    rw [(h.con hw).2 _ _ ⟨e0, e1⟩ ⟨e2, e3⟩]
    unfold shF
    have h1 := h.bin (X % 2 ^ (n + 1) + -2 ^ n) (Y % 2 ^ (n + 1) + -2 ^ n)
    have h2 := hz (X % 2 ^ (n + 1) + -2 ^ n) (Y % 2 ^ (n + 1) + -2 ^ n)
    omega
/-- No living cell: none ever. -/
theorem PG.dead {N : List Nd} {n x : Nat} {G : Plane} (h : PG N n x G) (hz : ∀ p q, G p q ≠ 1) (k : Nat) : PG N n x (gens k G) := by
  have h0 : ∀ p q, G p q = 0 := fun p q => by have := h.bin p q; have := hz p q; omega
  have hg := gens_zero k h0
  refine ⟨h.sq, h.two, fun p q => ?_, h.em, fun p q => by rw [hg]; omega⟩
  rw [h.al, h0, hg]
theorem and_low (r : Nat) (h0 : 0 < r) (h : r < 18446744073709551616) : bits .and .u64 (r : Int) ((r - 1 : Nat) : Int) = ((r - 2 ^ Lib.ctz 64 r : Nat) : Int) := by
  rw [bits_and_u64_nat r (r - 1) h (by omega), (low_bit h0 h).1]
end Go.Proofs.YtaapkngpnlnjeaaGreatDoor
end
