/- Package quad: raised: contract. -/
import Derived.Test.YtgciceogggldhaaQm3
import Derived.Deep.DeepCutAuto
import Derived.Deep.CutRange
namespace Go.Proofs.Ytgciceogggldhaa
open Go.RowKit Go.Maps
set_option maxRecDepth 100000

theorem Nx.undrew {w w' : World} {sb tb most g g' c : Nat} {N N' : List Nd} (h : Nx sb tb most w.drew g N c w' g' N') : Nx sb tb most w g N c w' g' N' :=
  ⟨h.st, ⟨h.frm.os, h.frm.tape, h.frm.output, h.frm.size, h.frm.block⟩, h.gin, h.ext⟩
theorem Ob.drew {w : World} {sb g tb b : Nat} {o : Obj} (h : Ob w sb g tb b o) : Ob w.drew sb g tb b o := ⟨h.at_, h.sb_, h.g_, h.tb_⟩
theorem two_out {e : Ending} {A : Nat → Prop} {B : Prop} (h : (∃ r : Nat, e = .returned (.tuple #[.int .u32 (r : Int), .nilIface]) ∧ A r) ∨ (e = .returned (.tuple #[.int .u32 0, .iface 53 (.int .i64 7)]) ∧ B)) :
    ∃ (r : Nat) (ev : Value), e = .returned (.tuple #[.int .u32 (r : Int), ev]) ∧ ((ev = .nilIface ∧ A r) ∨ (ev = .iface 53 (.int .i64 7) ∧ B)) := by
  rcases h with ⟨r, rfl, h⟩ | ⟨rfl, h⟩
  · exact ⟨r, _, rfl, Or.inl ⟨rfl, h⟩⟩
  · exact ⟨0, _, rfl, Or.inr ⟨rfl, h⟩⟩
theorem Nx.sq {w w' : World} {sb tb most g g' c n x : Nat} {N N' : List Nd} (h : Nx sb tb most w g N c w' g' N') (hx : Sq N n x) : Sq N' n x := by
  obtain ⟨E, rfl, _⟩ := h.ext
  exact hx.app E
set_option maxHeartbeats 4000000 in
theorem raised_any {w : World} {sb g tb cap most : Nat} {N : List Nd} (h : St w sb g tb cap most N) {n x d : Nat} (hx : Sq N (n + 1) x) (hn : 1 ≤ n) (hd : n + 1 + d ≤ 62) (hE : HasEm N (n - 1)) :
    Calls Try.prog 41 #[.agg #[.pointer (some ⟨sb, 0, none⟩), .int .u32 (x : Int)], .int .i64 ((n + 1 + d : Nat) : Int)] w fun e w' => ∃ g' N', Nx sb tb most w g N (5 * d + 1) w' g' N' ∧
      ((∃ r : Nat, e = .returned (.tuple #[plV sb r, .nilIface]) ∧ Sq N' (n + d + 1) r ∧ (∀ a b, alK N' (n + d) (kidZ N' r) a b = alK N n (kidZ N x) a b) ∧ HasEm N' (n - 1 + d)) ∨ (e = .returned (.tuple #[.agg #[.pointer none, .int .u32 0], .iface 53 (.int .i64 7)]) ∧ most ≤ N'.length)) := by
  have hxu := Sq.u32 h hx
  have HB := Lib.hid (bel2 w (.cells #[.pointer (some ⟨sb, 0, none⟩), .int .u32 (x : Int)] 36) (.cells #[.pointer none, .int .u32 0] 36))
  have HS0 := Lib.hid h
  have HS := Lib.hid (h.later HB.out)
  have HP := Lib.hid ((Ob.new h #[.pointer (some ⟨sb, 0, none⟩), .int .u32 (x : Int)] 36).later (bel1 _ (.cells #[.pointer none, .int .u32 0] 36)))
  have hr0 := Ob.new (h.later (bel1 w (.cells #[.pointer (some ⟨sb, 0, none⟩), .int .u32 (x : Int)] 36))) #[.pointer none, .int .u32 0] 36
  rw [show (w.alloc (.cells #[.pointer (some ⟨sb, 0, none⟩), .int .u32 (x : Int)] 36)).heap.size = w.heap.size + 1 by simp] at hr0
  have HR := Lib.hid hr0
  have HX := Lib.hid hx
  have HE := Lib.hid hE
  clear h hx hr0 hE
  go_enter Try.func41, Try.ntmps41
  go_wp2_with fail
  generalize (w.alloc (.cells #[.pointer (some ⟨sb, 0, none⟩), .int .u32 (x : Int)] 36)).alloc (.cells #[.pointer none, .int .u32 0] 36) = W0 at *
  refine (of_sqk HS.out HX.out).mono ?_
  rintro e w5 ⟨rfl, hb⟩
  have HFK := Lib.hid (HX.out.kid HS.out.wf)
  have HB5 := Lib.hid (HB.out.trans (hb.mono HB.out.size))
  have HS5 := Lib.hid (HS.out.later hb)
  have HP5 := Lib.hid (HP.out.later hb)
  have HR5 := Lib.hid (HR.out.later hb)
  clear hb HB HS HR HP
  generalize hkd : kidZ N x = k0 at *
  have HKD := Lib.hid hkd
  clear hkd
  have HK6 := Lib.hid (Ob.new HS5.out #[.int .u32 (k0.1 : Int), .int .u32 (k0.2.1 : Int), .int .u32 (k0.2.2.1 : Int), .int .u32 (k0.2.2.2 : Int)] 68)
  have HB6 := Lib.hid (HB5.out.trans ((bel1 w5 (.cells #[.int .u32 (k0.1 : Int), .int .u32 (k0.2.1 : Int), .int .u32 (k0.2.2.1 : Int), .int .u32 (k0.2.2.2 : Int)] 68)).mono HB5.out.size))
  have HS6 := Lib.hid (HS5.out.later (bel1 w5 (.cells #[.int .u32 (k0.1 : Int), .int .u32 (k0.2.1 : Int), .int .u32 (k0.2.2.1 : Int), .int .u32 (k0.2.2.2 : Int)] 68)))
  have HP6 := Lib.hid (HP5.out.later (bel1 w5 (.cells #[.int .u32 (k0.1 : Int), .int .u32 (k0.2.1 : Int), .int .u32 (k0.2.2.1 : Int), .int .u32 (k0.2.2.2 : Int)] 68)))
  have HR6 := Lib.hid (HR5.out.later (bel1 w5 (.cells #[.int .u32 (k0.1 : Int), .int .u32 (k0.2.1 : Int), .int .u32 (k0.2.2.1 : Int), .int .u32 (k0.2.2.2 : Int)] 68)))
  have hkb : w.heap.size ≤ w5.heap.size := HB5.out.size
  have hne6 : w.heap.size ≠ w5.heap.size ∧ w.heap.size + 1 ≠ w5.heap.size := ⟨by have := HP5.out.lt; omega, by have := HR5.out.lt; omega⟩
  clear HS5 HP5 HR5
  obtain ⟨p0, p1⟩ := pl_cells HP6.out.at_
  have HLV := Lib.hid (level_any HS6.out x hxu)
  rw [show lvZ N x = ((n + 1 : Nat) : Int) from HX.out] at HLV
  go_wp2_with fail
  refine HLV.out.mono ?_
  rintro e W2 ⟨rfl, hW2⟩
  rw [← hW2]
  clear hW2 HLV p0 p1
  generalize w5.alloc (.cells #[.int .u32 (k0.1 : Int), .int .u32 (k0.2.1 : Int), .int .u32 (k0.2.2.1 : Int), .int .u32 (k0.2.2.2 : Int)] 68) = W6 at *
  generalize w5.heap.size = kb at *
  have HNE : Hid (w.heap.size ≠ kb ∧ w.heap.size + 1 ≠ kb) := hne6
  clear HB5 W2 w5 hne6
  go_wp2_with fail
  go_loopg [8, 9, 10, 11, 12] d (fun m lv v9 v10 v11 v12 wr => ∃ (j gg : Nat) (M : List Nd) (kk : K4), m = d - j ∧ j ≤ d ∧ lv = .int .i64 ((n + 1 + j : Nat) : Int) ∧ Nx sb tb most w g N (5 * j) wr gg M ∧ Ob wr sb gg tb w.heap.size (plO sb x) ∧ Ob wr sb gg tb (w.heap.size + 1) (.cells #[.pointer none, .int .u32 0] 36 (0, 0)) ∧ Ob wr sb gg tb kb (kO kk) ∧ Fo M (n + j) kk ∧ (∀ a b, alK M (n + j) kk a b = alK N n k0 a b) ∧ HasEm M (n - 1 + j))
  case atStart => exact ⟨0, g, N, k0, rfl, Nat.zero_le _, rfl, Nx.of_below HS0.out HB6.out, HP6.out, HR6.out, HK6.out, HFK.out, fun _ _ => rfl, HE.out⟩
  case round =>
    clear HP6 HR6 HK6 HB6 HS6
    obtain ⟨j, gg, M, kk, hm, hj, rfl, hN, hP, hR, hK, hF, hA, hE⟩ := hrel
    have HM := Lib.hid hm
    have HN := Lib.hid hN
    have HP := Lib.hid hP
    have HR := Lib.hid hR
    have HK := Lib.hid hK
    have HF := Lib.hid hF
    have HA := Lib.hid hA
    have HEM := Lib.hid hE
    clear hm hN hP hR hK hF hA hE
    obtain ⟨cap1, hS1⟩ := HN.out.st
    have HS1 := Lib.hid hS1
    clear hS1
    obtain ⟨p0, p1⟩ := pl_cells HP.out.at_
    obtain ⟨r0, r1, rf0, rf1⟩ := res_cells HR.out.at_
    by_cases hlt : j < d
    · have hgj : decide (((n + 1 + j : Nat) : Int) < ((n + 1 + d : Nat) : Int)) = true := by simp; omega
      go_wp2_with fail
      rw [show ((n : Int) + 1 + (j : Int) - 1) = ((n + j : Nat) : Int) by omega]
      have HES := Lib.hid (empty_sq (n := n + j) HS1.out (by omega) HEM.out)
      refine HES.out.mono ?_
      clear HES
      rintro e w7 ⟨g7, M7, hnx, ⟨e0, rfl, hem, hem2⟩ | ⟨rfl, hfull⟩⟩
      · have HN7 := Lib.hid (HN.out.trans (hnx.mono (c' := 1) (by omega)))
        have HP7 := Lib.hid (HP.out.nx hnx)
        have HR7 := Lib.hid (HR.out.nx hnx)
        have HK7 := Lib.hid (HK.out.nx hnx)
        have HF7 : Hid (Fo M7 (n + j) kk) := fun r b => hnx.sq (HF.out r b)
        have HA7 : Hid (∀ a b, alK M7 (n + j) kk a b = alK N n k0 a b) := fun a b => by
          obtain ⟨E, hE, _⟩ := hnx.ext
          rw [hE, alK_app HN.out.wf E HF.out]; exact HA.out a b
        have HE0 := Lib.hid hem
        have HEM7 : Hid (HasEm M7 (n + j)) := hem2.mono (by omega)
        obtain ⟨k1, k2, k3, k4⟩ := k_cells HK7.out.at_
        clear hnx hem hem2 HN HP HR HK HF HA HEM HS1 p0 p1 r0 r1 rf0 rf1
        go_wp2_with fail
        clear k1 k2 k3 k4 hgj
        go_loopg [10, 11, 12, 44] 4 (fun m v10 v11 v12 cnt wr => ∃ (s g8 : Nat) (M8 : List Nd) (f : Nat → Nat), m = 4 - s ∧ s ≤ 4 ∧ cnt = .int .i64 (s : Int) ∧ Nx sb tb most w g N (5 * j + 1 + s) wr g8 M8 ∧ (∃ E, M8 = M7 ++ E) ∧ Ob wr sb g8 tb w.heap.size (plO sb x) ∧ Ob wr sb g8 tb (w.heap.size + 1) (.cells #[.pointer none, .int .u32 0] 36 (0, 0)) ∧ Ob wr sb g8 tb kb (kO (mk4 f)) ∧ (∀ i, s ≤ i → i < 4 → f i = kAt kk i) ∧ (∀ i, i < s → Sq M8 (n + j + 1) (f i) ∧ kidZ M8 (f i) = corn e0 (kAt kk i) (3 - i)))
        case atStart =>
          exact ⟨0, g7, M7, kAt kk, rfl, Nat.zero_le _, rfl, HN7.out, ⟨[], by simp⟩, HP7.out, HR7.out, HK7.out, fun i _ _ => rfl, fun i hi => by omega⟩
        case round =>
          obtain ⟨s, g8, M8, f, hm, hs, rfl, hN, hX, hP, hR, hK, hf1, hf2⟩ := hrel
          have HX8 : Hid (∀ {n x : Nat}, Sq M7 n x → Sq M8 n x) := fun h => by obtain ⟨E, rfl⟩ := hX; exact h.app E
          have HEX := Lib.hid hX
          clear hX
          have HM2 := Lib.hid hm
          have HN8 := Lib.hid hN
          have HP8 := Lib.hid hP
          have HR8 := Lib.hid hR
          have HK8 := Lib.hid hK
          have HF1 := Lib.hid hf1
          have HF2 := Lib.hid hf2
          clear hm hN hP hR hK hf1 hf2 HP7 HR7 HK7
          by_cases hlt2 : s < 4
          · have hgs : decide ((s : Int) < 4) = true := by simp; omega
            have hix := kix kk hlt2
            obtain ⟨cap8, hS8⟩ := HN8.out.st
            have HIC := Lib.hid (inCorner_any (z := x) (at_ := 3 - s) hS8.drew (show n + j < 62 by omega) (HX8.out (fo_iff.1 HF7.out s hlt2)) (HX8.out HE0.out.1) (by omega))
            rw [show (((3 - s : Nat)) : Int) = 3 - (s : Int) by omega] at HIC
            clear hS8
            obtain ⟨p0, p1⟩ := pl_cells HP8.out.at_
            obtain ⟨r0, r1, rf0, rf1⟩ := res_cells HR8.out.at_
            have i1 : (0 : Int) ≤ (s : Int) := by omega
            have i2 : (s : Int) < 4 := by omega
            go_upto_region 11 with fail
            go_cut [10] from 48 to 58 (fun v10 wx => ∃ (r g9 : Nat) (M9 : List Nd), Nx sb tb most w g N (5 * j + 1 + (s + 1)) wx g9 M9 ∧ (∃ E, M9 = M8 ++ E) ∧ Ob wx sb g9 tb w.heap.size (plO sb x) ∧ Ob wx sb g9 tb (w.heap.size + 1) (.cells #[.pointer none, .int .u32 0] 36 (0, 0)) ∧ Ob wx sb g9 tb kb (kO (mk4 fun i => if i = s then r else f i)) ∧ ((v10 = .nilIface ∧ Sq M9 (n + j + 1) r ∧ kidZ M9 r = corn e0 (kAt kk s) (3 - s)) ∨ (v10 = .iface 53 (.int .i64 7) ∧ most ≤ M9.length)))
            case first =>
              go_region_with (first | (go_at_call 45; refine (across_any s hlt2 _).mono ?_; rintro e w9 ⟨rfl, rfl⟩) | (go_at_call 44; refine HIC.out.mono ?_; rintro e w9 ⟨g9, M9, hnx, hres⟩; obtain ⟨r, ev, rfl, hres2⟩ := two_out hres; have HRS := Lib.hid hres2; have HNX := Lib.hid hnx.undrew; clear hres hres2 hnx; have kc := k_cell (HK8.out.nx HNX.out).at_ hlt2; obtain ⟨kc1, kc2⟩ := kc))
              all_goals go_wp2
              all_goals go_meet
              all_goals
                have hkn := HK8.out.nx HNX.out
                refine ⟨r, g9, M9, (HN8.out.trans HNX.out).set hkn hkb _, ?_, (HP8.out.nx HNX.out).other (by show kb ≠ w.heap.size; exact Ne.symm HNE.out.1) _, (HR8.out.nx HNX.out).other (by show kb ≠ w.heap.size + 1; exact Ne.symm HNE.out.2) _, ?_, HRS.out⟩
                · obtain ⟨E, hE, _⟩ := HNX.out.ext
                  exact ⟨E, hE⟩
                · have := hkn.set hlt2 r
                  rw [show (mk4 fun i => if i = s then r else kAt (mk4 f) i) = mk4 (fun i => if i = s then r else f i) from mk4_ext fun i hi => by show (if i = s then r else kAt (mk4 f) i) = _; rw [kAt_mk4 _ hi]] at this
                  exact this
            case rest =>
              obtain ⟨r, g9, M9, hN, hX, hP, hR, hK, hres⟩ := hcut
              have HN9 := Lib.hid hN
              have HX9 := Lib.hid hX
              have HP9 := Lib.hid hP
              have HR9 := Lib.hid hR
              have HK9 := Lib.hid hK
              clear hN hX hP hR hK HIC p0 p1 r0 r1 rf0 rf1 HN8 HP8 HR8 HK8
              rcases hres with ⟨rfl, hsq, hkd⟩ | ⟨rfl, hfull⟩
              · have HQ := Lib.hid (And.intro hsq hkd)
                clear hsq hkd
                go_wp2_with fail
                go_roundg (4 - (s + 1))
                case measure => rw [HM2.out]; omega
                case rel =>
                  refine ⟨s + 1, g9, M9, _, rfl, by omega, by go_num, HN9.out, ?_, HP9.out, HR9.out, HK9.out, fun i hi hi4 => ?_, fun i hi => ?_⟩
                  · obtain ⟨E, hE⟩ := HEX.out
                    obtain ⟨F, hF⟩ := HX9.out
                    exact ⟨E ++ F, by rw [hF, hE, List.append_assoc]⟩
                  · show (if i = s then r else f i) = _
                    rw [if_neg (by omega)]; exact HF1.out i (by omega) hi4
                  · by_cases e : i = s
                    · subst e
                      simp only [if_true]
                      exact HQ.out
                    · simp only [if_neg e]
                      obtain ⟨F, rfl⟩ := HX9.out
                      obtain ⟨h1, h2⟩ := HF2.out i (by omega)
                      exact ⟨h1.app F, by rw [kid_app F h1.lt]; exact h2⟩
              · have HQ := Lib.hid hfull
                clear hfull
                obtain ⟨r0, r1, rf0, rf1⟩ := res_cells HR9.out.at_
                go_wp2_with fail
                obtain ⟨W, hW, hN, _, q0, q1⟩ := put_pl HN9.out HR9.out (by omega) (.pointer none) (.int .u32 0)
                rw [hW]
                refine bodyPost_ret (v := _) (by simp [results, Try.results41, go_sem, q0, q1]; rfl) rfl ?_
                exact ⟨g9, M9, hN.mono (by omega), Or.inr ⟨rfl, HQ.out⟩⟩
          · obtain rfl : s = 4 := by omega
            have hgs : decide (((4 : Nat) : Int) < 4) = false := by simp
            go_wp2_with fail
            go_roundg (d - (j + 1))
            case measure => rw [HM.out]; omega
            case rel =>
              obtain ⟨E, hE⟩ := HEX.out
              refine ⟨j + 1, g8, M8, mk4 f, rfl, hlt, by go_num, HN8.out.mono (by omega), HP8.out, HR8.out, HK8.out, ?_, fun a b => ?_, ?_⟩
              · refine fo_iff.2 fun i hi => ?_
                rw [kAt_mk4 _ hi]
                exact (HF2.out i hi).1
              · rw [show n + (j + 1) = n + j + 1 by omega, raise_all (e := e0) (k := kk) (fun X Y => ?_) (fun i hi => (HF2.out i hi).2) a b, hE, alK_app HN7.out.wf E HF7.out]
                · exact HA7.out a b
                · rw [hE, get_app HN7.out.wf E HE0.out.1]; exact HE0.out.2 X Y
              · rw [hE]
                exact (HEM7.out.app HN7.out.wf E).mono (by omega)
      · have HN7 := Lib.hid (HN.out.trans (hnx.mono (c' := 1) (by omega)))
        have HR7 := Lib.hid (HR.out.nx hnx)
        have HQ := Lib.hid hfull
        clear hnx hfull p0 p1 r0 r1 rf0 rf1
        obtain ⟨r0, r1, rf0, rf1⟩ := res_cells HR7.out.at_
        go_wp2_with fail
        obtain ⟨W, hW, hN, _, q0, q1⟩ := put_pl HN7.out HR7.out (by omega) (.pointer none) (.int .u32 0)
        rw [hW]
        refine bodyPost_ret (v := _) (by simp [results, Try.results41, go_sem, q0, q1]; rfl) rfl ?_
        exact ⟨g7, M7, hN.mono (by omega), Or.inr ⟨rfl, HQ.out⟩⟩
    · obtain rfl : j = d := by omega
      have hgj : decide (((n + 1 + j : Nat) : Int) < ((n + 1 + j : Nat) : Int)) = false := by simp
      obtain ⟨k1, k2, k3, k4⟩ := k_cells HK.out.at_
      have HOF := Lib.hid (of4_any (z := x) HS1.out (show n + j < 62 by omega) HF.out)
      go_wp2_with fail
      refine HOF.out.mono ?_
      clear HOF k1 k2 k3 k4 p0 p1 r0 r1 rf0 rf1
      rintro e w7 ⟨g7, M7, hnx, hres⟩
      have HN7 := Lib.hid (HN.out.trans hnx)
      have HR7 := Lib.hid (HR.out.nx hnx)
      have HEX : Hid (∃ E, M7 = M ++ E) := by
        obtain ⟨E, hE, _⟩ := hnx.ext
        exact ⟨E, hE⟩
      clear hnx
      obtain ⟨r0, r1, rf0, rf1⟩ := res_cells HR7.out.at_
      unfold plV at hres
      rcases hres with ⟨r, rfl, hsq, hkd⟩ | ⟨rfl, hfull⟩
      · have HQ := Lib.hid (And.intro hsq hkd)
        clear hsq hkd
        go_wp2_with fail
        obtain ⟨W, hW, hN, _, q0, q1⟩ := put_pl HN7.out HR7.out (by omega) (.pointer (some ⟨sb, 0, none⟩)) (.int .u32 (r : Int))
        rw [hW]
        refine bodyPost_ret (v := _) (by simp [results, Try.results41, go_sem, q0, q1]; rfl) rfl ?_
        refine ⟨g7, M7, hN.mono (by omega), Or.inl ⟨r, rfl, HQ.out.1, fun a b => ?_, ?_⟩⟩
        · obtain ⟨E, rfl⟩ := HEX.out
          rw [HQ.out.2, alK_app HN.out.wf E HF.out, HKD.out]
          exact HA.out a b
        · obtain ⟨E, rfl⟩ := HEX.out
          exact HEM.out.app HN.out.wf E
      · have HQ := Lib.hid hfull
        clear hfull
        go_wp2_with fail
        obtain ⟨W, hW, hN, _, q0, q1⟩ := put_pl HN7.out HR7.out (by omega) (.pointer none) (.int .u32 0)
        rw [hW]
        refine bodyPost_ret (v := _) (by simp [results, Try.results41, go_sem, q0, q1]; rfl) rfl ?_
        exact ⟨g7, M7, hN.mono (by omega), Or.inr ⟨rfl, HQ.out⟩⟩
end Go.Proofs.Ytgciceogggldhaa
