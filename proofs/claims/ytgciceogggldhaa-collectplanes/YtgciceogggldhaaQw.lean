/- Package quad: with, Set: contracts. -/
import Derived.Test.YtgciceogggldhaaQs
namespace Go.Proofs.Ytgciceogggldhaa
open Go.RowKit Go.Maps
set_option maxRecDepth 100000

set_option maxHeartbeats 4000000 in
theorem with_any (sb tb most z : Nat) (X Y : Int) (c : Nat) (hc : c ≤ 1) : ∀ (n : Nat) {w : World} {g cap : Nat} {N : List Nd} (_ : St w sb g tb cap most N) {x : Nat} (_ : Sq N n x),
    Calls Try.prog 35 #[.agg #[.pointer (some ⟨sb, 0, none⟩), .int .u32 (z : Int)], .int .u32 (x : Int), .agg #[.int .i64 X, .int .i64 Y], .int .u32 (c : Int)] w fun e w' => ∃ g' N', Nx sb tb most w g N n w' g' N' ∧
      ((∃ r : Nat, e = .returned (.tuple #[.int .u32 (r : Int), .nilIface]) ∧ Sq N' n r ∧ Chg N n x N' r X Y c) ∨ (e = .returned (.tuple #[.int .u32 0, .iface 53 (.int .i64 7)]) ∧ most ≤ N'.length))
  | 0, w, g, cap, N, h, x, hx => by
    have hxu := Sq.u32 h hx
    have HB := Lib.hid (bel2 w (.cells #[.pointer (some ⟨sb, 0, none⟩), .int .u32 (z : Int)] 36) (.cells #[.int .i64 X, .int .i64 Y] 27))
    have HS0 := Lib.hid h
    have HS := Lib.hid (h.later HB.out)
    have HLV := Lib.hid (level_any HS.out x hxu)
    rw [show lvZ N x = ((0 : Nat) : Int) from hx] at HLV
    clear h hx
    go_enter Try.func35, Try.ntmps35
    go_wp2_with fail
    refine HLV.out.mono ?_
    rintro e W3 ⟨rfl, hW3⟩
    rw [← hW3]
    clear hW3 HLV W3
    go_wp2_with fail
    go_ret2
    have hwf := HS0.out.wf
    refine ⟨g, N, Nx.of_below HS0.out HB.out, Or.inl ⟨c, rfl, ?_, chg_zero _ _ _ _ _ _⟩⟩
    have : c = 0 ∨ c = 1 := by omega
    rcases this with rfl | rfl
    · exact sq_dead hwf
    · exact sq_alive hwf
  | n + 1, w, g, cap, N, h, x, hx => by
    have hxu := Sq.u32 h hx
    have hn62 := hx.le62 h.wf
    have HB := Lib.hid (bel2 w (.cells #[.pointer (some ⟨sb, 0, none⟩), .int .u32 (z : Int)] 36) (.cells #[.int .i64 X, .int .i64 Y] 27))
    have HS0 := Lib.hid h
    have HX := Lib.hid hx
    have HS := Lib.hid (h.later HB.out)
    have HP := Lib.hid ((Ob.new h #[.pointer (some ⟨sb, 0, none⟩), .int .u32 (z : Int)] 36).later (bel1 _ (.cells #[.int .i64 X, .int .i64 Y] 27)))
    have hq0 := Ob.new (h.later (bel1 w (.cells #[.pointer (some ⟨sb, 0, none⟩), .int .u32 (z : Int)] 36))) #[.int .i64 X, .int .i64 Y] 27
    rw [show (w.alloc (.cells #[.pointer (some ⟨sb, 0, none⟩), .int .u32 (z : Int)] 36)).heap.size = w.heap.size + 1 by simp] at hq0
    have HQ := Lib.hid hq0
    have HLV := Lib.hid (level_any HS.out x hxu)
    rw [show lvZ N x = ((n + 1 : Nat) : Int) from hx] at HLV
    clear h hx hq0
    go_enter Try.func35, Try.ntmps35
    go_wp2_with fail
    generalize (w.alloc (.cells #[.pointer (some ⟨sb, 0, none⟩), .int .u32 (z : Int)] 36)).alloc (.cells #[.int .i64 X, .int .i64 Y] 27) = W0 at *
    refine HLV.out.mono ?_
    rintro e W3 ⟨rfl, rfl⟩
    clear HLV
    have h0 : (((n + 1 : Nat) : Int) == 0) = false := by simp; omega
    have h0' : ((n : Int) + 1 == 0) = false := by simp; omega
    obtain ⟨p0, p1⟩ := pl_cells HP.out.at_
    go_wp2_with fail
    refine (of_sqk HS.out HX.out).mono ?_
    rintro e w5 ⟨rfl, hb⟩
    have HFK := Lib.hid (HX.out.kid HS.out.wf)
    have HB5 := Lib.hid (HB.out.trans (hb.mono HB.out.size))
    have HS5 := Lib.hid (HS.out.later hb)
    have HP5 := Lib.hid (HP.out.later hb)
    have HQ5 := Lib.hid (HQ.out.later hb)
    clear hb HB HS HQ HP p0 p1
    generalize hkd : kidZ N x = k0 at *
    have HKD := Lib.hid hkd
    clear hkd
    have HK6 := Lib.hid (Ob.new HS5.out #[.int .u32 (k0.1 : Int), .int .u32 (k0.2.1 : Int), .int .u32 (k0.2.2.1 : Int), .int .u32 (k0.2.2.2 : Int)] 68)
    have HB6 := Lib.hid (HB5.out.trans ((bel1 w5 (.cells #[.int .u32 (k0.1 : Int), .int .u32 (k0.2.1 : Int), .int .u32 (k0.2.2.1 : Int), .int .u32 (k0.2.2.2 : Int)] 68)).mono HB5.out.size))
    have HS6 := Lib.hid (HS5.out.later (bel1 w5 (.cells #[.int .u32 (k0.1 : Int), .int .u32 (k0.2.1 : Int), .int .u32 (k0.2.2.1 : Int), .int .u32 (k0.2.2.2 : Int)] 68)))
    have HP6 := Lib.hid (HP5.out.later (bel1 w5 (.cells #[.int .u32 (k0.1 : Int), .int .u32 (k0.2.1 : Int), .int .u32 (k0.2.2.1 : Int), .int .u32 (k0.2.2.2 : Int)] 68)))
    have HQ6 := Lib.hid (HQ5.out.later (bel1 w5 (.cells #[.int .u32 (k0.1 : Int), .int .u32 (k0.2.1 : Int), .int .u32 (k0.2.2.1 : Int), .int .u32 (k0.2.2.2 : Int)] 68)))
    have hkb : w.heap.size ≤ w5.heap.size := HB5.out.size
    have hne6 : w.heap.size ≠ w5.heap.size := by have := HP5.out.lt; omega
    clear HS5 HP5 HQ5
    obtain ⟨q0, q1⟩ := pt_cells HQ6.out.at_
    go_wp2_with fail
    generalize w5.alloc (.cells #[.int .u32 (k0.1 : Int), .int .u32 (k0.2.1 : Int), .int .u32 (k0.2.2.1 : Int), .int .u32 (k0.2.2.2 : Int)] 68) = W6 at *
    generalize w5.heap.size = kb at *
    clear HB5 w5
    refine (quarter_any X Y n hn62 _).mono ?_
    rintro e w7 ⟨rfl, hb⟩
    have HB7 := Lib.hid (HB6.out.trans (hb.mono HB6.out.size))
    have HS7 := Lib.hid (HS6.out.later hb)
    have HP7 := Lib.hid (HP6.out.later hb)
    have HQ7 := Lib.hid (HQ6.out.later hb)
    have HK7 : Hid (Ob w7 sb g tb kb (kO k0)) := HK6.out.later hb
    clear hb HB6 HS6 HP6 HQ6 HK6 q0 q1
    have hql := qn_lt (qb n X) (qb n Y)
    have HPK : Hid (kAt k0 (qn (qb n X) (qb n Y)) = pick k0 (qb n X) (qb n Y)) := (pick_kAt k0 _ _).symm
    have HSP := Lib.hid (HFK.out (qb n X) (qb n Y))
    have HQN : Hid (qn (qb n X) (qb n Y) = pl (qb n X) (qb n Y)) := rfl
    rw [← HPK.out] at HSP
    generalize qn (qb n X) (qb n Y) = q at *
    obtain ⟨kc1, kc2⟩ := k_cell HK7.out.at_ hql
    obtain ⟨q0, q1⟩ := pt_cells HQ7.out.at_
    obtain ⟨p0, p1⟩ := pl_cells HP7.out.at_
    have i1 : (0 : Int) ≤ (q : Int) := by omega
    have i2 : (q : Int) < 4 := by omega
    have HCL := Lib.hid (with_any sb tb most z X Y c hc n HS7.out.drew HSP.out)
    generalize kAt k0 q = y at *
    go_upto_region 6 with fail
    go_cut [14, 15] from 33 to 42 (fun v14 v15 wx => ∃ (r g9 : Nat) (M9 : List Nd), Nx sb tb most w7 g N n wx g9 M9 ∧ v14 = .int .u32 (r : Int) ∧ ((v15 = .nilIface ∧ Sq M9 n r ∧ Chg N n y M9 r X Y c) ∨ (v15 = .iface 53 (.int .i64 7) ∧ most ≤ M9.length)))
    case first =>
      go_region_with (first | (go_at_call 35; refine HCL.out.mono ?_; rintro e w9 ⟨g9, M9, hnx, hres⟩; obtain ⟨r, ev, rfl, hres2⟩ := two_out hres; have HRS := Lib.hid hres2; have HNX := Lib.hid hnx.undrew; clear hres hres2 hnx))
      all_goals go_wp2
      all_goals go_meet
      all_goals exact ⟨r, g9, M9, HNX.out, rfl, HRS.out⟩
    case rest =>
      obtain ⟨r, g9, M9, hnx, rfl, hres⟩ := hcut
      have HN9 := Lib.hid ((Nx.of_below HS0.out HB7.out).trans hnx)
      have HP9 := Lib.hid (HP7.out.nx hnx)
      have HK9 := Lib.hid (HK7.out.nx hnx)
      have HEX := Lib.hid hnx.ext
      clear hnx kc1 kc2 q0 q1 p0 p1 HCL HP7 HK7 HQ7
      rcases hres with ⟨rfl, hsq, hchg⟩ | ⟨rfl, hfull⟩
      · have HQQ := Lib.hid (And.intro hsq hchg)
        clear hsq hchg
        obtain ⟨kc1, kc2⟩ := k_cell HK9.out.at_ hql
        go_upto_region 10 with fail
        have HKA := Lib.hid (HK9.out.set hql r)
        have HNA := Lib.hid (HN9.out.set (i := q) HK9.out hkb (.int .u32 (r : Int)))
        have HPA := Lib.hid (HP9.out.other (p := ⟨kb, q, none⟩) (by show kb ≠ w.heap.size; exact Ne.symm hne6) (.int .u32 (r : Int)))
        clear HK9 HN9 HP9 kc1 kc2
        generalize wc.setCell ⟨kb, q, none⟩ (.int .u32 (r : Int)) = WA at *
        obtain ⟨capA, hSA⟩ := HNA.out.st
        have HSA := Lib.hid hSA
        clear hSA
        have HFA : Hid (Fo M9 n (mk4 fun j => if j = q then r else kAt k0 j)) := fo_iff.2 fun i hi => by
          rw [kAt_mk4 _ hi]
          obtain ⟨E, rfl, _⟩ := HEX.out
          split
          · exact HQQ.out.1
          · exact (fo_iff.1 HFK.out i hi).app E
        obtain ⟨p0, p1⟩ := pl_cells HPA.out.at_
        generalize hka : (mk4 fun j => if j = q then r else kAt k0 j) = ka at *
        have HKAE := Lib.hid hka
        clear hka
        obtain ⟨c0, c1, c2, c3⟩ := k_cells HKA.out.at_
        go_wp2_with fail
        refine (make_sq HSA.out hn62 HFA.out).mono ?_
        rintro e wB ⟨gB, MB, hnx, ⟨t, rfl, hsq, hkd, _⟩ | ⟨rfl, hfull⟩⟩
        · have HNB := Lib.hid (HNA.out.trans hnx)
          have HEB := Lib.hid hnx.ext
          have HR := Lib.hid (And.intro hsq hkd)
          clear hnx hsq hkd
          go_wp2_with fail
          go_ret2
          refine ⟨gB, MB, HNB.out.mono (by omega), Or.inl ⟨t, rfl, HR.out.1, ?_⟩⟩
          obtain ⟨E, hE, _⟩ := HEX.out
          obtain ⟨F, hF, _⟩ := HEB.out
          have hwN := HS0.out.wf
          have hwM : Wf M9 := HNA.out.wf
          refine chg_step (N1 := M9) (y := r) ?_ (fun r' b' => ?_) (fun A B => ?_) (fun r' b' A B => ?_)
          · rw [HKD.out, ← HPK.out]; exact HQQ.out.2
          · rw [HR.out.2, ← HKAE.out, pick_kAt, kAt_mk4 _ (pl_lt _ _), HKD.out, HQN.out, pick_kAt]
            simp only [pl_inj]
          · rw [hF]; exact get_app hwM F HQQ.out.1 A B
          · rw [HKD.out, hF, hE, List.append_assoc]
            exact get_app hwN (E ++ F) (HFK.out r' b') A B
        · have HNB := Lib.hid (HNA.out.trans hnx)
          have HR := Lib.hid hfull
          clear hnx hfull
          go_wp2_with fail
          go_ret2
          exact ⟨gB, MB, HNB.out.mono (by omega), Or.inr ⟨rfl, HR.out⟩⟩
      · have HQQ := Lib.hid hfull
        clear hfull
        go_wp2_with fail
        go_ret2
        exact ⟨g9, M9, HN9.out.mono (by omega), Or.inr ⟨rfl, HQQ.out⟩⟩
end Go.Proofs.Ytgciceogggldhaa
