/- Package area: painted, of a change with cells: contract. -/
import Derived.Test.YtnfjmmkokhncoaaGreatPd8
import Derived.Test.YtnfjmmkokhncoaaGreatIa8
namespace Go.Proofs.YtnfjmmkokhncoaaGreat
open Go.RowKit Go.Maps
set_option maxRecDepth 100000

theorem start9 {w : World} {sb g tb cap most : Nat} {N : List Nd} (h : St w sb g tb cap most N) (x : Nat) (r rc P : R4) (c : Nat) (sl : Value) :
    ∃ W0, ((((((w.alloc (.cells #[.pointer (some ⟨sb, 0, none⟩), .int .u32 (x : Int)] 32)).alloc (.cells #[.int .i64 r.x, .int .i64 r.y, .int .i64 r.X, .int .i64 r.Y] 42)).alloc (.cells #[.int .i64 rc.x, .int .i64 rc.y, .int .i64 rc.X, .int .i64 rc.Y, sl] 92)).alloc (.cells #[.pointer none, .int .u32 0] 32)).alloc (.map #[] 0)).alloc (.cells #[.pointer (some ⟨sb, 0, none⟩), .int .u32 (c : Int), .map (some (w.heap.size + 1 + 1 + 1 + 1))] 137)) = W0 ∧ Below w.heap.size w W0 ∧ Pn W0 sb g tb (w.heap.size + 1 + 1 + 1 + 1) (w.heap.size + 1 + 1 + 1 + 1 + 1) most N P c ∧
      Oc W0 sb g tb (w.heap.size + 1 + 1 + 1 + 1) w.heap.size (plO sb x) ∧ Oc W0 sb g tb (w.heap.size + 1 + 1 + 1 + 1) (w.heap.size + 1) (rcO8 r) ∧ Oc W0 sb g tb (w.heap.size + 1 + 1 + 1 + 1) (w.heap.size + 1 + 1) (chO rc sl) ∧ Oc W0 sb g tb (w.heap.size + 1 + 1 + 1 + 1) (w.heap.size + 1 + 1 + 1) zeO8 := by
  obtain ⟨l1, l2, l3⟩ := h.lt
  obtain ⟨b1, b2, b3, b4, b5, b6⟩ := six8 w (.cells #[.pointer (some ⟨sb, 0, none⟩), .int .u32 (x : Int)] 32) (.cells #[.int .i64 r.x, .int .i64 r.y, .int .i64 r.X, .int .i64 r.Y] 42) (.cells #[.int .i64 rc.x, .int .i64 rc.y, .int .i64 rc.X, .int .i64 rc.Y, sl] 92) (.cells #[.pointer none, .int .u32 0] 32) (.map #[] 0) (.cells #[.pointer (some ⟨sb, 0, none⟩), .int .u32 (c : Int), .map (some (w.heap.size + 1 + 1 + 1 + 1))] 137)
  have hB : Below w.heap.size w ((((((w.alloc (.cells #[.pointer (some ⟨sb, 0, none⟩), .int .u32 (x : Int)] 32)).alloc (.cells #[.int .i64 r.x, .int .i64 r.y, .int .i64 r.X, .int .i64 r.Y] 42)).alloc (.cells #[.int .i64 rc.x, .int .i64 rc.y, .int .i64 rc.X, .int .i64 rc.Y, sl] 92)).alloc (.cells #[.pointer none, .int .u32 0] 32)).alloc (.map #[] 0)).alloc (.cells #[.pointer (some ⟨sb, 0, none⟩), .int .u32 (c : Int), .map (some (w.heap.size + 1 + 1 + 1 + 1))] 137)) := by go_grown
  have hm := (gmap_new (mkP P) ((((w.alloc (.cells #[.pointer (some ⟨sb, 0, none⟩), .int .u32 (x : Int)] 32)).alloc (.cells #[.int .i64 r.x, .int .i64 r.y, .int .i64 r.X, .int .i64 r.Y] 42)).alloc (.cells #[.int .i64 rc.x, .int .i64 rc.y, .int .i64 rc.X, .int .i64 rc.Y, sl] 92)).alloc (.cells #[.pointer none, .int .u32 0] 32))).later (bel1 _ (.cells #[.pointer (some ⟨sb, 0, none⟩), .int .u32 (c : Int), .map (some (w.heap.size + 1 + 1 + 1 + 1))] 137))
  rw [show ((((w.alloc (.cells #[.pointer (some ⟨sb, 0, none⟩), .int .u32 (x : Int)] 32)).alloc (.cells #[.int .i64 r.x, .int .i64 r.y, .int .i64 r.X, .int .i64 r.Y] 42)).alloc (.cells #[.int .i64 rc.x, .int .i64 rc.y, .int .i64 rc.X, .int .i64 rc.Y, sl] 92)).alloc (.cells #[.pointer none, .int .u32 0] 32)).heap.size = w.heap.size + 1 + 1 + 1 + 1 by simp] at hm
  exact ⟨_, rfl, hB, ⟨⟨cap, h.later hB⟩, b6, ⟨_, hm, fun a v hv => by cases hv⟩, ⟨by omega, by omega, by omega⟩, ⟨by omega, by omega, by omega⟩⟩, ⟨b1, by omega, by omega, by omega, by omega⟩, ⟨b2, by omega, by omega, by omega, by omega⟩, ⟨b3, by omega, by omega, by omega, by omega⟩, ⟨b4, by omega, by omega, by omega, by omega⟩⟩
set_option maxHeartbeats 8000000 in
theorem painted_any {w : World} {sb g tb cap most : Nat} {N : List Nd} (h : St w sb g tb cap most N) {n0 x : Nat} (hx : Sq N (n0 + 1) x) (r : R4) (hr : r.no = false) (rc : R4) (hrc : rc = r ∨ rc = ⟨0, 0, 0, 0⟩) (L : List (Int × Int)) (hl : L.length ≤ 100000) (hL : ∀ p ∈ L, r.has p.1 p.2 = true) (a : Option Addr) (cp : Nat) (hR0 : Rk8 w a L) (hon : (-2305843009213693952 ≤ r.x ∧ r.X ≤ 2305843009213693952) ∧ -2305843009213693952 ≤ r.y ∧ r.Y ≤ 2305843009213693952) (c : Nat) (hc : c ≤ 1) :
    Calls Tryz.prog 41 #[.agg #[.pointer (some ⟨sb, 0, none⟩), .int .u32 (x : Int)], .agg #[.int .i64 r.x, .int .i64 r.y, .int .i64 r.X, .int .i64 r.Y], .int .u32 (c : Int), .agg #[.int .i64 rc.x, .int .i64 rc.y, .int .i64 rc.X, .int .i64 rc.Y, .slice a L.length cp]] w fun e w' => ∃ g' N' n, (n0 ≤ n ∧ n ≤ 61 ∧ inR n r ∧ ∀ m, n0 ≤ m → m < n → ¬ inR m r) ∧ Nx sb tb most w g N N'.length w' g' N' ∧ New8 N (n + 1) (Tp N n0 (kidZ N x) n (shR rc n) c (mvL L (2 ^ n) (2 ^ n))) N' ∧
      ((∃ y : Nat, e = .returned (.tuple #[.agg #[.pointer (some ⟨sb, 0, none⟩), .int .u32 (y : Int)], .nilIface]) ∧ Con N' (n + 1) y (Tp N n0 (kidZ N x) n (shR rc n) c (mvL L (2 ^ n) (2 ^ n)))) ∨ (e = .returned (.tuple #[.agg #[.pointer none, .int .u32 0], .iface 52 (.int .i64 7)]) ∧ most ≤ N'.length)) := by
  have hxu := Sq.u32 h hx
  have hn62 := hx.le62 h.wf
  obtain ⟨n, hn1, hn2, hn3, hn4⟩ := lowest (p := fun n => inR n r) (fun n => Decidable.em _) (61 - n0) n0 (by rw [show n0 + (61 - n0) = 61 by omega]; unfold inR; omega)
  have HLOW : Hid (n0 ≤ n ∧ n ≤ 61 ∧ inR n r ∧ ∀ m, n0 ≤ m → m < n → ¬ inR m r) := ⟨hn1, by omega, hn3, hn4⟩
  have hn61 : n ≤ 61 := by omega
  have hge : n0 ≤ n := hn1
  clear hn1 hn2 hn3 hn4
  obtain ⟨W0, hW, hb0, hp0, hP, hR, hC, hZ⟩ := start9 h x r rc (shR r n) c (.slice a L.length cp)
  have HW := Lib.hid hW
  have HB := Lib.hid hb0
  have HP := Lib.hid hp0
  have HPL := Lib.hid hP
  have HR := Lib.hid hR
  have HC := Lib.hid hC
  have HZ := Lib.hid hZ
  have HS0 := Lib.hid h
  have HRK0 := Lib.hid (hR0.later hb0)
  have HLL := Lib.hid hl
  have HLR := Lib.hid hL
  have HRC := Lib.hid hrc
  have HX := Lib.hid hx
  have HLV := Lib.hid (level_any (h.later hb0) x hxu)
  rw [show lvZ N x = (n0 : Int) + 1 from hx] at HLV
  have HNO := Lib.hid hr
  clear hW hb0 hp0 hP hR hC hZ h hx hr hR0 hl hL hrc
  have hmm := @run_makeMap Tryz.prog
  go_enter Tryz.func41, Tryz.ntmps41
  go_upto_region 2 with fail
  rw [HW.out]
  clear HW
  obtain ⟨p0, p1⟩ := pl_cells HPL.out.at_
  go_wp2_with fail
  refine HLV.out.mono ?_
  rintro e W1 ⟨rfl, hW1⟩
  rw [← hW1]
  clear hW1 HLV p0 p1 W1
  go_wp2_with fail
  go_loopg [12] (n - n0) (fun m lv wr => ∃ j : Nat, m = n - j ∧ n0 ≤ j ∧ j ≤ n ∧ lv = .int .i64 ((j : Int) + 1) ∧ Below W0.heap.size W0 wr)
  case atStart => exact ⟨n0, rfl, Nat.le_refl _, hge, rfl, Below.refl _ _⟩
  case round =>
    obtain ⟨j, hm, hj0, hj, rfl, hb⟩ := hrel
    have HM := Lib.hid hm
    have HB1 := Lib.hid hb
    obtain ⟨c0, c1, c2, c3⟩ := rc_cells8 (HR.out.later hb).at_
    clear hm hb
    have hj62 : j < 62 := by omega
    obtain ⟨A, B', C, D, hand, heq⟩ := and_span j r HNO.out
    have hne := fun W => neR8 A B' C D r.x r.y r.X r.Y W
    obtain ⟨nb, hnb⟩ : ∃ nb : Bool, nb = !decide (inR j r) := ⟨_, rfl⟩
    have HNB := Lib.hid hnb
    rw [heq, ← hnb] at hne
    clear hnb
    have hme := Up.me wr
    have HSP := Lib.hid (fun z : Up wr => Up.calls (fun W _ => span8_any j hj62 W) z)
    have hAN : ∀ W, Below wr.heap.size wr W → Calls Tryz.prog 33 #[.agg #[.int .i64 (-2 ^ j), .int .i64 (-2 ^ j), .int .i64 (2 ^ j), .int .i64 (2 ^ j)], .agg #[.int .i64 r.x, .int .i64 r.y, .int .i64 r.X, .int .i64 r.Y]] W fun e w' => e = .returned (.agg #[.int .i64 A, .int .i64 B', .int .i64 C, .int .i64 D]) ∧ Below W.heap.size W w' := fun W _ => by
      have := and_any (-2 ^ j) (-2 ^ j) (2 ^ j) (2 ^ j) r.x r.y r.X r.Y W
      rw [hand] at this
      exact this
    have HAN := Lib.hid (fun z : Up wr => Up.calls hAN z)
    clear hAN hand heq
    have g0 := fun z : Up wr => Up.cell c0 z
    have g1 := fun z : Up wr => Up.cell c1 z
    have g2 := fun z : Up wr => Up.cell c2 z
    have g3 := fun z : Up wr => Up.cell c3 z
    go_upto_region 4 with fail
    refine region_up (by kernel_rfl) (by kernel_rfl) ?_
    repeat (go_big_quiet_step ((first | (go_at_call 31; with_reducible exact HSP.out _) | (go_at_call 33; with_reducible exact HAN.out _))))
    refine wpQuiet_nil ?_
    rintro w2 ⟨⟨W2, hW2⟩, hw2⟩
    obtain rfl : w2 = W2 := hw2
    have HB2 := Lib.hid (HB1.out.trans (hW2.mono HB1.out.size))
    clear hW2 HB1 g0 g1 g2 g3 HAN HSP hme c0 c1 c2 c3 hne
    cases nb with
    | false =>
      have hin : inR j r := by
        have := HNB.out
        cases hd : decide (inR j r) with
        | true => exact of_decide_eq_true hd
        | false => rw [hd] at this; cases this
      have hjn : j = n := by
        rcases Nat.lt_or_ge j n with h | h
        · exact absurd hin (HLOW.out.2.2.2 j hj0 h)
        · omega
      subst hjn
      clear hin HNB
      clear HM
      have HPX := Lib.hid (Px.of_below HP.out HB2.out)
      have HP2 := Lib.hid (HP.out.later HB2.out)
      have HPL2 := Lib.hid (HPL.out.later HB2.out)
      have HC2 := Lib.hid (HC.out.later HB2.out)
      have HRK2 := Lib.hid (HRK0.out.later HB2.out)
      have HZ2 := Lib.hid (HZ.out.later HB2.out)
      clear HR HP HPL HC HZ HB2
      obtain ⟨p0, p1⟩ := pl_cells HPL2.out.at_
      obtain ⟨cap2, hs2⟩ := HP2.out.st
      have HOF := Lib.hid (of_sqk hs2 HX.out)
      have HFK := Lib.hid (HX.out.kid HS0.out.wf)
      clear hs2
      generalize hkd : kidZ N x = k0 at *
      have HKD := Lib.hid hkd
      clear hkd
      go_wp2_with fail
      refine HOF.out.mono ?_
      clear HOF p0 p1
      rintro e w5 ⟨rfl, hb⟩
      have HPX5 := Lib.hid (HPX.out.trans (Px.of_below HP2.out hb))
      have HPL5 := Lib.hid (HPL2.out.later hb)
      have HC5 := Lib.hid (HC2.out.later hb)
      have HRK5 := Lib.hid (HRK2.out.later hb)
      have HZ5 := Lib.hid (HZ2.out.later hb)
      clear hb HPX HP2 HPL2 HC2 HZ2
      have hk0 : Oc (w5.alloc (.cells #[.int .u32 (k0.1 : Int), .int .u32 (k0.2.1 : Int), .int .u32 (k0.2.2.1 : Int), .int .u32 (k0.2.2.2 : Int)] 96)) sb g tb (w.heap.size + 1 + 1 + 1 + 1) w5.heap.size (kO k0) := Oc.new HPX5.out.pn _ _
      have HK6 := Lib.hid hk0
      have hb6 := bel1 w5 (.cells #[.int .u32 (k0.1 : Int), .int .u32 (k0.2.1 : Int), .int .u32 (k0.2.2.1 : Int), .int .u32 (k0.2.2.2 : Int)] 96)
      have HPX6 := Lib.hid (HPX5.out.trans (Px.of_below HPX5.out.pn hb6))
      have HPL6 := Lib.hid (HPL5.out.later hb6)
      have HC6 := Lib.hid (HC5.out.later hb6)
      have HRK6 := Lib.hid (HRK5.out.later hb6)
      have HZ6 := Lib.hid (HZ5.out.later hb6)
      have HKB : Hid (W0.heap.size ≤ w5.heap.size ∧ w5.heap.size ≠ w.heap.size ∧ w5.heap.size ≠ w.heap.size + 1 + 1 + 1 ∧ w5.heap.size ≠ w.heap.size + 1 + 1 + 1 + 1 + 1) := ⟨HPX5.out.frm.size, by have := HPL5.out.lt; omega, by have := HZ5.out.lt; omega, by have := HPX5.out.pn.alt; omega⟩
      clear hk0 hb6 HPX5 HPL5 HC5 HZ5
      obtain ⟨c0, c1, c2, c3, c4⟩ := ch_cells HC6.out.at_
      have hp := pow_pos2 j
      have hp61 := pow_61 hj62
      have hrlt := R4.no_not.1 HNO.out
      have HMN : Hid (∀ W, Calls Tryz.prog 34 #[.agg #[.int .i64 (-2 ^ j), .int .i64 (-2 ^ j)]] W fun e w' => e = .returned (.agg #[.int .i64 (2 ^ j), .int .i64 (2 ^ j)]) ∧ Below W.heap.size W w') := fun W => by
        have := minus_any (-2 ^ j) (-2 ^ j) (by unfold I64; omega) (by unfold I64; omega) W
        rw [Int.neg_neg] at this
        exact this
      have hinr := HLOW.out.2.2.1
      unfold inR at hinr
      have hin2 : ∀ p ∈ L, (-2 ^ j ≤ p.1 ∧ p.1 < 2 ^ j) ∧ -2 ^ j ≤ p.2 ∧ p.2 < 2 ^ j := fun p hp => by
        have := R4.has_iff.1 (HLR.out p hp)
        omega
      have hrc4 : (-2 ^ j ≤ rc.x ∧ rc.x ≤ 2 ^ j) ∧ (-2 ^ j ≤ rc.y ∧ rc.y ≤ 2 ^ j) ∧ (-2 ^ j ≤ rc.X ∧ rc.X ≤ 2 ^ j) ∧ (-2 ^ j ≤ rc.Y ∧ rc.Y ≤ 2 ^ j) := by
        rcases HRC.out with e | e
        · rw [e]; omega
        · rw [e]; simp only; omega
      have HMV := Lib.hid (fun W (h : Rk8 W a L) => cmoved_any rc L a cp (2 ^ j) (2 ^ j) HLL.out (fun p hp => by have := hin2 p hp; unfold I64; omega) (by unfold I64; omega) (by unfold I64; omega) (by unfold I64; omega) (by unfold I64; omega) W h)
      obtain ⟨M, hM⟩ : ∃ M, M = mvL L (2 ^ j) (2 ^ j) := ⟨_, rfl⟩
      have hMl : M.length = L.length := by rw [hM]; unfold mvL; rw [List.length_map]
      have hMI : LIn (j + 1) M := fun p hp => by
        rw [hM] at hp
        unfold mvL at hp
        obtain ⟨p0, h1, rfl⟩ := List.mem_map.1 hp
        have := hin2 p0 h1
        have h2 := pow_two2 j
        simp only
        omega
      rw [← hM] at HMV
      have HMM := Lib.hid hM
      have HMI := Lib.hid hMI
      have HML : Hid (M.length ≤ 100000) := by show _ ≤ _; rw [hMl]; exact HLL.out
      have HSP := Lib.hid (fun W => span8_any j hj62 W)
      have HQU : Hid (∀ (g9 : Nat) W, Zr8 W g9 M → Calls Tryz.prog 72 #[.agg #[.int .i64 (shR rc j).x, .int .i64 (shR rc j).y, .int .i64 (shR rc j).X, .int .i64 (shR rc j).Y, .slice (some ⟨g9, 0, none⟩) L.length L.length], .int .i64 ((j : Int) + 1)] W fun e w' => ∃ v : Nat → Value, e = .returned (.agg (fourC (qq (shR rc j) j) v)) ∧ Q4 w' W.heap.size v (lq M j) ∧ Below W.heap.size W w') := fun g9 W hz => by
        have := quarters_any (shR rc j) j hj62 M HML.out HMI.out (some ⟨g9, 0, none⟩) L.length W hz.rk
        rw [hMl] at this
        exact this
      have HRI : Hid (RIn (j + 1) (shR rc j) ∧ Pr (shR r j) (j + 1) (shR rc j)) := by
        rcases HRC.out with e | e
        · rw [e]; exact shR_in HNO.out HLOW.out.2.2.1
        · have : (shR rc j).no = true := by rw [e]; exact R4.no_iff.2 (Or.inl (Int.le_refl _))
          exact ⟨Or.inl this, Or.inl this⟩
      clear hin2 hrc4 hM hMl hMI hinr HRK5 HRK2 HRK0
      go_upto_region 7 with fail
      generalize w5.alloc (.cells #[.int .u32 (k0.1 : Int), .int .u32 (k0.2.1 : Int), .int .u32 (k0.2.2.1 : Int), .int .u32 (k0.2.2.2 : Int)] 96) = w6 at *
      generalize w5.heap.size = kb at *
      clear w5
      refine region_sq 5 (fun W => Below w6.heap.size w6 W) [(0, 2), (1, 1), (6, 1), (8, 1), (2, 0), (3, 1), (4, 0), (5, 3), (7, 3)] (by kernel_rfl) (by kernel_rfl) rfl (by intro c a d v w h; cases d <;> exact h) (by kernel_rfl) (below_drewN (Below.refl _ w6) 1) ?_
      refine ⟨_, ?_, rfl, by rfl, ?_, ?_⟩
      rotate_left
      · intro W hW
        have y := ch_cells (HC6.out.later hW).at_
        obtain ⟨y0, y1, y2, y3, y4⟩ := y
        go_simp; first | done | rfl
      conv => arg 6; simp only [Act.put, List.setIfInBounds_toArray, List.set_cons_zero, List.set_cons_succ]
      refine ⟨_, ?_, rfl, by rfl, ?_, ?_⟩
      rotate_left
      · intro W; go_simp; first | done | rfl
      conv => arg 6; simp only [Act.put, List.setIfInBounds_toArray, List.set_cons_zero, List.set_cons_succ]
      refine ⟨_, ?_, rfl, by rfl, ?_, ?_⟩
      rotate_left
      · intro W; go_simp; first | done | rfl
      conv => arg 6; simp only [Act.put, List.setIfInBounds_toArray, List.set_cons_zero, List.set_cons_succ]
      refine ⟨_, ?_, rfl, by rfl, ?_, ?_⟩
      rotate_left
      · intro W; go_simp; first | done | rfl
      conv => arg 6; simp only [Act.put, List.setIfInBounds_toArray, List.set_cons_zero, List.set_cons_succ]
      refine ⟨_, rfl, by rfl, fun K hK => ?_⟩
      go_simp
      refine (HSP.out _).mono ?_
      rintro e w7 ⟨rfl, hb7⟩
      have HB7 : Hid (Below w6.heap.size w6 w7) := ⟨hb7.os, hb7.tape, hb7.output, hb7.size, hb7.block⟩
      clear hb7
      refine hK _ _ HB7.out ?_
      clear hK K
      conv => arg 6; simp only [Act.put, List.setIfInBounds_toArray, List.set_cons_zero, List.set_cons_succ]
      refine ⟨_, ?_, rfl, by rfl, ?_, ?_⟩
      rotate_left
      · intro W; go_simp; first | done | rfl
      conv => arg 6; simp only [Act.put, List.setIfInBounds_toArray, List.set_cons_zero, List.set_cons_succ]
      refine ⟨_, rfl, by rfl, fun K hK => ?_⟩
      go_simp
      refine (HMN.out _).mono ?_
      rintro e w8 ⟨rfl, hb8⟩
      have HB8 := Lib.hid (HB7.out.trans (hb8.mono HB7.out.size))
      clear hb8 HB7
      refine hK _ _ HB8.out ?_
      clear hK K
      conv => arg 6; simp only [Act.put, List.setIfInBounds_toArray, List.set_cons_zero, List.set_cons_succ]
      refine ⟨_, rfl, by rfl, fun K hK => ?_⟩
      go_simp
      refine (HMV.out _ (HRK6.out.later HB8.out)).mono ?_
      rintro e w9 ⟨g9, rfl, hg9, hz9, hb9⟩
      have HZR := Lib.hid hz9
      have HB8b := Lib.hid (HB8.out.trans (hb9.mono HB8.out.size))
      clear hb9 HB8 hz9 hg9
      refine hK _ _ ?_
      clear hK K
      conv => arg 6; simp only [Act.put, List.setIfInBounds_toArray, List.set_cons_zero, List.set_cons_succ]
      refine ⟨_, rfl, by rfl, fun K hK => ?_⟩
      go_simp
      refine (HQU.out g9 _ HZR.out).mono ?_
      rintro e w10 ⟨v, rfl, hq4, hb10⟩
      have HKQ : Hid (∀ q, q < 4 → Kq w10 w6.heap.size g (v q) (lq M j q)) := fun q hq => by
        obtain ⟨cap, hs⟩ := HPX6.out.pn.st
        obtain ⟨l1, l2, l3⟩ := hs.lt
        exact Kq.of ((hq4.own q hq).mono HB8b.out.size) l2
      have HB9 := Lib.hid (HB8b.out.trans (hb10.mono HB8b.out.size))
      clear hb10 HB8b hq4 HZR
      refine hK _ _ ?_
      clear hK K
      conv => arg 6; simp only [Act.put, List.setIfInBounds_toArray, List.set_cons_zero, List.set_cons_succ]
      unfold wpSq
      have HPX9 := Lib.hid (HPX6.out.trans (Px.of_below HPX6.out.pn HB9.out))
      have HBB : Hid (sb < w6.heap.size ∧ tb < w6.heap.size ∧ w.heap.size + 1 + 1 + 1 + 1 < w6.heap.size ∧ kb < w6.heap.size) := by
        obtain ⟨cap, hs⟩ := HPX6.out.pn.st
        obtain ⟨l1, l2, l3⟩ := hs.lt
        exact ⟨l1, l3, HPX6.out.pn.mlt, HK6.out.lt⟩
      have HPL9 := Lib.hid (HPL6.out.later HB9.out)
      have HZ9 := Lib.hid (HZ6.out.later HB9.out)
      have HK9 := Lib.hid (HK6.out.later HB9.out)
      clear HPX6 HPL6 HC6 HZ6 HK6 HB9 HMN HMV HSP HQU c0 c1 c2 c3 c4
      obtain ⟨F, hF⟩ : ∃ F : Int → Int → Nat, F = Tp N n0 k0 j (shR rc j) c M := ⟨_, rfl⟩
      have HFF := Lib.hid hF
      clear hF
      go_wp2_with fail
      go_loopg [15, 16, 17, 18, 57] 4 (fun m v15 v16 v17 v18 cnt wr => ∃ (i g8 : Nat) (M8 : List Nd) (f : Nat → Nat), m = 4 - i ∧ i ≤ 4 ∧ cnt = .int .i64 (i : Int) ∧ Px sb tb (w.heap.size + 1 + 1 + 1 + 1) (w.heap.size + 1 + 1 + 1 + 1 + 1) most (shR r j) c W0 g N wr g8 M8 ∧ New8 N (j + 1) F M8 ∧ Oc wr sb g8 tb (w.heap.size + 1 + 1 + 1 + 1) w.heap.size (plO sb x) ∧ Oc wr sb g8 tb (w.heap.size + 1 + 1 + 1 + 1) (w.heap.size + 1 + 1 + 1) zeO8 ∧ Oc wr sb g8 tb (w.heap.size + 1 + 1 + 1 + 1) kb (kO (mk4 f)) ∧ (∀ q, i ≤ q → q < 4 → f q = kAt k0 q) ∧ (∀ a b, pl a b < i → Con M8 j (f (pl a b)) (qF F j a b)) ∧ (∀ q, q < 4 → Kq wr w6.heap.size g8 (v q) (lq M j q)))
      case atStart => exact ⟨0, g, N, kAt k0, rfl, Nat.zero_le _, rfl, HPX9.out, New8.refl _ _ _, HPL9.out, HZ9.out, HK9.out, fun _ _ _ => rfl, fun a b h => by omega, HKQ.out⟩
      case round =>
        clear HPX9 HPL9 HZ9 HK9 HKQ
        obtain ⟨i, g8, M8, f, hm, hi, rfl, hpx, hnew, hpl, hz, hk, hf1, hf2, hkq⟩ := hrel
        have HKQ := Lib.hid hkq
        clear hkq
        have HM := Lib.hid hm
        have HPX8 := Lib.hid hpx
        have HP8 := Lib.hid hpx.pn
        have HNW8 := Lib.hid hnew
        have HPL8 := Lib.hid hpl
        have HZ8 := Lib.hid hz
        have HK8 := Lib.hid hk
        have HF1 := Lib.hid hf1
        have HF2 := Lib.hid hf2
        clear hm hpx hnew hpl hz hk hf1 hf2
        by_cases hlt : i < 4
        · have hgj : decide ((i : Int) < 4) = true := by simp; omega
          obtain ⟨a', b', hjp⟩ := pl_of hlt
          obtain ⟨aj, capj, hvj, hrk, hbk⟩ := HKQ.out i hlt
          have hix := fixC (qq (shR rc j) j) v hlt
          have hqj : qq (shR rc j) j i = qR (shR rc j) j a' b' := by rw [hjp, qq_pl]
          rw [hqj, hvj] at hix
          have HJP := Lib.hid hjp
          have hlj : (lq M j i).length ≤ 100000 := Nat.le_trans (lq_len M j i) HML.out
          have hlqj : lq M j i = qL M j a' b' := by rw [hjp, lq_pl]
          have HKA : Hid (kAt k0 i = pick k0 a' b') := by
            show _ = _
            rw [hjp]; exact (pick_kAt k0 a' b').symm
          have HIN : Hid (∀ W, Below wr.heap.size wr W → Calls Tryz.prog 73 #[.pointer (some ⟨w.heap.size + 1 + 1 + 1 + 1 + 1, 0, none⟩), .int .u32 (kAt k0 i : Int), .int .i64 (i : Int), .int .i64 (n0 : Int), .int .i64 (j : Int), .agg #[.int .i64 (qR (shR rc j) j a' b').x, .int .i64 (qR (shR rc j) j a' b').y, .int .i64 (qR (shR rc j) j a' b').X, .int .i64 (qR (shR rc j) j a' b').Y, .slice aj (lq M j i).length capj]] W fun e w' => ∃ g' N', Px sb tb (w.heap.size + 1 + 1 + 1 + 1) (w.heap.size + 1 + 1 + 1 + 1 + 1) most (shR r j) c wr g8 M8 w' g' N' ∧ Res8 most e M8 j (qF F j a' b') N') := fun W hb => by
            obtain ⟨E, hE⟩ := HPX8.out.ext
            have hsq : Sq0 N n0 (kAt k0 i) := Or.inr (by rw [HKA.out]; exact HFK.out a' b')
            have hj : n0 + (j - n0) = j := by omega
            have := inner_any sb tb (w.heap.size + 1 + 1 + 1 + 1) (w.heap.size + 1 + 1 + 1 + 1 + 1) most (shR r j) c hc n0 a' b' (j - n0) (HP8.out.later hb) (x := kAt k0 i) (r := qR (shR rc j) j a' b') (by omega) (hE ▸ hsq.app E) (by rw [hj]; exact qR_in _ j a' b') (by rw [hj]; exact qR_pr HRI.out.2 HRI.out.1 a' b') (lq M j i) hlj (by rw [hj, hlqj]; exact qL_in M j a' b') aj capj (hrk.later hb)
            rw [hj, ← HJP.out] at this
            refine this.mono ?_
            rintro e w' ⟨g', N', h1, h2⟩
            refine ⟨g', N', (Px.of_below HP8.out hb).trans h1, h2.of fun X Y hX hY => ?_⟩
            have hw8 := HP8.out.wf
            rw [hE] at hw8 ⊢
            rw [Ti_app HS0.out.wf E hw8 hsq, HFF.out, HKA.out, hlqj]
            exact Tp_q HS0.out.wf HFK.out HMI.out (shR rc j) c a' b' X Y hX hY
          clear hlj hlqj hqj hrk hbk hvj hjp
          generalize qR (shR rc j) j a' b' = q at *
          generalize (lq M j i).length = mj at *
          have HBR := Lib.hid (bel1 wr (.cells #[.int .i64 q.x, .int .i64 q.y, .int .i64 q.X, .int .i64 q.Y, .slice aj mj capj] 92))
          have hcr : (wr.alloc (.cells #[.int .i64 q.x, .int .i64 q.y, .int .i64 q.X, .int .i64 q.Y, .slice aj mj capj] 92)).heap[wr.heap.size]? = some (chO q (.slice aj mj capj)) := heap_alloc_new wr _
          have HCR := Lib.hid hcr
          have HK9 := Lib.hid (HK8.out.later HBR.out)
          have i1 : (0 : Int) ≤ (i : Int) := by omega
          have i2 : (i : Int) < 4 := by omega
          have hw1 : IntKind.i64.wrap (n0 : Int) = (n0 : Int) := IntWalk.i64_in _ (by omega)
          have hw2 : IntKind.i64.wrap (j : Int) = (j : Int) := IntWalk.i64_in _ (by omega)
          clear hcr
          go_upto_region 10 with fail
          generalize wr.alloc (.cells #[.int .i64 q.x, .int .i64 q.y, .int .i64 q.X, .int .i64 q.Y, .slice aj mj capj] 92) = W2 at *
          obtain ⟨c0, c1, c2, c3, c4⟩ := ch_cells HCR.out
          obtain ⟨k1, k2⟩ := k_cell HK9.out.at_ hlt
          rw [kAt_mk4 _ hlt, HF1.out i (Nat.le_refl _) hlt] at k1
          generalize kAt k0 i = y1 at *
          go_cut [17, 18] from 61 to 74 (fun v17 v18 wx => ∃ (y g9 : Nat) (M9 : List Nd), Px sb tb (w.heap.size + 1 + 1 + 1 + 1) (w.heap.size + 1 + 1 + 1 + 1 + 1) most (shR r j) c wr g8 M8 wx g9 M9 ∧ v17 = .int .u32 (y : Int) ∧ New8 M8 j (qF F j a' b') M9 ∧ ((v18 = .nilIface ∧ Con M9 j y (qF F j a' b')) ∨ (v18 = .iface 52 (.int .i64 7) ∧ most ≤ M9.length)))
          case first =>
            go_region_with (first
              | (go_at_call 73; refine (HIN.out _ (HBR.out.trans ((below_drewN (Below.refl _ W2) 1).mono HBR.out.size))).mono ?_; rintro e w9 ⟨g9, M9, hpx, hres⟩; obtain ⟨y, ev, rfl, hn8, hres2⟩ := two8 hres; have HRS := Lib.hid hres2; have HN9 := Lib.hid hn8; have HX9 := Lib.hid hpx; clear hres hres2 hn8 hpx))
            all_goals go_wp2
            all_goals go_meet
            all_goals exact ⟨y, g9, M9, HX9.out, rfl, HN9.out, HRS.out⟩
          case rest =>
            obtain ⟨y, g9, M9, hpx, rfl, hnew, hres⟩ := hcut
            have HPX9 := Lib.hid (HPX8.out.trans hpx)
            have HEX : Hid (∃ E, M9 = M8 ++ E) := hpx.ext
            have HPL9 := Lib.hid (HPL8.out.px hpx)
            have HZ9 := Lib.hid (HZ8.out.px hpx)
            have HKN := Lib.hid (HK8.out.px hpx)
            have HNW9 := Lib.hid (HNW8.out.trans HP8.out.wf hnew.up)
            have HWF8 := Lib.hid HP8.out.wf
            have HKQ9 : Hid (∀ q, q < 4 → Kq wc w6.heap.size g9 (v q) (lq M j q)) := fun q hq => (HKQ.out q hq).px hpx HBB.out.1 HBB.out.2.1 HBB.out.2.2.1
            clear hpx hnew c0 c1 c2 c3 c4 k1 k2 HK8 HNW8 HPX8 HP8 hix HK9 HCR HBR HPL8 HZ8 HIN hw1 hw2 HKQ
            rcases hres with ⟨rfl, hcon⟩ | ⟨rfl, hfull⟩
            · have HCO := Lib.hid hcon
              clear hcon
              obtain ⟨kc1, kc2⟩ := k_cell HKN.out.at_ hlt
              go_wp2_with fail
              go_roundg (4 - (i + 1))
              case measure => rw [HM.out]; omega
              case rel =>
                have hks := HKN.out.set hlt y
                rw [show (mk4 fun q => if q = i then y else kAt (mk4 f) q) = mk4 (fun q => if q = i then y else f q) from mk4_ext fun q hq => by show (if q = i then y else kAt (mk4 f) q) = _; rw [kAt_mk4 _ hq]] at hks
                refine ⟨i + 1, g9, M9, _, rfl, by omega, by go_num, HPX9.out.set HKN.out HKB.out.2.2.2 HKB.out.1 _, HNW9.out, HPL9.out.other (by show kb ≠ w.heap.size; exact HKB.out.2.1) _, HZ9.out.other (by show kb ≠ w.heap.size + 1 + 1 + 1; exact HKB.out.2.2.1) _, hks, fun q hq hq4 => ?_, fun a1 b1 hab => ?_, fun q hq => (HKQ9.out q hq).other HBB.out.2.2.2 _⟩
                · show (if q = i then y else f q) = _
                  rw [if_neg (by omega)]; exact HF1.out q (by omega) hq4
                · by_cases e : pl a1 b1 = i
                  · simp only [e, if_true]
                    have e2 : pl a1 b1 = pl a' b' := e.trans HJP.out
                    obtain ⟨rfl, rfl⟩ := pl_inj.1 e2
                    exact HCO.out
                  · simp only [if_neg e]
                    obtain ⟨E, rfl⟩ := HEX.out
                    exact (HF2.out a1 b1 (by omega)).app HWF8.out E
            · have HCO := Lib.hid hfull
              clear hfull
              obtain ⟨r0, r1, rf0, rf1⟩ := res_cells HZ9.out.at_
              go_wp2_with fail
              obtain ⟨W, hW, hN, _, q0, q1⟩ := put_pl (HPX9.out.nx HB.out (by omega)) HZ9.out.ob (by omega) (.pointer none) (.int .u32 0)
              rw [hW]
              refine bodyPost_ret (v := _) (by simp [results, Tryz.results41, go_sem, q0, q1]; rfl) rfl ?_
              refine ⟨g9, M9, j, HLOW.out, hN, ?_, ?_⟩
              · rw [HKD.out, ← HMM.out, ← HFF.out]; exact HNW9.out
              · rw [HKD.out, ← HMM.out, ← HFF.out]; exact Or.inr ⟨rfl, HCO.out⟩
        · obtain rfl : i = 4 := by omega
          have hgs : decide (((4 : Nat) : Int) < 4) = false := by simp
          have HCN : Hid (∀ r1 b1, Con M8 j (pick (mk4 f) r1 b1) (qF F j r1 b1)) := fun r1 b1 => by
            rw [pick_kAt, kAt_mk4 _ (pl_lt _ _)]
            exact HF2.out r1 b1 (pl_lt _ _)
          generalize hkk : mk4 f = kk at *
          clear HF1 HF2 hkk
          have HMK := Lib.hid (make_con HP8.out hj62 HCN.out)
          obtain ⟨p0, p1⟩ := pl_cells HPL8.out.at_
          obtain ⟨k1, k2, k3, k4⟩ := k_cells HK8.out.at_
          go_wp2_with fail
          refine HMK.out.mono ?_
          clear HMK p0 p1 k1 k2 k3 k4
          rintro e w9 ⟨g9, M9, hpx, hres⟩
          have HRS := Lib.hid hres
          obtain ⟨y, ev, rfl, _, _⟩ := two8 hres
          have HPX9 := Lib.hid (HPX8.out.trans hpx)
          have HPL9 := Lib.hid (HPL8.out.px hpx)
          have HZ9 := Lib.hid (HZ8.out.px hpx)
          have HNW9 := Lib.hid (HNW8.out.trans HP8.out.wf HRS.out.1)
          clear hpx hres HPX8 HPL8 HZ8 HK8 HNW8 HP8
          obtain ⟨r0, r1, rf0, rf1⟩ := res_cells HZ9.out.at_
          obtain ⟨p0, p1⟩ := pl_cells HPL9.out.at_
          rcases HRS.out.2 with ⟨y', he, hcon⟩ | ⟨he, hfull⟩
          · obtain ⟨rfl, rfl⟩ : y' = y ∧ ev = .nilIface := by
              simp only [Ending.returned.injEq, Value.tuple.injEq, Array.mk.injEq, List.cons.injEq, Value.int.injEq, true_and, and_true] at he
              exact ⟨by omega, he.2⟩
            have HCO := Lib.hid hcon
            clear hcon he HRS
            go_wp2_with fail
            obtain ⟨W, hW, hN, _, q0, q1⟩ := put_pl (HPX9.out.nx HB.out (by omega)) HZ9.out.ob (by omega) (.pointer (some ⟨sb, 0, none⟩)) (.int .u32 (y' : Int))
            rw [hW]
            refine bodyPost_ret (v := _) (by simp [results, Tryz.results41, go_sem, q0, q1]; rfl) rfl ?_
            refine ⟨g9, M9, j, HLOW.out, hN, ?_, ?_⟩
            · rw [HKD.out, ← HMM.out, ← HFF.out]; exact HNW9.out
            · rw [HKD.out, ← HMM.out, ← HFF.out]; exact Or.inl ⟨y', rfl, HCO.out⟩
          · obtain ⟨rfl, rfl⟩ : y = 0 ∧ ev = .iface 52 (.int .i64 7) := by
              simp only [Ending.returned.injEq, Value.tuple.injEq, Array.mk.injEq, List.cons.injEq, Value.int.injEq, true_and, and_true] at he
              exact ⟨by omega, he.2⟩
            have HCO := Lib.hid hfull
            clear hfull he HRS
            go_wp2_with fail
            obtain ⟨W, hW, hN, _, q0, q1⟩ := put_pl (HPX9.out.nx HB.out (by omega)) HZ9.out.ob (by omega) (.pointer none) (.int .u32 0)
            rw [hW]
            refine bodyPost_ret (v := _) (by simp [results, Tryz.results41, go_sem, q0, q1]; rfl) rfl ?_
            refine ⟨g9, M9, j, HLOW.out, hN, ?_, ?_⟩
            · rw [HKD.out, ← HMM.out, ← HFF.out]; exact HNW9.out
            · rw [HKD.out, ← HMM.out, ← HFF.out]; exact Or.inr ⟨rfl, HCO.out⟩
    | true =>
      have hin : ¬ inR j r := by
        have := HNB.out
        cases hd : decide (inR j r) with
        | false => exact of_decide_eq_false hd
        | true => rw [hd] at this; cases this
      have hjlt : j < n := by
        rcases Nat.lt_or_ge j n with h | h
        · exact h
        · obtain rfl : j = n := by omega
          exact absurd HLOW.out.2.2.1 hin
      clear hin HNB
      go_wp2_with fail
      go_roundg (n - (j + 1))
      case measure => rw [HM.out]; omega
      case rel => exact ⟨j + 1, rfl, by omega, by omega, by go_num, HB2.out⟩
end Go.Proofs.YtnfjmmkokhncoaaGreat
