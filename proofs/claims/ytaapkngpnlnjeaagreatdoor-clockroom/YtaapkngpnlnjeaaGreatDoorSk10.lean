/- Package evolve: see, known, begin: contracts. -/
import Derived.Test.YtaapkngpnlnjeaaGreatDoorNt10
import Derived.Test.YtaapkngpnlnjeaaGreatDoorEv
import Derived.Test.YtaapkngpnlnjeaaGreatDoorP08
namespace Go.Proofs.YtaapkngpnlnjeaaGreatDoor
open Go.RowKit Go.Maps
set_option maxRecDepth 100000

set_option maxHeartbeats 4000000 in
theorem see_any {sb g tb most mb : Nat} {N : List Nd} {m : Stp → Option Value} : ∀ (n : Nat) (w : World) (fb : FbT) (x : Nat), Me w sb g tb most N mb fb m → Sq N n x →
    Calls Tryz.prog 84 #[.pointer (some ⟨mb, 0, none⟩), .int .u32 (x : Int)] w fun e w' => e = .returned (.bool true) ∧ ∃ fb', Mx sb tb mb most w g N fb m 0 w' g N fb' m := by
  intro n
  induction n with
  | zero =>
    intro w fb x h hx
    have HM := Lib.hid h
    have HSU := Lib.hid (sure_any h hx)
    clear h hx
    go_enter Tryz.func84, Tryz.ntmps84
    go_wp2_with fail
    refine HSU.out.mono ?_
    rintro e w1 ⟨b, rfl, hb, hn⟩
    cases b with
    | false => exact absurd (hn rfl) (Nat.lt_irrefl 0)
    | true =>
      go_wp2_with fail
      go_ret
      exact ⟨rfl, fb, Mx.of_below HM.out hb⟩
  | succ n ih =>
    intro w fb x h hx
    have HM := Lib.hid h
    have HX := Lib.hid hx
    have HIH := Lib.hid ih
    have HSU := Lib.hid (sure_any h hx)
    have HFO := Lib.hid (fo_iff.1 (hx.kid h.wf))
    clear h hx ih
    go_enter Tryz.func84, Tryz.ntmps84
    go_wp2_with fail
    refine HSU.out.mono ?_
    rintro e w1 ⟨b, rfl, hb, hn⟩
    clear HSU hn
    have HB1 := Lib.hid hb
    clear hb
    cases b with
    | true =>
      go_wp2_with fail
      go_ret
      exact ⟨rfl, fb, Mx.of_below HM.out HB1.out⟩
    | false =>
      have HM1 := Lib.hid (HM.out.later HB1.out)
      have HOF : Hid (Calls Tryz.prog 41 #[.pointer (some ⟨sb, 0, none⟩), .int .u32 (x : Int)] w1 fun e w' => e = .returned (.tuple #[.agg #[.int .u32 ((kidZ N x).1 : Int), .int .u32 ((kidZ N x).2.1 : Int), .int .u32 ((kidZ N x).2.2.1 : Int), .int .u32 ((kidZ N x).2.2.2 : Int)], .bool true]) ∧ Below w1.heap.size w1 w') := by
        obtain ⟨cap, hs⟩ := HM1.out.st
        exact of_sqk hs HX.out
      obtain ⟨sv0, cl0, hth, m0, m1, mv, m2, mt, m3⟩ := HM1.out.cells
      clear hth m1 mv m2 mt m3
      have HKD : Hid (∃ k, kidZ N x = k) := ⟨_, rfl⟩
      obtain ⟨k, hk⟩ := HKD.out
      rw [hk] at HOF HFO
      have HK := Lib.hid hk
      clear HKD hk
      go_wp2_with fail
      refine HOF.out.mono ?_
      rintro e w2 ⟨rfl, hb⟩
      have HB2 := Lib.hid (HB1.out.trans (hb.mono HB1.out.size))
      have HM2 := Lib.hid (HM1.out.later hb)
      have HB3 := Lib.hid (HB2.out.trans ((bel1 w2 (.cells #[.int .u32 (k.1 : Int), .int .u32 (k.2.1 : Int), .int .u32 (k.2.2.1 : Int), .int .u32 (k.2.2.2 : Int)] 63)).mono HB2.out.size))
      have HO3 : Hid (Oe (w2.alloc (.cells #[.int .u32 (k.1 : Int), .int .u32 (k.2.1 : Int), .int .u32 (k.2.2.1 : Int), .int .u32 (k.2.2.2 : Int)] 63)) sb g tb mb fb w2.heap.size (kO k)) := Oe.new HM2.out _ _
      clear hb HOF m0 HB1 HM1 HB2 HM2
      obtain ⟨k0, k1, k2, k3⟩ := k_cells HO3.out.at_
      go_upto_region 4 with fail
      generalize w2.alloc (.cells #[.int .u32 (k.1 : Int), .int .u32 (k.2.1 : Int), .int .u32 (k.2.2.1 : Int), .int .u32 (k.2.2.2 : Int)] 63) = W3 at *
      generalize w2.heap.size = kb at *
      have HMX3 := Lib.hid (Mx.of_below HM.out HB3.out)
      clear HB3
      go_wp2_with fail
      clear k0 k1 k2 k3
      go_loopg [7, 9, 23] 4 (fun mm v7 v9 cnt wr => ∃ (j : Nat) (fb1 : FbT), mm = 4 - j ∧ j ≤ 4 ∧ cnt = .int .i64 (j : Int) ∧ v7 = .bool true ∧ Mx sb tb mb most w g N fb m 0 wr g N fb1 m ∧ Oe wr sb g tb mb fb1 kb (kO k))
      case atStart => exact ⟨0, fb, rfl, Nat.zero_le _, rfl, rfl, HMX3.out, HO3.out⟩
      case round =>
        clear HMX3 HO3
        obtain ⟨j, fb1, hm, hj, rfl, rfl, hmx, ho⟩ := hrel
        have HMM := Lib.hid hm
        have HMX := Lib.hid hmx
        have HO := Lib.hid ho
        clear hm hmx ho
        by_cases hlt : j < 4
        · have hgj : decide ((j : Int) < 4) = true := by simp; omega
          have hix := kix k hlt
          have HS := Lib.hid (HIH.out wr fb1 (kAt k j) HMX.out.me (HFO.out j hlt))
          have i4 : (j : Int) < 4 := by omega
          have i5 : (0 : Int) ≤ (j : Int) := by omega
          go_wp2_with fail
          refine HS.out.mono ?_
          rintro e w5 ⟨rfl, fb5, hmx5⟩
          have HMX5 := Lib.hid ((HMX.out.trans hmx5).mono (Nat.le_refl _))
          have HO5 := Lib.hid (HO.out.mx hmx5)
          clear hmx5 HS HMX HO
          go_wp2_with fail
          go_roundg (4 - (j + 1))
          case measure => rw [HMM.out]; omega
          case rel => exact ⟨j + 1, fb5, rfl, by omega, by go_num, rfl, HMX5.out, HO5.out⟩
        · obtain rfl : j = 4 := by omega
          have hgj : decide (((4 : Nat) : Int) < 4) = false := by simp
          obtain ⟨k0, k1, k2, k3⟩ := k_cells HO.out.at_
          have HOT := Lib.hid (other_any HMX.out.me HX.out k HK.out)
          go_wp2_with fail
          refine HOT.out.mono ?_
          rintro e w5 ⟨rfl, hb⟩
          have HMX5 := Lib.hid (HMX.out.trans (Mx.of_below HMX.out.me hb))
          have HO5 := Lib.hid (HO.out.later hb)
          clear HOT HMX HO hb k0 k1 k2 k3
          obtain ⟨k0, k1, k2, k3⟩ := k_cells HO5.out.at_
          have HNT := Lib.hid (note_any HMX5.out.me HX.out k HK.out)
          go_wp2_with fail
          refine HNT.out.mono ?_
          rintro e w6 ⟨rfl, fb6, hmx6⟩
          have HMX6 := Lib.hid ((HMX5.out.trans hmx6).mono (show 0 + 0 + 0 ≤ 0 by omega))
          clear hmx6 HNT
          go_wp2_with fail
          go_ret
          exact ⟨rfl, fb6, HMX6.out⟩
/-- What known tells. -/
def Knw (sb tb mb most : Nat) (w : World) (g : Nat) (N : List Nd) (fb : FbT) (m : Stp → Option Value) (x p : Nat) (e : Ending) (w' : World) : Prop :=
  ∃ (y : Nat) (ok : Bool), e = .returned (.tuple #[.int .u32 (y : Int), .bool ok]) ∧ (∃ fb', Mx sb tb mb most w g N fb m 0 w' g N fb' m) ∧ (ok = true → m ⟨x, p⟩ = some (.int .u32 (y : Int)) ∧ ∃ n', Sc N n' x p y) ∧ (ok = false → m ⟨x, p⟩ = none)
set_option maxHeartbeats 4000000 in
theorem known_any {w : World} {sb g tb most mb : Nat} {N : List Nd} {fb : FbT} {m : Stp → Option Value} (h : Me w sb g tb most N mb fb m) {n x p : Nat} (hx : Sq N n x) (hok : SeOk ⟨x, p⟩) :
    Calls Tryz.prog 82 #[.pointer (some ⟨mb, 0, none⟩), .agg #[.int .u32 (x : Int), .int .i64 (p : Int)]] w fun e w' => Knw sb tb mb most w g N fb m x p e w' := by
  have HM := Lib.hid h
  have HX := Lib.hid hx
  have HOK := Lib.hid hok
  have HB := Lib.hid (bel1 w (.cells #[.int .u32 (x : Int), .int .i64 (p : Int)] 140))
  have HO : Hid (Oe (w.alloc (.cells #[.int .u32 (x : Int), .int .i64 (p : Int)] 140)) sb g tb mb fb w.heap.size (seO x p)) := Oe.new h _ _
  have HM0 := Lib.hid (h.later HB.out)
  have HMB := Lib.hid (Mx.of_below h HB.out)
  clear h hx hok
  go_enter Tryz.func82, Tryz.ntmps82
  obtain ⟨e0, e1⟩ := se_cells HO.out.at_
  have HSE := Lib.hid (see_any n _ fb x HM0.out HX.out)
  go_upto_region 1 with fail
  generalize w.alloc (.cells #[.int .u32 (x : Int), .int .i64 (p : Int)] 140) = W0 at *
  generalize w.heap.size = eb at *
  go_wp2_with fail
  refine HSE.out.mono ?_
  rintro e w1 ⟨rfl, fb1, hmx⟩
  have HMX := Lib.hid hmx
  have HO1 := Lib.hid (HO.out.mx hmx)
  clear hmx HSE e0 e1
  obtain ⟨sv0, cl0, hth, m0, m1, mv, m2, mt, m3⟩ := HMX.out.me.cells
  clear hth m0 mv m2 mt m3
  obtain ⟨e0, e1⟩ := se_cells HO1.out.at_
  obtain ⟨y, ok, hlk, hyes, hno⟩ := HMX.out.me.drew.look2 HOK.out
  have HY := Lib.hid hyes
  have HNO := Lib.hid hno
  clear hyes hno
  go_upto_region 2 with fail
  refine region_sq 10 (fun W => W = w1.drew) [(0, 1), (1, 1), (2, 1), (3, 2), (4, 2), (5, 2), (6, 1), (7, 1), (8, 1), (9, 1), (10, 3)] (by kernel_rfl) (by kernel_rfl) rfl (by intro c a d v w h; cases d <;> exact h) (by kernel_rfl) rfl ?_
  refine ⟨_, ?_, rfl, by rfl, ?_, ?_⟩
  rotate_left
  · intro W; go_simp; first | done | rfl
  conv => arg 6; simp only [Act.put, List.setIfInBounds_toArray, List.set_cons_zero, List.set_cons_succ]
  refine ⟨_, ?_, rfl, by rfl, ?_, ?_⟩
  rotate_left
  · intro W; go_simp; first | done | rfl
  conv => arg 6; simp only [Act.put, List.setIfInBounds_toArray, List.set_cons_zero, List.set_cons_succ]
  refine ⟨_, ?_, rfl, by rfl, ?_, ?_⟩
  rotate_left
  · intro W; go_simp; first | done | rfl
  conv => arg 6; simp only [Act.put, List.setIfInBounds_toArray, List.set_cons_zero, List.set_cons_succ]
  refine ⟨_, ?_, rfl, by rfl, ?_, ?_⟩
  rotate_left
  · rintro W rfl
    skip
    go_simp; first | done | rfl
  conv => arg 6; simp only [Act.put, List.setIfInBounds_toArray, List.set_cons_zero, List.set_cons_succ]
  refine ⟨_, ?_, rfl, by rfl, ?_, ?_⟩
  rotate_left
  · rintro W rfl
    skip
    go_simp; first | done | rfl
  conv => arg 6; simp only [Act.put, List.setIfInBounds_toArray, List.set_cons_zero, List.set_cons_succ]
  refine ⟨_, ?_, rfl, by rfl, ?_, ?_⟩
  rotate_left
  · rintro W rfl
    skip
    go_simp; first | done | rfl
  conv => arg 6; simp only [Act.put, List.setIfInBounds_toArray, List.set_cons_zero, List.set_cons_succ]
  refine ⟨_, ?_, rfl, by rfl, ?_, ?_⟩
  rotate_left
  · intro W; go_simp; first | done | rfl
  conv => arg 6; simp only [Act.put, List.setIfInBounds_toArray, List.set_cons_zero, List.set_cons_succ]
  refine ⟨_, ?_, rfl, by rfl, ?_, ?_⟩
  rotate_left
  · intro W; go_simp; first | done | rfl
  conv => arg 6; simp only [Act.put, List.setIfInBounds_toArray, List.set_cons_zero, List.set_cons_succ]
  refine ⟨_, ?_, rfl, by rfl, ?_, ?_⟩
  rotate_left
  · intro W; go_simp; first | done | rfl
  conv => arg 6; simp only [Act.put, List.setIfInBounds_toArray, List.set_cons_zero, List.set_cons_succ]
  refine ⟨_, ?_, rfl, by rfl, ?_, ?_⟩
  rotate_left
  · intro W; go_simp; first | done | rfl
  conv => arg 6; simp only [Act.put, List.setIfInBounds_toArray, List.set_cons_zero, List.set_cons_succ]
  refine ⟨_, rfl, by rfl, fun K hK => ?_⟩
  go_simp
  refine hK _ _ ?_
  clear hK K
  conv => arg 6; simp only [Act.put, List.setIfInBounds_toArray, List.set_cons_zero, List.set_cons_succ]
  unfold wpSq
  clear hlk
  have HMXd := Lib.hid ((HMB.out.trans HMX.out).drew.mono (show 0 + 0 ≤ 0 by omega))
  cases ok with
  | false =>
    go_wp2_with fail
    go_ret2
    exact ⟨y, false, rfl, ⟨fb1, HMXd.out⟩, (fun h => by cases h), fun _ => HNO.out trivial⟩
  | true =>
    obtain ⟨n', hsc⟩ := (HY.out rfl).2
    have HSE := Lib.hid (see_any _ _ fb1 y HMXd.out.me hsc.zq)
    clear hsc
    go_wp2_with fail
    refine HSE.out.mono ?_
    rintro e w2 ⟨rfl, fb2, hmx2⟩
    have HMX2 := Lib.hid ((HMXd.out.trans hmx2).mono (show 0 + 0 ≤ 0 by omega))
    clear hmx2 HSE
    go_wp2_with fail
    go_ret2
    exact ⟨y, true, rfl, ⟨fb2, HMX2.out⟩, (fun _ => HY.out trivial), fun h => by cases h⟩
theorem neTold (w : World) : (binOp .neq 76 (.map none) (.map none)).run Tryz.prog w = .ok (.bool false) w := by kernel_rfl
set_option maxHeartbeats 2000000 in
theorem begin_any {w : World} {sb g tb most mb : Nat} {N : List Nd} {fb : FbT} {m : Stp → Option Value} (h : Me w sb g tb most N mb fb m) :
    Calls Tryz.prog 78 #[.pointer (some ⟨mb, 0, none⟩)] w fun e w' => e = .returned (.tuple #[]) ∧ Mx sb tb mb most w g N fb m 0 w' g N fb m := by
  have HM := Lib.hid h
  obtain ⟨sv, cl, hblk, hsn⟩ := h.blk
  have HP : Hid (∀ c : Int, Mx sb tb mb most w g N fb m 0 (w.setCell ⟨mb, 3, none⟩ (.int .i64 c)) g N fb m) := fun c => h.put (f := fb.f) (sv := sv) (cl := c) (by simp only [World.setCell, Array.getElem?_modify, hblk, meO]; simp) rfl hsn
  have m2 : w.cell? ⟨mb, 3, none⟩ = some (.int .i64 cl) := by rw [Lib.cell_of_heap hblk]; rfl
  have mf : w.frozen? ⟨mb, 3, none⟩ = false := Lib.frozen_of_heap hblk 3
  have hnt := neTold
  clear hblk hsn h
  go_enter Tryz.func78, Tryz.ntmps78
  go_upto_region 1 with fail
  have HP1 := Lib.hid (HP.out (wrap64 (cl + 1)))
  generalize w.setCell ⟨mb, 3, none⟩ (.int .i64 (wrap64 (cl + 1))) = W1 at *
  obtain ⟨sv1, cl1, ⟨S, hrow, hq, hSl, hS⟩, m0, m1, mv, m2', mt, m3⟩ := HP1.out.me.cells
  have HSL := Lib.hid hSl
  obtain ⟨A, c, rfl, hA⟩ := row_form hrow
  clear hrow hq hSl hS hA m1 m2' m3 m2 mf HP
  go_upto_region 3 with fail
  have hme := Up.me W1
  have g0 := fun z : Up W1 => Up.cell m0 z
  have g1 := fun z : Up W1 => Up.cell mv z
  have HL := Lib.hid (fun z : Up W1 => Up.callsE (fun W hW => by obtain ⟨cap, hs⟩ := (HP1.out.me.later hW).st; exact len_any hs) z)
  have hlt : decide (N.length < S.length) = false := decide_eq_false (by have := HSL.out; omega)
  have hlt' : decide ((N.length : Int) < (S.length : Int)) = false := decide_eq_false (by have := HSL.out; omega)
  clear m0 mv mt
  generalize S.length = sl at *
  refine region_up (by kernel_rfl) (by kernel_rfl) ?_
  repeat (go_big_quiet_step ((first | (go_at_call 54; with_reducible exact HL.out _) | fail)))
  refine wpQuiet_nil ?_
  rintro w2 ⟨⟨W2, hW2⟩, rfl⟩
  go_wp2_with fail
  refine bodyPost_end (results_none rfl _ _ _) rfl ?_
  exact ⟨rfl, (HP1.out.trans (Mx.of_below HP1.out.me hW2)).mono (by omega)⟩
end Go.Proofs.YtaapkngpnlnjeaaGreatDoor
