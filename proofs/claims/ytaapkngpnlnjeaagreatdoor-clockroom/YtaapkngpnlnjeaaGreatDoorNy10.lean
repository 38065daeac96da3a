/- Package evolve: next, of find: contract. -/
import Derived.Test.YtaapkngpnlnjeaaGreatDoorFi10
import Derived.Test.YtaapkngpnlnjeaaGreatDoorSk10
namespace Go.Proofs.YtaapkngpnlnjeaaGreatDoor
open Go.RowKit Go.Maps
set_option maxRecDepth 100000

/-- The contract of find, at a level and a power. -/
def Finds (sb tb mb most n p c : Nat) : Prop := ∀ (w : World) (g : Nat) (N : List Nd) (fb : FbT) (m : Stp → Option Value), Me w sb g tb most N mb fb m → ∀ (x : Nat), Sq N (n + 2) x →
    Calls Tryz.prog 83 #[.pointer (some ⟨mb, 0, none⟩), .agg #[.int .u32 (x : Int), .int .i64 (p : Int)]] w fun e w' => ∃ g' N' fb' m', Mx sb tb mb most w g N fb m c w' g' N' fb' m' ∧ Find most e N' n x p
theorem Sq.seOk {w : World} {sb g tb most mb : Nat} {N : List Nd} {fb : FbT} {m : Stp → Option Value} (h : Me w sb g tb most N mb fb m) {n x p : Nat} (hx : Sq N (n + 2) x) (hp : p ≤ n) : SeOk ⟨x, p⟩ := by
  obtain ⟨cap, hst⟩ := h.st
  have h1 := hx.lt
  have h2 := hst.room
  have h3 := hst.most_le
  have h4 := Sq.le62 hst.wf (n := n + 1) hx
  exact ⟨by show x < _; omega, by show p < _; omega⟩
theorem eqMapNo (b : Nat) (w : World) : (binOp .eql 74 (.map (some b)) (.map none)).run Tryz.prog w = .ok (.bool false) w := by kernel_rfl
theorem eqMapYes (w : World) : (binOp .eql 74 (.map none) (.map none)).run Tryz.prog w = .ok (.bool true) w := by kernel_rfl
set_option maxHeartbeats 4000000 in
theorem next_of {sb tb mb most n p c : Nat} (hp : p ≤ n) (HFD : Finds sb tb mb most n p c) : Nexts sb tb mb most n p c := by
  intro w g N fb m h x hx
  have HM := Lib.hid h
  have HX := Lib.hid hx
  have HFI := Lib.hid HFD
  have HB := Lib.hid (bel1 w (.cells #[.int .u32 (x : Int), .int .i64 (p : Int)] 140))
  have HO : Hid (Oe (w.alloc (.cells #[.int .u32 (x : Int), .int .i64 (p : Int)] 140)) sb g tb mb fb w.heap.size (seO x p)) := Oe.new h _ _
  have HM0 := Lib.hid (Mx.of_below h HB.out)
  have HOK := Lib.hid (Sq.seOk h hx hp)
  clear h hx HFD
  go_enter Tryz.func79, Tryz.ntmps79
  obtain ⟨e0, e1⟩ := se_cells HO.out.at_
  have HKN := Lib.hid (known_any HM0.out.me HX.out HOK.out)
  go_upto_region 1 with fail
  generalize w.alloc (.cells #[.int .u32 (x : Int), .int .i64 (p : Int)] 140) = W0 at *
  generalize w.heap.size = eb at *
  go_wp2_with fail
  refine HKN.out.mono ?_
  rintro e w1 ⟨y, ok, rfl, ⟨fb1, hmx⟩, hyes, hno⟩
  have HMX := Lib.hid ((HM0.out.trans hmx).mono (show 0 + 0 ≤ 0 by omega))
  have HO1 := Lib.hid (HO.out.mx hmx)
  have HY := Lib.hid hyes
  clear hmx hyes hno HKN e0 e1
  cases ok with
  | true =>
    have HY1 := Lib.hid (HY.out rfl)
    clear HY
    go_wp2_with fail
    go_ret2
    obtain ⟨h1, n', h2⟩ := HY1.out
    have : n' = n := by
      have e1 : lvZ N x = ((n' + 2 : Nat) : Int) := h2.sq
      have e2 : lvZ N x = ((n + 2 : Nat) : Int) := HX.out
      omega
    subst this
    exact ⟨g, N, fb1, m, HMX.out.mono (Nat.zero_le _), Or.inl ⟨y, rfl, h2, h1⟩⟩
  | false =>
    clear HY
    have HC := Lib.hid (HFI.out _ _ _ _ _ HMX.out.me _ HX.out)
    obtain ⟨e0, e1⟩ := se_cells HO1.out.at_
    go_wp2_with fail
    refine HC.out.mono ?_
    rintro e w5 ⟨g5, N5, fb5, m5, hmx, hres⟩
    have HMX5 := Lib.hid ((HMX.out.trans hmx).mono (show 0 + c ≤ c by omega))
    have HO5 := Lib.hid (HO1.out.mx hmx)
    clear HC e0 e1 hmx HMX HO1
    rcases hres with ⟨z, rfl, hsc⟩ | ⟨rfl, hfull⟩
    · have HSC := Lib.hid hsc
      have HSE := Lib.hid (see_any _ _ fb5 z HMX5.out.me hsc.zq)
      clear hsc
      go_wp2_with fail
      refine HSE.out.mono ?_
      rintro e w6 ⟨rfl, fb6, hmx⟩
      have HMX6 := Lib.hid ((HMX5.out.trans hmx).mono (show c + 0 ≤ c by omega))
      have HO6 := Lib.hid (HO5.out.mx hmx)
      clear HSE hmx HMX5 HO5
      obtain ⟨ff, hff⟩ : ∃ ff, fb6.f = ff := ⟨_, rfl⟩
      cases ff with
      | some b =>
        have heq := eqMapNo b
        obtain ⟨sv0, cl0, hth, m0, m1, mv, m2, mt, m3⟩ := HMX6.out.me.cells
        rw [hff] at m1
        clear mv mt hth m0 m2 m3
        go_upto_region 10 with fail
        have HMZ := Lib.hid HMX6.out
        have HOZ := Lib.hid HO6.out
        clear m1
        obtain ⟨wp, hup, hmp⟩ := HMZ.out.me.drew.put2 hff HSC.out
        have HUP := Lib.hid hup
        have HMP := Lib.hid hmp
        clear hup hmp
        obtain ⟨sv0, cl0, hth, m0, m1, mv, m2, mt, m3⟩ := HMZ.out.me.cells
        rw [hff] at m1
        obtain ⟨e0, e1⟩ := se_cells HOZ.out.at_
        clear mv mt hth m0 m2 m3
        refine region_sq 6 (fun W => W = w6.drew) [(0, 1), (1, 1), (2, 1), (3, 2), (4, 2), (5, 1), (6, 3)] (by kernel_rfl) (by kernel_rfl) rfl (by intro c a d v w h; cases d <;> exact h) (by kernel_rfl) rfl ?_
        refine ⟨_, ?_, rfl, by rfl, ?_, ?_⟩
        rotate_left
        · intro W; go_simp; first | done | rfl
        conv => arg 6; simp only [Act.put, List.setIfInBounds_toArray, List.set_cons_zero, List.set_cons_succ]
        refine ⟨_, ?_, rfl, by rfl, ?_, ?_⟩
        rotate_left
        · intro W; go_simp; first | done | rfl
        conv => arg 6; simp only [Act.put, List.setIfInBounds_toArray, List.set_cons_zero, List.set_cons_succ]
        refine ⟨_, ?_, rfl, by rfl, ?_, ?_⟩
        rotate_left
        · intro W; go_simp; first | done | rfl
        conv => arg 6; simp only [Act.put, List.setIfInBounds_toArray, List.set_cons_zero, List.set_cons_succ]
        refine ⟨_, ?_, rfl, by rfl, ?_, ?_⟩
        rotate_left
        · rintro W rfl
          skip
          go_simp; first | done | rfl
        conv => arg 6; simp only [Act.put, List.setIfInBounds_toArray, List.set_cons_zero, List.set_cons_succ]
        refine ⟨_, ?_, rfl, by rfl, ?_, ?_⟩
        rotate_left
        · rintro W rfl
          skip
          go_simp; first | done | rfl
        conv => arg 6; simp only [Act.put, List.setIfInBounds_toArray, List.set_cons_zero, List.set_cons_succ]
        refine ⟨_, ?_, rfl, by rfl, ?_, ?_⟩
        rotate_left
        · intro W; go_simp; first | done | rfl
        conv => arg 6; simp only [Act.put, List.setIfInBounds_toArray, List.set_cons_zero, List.set_cons_succ]
        refine ⟨_, rfl, by rfl, fun K hK => ?_⟩
        go_simp
        rw [HUP.out]
        go_simp
        refine hK _ _ ?_
        clear hK K
        conv => arg 6; simp only [Act.put, List.setIfInBounds_toArray, List.set_cons_zero, List.set_cons_succ]
        unfold wpSq
        go_wp2_with fail
        go_ret2
        exact ⟨g5, N5, _, _, (HMZ.out.trans HMP.out.undrew).mono (by omega), Or.inl ⟨z, rfl, HSC.out, by simp⟩⟩
      | none =>
        have heq := eqMapYes
        have hmm := @run_makeMap Tryz.prog
        obtain ⟨sv0, cl0, hth, m0, m1, mv, m2, mt, m3⟩ := HMX6.out.me.cells
        rw [hff] at m1
        clear mv mt hth m0 m2 m3
        obtain ⟨sv0, cl0, hth, m5, m6, mv, m7, mt, m8⟩ := (HMX6.out.me.later (bel1 w6 (.map #[] 0))).cells
        have m9 := m8 1
        rw [hff] at m6
        clear mv mt hth m5 m7 m8
        go_upto_region 10 with fail
        have HMF := Lib.hid (HMX6.out.me.first hff)
        have HMZ := Lib.hid (HMX6.out.trans HMF.out)
        have HOZ := Lib.hid (HO6.out.mx HMF.out)
        clear m1 m6 m9 HMF
        generalize (w6.alloc (.map #[] 0)).setCell ⟨mb, 1, none⟩ (.map (some w6.heap.size)) = w7 at *
        obtain ⟨wp, hup, hmp⟩ := HMZ.out.me.drew.put2 rfl HSC.out
        have HUP := Lib.hid hup
        have HMP := Lib.hid hmp
        clear hup hmp
        obtain ⟨sv0, cl0, hth, m0, m1, mv, m2, mt, m3⟩ := HMZ.out.me.cells
        obtain ⟨e0, e1⟩ := se_cells HOZ.out.at_
        clear mv mt hth m0 m2 m3
        refine region_sq 6 (fun W => W = w7.drew) [(0, 1), (1, 1), (2, 1), (3, 2), (4, 2), (5, 1), (6, 3)] (by kernel_rfl) (by kernel_rfl) rfl (by intro c a d v w h; cases d <;> exact h) (by kernel_rfl) rfl ?_
        refine ⟨_, ?_, rfl, by rfl, ?_, ?_⟩
        rotate_left
        · intro W; go_simp; first | done | rfl
        conv => arg 6; simp only [Act.put, List.setIfInBounds_toArray, List.set_cons_zero, List.set_cons_succ]
        refine ⟨_, ?_, rfl, by rfl, ?_, ?_⟩
        rotate_left
        · intro W; go_simp; first | done | rfl
        conv => arg 6; simp only [Act.put, List.setIfInBounds_toArray, List.set_cons_zero, List.set_cons_succ]
        refine ⟨_, ?_, rfl, by rfl, ?_, ?_⟩
        rotate_left
        · intro W; go_simp; first | done | rfl
        conv => arg 6; simp only [Act.put, List.setIfInBounds_toArray, List.set_cons_zero, List.set_cons_succ]
        refine ⟨_, ?_, rfl, by rfl, ?_, ?_⟩
        rotate_left
        · rintro W rfl
          skip
          go_simp; first | done | rfl
        conv => arg 6; simp only [Act.put, List.setIfInBounds_toArray, List.set_cons_zero, List.set_cons_succ]
        refine ⟨_, ?_, rfl, by rfl, ?_, ?_⟩
        rotate_left
        · rintro W rfl
          skip
          go_simp; first | done | rfl
        conv => arg 6; simp only [Act.put, List.setIfInBounds_toArray, List.set_cons_zero, List.set_cons_succ]
        refine ⟨_, ?_, rfl, by rfl, ?_, ?_⟩
        rotate_left
        · intro W; go_simp; first | done | rfl
        conv => arg 6; simp only [Act.put, List.setIfInBounds_toArray, List.set_cons_zero, List.set_cons_succ]
        refine ⟨_, rfl, by rfl, fun K hK => ?_⟩
        go_simp
        rw [HUP.out]
        go_simp
        refine hK _ _ ?_
        clear hK K
        conv => arg 6; simp only [Act.put, List.setIfInBounds_toArray, List.set_cons_zero, List.set_cons_succ]
        unfold wpSq
        go_wp2_with fail
        go_ret2
        exact ⟨g5, N5, _, _, (HMZ.out.trans HMP.out.undrew).mono (by omega), Or.inl ⟨z, rfl, HSC.out, by simp⟩⟩
    · have HF := Lib.hid hfull
      clear hfull
      go_wp2_with fail
      go_ret2
      exact ⟨g5, N5, fb5, m5, HMX5.out, Or.inr ⟨rfl, HF.out⟩⟩
end Go.Proofs.YtaapkngpnlnjeaaGreatDoor
