/- Package evolve: shrink: contract. -/
import Derived.Test.YtaapkngpnlnjeaaGreatDoorSm10
import Derived.Test.YtaapkngpnlnjeaaGreatDoorSm10M
import Derived.Test.YtaapkngpnlnjeaaGreatDoorSm10S
import Derived.Laws.EntriesVeiled
namespace Go.Proofs.YtaapkngpnlnjeaaGreatDoor
open Go.RowKit Go.Maps
set_option maxRecDepth 100000

theorem small_out {most : Nat} {e : Ending} {N' : List Nd} {n' s : Nat} {G : Plane} {cc dd st : Int} (h : Small most e N' n' s G cc dd st) : ∃ (S : Nat) (q' : Nat → Nat → Nat) (ev : Value), e = .returned (.tuple #[.agg (fdC S q'), ev]) ∧
    ((ev = .nilIface ∧ S = s ∧ ∀ i j, i < s → j < s → Con N' n' (q' i j) (shF G (cc + (j : Int) * st) (dd + (i : Int) * st))) ∨ (ev = .iface 48 (.int .i64 7) ∧ most ≤ N'.length)) := by
  rcases h with ⟨q', rfl, h⟩ | ⟨rfl, h⟩
  · exact ⟨_, _, _, rfl, Or.inl ⟨rfl, rfl, h⟩⟩
  · exact ⟨_, _, _, rfl, Or.inr ⟨rfl, h⟩⟩
def wayO (a b c : Value) : Obj := .cells #[a, b, c] 162 (0, 0)
theorem way_cells {w : World} {vb : Nat} {a b c : Value} (h : w.heap[vb]? = some (wayO a b c)) : w.cell? ⟨vb, 0, none⟩ = some a ∧ w.cell? ⟨vb, 1, none⟩ = some b ∧ w.cell? ⟨vb, 2, none⟩ = some c :=
  ⟨by rw [Lib.cell_of_heap h]; rfl, by rw [Lib.cell_of_heap h]; rfl, by rw [Lib.cell_of_heap h]; rfl⟩
set_option maxHeartbeats 4000000 in
theorem shrink_L {sb tb mb most : Nat} {pa pb vb : Nat} {oa ob : Obj} {n t1 t2 : Nat} {h1 h2 : Int} {c1 c2 : Nat} (hn : n < 62)
    (HW1 : Way sb tb mb most (Kp sb tb mb [(vb, wayO (.func (.func 101) #[] #[.pointer (some ⟨pa, 0, none⟩), .pointer (some ⟨pb, 0, none⟩)]) (.func (.func 101) #[] #[.pointer (some ⟨pa, 0, none⟩), .pointer (some ⟨pb, 0, none⟩)]) (.func (.func 58) #[.pointer (some ⟨sb, 0, none⟩)] #[])), (pa, oa), (pb, ob)]) 101 (fun v => #[v, .pointer (some ⟨pa, 0, none⟩), .pointer (some ⟨pb, 0, none⟩)]) n n t1 h1 c1)
    (HW2 : Way sb tb mb most (Kp sb tb mb [(vb, wayO (.func (.func 101) #[] #[.pointer (some ⟨pa, 0, none⟩), .pointer (some ⟨pb, 0, none⟩)]) (.func (.func 101) #[] #[.pointer (some ⟨pa, 0, none⟩), .pointer (some ⟨pb, 0, none⟩)]) (.func (.func 58) #[.pointer (some ⟨sb, 0, none⟩)] #[])), (pa, oa), (pb, ob)]) 101 (fun v => #[v, .pointer (some ⟨pa, 0, none⟩), .pointer (some ⟨pb, 0, none⟩)]) n n t2 h2 c2)
    {w : World} {g : Nat} {N : List Nd} {fb : FbT} {m : Stp → Option Value} (h : Me w sb g tb most N mb fb m) (hkeep : Kp sb tb mb [(vb, wayO (.func (.func 101) #[] #[.pointer (some ⟨pa, 0, none⟩), .pointer (some ⟨pb, 0, none⟩)]) (.func (.func 101) #[] #[.pointer (some ⟨pa, 0, none⟩), .pointer (some ⟨pb, 0, none⟩)]) (.func (.func 58) #[.pointer (some ⟨sb, 0, none⟩)] #[])), (pa, oa), (pb, ob)] w g fb) {q : Nat → Nat → Nat} {F : Plane} {cc dd : Int}
    (hq : ∀ i j, i ≤ 3 → j ≤ 3 → Con N n (q i j) (shF F (cc + (j : Int) * 2 ^ n) (dd + (i : Int) * 2 ^ n))) :
    Calls Tryz.prog 94 #[.agg (fdC 4 q), .slice (some ⟨vb, 0, none⟩) 3 3] w fun e w' => ∃ g' N' fb' m', Mx sb tb mb most w g N fb m (9 * c1 + 4 * c2 + 1) w' g' N' fb' m' ∧ Out10 most e N' (n + 1) (shF (gens t2 (gens t1 F)) (cc + h1 + h2) (dd + h1 + h2)) := by
  have HM := Lib.hid h
  have HB := Lib.hid (bel1 w (.cells (fdC 4 q) 166))
  have HF : Hid (Oe (w.alloc (.cells (fdC 4 q) 166)) sb g tb mb fb w.heap.size (fdO 4 q)) := Oe.new h _ _
  have HM1 := Lib.hid (h.later HB.out)
  have HKP := Lib.hid (hkeep.later HB.out)
  have HS1 := Lib.hid (small_L HW1 HM1.out HKP.out (S := 4) (s := 3) rfl (by omega) hq)
  have HWB := Lib.hid HW2
  have HKD : Hid (∀ bo ∈ [(vb, wayO (.func (.func 101) #[] #[.pointer (some ⟨pa, 0, none⟩), .pointer (some ⟨pb, 0, none⟩)]) (.func (.func 101) #[] #[.pointer (some ⟨pa, 0, none⟩), .pointer (some ⟨pb, 0, none⟩)]) (.func (.func 58) #[.pointer (some ⟨sb, 0, none⟩)] #[])), (pa, oa), (pb, ob)], bo.1 < w.heap.size) := fun bo hb => (hkeep bo hb).lt
  clear h hkeep hq HW1 HW2
  generalize hways : wayO (.func (.func 101) #[] #[.pointer (some ⟨pa, 0, none⟩), .pointer (some ⟨pb, 0, none⟩)]) (.func (.func 101) #[] #[.pointer (some ⟨pa, 0, none⟩), .pointer (some ⟨pb, 0, none⟩)]) (.func (.func 58) #[.pointer (some ⟨sb, 0, none⟩)] #[]) = ways at *
  have HWS := Lib.hid hways
  clear hways
  have gw : ∀ {w g fb}, Kp sb tb mb [(vb, ways), (pa, oa), (pb, ob)] w g fb → w.cell? ⟨vb, 0, none⟩ = some (.func (.func 101) #[] #[.pointer (some ⟨pa, 0, none⟩), .pointer (some ⟨pb, 0, none⟩)]) ∧ w.cell? ⟨vb, 1, none⟩ = some (.func (.func 101) #[] #[.pointer (some ⟨pa, 0, none⟩), .pointer (some ⟨pb, 0, none⟩)]) ∧ w.cell? ⟨vb, 2, none⟩ = some (.func (.func 58) #[.pointer (some ⟨sb, 0, none⟩)] #[]) := fun {w g fb} hk => by
    have := (hk (vb, ways) (by simp)).at_
    rw [← HWS.out] at this
    exact way_cells this
  have HG : Hid (∀ w g fb, Kp sb tb mb [(vb, ways), (pa, oa), (pb, ob)] w g fb → w.cell? ⟨vb, 0, none⟩ = some (.func (.func 101) #[] #[.pointer (some ⟨pa, 0, none⟩), .pointer (some ⟨pb, 0, none⟩)]) ∧ w.cell? ⟨vb, 1, none⟩ = some (.func (.func 101) #[] #[.pointer (some ⟨pa, 0, none⟩), .pointer (some ⟨pb, 0, none⟩)]) ∧ w.cell? ⟨vb, 2, none⟩ = some (.func (.func 58) #[.pointer (some ⟨sb, 0, none⟩)] #[])) := fun w g fb hk => gw hk
  clear gw
  go_enter Tryz.func94, Tryz.ntmps94
  go_wp2_with fail
  generalize w.alloc (.cells (fdC 4 q) 166) = W0 at *
  refine wp_loop_rounds 4 ?_
  rw [rounds_succ]
  obtain ⟨v0, v1, v2⟩ := HG.out _ _ _ HKP.out
  go_upto_region 5 with fail
  clear v0 v1 v2
  go_wp2_with (first | (refine wpList_load_row rfl 166 _ rfl w.heap.size rfl 166 _ (0, 0) _ HF.out.at_ Tryz.underlying166 rfl (by as_aux_lemma => kernel_rfl) ?_))
  refine HS1.out.mono ?_
  rintro e w1 ⟨g1, N1, fb1, m1, hmx, hkp, hres⟩
  obtain ⟨S1, q1, ev, rfl, hr⟩ := small_out hres
  have HMX1 := Lib.hid ((Mx.of_below HM.out HB.out).trans hmx)
  have HF1 := Lib.hid (HF.out.mx hmx)
  have HKP1 := Lib.hid hkp
  clear hmx hkp hres HS1
  have hrow : Oe (w1.setRow w.heap.size (fdC S1 q1)) sb g1 tb mb fb1 w.heap.size (fdO S1 q1) := ⟨fd_row HF1.out.at_ S1 q1, HF1.out.sb_, HF1.out.g_, HF1.out.tb_, HF1.out.mb_, HF1.out.fb_⟩
  have HFZ1 := Lib.hid hrow
  have HMZ1 := Lib.hid (HMX1.out.setRow HF1.out (Nat.le_refl _) (fdC S1 q1))
  have HKZ1 := Lib.hid (HKP1.out.setRow HKD.out (Nat.le_refl _) (fdC S1 q1))
  clear hrow
  rcases hr with ⟨rfl, rfl, hc⟩ | ⟨rfl, hfull⟩
  · have HC1 := Lib.hid hc
    clear hc
    have HS2 := Lib.hid (small_L HWB.out HMZ1.out.me HKZ1.out (S := 3) (s := 2) (q := q1) rfl (by omega) (fun i j hi hj => HC1.out i j (by omega) (by omega)))
    go_wp2_with (first | (refine wpList_store_row rfl 166 _ _ rfl w.heap.size _ rfl rfl 166 _ HF1.out.at_ (by as_aux_lemma => kernel_rfl) rfl (fdC_one _ _) ?_))
    rw [rounds_succ]
    obtain ⟨v0, v1, v2⟩ := HG.out _ _ _ HKZ1.out
    go_upto_region 5 with fail
    clear v0 v1 v2
    go_wp2_with (first | (refine wpList_load_row rfl 166 _ rfl w.heap.size rfl 166 _ (0, 0) _ HFZ1.out.at_ Tryz.underlying166 rfl (by as_aux_lemma => kernel_rfl) ?_))
    refine HS2.out.mono ?_
    rintro e w2 ⟨g2, N2, fb2, m2, hmx, hkp, hres⟩
    obtain ⟨S2, q2, ev, rfl, hr⟩ := small_out hres
    have HMX2 := Lib.hid (HMZ1.out.trans hmx)
    have HF2 := Lib.hid (HFZ1.out.mx hmx)
    have HKP2 := Lib.hid hkp
    clear hmx hkp hres HS2
    have hrow : Oe (w2.setRow w.heap.size (fdC S2 q2)) sb g2 tb mb fb2 w.heap.size (fdO S2 q2) := ⟨fd_row HF2.out.at_ S2 q2, HF2.out.sb_, HF2.out.g_, HF2.out.tb_, HF2.out.mb_, HF2.out.fb_⟩
    have HFZ2 := Lib.hid hrow
    have HMZ2 := Lib.hid (HMX2.out.setRow HF2.out (Nat.le_refl _) (fdC S2 q2))
    have HKZ2 := Lib.hid (HKP2.out.setRow HKD.out (Nat.le_refl _) (fdC S2 q2))
    clear hrow
    rcases hr with ⟨rfl, rfl, hc⟩ | ⟨rfl, hfull⟩
    · have HC2 := Lib.hid hc
      clear hc
      have HS3 := Lib.hid (small_S (way_make sb tb mb most _ hn) HMZ2.out.me HKZ2.out (S := 2) (s := 1) (q := q2) rfl (by omega) (fun i j hi hj => HC2.out i j (by omega) (by omega)))
      go_wp2_with (first | (refine wpList_store_row rfl 166 _ _ rfl w.heap.size _ rfl rfl 166 _ HF2.out.at_ (by as_aux_lemma => kernel_rfl) rfl (fdC_one _ _) ?_))
      rw [rounds_succ]
      obtain ⟨v0, v1, v2⟩ := HG.out _ _ _ HKZ2.out
      go_upto_region 5 with fail
      clear v0 v1 v2
      go_wp2_with (first | (refine wpList_load_row rfl 166 _ rfl w.heap.size rfl 166 _ (0, 0) _ HFZ2.out.at_ Tryz.underlying166 rfl (by as_aux_lemma => kernel_rfl) ?_))
      refine HS3.out.mono ?_
      rintro e w3 ⟨g3, N3, fb3, m3, hmx, hkp, hres⟩
      obtain ⟨S3, q3, ev, rfl, hr⟩ := small_out hres
      have HMX3 := Lib.hid (HMZ2.out.trans hmx)
      have HF3 := Lib.hid (HFZ2.out.mx hmx)
      have HKP3 := Lib.hid hkp
      clear hmx hkp hres HS3
      have hrow : Oe (w3.setRow w.heap.size (fdC S3 q3)) sb g3 tb mb fb3 w.heap.size (fdO S3 q3) := ⟨fd_row HF3.out.at_ S3 q3, HF3.out.sb_, HF3.out.g_, HF3.out.tb_, HF3.out.mb_, HF3.out.fb_⟩
      have HFZ3 := Lib.hid hrow
      have HMZ3 := Lib.hid (HMX3.out.setRow HF3.out (Nat.le_refl _) (fdC S3 q3))
      have HKZ3 := Lib.hid (HKP3.out.setRow HKD.out (Nat.le_refl _) (fdC S3 q3))
      clear hrow
      rcases hr with ⟨rfl, rfl, hc⟩ | ⟨rfl, hfull⟩
      · have HC3 := Lib.hid hc
        clear hc
        go_wp2_with (first | (refine wpList_store_row rfl 166 _ _ rfl w.heap.size _ rfl rfl 166 _ HF3.out.at_ (by as_aux_lemma => kernel_rfl) rfl (fdC_one _ _) ?_))
        rw [rounds_succ]
        have e0 : (w3.setRow w.heap.size (fdC 1 q3)).cell? ⟨w.heap.size, 1, none⟩ = some (.int .u32 (q3 0 0 : Int)) := fd_cell (y := 0) (x := 0) HFZ3.out.at_ (by omega) (by omega)
        have HZ := Lib.hid (HC3.out 0 0 (by omega) (by omega))
        go_wp2_with fail
        go_ret2
        refine ⟨g3, N3, fb3, m3, HMZ3.out.mono (by omega), Or.inl ⟨_, rfl, ?_⟩⟩
        have := HZ.out
        rw [show cc + h1 + h2 + 0 + ((0 : Nat) : Int) * 2 ^ n = cc + h1 + h2 by omega, show dd + h1 + h2 + 0 + ((0 : Nat) : Int) * 2 ^ n = dd + h1 + h2 by omega] at this
        exact this
      · have HFU := Lib.hid hfull
        clear hfull
        go_wp2_with (first | (refine wpList_store_row rfl 166 _ _ rfl w.heap.size _ rfl rfl 166 _ HF3.out.at_ (by as_aux_lemma => kernel_rfl) rfl (fdC_one _ _) ?_))
        go_ret2
        exact ⟨g3, N3, fb3, m3, HMZ3.out.mono (by omega), Or.inr ⟨rfl, HFU.out⟩⟩
    · have HFU := Lib.hid hfull
      clear hfull
      go_wp2_with (first | (refine wpList_store_row rfl 166 _ _ rfl w.heap.size _ rfl rfl 166 _ HF2.out.at_ (by as_aux_lemma => kernel_rfl) rfl (fdC_one _ _) ?_))
      go_ret2
      exact ⟨g2, N2, fb2, m2, HMZ2.out.mono (by omega), Or.inr ⟨rfl, HFU.out⟩⟩
  · have HFU := Lib.hid hfull
    clear hfull
    go_wp2_with (first | (refine wpList_store_row rfl 166 _ _ rfl w.heap.size _ rfl rfl 166 _ HF1.out.at_ (by as_aux_lemma => kernel_rfl) rfl (fdC_one _ _) ?_))
    go_ret2
    exact ⟨g1, N1, fb1, m1, HMZ1.out.mono (by omega), Or.inr ⟨rfl, HFU.out⟩⟩
end Go.Proofs.YtaapkngpnlnjeaaGreatDoor
