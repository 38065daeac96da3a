/- Package quad: Expand, Reach, Trim: contracts. -/
import Derived.Test.YtaapkngpnlnjeaaGreatDoorP19
namespace Go.Proofs.YtaapkngpnlnjeaaGreatDoor
open Go.RowKit Go.Maps
set_option maxRecDepth 100000

/-- A plane of the same cells, made. -/
def Made (sb tb most : Nat) (w : World) (g : Nat) (N : List Nd) (c : Nat) (w' : World) (e : Ending) (m L : Nat) (A : Int → Int → Bool) : Prop :=
  ∃ g' N', Nx sb tb most w g N c w' g' N' ∧
      ((∃ r : Nat, e = .returned (.tuple #[plV sb r, .nilIface]) ∧ Sq N' (m + 1) r ∧ (∀ a b, alK N' m (kidZ N' r) a b = A a b) ∧ HasEm N' L) ∨ (e = .returned (.tuple #[.agg #[.pointer none, .int .u32 0], .iface 48 (.int .i64 7)]) ∧ most ≤ N'.length))
/-- The entry of a method of a plane with a block for its result. -/
structure Ent (w W : World) (sb g tb cap most : Nat) (N : List Nd) (x : Nat) : Prop where
  bel : Below w.heap.size w W
  st : St W sb g tb cap most N
  pl : Ob W sb g tb w.heap.size (plO sb x)
  res : Ob W sb g tb (w.heap.size + 1) (.cells #[.pointer none, .int .u32 0] 34 (0, 0))
theorem ent_new {w : World} {sb g tb cap most : Nat} {N : List Nd} (h : St w sb g tb cap most N) (x : Nat) : Ent w ((w.alloc (.cells #[.pointer (some ⟨sb, 0, none⟩), .int .u32 (x : Int)] 34)).alloc (.cells #[.pointer none, .int .u32 0] 34)) sb g tb cap most N x := by
  have hr0 := Ob.new (h.later (bel1 w (.cells #[.pointer (some ⟨sb, 0, none⟩), .int .u32 (x : Int)] 34))) #[.pointer none, .int .u32 0] 34
  rw [show (w.alloc (.cells #[.pointer (some ⟨sb, 0, none⟩), .int .u32 (x : Int)] 34)).heap.size = w.heap.size + 1 by simp] at hr0
  exact ⟨bel2 _ _ _, h.later (bel2 _ _ _), (Ob.new h _ _).later (bel1 _ _), hr0⟩
theorem Ent.later {w W W' : World} {sb g tb cap most : Nat} {N : List Nd} {x : Nat} (h : Ent w W sb g tb cap most N x) (hb : Below W.heap.size W W') : Ent w W' sb g tb cap most N x :=
  ⟨h.bel.trans (hb.mono h.bel.size), h.st.later hb, h.pl.later hb, h.res.later hb⟩
/-- The result written, without a square made. -/
theorem Ent.put {w W : World} {sb g tb cap most : Nat} {N : List Nd} {x : Nat} (h : Ent w W sb g tb cap most N x) (p' v' : Value) :
    ∃ W', (W.setCell ⟨w.heap.size + 1, 0, none⟩ p').setCell ⟨w.heap.size + 1, 1, none⟩ v' = W' ∧ Below w.heap.size w W' ∧ W'.cell? ⟨w.heap.size + 1, 0, none⟩ = some p' ∧ W'.cell? ⟨w.heap.size + 1, 1, none⟩ = some v' := by
  have h0 := pl_set0 h.res.at_ p'
  have h1 := pl_set1 h0 v'
  exact ⟨_, rfl, (h.bel.setCell (p := ⟨w.heap.size + 1, 0, none⟩) (by simp) _).setCell (p := ⟨w.heap.size + 1, 1, none⟩) (by simp) _, (res_cells h1).1, (res_cells h1).2.1⟩
theorem Ent.other {w W : World} {sb g tb cap most : Nat} {N : List Nd} {x kb i : Nat} (h : Ent w W sb g tb cap most N x) (hk : w.heap.size ≤ kb) (h0 : w.heap.size ≠ kb ∧ w.heap.size + 1 ≠ kb) (h1 : kb ≠ sb ∧ kb ≠ g ∧ kb ≠ tb) (v : Value) : Ent w (W.setCell ⟨kb, i, none⟩ v) sb g tb cap most N x :=
  ⟨h.bel.setCell (p := ⟨kb, i, none⟩) hk _, h.st.keep (Below.heap_setCell _ _ _ _ (Ne.symm h1.1)) (Below.heap_setCell _ _ _ _ (Ne.symm h1.2.1)) (Below.heap_setCell _ _ _ _ (Ne.symm h1.2.2)), h.pl.other (Ne.symm h0.1) v, h.res.other (Ne.symm h0.2) v⟩
set_option maxHeartbeats 4000000 in
theorem trim_any {w : World} {sb g tb cap most : Nat} {N : List Nd} (h : St w sb g tb cap most N) {n x : Nat} (hx : Sq N (n + 1) x) (hn : 2 ≤ n) (hE : HasEm N (n - 1)) :
    Calls Tryz.prog 47 #[.agg #[.pointer (some ⟨sb, 0, none⟩), .int .u32 (x : Int)]] w fun e w' => ∃ m, 2 ≤ m ∧ m ≤ n ∧ Made sb tb most w g N 1 w' e m (m - 1) (alK N n (kidZ N x)) ∧ (m = 2 ∨ ∃ a b, alK N n (kidZ N x) a b = true ∧ ¬ (inS (m - 1) a = true ∧ inS (m - 1) b = true)) := by
  have hxu := Sq.u32 h hx
  have HE1 := Lib.hid (ent_new h x)
  have HS0 := Lib.hid h
  have HX := Lib.hid hx
  have HE := Lib.hid hE
  have hn62 := hx.le62 h.wf
  clear h hx hE
  go_enter Tryz.func47, Tryz.ntmps47
  go_wp2_with fail
  generalize (w.alloc (.cells #[.pointer (some ⟨sb, 0, none⟩), .int .u32 (x : Int)] 34)).alloc (.cells #[.pointer none, .int .u32 0] 34) = W0 at *
  refine (right_sq HE1.out.st HX.out hn).mono ?_
  rintro e W1 ⟨rfl, hb⟩
  have HE2 := Lib.hid (HE1.out.later hb)
  clear hb HE1
  obtain ⟨p0, p1⟩ := pl_cells HE2.out.pl.at_
  go_wp2_with fail
  refine (of_sqk HE2.out.st HX.out).mono ?_
  rintro e w5 ⟨rfl, hb⟩
  have HFK := Lib.hid (HX.out.kid HS0.out.wf)
  generalize hkd : kidZ N x = k0 at *
  have HKD := Lib.hid hkd
  clear hkd
  have HE5 := Lib.hid (HE2.out.later hb)
  have HE6 := Lib.hid (HE5.out.later (bel1 w5 (.cells #[.int .u32 (k0.1 : Int), .int .u32 (k0.2.1 : Int), .int .u32 (k0.2.2.1 : Int), .int .u32 (k0.2.2.2 : Int)] 63)))
  have HK6 : Hid ((w5.alloc (.cells #[.int .u32 (k0.1 : Int), .int .u32 (k0.2.1 : Int), .int .u32 (k0.2.2.1 : Int), .int .u32 (k0.2.2.2 : Int)] 63)).heap[w5.heap.size]? = some (kO k0)) := heap_alloc_new _ _
  have hkb : w.heap.size ≤ w5.heap.size := HE5.out.bel.size
  have hne6 : w.heap.size ≠ w5.heap.size ∧ w.heap.size + 1 ≠ w5.heap.size := ⟨by have := HE5.out.pl.lt; omega, by have := HE5.out.res.lt; omega⟩
  have hne7 : w5.heap.size ≠ sb ∧ w5.heap.size ≠ g ∧ w5.heap.size ≠ tb := by
    have := Ob.new HE5.out.st #[.int .u32 (k0.1 : Int), .int .u32 (k0.2.1 : Int), .int .u32 (k0.2.2.1 : Int), .int .u32 (k0.2.2.2 : Int)] 63
    exact ⟨this.sb_, this.g_, this.tb_⟩
  clear hb HE2 HE5 p0 p1
  have HLV := Lib.hid (level_any HE6.out.st x hxu)
  rw [show lvZ N x = ((n + 1 : Nat) : Int) from HX.out] at HLV
  obtain ⟨p0, p1⟩ := pl_cells HE6.out.pl.at_
  go_wp2_with fail
  refine HLV.out.mono ?_
  rintro e W2 ⟨rfl, hW2⟩
  rw [← hW2]
  clear hW2 HLV p0 p1
  generalize w5.alloc (.cells #[.int .u32 (k0.1 : Int), .int .u32 (k0.2.1 : Int), .int .u32 (k0.2.2.1 : Int), .int .u32 (k0.2.2.2 : Int)] 63) = W6 at *
  generalize w5.heap.size = kb at *
  have HNE := Lib.hid hne6
  have HNE7 := Lib.hid hne7
  clear W2 w5 hne6 hne7
  go_wp2_with fail
  go_loopg [6] n (fun m lv wr => ∃ (j : Nat) (kk : K4), m = j ∧ 2 ≤ j ∧ j ≤ n ∧ lv = .int .i64 ((j + 1 : Nat) : Int) ∧ Ent w wr sb g tb cap most N x ∧ wr.heap[kb]? = some (kO kk) ∧ Fo N j kk ∧ (∀ a b, alK N j kk a b = alK N n k0 a b))
  case atStart => exact ⟨n, k0, rfl, hn, Nat.le_refl _, rfl, HE6.out, HK6.out, HFK.out, fun _ _ => rfl⟩
  case round =>
    clear HE6 HK6
    obtain ⟨j, kk, hm, hj2, hjn, rfl, hEn, hK, hF, hA⟩ := hrel
    have HM := Lib.hid hm
    have HEn := Lib.hid hEn
    have HK := Lib.hid hK
    have HF := Lib.hid hF
    have HA := Lib.hid hA
    clear hm hEn hK hF hA
    obtain ⟨p0, p1⟩ := pl_cells HEn.out.pl.at_
    obtain ⟨k1, k2, k3, k4⟩ := k_cells HK.out
    by_cases h3 : j = 2
    · have hg3 : decide ((3 : Int) < ((j + 1 : Nat) : Int)) = false := by simp; omega
      go_wp2_with fail
      refine (of4_any (z := x) HEn.out.st (show j < 62 by omega) HF.out).mono ?_
      rintro e W4 ⟨g7, M7, hnx, hres⟩
      have HN7 := Lib.hid ((Nx.of_below HS0.out HEn.out.bel).trans hnx)
      have HR7 := Lib.hid (HEn.out.res.nx hnx)
      have HEX : Hid (∃ E, M7 = N ++ E) := by
        obtain ⟨E, hE, _⟩ := hnx.ext
        exact ⟨E, hE⟩
      clear hnx p0 p1 k1 k2 k3 k4
      obtain ⟨r0, r1, rf0, rf1⟩ := res_cells HR7.out.at_
      unfold plV at hres
      rcases hres with ⟨r, rfl, hsq, hkd⟩ | ⟨rfl, hfull⟩
      · have HQ := Lib.hid (And.intro hsq hkd)
        clear hsq hkd
        go_wp2_with fail
        obtain ⟨W, hW, hN, _, q0, q1⟩ := put_pl HN7.out HR7.out (by omega) (.pointer (some ⟨sb, 0, none⟩)) (.int .u32 (r : Int))
        rw [hW]
        refine bodyPost_ret (v := _) (by simp [results, Tryz.results47, go_sem, q0, q1]; rfl) rfl ?_
        refine ⟨j, by omega, by omega, ⟨g7, M7, hN.mono (by omega), Or.inl ⟨r, rfl, HQ.out.1, fun a b => ?_, ?_⟩⟩, Or.inl h3⟩
        · obtain ⟨E, rfl⟩ := HEX.out
          rw [HQ.out.2, alK_app HS0.out.wf E HF.out, HKD.out]
          exact HA.out a b
        · obtain ⟨E, rfl⟩ := HEX.out
          exact (HE.out.app HS0.out.wf E).mono (by omega)
      · have HQ := Lib.hid hfull
        clear hfull
        go_wp2_with fail
        obtain ⟨W, hW, hN, _, q0, q1⟩ := put_pl HN7.out HR7.out (by omega) (.pointer none) (.int .u32 0)
        rw [hW]
        refine bodyPost_ret (v := _) (by simp [results, Tryz.results47, go_sem, q0, q1]; rfl) rfl ?_
        exact ⟨j, by omega, by omega, ⟨g7, M7, hN.mono (by omega), Or.inr ⟨rfl, HQ.out⟩⟩, Or.inl h3⟩
    · obtain ⟨i, rfl⟩ : ∃ i, j = i + 1 := ⟨j - 1, by omega⟩
      have hg3 : decide ((3 : Int) < ((i + 1 + 1 : Nat) : Int)) = true := by simp; omega
      have HIM := Lib.hid (inMiddle_any (z := x) HEn.out.st HF.out)
      go_wp2_with fail
      refine HIM.out.mono ?_
      rintro e w7 ⟨b, rfl, hb1, hb⟩
      have HE7 := Lib.hid (HEn.out.later hb)
      have HK7 := Lib.hid (kept HK.out hb)
      have HMI := Lib.hid (hb1.trans (inMid_iff HS0.out.wf HF.out))
      clear hb1 hb HIM p0 p1 k1 k2 k3 k4 HEn HK
      obtain ⟨p0, p1⟩ := pl_cells HE7.out.pl.at_
      obtain ⟨k1, k2, k3, k4⟩ := k_cells HK7.out
      cases b with
      | false =>
        have HMIN : Hid (∃ a b, alK N n (kidZ N x) a b = true ∧ ¬ (inS (i + 1 - 1) a = true ∧ inS (i + 1 - 1) b = true)) := by
          apply Classical.byContradiction
          intro hno
          have := HMI.out.2 (fun a b hab => Classical.byContradiction fun hh => hno ⟨a, b, by rw [HKD.out, ← HA.out]; exact hab, hh⟩)
          cases this
        go_wp2_with fail
        refine (of4_any (z := x) HE7.out.st (show (i + 1) < 62 by omega) HF.out).mono ?_
        rintro e W4 ⟨g7, M7, hnx, hres⟩
        have HN7 := Lib.hid ((Nx.of_below HS0.out HE7.out.bel).trans hnx)
        have HR7 := Lib.hid (HE7.out.res.nx hnx)
        have HEX : Hid (∃ E, M7 = N ++ E) := by
          obtain ⟨E, hE, _⟩ := hnx.ext
          exact ⟨E, hE⟩
        clear hnx p0 p1 k1 k2 k3 k4
        obtain ⟨r0, r1, rf0, rf1⟩ := res_cells HR7.out.at_
        unfold plV at hres
        rcases hres with ⟨r, rfl, hsq, hkd⟩ | ⟨rfl, hfull⟩
        · have HQ := Lib.hid (And.intro hsq hkd)
          clear hsq hkd
          go_wp2_with fail
          obtain ⟨W, hW, hN, _, q0, q1⟩ := put_pl HN7.out HR7.out (by omega) (.pointer (some ⟨sb, 0, none⟩)) (.int .u32 (r : Int))
          rw [hW]
          refine bodyPost_ret (v := _) (by simp [results, Tryz.results47, go_sem, q0, q1]; rfl) rfl ?_
          refine ⟨(i + 1), by omega, by omega, ⟨g7, M7, hN.mono (by omega), Or.inl ⟨r, rfl, HQ.out.1, fun a b => ?_, ?_⟩⟩, Or.inr HMIN.out⟩
          · obtain ⟨E, rfl⟩ := HEX.out
            rw [HQ.out.2, alK_app HS0.out.wf E HF.out, HKD.out]
            exact HA.out a b
          · obtain ⟨E, rfl⟩ := HEX.out
            exact (HE.out.app HS0.out.wf E).mono (by omega)
        · have HQ := Lib.hid hfull
          clear hfull
          go_wp2_with fail
          obtain ⟨W, hW, hN, _, q0, q1⟩ := put_pl HN7.out HR7.out (by omega) (.pointer none) (.int .u32 0)
          rw [hW]
          refine bodyPost_ret (v := _) (by simp [results, Tryz.results47, go_sem, q0, q1]; rfl) rfl ?_
          exact ⟨(i + 1), by omega, by omega, ⟨g7, M7, hN.mono (by omega), Or.inr ⟨rfl, HQ.out⟩⟩, Or.inr HMIN.out⟩
      | true =>
        go_wp2_with fail
        refine (middle_any HE7.out.st HF.out).mono ?_
        rintro e w8 ⟨rfl, hb⟩
        have HE8 := Lib.hid (HE7.out.later hb)
        have HK8 := Lib.hid (kept HK7.out hb)
        clear hb p0 p1 k1 k2 k3 k4 HE7 HK7
        obtain ⟨r0, r1, r2, r3, q0, q1, q2, q3⟩ := KAt.cells HK8.out
        go_wp2_with fail
        go_roundg i
        case measure => rw [HM.out]; omega
        case rel =>
          refine ⟨i, midK N kk, rfl, by omega, by omega, by go_num, (((HE8.out.other hkb HNE.out HNE7.out _).other hkb HNE.out HNE7.out _).other hkb HNE.out HNE7.out _).other hkb HNE.out HNE7.out _, KAt.put HK8.out (midK N kk), mid_fo HS0.out.wf HF.out, fun a b => ?_⟩
          rw [al_middle (k := kk) (mid_pick N kk), ← HA.out]
          cases hab : alK N (i + 1) kk a b with
          | false => simp
          | true =>
            obtain ⟨h1, h2⟩ := (HMI.out.1 (by simp)) a b hab
            rw [h1, h2]; rfl
end Go.Proofs.YtaapkngpnlnjeaaGreatDoor
