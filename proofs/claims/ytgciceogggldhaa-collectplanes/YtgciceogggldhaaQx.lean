/- Package quad: Set; points that are not on the plane: contracts. -/
import Derived.Test.YtgciceogggldhaaQw
namespace Go.Proofs.Ytgciceogggldhaa
open Go.RowKit Go.Maps
set_option maxRecDepth 100000

/-- The entry of Reach and Set: the plane, the point, the result. -/
structure Ent3 (w W : World) (sb g tb cap most : Nat) (N : List Nd) (x : Nat) (a b : Int) : Prop where
  bel : Below w.heap.size w W
  st : St W sb g tb cap most N
  pl : Ob W sb g tb w.heap.size (plO sb x)
  pt : Ob W sb g tb (w.heap.size + 1) (ptO a b)
  res : Ob W sb g tb (w.heap.size + 1 + 1) (.cells #[.pointer none, .int .u32 0] 36 (0, 0))
theorem ent3_new {w : World} {sb g tb cap most : Nat} {N : List Nd} (h : St w sb g tb cap most N) (x : Nat) (a b : Int) : Ent3 w (((w.alloc (.cells #[.pointer (some ⟨sb, 0, none⟩), .int .u32 (x : Int)] 36)).alloc (.cells #[.int .i64 a, .int .i64 b] 27)).alloc (.cells #[.pointer none, .int .u32 0] 36)) sb g tb cap most N x a b := by
  have hq0 := (Ob.new (h.later (bel1 w (.cells #[.pointer (some ⟨sb, 0, none⟩), .int .u32 (x : Int)] 36))) #[.int .i64 a, .int .i64 b] 27).later (bel1 _ (.cells #[.pointer none, .int .u32 0] 36))
  rw [show (w.alloc (.cells #[.pointer (some ⟨sb, 0, none⟩), .int .u32 (x : Int)] 36)).heap.size = w.heap.size + 1 by simp] at hq0
  have hr0 := Ob.new (h.later (bel2 w (.cells #[.pointer (some ⟨sb, 0, none⟩), .int .u32 (x : Int)] 36) (.cells #[.int .i64 a, .int .i64 b] 27))) #[.pointer none, .int .u32 0] 36
  rw [show ((w.alloc (.cells #[.pointer (some ⟨sb, 0, none⟩), .int .u32 (x : Int)] 36)).alloc (.cells #[.int .i64 a, .int .i64 b] 27)).heap.size = w.heap.size + 1 + 1 by simp] at hr0
  exact ⟨bel3 _ _ _ _, h.later (bel3 _ _ _ _), (Ob.new h _ _).later (bel2 _ _ _), hq0, hr0⟩
theorem Ent3.later {w W W' : World} {sb g tb cap most : Nat} {N : List Nd} {x : Nat} {a b : Int} (h : Ent3 w W sb g tb cap most N x a b) (hb : Below W.heap.size W W') : Ent3 w W' sb g tb cap most N x a b :=
  ⟨h.bel.trans (hb.mono h.bel.size), h.st.later hb, h.pl.later hb, h.pt.later hb, h.res.later hb⟩
theorem Ent3.put {w W : World} {sb g tb cap most : Nat} {N : List Nd} {x : Nat} {a b : Int} (h : Ent3 w W sb g tb cap most N x a b) (p' v' : Value) :
    ∃ W', (W.setCell ⟨w.heap.size + 1 + 1, 0, none⟩ p').setCell ⟨w.heap.size + 1 + 1, 1, none⟩ v' = W' ∧ Below w.heap.size w W' ∧ W'.cell? ⟨w.heap.size + 1 + 1, 0, none⟩ = some p' ∧ W'.cell? ⟨w.heap.size + 1 + 1, 1, none⟩ = some v' := by
  have h0 := pl_set0 h.res.at_ p'
  have h1 := pl_set1 h0 v'
  exact ⟨_, rfl, (h.bel.setCell (p := ⟨w.heap.size + 1 + 1, 0, none⟩) (by show _ ≤ _ + 1 + 1; omega) _).setCell (p := ⟨w.heap.size + 1 + 1, 1, none⟩) (by show _ ≤ _ + 1 + 1; omega) _, (res_cells h1).1, (res_cells h1).2.1⟩
set_option maxHeartbeats 2000000 in
theorem reach_off {w : World} {sb g tb cap most : Nat} {N : List Nd} (h : St w sb g tb cap most N) {n x : Nat} (hx : Sq N (n + 1) x) (hn : 2 ≤ n) (a b : Int) (hab : (onP a && onP b) = false) :
    Calls Try.prog 34 #[.agg #[.pointer (some ⟨sb, 0, none⟩), .int .u32 (x : Int)], .agg #[.int .i64 a, .int .i64 b]] w fun e w' => e = .returned (.tuple #[.agg #[.pointer none, .int .u32 0], .iface 53 (.int .i64 8)]) ∧ Below w.heap.size w w' := by
  have HE := Lib.hid (ent3_new h x a b)
  have HX := Lib.hid hx
  clear h hx
  go_enter Try.func34, Try.ntmps34
  go_wp2_with fail
  generalize ((w.alloc (.cells #[.pointer (some ⟨sb, 0, none⟩), .int .u32 (x : Int)] 36)).alloc (.cells #[.int .i64 a, .int .i64 b] 27)).alloc (.cells #[.pointer none, .int .u32 0] 36) = W0 at *
  refine (right_sq HE.out.st HX.out hn).mono ?_
  rintro e W1 ⟨rfl, hb⟩
  have HE1 := Lib.hid (HE.out.later hb)
  clear hb HE
  obtain ⟨q0, q1⟩ := pt_cells HE1.out.pt.at_
  go_wp2_with fail
  refine (pright_any a b _).mono ?_
  rw [hab]
  rintro e W2 ⟨rfl, hb⟩
  have HE2 := Lib.hid (HE1.out.later hb)
  clear hb HE1 q0 q1
  obtain ⟨r0, r1, rf0, rf1⟩ := res_cells HE2.out.res.at_
  go_wp2_with fail
  obtain ⟨W, hW, hb, q0, q1⟩ := HE2.out.put (.pointer none) (.int .u32 0)
  rw [hW]
  refine bodyPost_ret (v := _) (by simp [results, Try.results34, go_sem, q0, q1]; rfl) rfl ?_
  exact ⟨rfl, hb⟩
set_option maxHeartbeats 2000000 in
theorem set_off {w : World} {sb g tb cap most : Nat} {N : List Nd} (h : St w sb g tb cap most N) {n x : Nat} (hx : Sq N (n + 1) x) (hn : 2 ≤ n) (a b : Int) (alive : Bool) (hab : (onP a && onP b) = false) :
    Calls Try.prog 21 #[.agg #[.pointer (some ⟨sb, 0, none⟩), .int .u32 (x : Int)], .agg #[.int .i64 a, .int .i64 b], .bool alive] w fun e w' => e = .returned (.tuple #[.agg #[.pointer none, .int .u32 0], .iface 53 (.int .i64 8)]) ∧ Below w.heap.size w w' := by
  have HE := Lib.hid (ent3_new h x a b)
  have HX := Lib.hid hx
  clear h hx
  go_enter Try.func21, Try.ntmps21
  go_wp2_with fail
  generalize ((w.alloc (.cells #[.pointer (some ⟨sb, 0, none⟩), .int .u32 (x : Int)] 36)).alloc (.cells #[.int .i64 a, .int .i64 b] 27)).alloc (.cells #[.pointer none, .int .u32 0] 36) = W0 at *
  refine (reach_off HE.out.st HX.out hn a b hab).mono ?_
  rintro e W1 ⟨rfl, hb⟩
  have HE1 := Lib.hid (HE.out.later hb)
  have HE2 := Lib.hid (HE1.out.later (bel1 W1 (.cells #[.pointer none, .int .u32 0] 36)))
  clear hb HE
  obtain ⟨r0, r1, rf0, rf1⟩ := res_cells HE2.out.res.at_
  go_wp2_with fail
  obtain ⟨W, hW, hb, q0, q1⟩ := HE2.out.put (.pointer none) (.int .u32 0)
  rw [hW]
  refine bodyPost_ret (v := _) (by simp [results, Try.results21, go_sem, q0, q1]; rfl) rfl ?_
  exact ⟨rfl, hb⟩
set_option maxHeartbeats 4000000 in
theorem set_any {w : World} {sb g tb cap most : Nat} {N : List Nd} (h : St w sb g tb cap most N) {n x : Nat} (hx : Sq N (n + 1) x) (hn : 2 ≤ n) (hE : HasEm N (n - 1)) (a b : Int) (alive : Bool) (hab : (onP a && onP b) = true) {d : Nat} (hd : Far n d a b) :
    Calls Try.prog 21 #[.agg #[.pointer (some ⟨sb, 0, none⟩), .int .u32 (x : Int)], .agg #[.int .i64 a, .int .i64 b], .bool alive] w fun e w' => Made sb tb most w g N (5 * d + 1 + (n + d + 1)) w' e (n + d) (n - 1 + d) (fun p q => if p = a ∧ q = b then alive else alK N n (kidZ N x) p q) := by
  have HE := Lib.hid (ent3_new h x a b)
  have HS0 := Lib.hid h
  have HX := Lib.hid hx
  have HEM := Lib.hid hE
  have HD := Lib.hid hd
  clear h hx hE hd
  go_enter Try.func21, Try.ntmps21
  go_wp2_with fail
  generalize ((w.alloc (.cells #[.pointer (some ⟨sb, 0, none⟩), .int .u32 (x : Int)] 36)).alloc (.cells #[.int .i64 a, .int .i64 b] 27)).alloc (.cells #[.pointer none, .int .u32 0] 36) = W0 at *
  have HRE := Lib.hid (reach_any HE.out.st HX.out hn HEM.out a b hab HD.out)
  refine HRE.out.mono ?_
  rintro e W1 ⟨g1, M1, hnx, hres⟩
  clear HRE
  have HN1 := Lib.hid ((Nx.of_below HS0.out HE.out.bel).trans hnx)
  have HP1 := Lib.hid (HE.out.pl.nx hnx)
  have HQ1 := Lib.hid (HE.out.pt.nx hnx)
  have HR1 := Lib.hid (HE.out.res.nx hnx)
  clear hnx HE
  unfold plV at hres
  rcases hres with ⟨t, rfl, hsq, hal, hem⟩ | ⟨rfl, hfull⟩
  · have HSQ := Lib.hid hsq
    have HAL := Lib.hid hal
    have HEM1 := Lib.hid hem
    clear hsq hal hem
    obtain ⟨cap1, hS1⟩ := HN1.out.st
    have HS1 := Lib.hid hS1
    clear hS1
    have HB2 := Lib.hid (bel1 W1 (.cells #[.pointer (some ⟨sb, 0, none⟩), .int .u32 (t : Int)] 36))
    have HT2 := Lib.hid (Ob.new HS1.out #[.pointer (some ⟨sb, 0, none⟩), .int .u32 (t : Int)] 36)
    have HN2 := Lib.hid (HN1.out.trans (Nx.of_below HS1.out HB2.out))
    have HS2 := Lib.hid (HS1.out.later HB2.out)
    have HP2 := Lib.hid (HP1.out.later HB2.out)
    have HQ2 := Lib.hid (HQ1.out.later HB2.out)
    have HR2 := Lib.hid (HR1.out.later HB2.out)
    clear HN1 HS1 HP1 HQ1 HR1 HB2
    have htu := Sq.u32 HS2.out HSQ.out
    have HLV := Lib.hid (level_any HS2.out t htu)
    rw [show lvZ M1 t = ((n + d + 1 : Nat) : Int) from HSQ.out] at HLV
    have hin := HD.out.2.1
    rw [Bool.and_eq_true] at hin
    have hnd : n + d < 62 := by have := HD.out.1; omega
    have HFC := Lib.hid (fun W => fromCorner_any a b (n + d) hnd hin.1 hin.2 W)
    have HIN := Lib.hid hin
    clear hin
    generalize hL : n + d = L at *
    have HL := Lib.hid hL
    clear hL
    obtain ⟨c, hc1, hcv, hct, hcf⟩ : ∃ c : Nat, c ≤ 1 ∧ (c == 1) = alive ∧ (alive = true → c = 1) ∧ (alive = false → c = 0) := by
      cases alive
      · exact ⟨0, by decide, rfl, by decide, by decide⟩
      · exact ⟨1, by decide, rfl, by decide, by decide⟩
    obtain ⟨CC, hCC1, hCC2⟩ : ∃ CC : Nat → Prop, CC c ∧ ∀ c', CC c' → (c' == 1) = alive := ⟨fun c' => (c' == 1) = alive, hcv, fun _ h => h⟩
    have HC1 := Lib.hid hCC1
    have HC2 := Lib.hid hCC2
    clear hCC1 hCC2
    have HWI := Lib.hid (fun (W : World) (hW : St W sb g1 tb cap1 most M1) => with_any sb tb most x (a + 2 ^ L) (b + 2 ^ L) c hc1 (L + 1) hW HSQ.out)
    obtain ⟨t0, t1⟩ := pl_cells HT2.out.at_
    clear hcv hc1
    go_upto_region 4 with fail
    generalize W1.alloc (.cells #[.pointer (some ⟨sb, 0, none⟩), .int .u32 (t : Int)] 36) = W2 at *
    generalize W1.heap.size = tbk at *
    go_upto_if 23 with fail
    go_cut [10] from 23 to 23 (fun v10 wx => v10 = .int .u32 (c : Int) ∧ wx = W2)
    case first =>
      cases alive
      · obtain rfl : c = 0 := hcf rfl
        go_wp2_with fail
        go_meet
        exact ⟨rfl, rfl⟩
      · obtain rfl : c = 1 := hct rfl
        go_wp2_with fail
        go_meet
        exact ⟨rfl, rfl⟩
    case rest =>
      obtain ⟨rfl, hwc⟩ := hcut
      subst hwc
      clear hct hcf
      go_wp2_with fail
      refine HLV.out.mono ?_
      rintro e W3 ⟨rfl, hW3⟩
      rw [← hW3]
      clear hW3 HLV t0 t1 W3
      obtain ⟨t0, t1⟩ := pl_cells HT2.out.at_
      obtain ⟨q0, q1⟩ := pt_cells HQ2.out.at_
      obtain ⟨p0, p1⟩ := pl_cells HP2.out.at_
      go_upto_region 8 with fail
      go_cut [9, 12] from 29 to 39 (fun v9 v12 wx => ∃ (r g9 : Nat) (M9 : List Nd), Nx sb tb most wc g1 M1 (L + 1) wx g9 M9 ∧ v12 = .int .u32 (r : Int) ∧ ((v9 = .nilIface ∧ Sq M9 (L + 1) r ∧ ∃ c', CC c' ∧ Chg M1 (L + 1) t M9 r (a + 2 ^ L) (b + 2 ^ L) c') ∨ (v9 = .iface 53 (.int .i64 7) ∧ most ≤ M9.length)))
      case first =>
        go_region_with (first | (go_at_call 30; refine (HFC.out _).mono ?_; rintro e w8 ⟨rfl, hb8⟩; have HB8 : Hid (Below wc.heap.size wc w8) := ⟨hb8.os, hb8.tape, hb8.output, hb8.size, hb8.block⟩; clear hb8; have y := pl_cells (HT2.out.later HB8.out).at_; obtain ⟨y0, y1⟩ := y; have z := pl_cells (HP2.out.later HB8.out).at_; obtain ⟨z0, z1⟩ := z) | (go_at_call 35; refine (HWI.out _ (HS2.out.later HB8.out)).mono ?_; rintro e w9 ⟨g9, M9, hnx, hres⟩; obtain ⟨r, ev, rfl, hres2⟩ := two_out hres; have HRS := Lib.hid hres2; have HNX := Lib.hid ((Nx.of_below HS2.out HB8.out).trans hnx); clear hres hres2 hnx))
        all_goals go_wp2
        all_goals go_meet
        all_goals
          refine ⟨r, g9, M9, HNX.out.mono (by omega), rfl, ?_⟩
          rcases HRS.out with ⟨h1, h2, h3⟩ | h1
          · exact Or.inl ⟨h1, h2, _, HC1.out, h3⟩
          · exact Or.inr h1
      case rest =>
        obtain ⟨r, g9, M9, hnx, rfl, hres⟩ := hcut
        have HN9 := Lib.hid (HN2.out.trans hnx)
        have HP9 := Lib.hid (HP2.out.nx hnx)
        have HR9 := Lib.hid (HR2.out.nx hnx)
        have HEX := Lib.hid hnx.ext
        clear hnx t0 t1 q0 q1 p0 p1
        obtain ⟨p0, p1⟩ := pl_cells HP9.out.at_
        obtain ⟨r0, r1, rf0, rf1⟩ := res_cells HR9.out.at_
        rcases hres with ⟨rfl, hsq, c', hcc, hchg⟩ | ⟨rfl, hfull⟩
        · have HQQ := Lib.hid (And.intro hsq hchg)
          have HCC := Lib.hid (HC2.out c' hcc)
          clear hsq hchg hcc
          go_wp2_with fail
          obtain ⟨W, hW, hN, _, q0, q1⟩ := put_pl HN9.out HR9.out (by omega) (.pointer (some ⟨sb, 0, none⟩)) (.int .u32 (r : Int))
          rw [hW]
          refine bodyPost_ret (v := _) (by simp [results, Try.results21, go_sem, q0, q1]; rfl) rfl ?_
          refine ⟨g9, M9, hN.mono (by have := HL.out; omega), Or.inl ⟨r, rfl, by rw [HL.out]; exact HQQ.out.1, fun p q => ?_, ?_⟩⟩
          · rw [HL.out, al_chg HQQ.out.2 HIN.out.1 HIN.out.2 p q, HAL.out p q, HCC.out]
          · obtain ⟨E, rfl, _⟩ := HEX.out
            exact HEM1.out.app HN2.out.wf E
        · have HQQ := Lib.hid hfull
          clear hfull
          go_wp2_with fail
          obtain ⟨W, hW, hN, _, q0, q1⟩ := put_pl HN9.out HR9.out (by omega) (.pointer none) (.int .u32 0)
          rw [hW]
          refine bodyPost_ret (v := _) (by simp [results, Try.results21, go_sem, q0, q1]; rfl) rfl ?_
          exact ⟨g9, M9, hN.mono (by have := HL.out; omega), Or.inr ⟨rfl, HQQ.out⟩⟩
  · have HQQ := Lib.hid hfull
    clear hfull
    have HB2 := Lib.hid (bel1 W1 (.cells #[.pointer none, .int .u32 0] 36))
    obtain ⟨cap1, hS1⟩ := HN1.out.st
    have HN2 := Lib.hid (HN1.out.trans (Nx.of_below hS1 HB2.out))
    have HR2 := Lib.hid (HR1.out.later HB2.out)
    clear hS1
    obtain ⟨r0, r1, rf0, rf1⟩ := res_cells HR2.out.at_
    go_wp2_with fail
    obtain ⟨W, hW, hN, _, q0, q1⟩ := put_pl HN2.out HR2.out (by omega) (.pointer none) (.int .u32 0)
    rw [hW]
    refine bodyPost_ret (v := _) (by simp [results, Try.results21, go_sem, q0, q1]; rfl) rfl ?_
    exact ⟨g1, M1, hN.mono (by omega), Or.inr ⟨rfl, HQQ.out⟩⟩
end Go.Proofs.Ytgciceogggldhaa
