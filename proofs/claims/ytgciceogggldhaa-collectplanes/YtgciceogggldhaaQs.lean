/- Package quad: Reach, with, Set: contracts. -/
import Derived.Test.YtgciceogggldhaaQt
namespace Go.Proofs.Ytgciceogggldhaa
open Go.RowKit Go.Maps
set_option maxRecDepth 100000

theorem onP_in {a : Int} (h : onP a = true) : inS 61 a = true := by
  unfold onP at h
  simp only [Bool.and_eq_true, decide_eq_true_eq] at h
  rw [inS_iff, show (2 : Int) ^ 61 = 2305843009213693952 by decide]
  omega
/-- How far a plane goes up to have a point. -/
def Far (n d : Nat) (a b : Int) : Prop := n + d ≤ 61 ∧ (inS (n + d) a && inS (n + d) b) = true ∧ ∀ i, i < d → (inS (n + i) a && inS (n + i) b) = false
theorem far_ex (n : Nat) (hn : n ≤ 61) (a b : Int) (h : (onP a && onP b) = true) : ∃ d, Far n d a b := by
  rw [Bool.and_eq_true] at h
  have hp : ∃ d, n + d ≤ 61 ∧ (inS (n + d) a && inS (n + d) b) = true := ⟨61 - n, by omega, by rw [show n + (61 - n) = 61 by omega, onP_in h.1, onP_in h.2]; rfl⟩
  obtain ⟨d, hd⟩ := hp
  induction d using Nat.strongRecOn with
  | _ d ih =>
    by_cases hm : ∀ i, i < d → (inS (n + i) a && inS (n + i) b) = false
    · exact ⟨d, hd.1, hd.2, hm⟩
    · obtain ⟨i, hi⟩ := Classical.not_forall.1 hm
      obtain ⟨hi1, hi2⟩ := Classical.not_imp.1 hi
      exact ih i hi1 ⟨by omega, by cases hh : (inS (n + i) a && inS (n + i) b) with | true => rfl | false => exact absurd hh hi2⟩
set_option maxHeartbeats 4000000 in
theorem reach_any {w : World} {sb g tb cap most : Nat} {N : List Nd} (h : St w sb g tb cap most N) {n x : Nat} (hx : Sq N (n + 1) x) (hn : 2 ≤ n) (hE : HasEm N (n - 1)) (a b : Int) (hab : (onP a && onP b) = true) {d : Nat} (hd : Far n d a b) :
    Calls Try.prog 34 #[.agg #[.pointer (some ⟨sb, 0, none⟩), .int .u32 (x : Int)], .agg #[.int .i64 a, .int .i64 b]] w fun e w' => Made sb tb most w g N (5 * d + 1) w' e (n + d) (n - 1 + d) (alK N n (kidZ N x)) := by
  have hxu := Sq.u32 h hx
  have HB := Lib.hid (bel3 w (.cells #[.pointer (some ⟨sb, 0, none⟩), .int .u32 (x : Int)] 36) (.cells #[.int .i64 a, .int .i64 b] 27) (.cells #[.pointer none, .int .u32 0] 36))
  have HS0 := Lib.hid h
  have HP := Lib.hid ((Ob.new h #[.pointer (some ⟨sb, 0, none⟩), .int .u32 (x : Int)] 36).later (bel2 _ (.cells #[.int .i64 a, .int .i64 b] 27) (.cells #[.pointer none, .int .u32 0] 36)))
  have hq0 := (Ob.new (h.later (bel1 w (.cells #[.pointer (some ⟨sb, 0, none⟩), .int .u32 (x : Int)] 36))) #[.int .i64 a, .int .i64 b] 27).later (bel1 _ (.cells #[.pointer none, .int .u32 0] 36))
  rw [show (w.alloc (.cells #[.pointer (some ⟨sb, 0, none⟩), .int .u32 (x : Int)] 36)).heap.size = w.heap.size + 1 by simp] at hq0
  have hr0 := Ob.new (h.later (bel2 w (.cells #[.pointer (some ⟨sb, 0, none⟩), .int .u32 (x : Int)] 36) (.cells #[.int .i64 a, .int .i64 b] 27))) #[.pointer none, .int .u32 0] 36
  rw [show ((w.alloc (.cells #[.pointer (some ⟨sb, 0, none⟩), .int .u32 (x : Int)] 36)).alloc (.cells #[.int .i64 a, .int .i64 b] 27)).heap.size = w.heap.size + 1 + 1 by simp] at hr0
  have HQ := Lib.hid hq0
  have HR := Lib.hid hr0
  have HX := Lib.hid hx
  have HE := Lib.hid hE
  have HD := Lib.hid hd
  have HS := Lib.hid (h.later HB.out)
  have hn62 := hx.le62 h.wf
  clear h hx hE hq0 hr0 hd
  go_enter Try.func34, Try.ntmps34
  go_wp2_with fail
  generalize ((w.alloc (.cells #[.pointer (some ⟨sb, 0, none⟩), .int .u32 (x : Int)] 36)).alloc (.cells #[.int .i64 a, .int .i64 b] 27)).alloc (.cells #[.pointer none, .int .u32 0] 36) = W0 at *
  refine (right_sq HS.out HX.out hn).mono ?_
  rintro e W1 ⟨rfl, hb⟩
  have HB1 := Lib.hid (HB.out.trans (hb.mono HB.out.size))
  have HS1 := Lib.hid (HS.out.later hb)
  have HP1 := Lib.hid (HP.out.later hb)
  have HQ1 := Lib.hid (HQ.out.later hb)
  have HR1 := Lib.hid (HR.out.later hb)
  clear hb HB HS HP HQ HR
  obtain ⟨q0, q1⟩ := pt_cells HQ1.out.at_
  go_wp2_with fail
  refine (pright_any a b _).mono ?_
  rw [hab]
  rintro e W2 ⟨rfl, hb⟩
  have HB2 := Lib.hid (HB1.out.trans (hb.mono HB1.out.size))
  have HS2 := Lib.hid (HS1.out.later hb)
  have HP2 := Lib.hid (HP1.out.later hb)
  have HQ2 := Lib.hid (HQ1.out.later hb)
  have HR2 := Lib.hid (HR1.out.later hb)
  clear hb HB1 HS1 HP1 HQ1 HR1 q0 q1
  obtain ⟨p0, p1⟩ := pl_cells HP2.out.at_
  have HLV := Lib.hid (level_any HS2.out x hxu)
  rw [show lvZ N x = ((n + 1 : Nat) : Int) from HX.out] at HLV
  go_wp2_with fail
  refine HLV.out.mono ?_
  rintro e W3 ⟨rfl, hW3⟩
  rw [← hW3]
  clear hW3 HLV p0 p1 W3
  go_wp2_with fail
  go_loopg [6] d (fun m lv wr => ∃ L : Nat, m = n + d - L ∧ n ≤ L ∧ L ≤ n + d ∧ lv = .int .i64 ((L : Int) + 1) ∧ Below W2.heap.size W2 wr)
  case atStart => exact ⟨n, by omega, Nat.le_refl _, by omega, by go_num, Below.refl _ _⟩
  case round =>
    obtain ⟨L, hm, hnL, hL, rfl, hb⟩ := hrel
    have HM := Lib.hid hm
    have HBR := Lib.hid hb
    have HP3 := Lib.hid (HP2.out.later hb)
    have HQ3 := Lib.hid (HQ2.out.later hb)
    clear hm hb
    obtain ⟨q0, q1⟩ := pt_cells HQ3.out.at_
    have hnj : L < 62 := by have := HD.out.1; omega
    have hne := Up.me wr
    have HSP := Lib.hid (fun z : Up wr => Up.calls (fun W _ => span_any L hnj W) z)
    have HHS := Lib.hid (fun z : Up wr => Up.calls (fun W _ => has_span L a b W) z)
    have g2 := fun z : Up wr => Up.cell q0 z
    have g3 := fun z : Up wr => Up.cell q1 z
    by_cases hlt : L < n + d
    · have hin : (inS L a && inS L b) = false := by
        have := HD.out.2.2 (L - n) (by omega)
        rw [show n + (L - n) = L by omega] at this
        exact this
      rw [hin] at HHS
      clear hin
      go_upto_region 6 with fail
      refine region_up (by kernel_rfl) (by kernel_rfl) ?_
      repeat (go_big_quiet_step ((first | (go_at_call 28; with_reducible exact HSP.out _) | (go_at_call 29; with_reducible exact HHS.out _))))
      refine wpQuiet_nil ?_
      rintro w2 ⟨⟨W5, hW5⟩, hw2⟩
      obtain rfl : w2 = W5 := hw2
      have HB5 := Lib.hid (HBR.out.trans (hW5.mono HBR.out.size))
      clear hW5 HSP HHS g2 g3 hne q0 q1
      go_wp2_with fail
      go_roundg (n + d - (L + 1))
      case measure => rw [HM.out]; omega
      case rel => exact ⟨L + 1, rfl, by omega, by omega, by go_num, HB5.out⟩
    · obtain rfl : L = n + d := by omega
      rw [HD.out.2.1] at HHS
      generalize hL2 : n + d = L at *
      have HL2 := Lib.hid hL2
      clear hL2
      go_upto_region 6 with fail
      refine region_up (by kernel_rfl) (by kernel_rfl) ?_
      repeat (go_big_quiet_step ((first | (go_at_call 28; with_reducible exact HSP.out _) | (go_at_call 29; with_reducible exact HHS.out _))))
      refine wpQuiet_nil ?_
      rintro w2 ⟨⟨W5, hW5⟩, hw2⟩
      obtain rfl : w2 = W5 := hw2
      have hb5 := HBR.out.trans (hW5.mono HBR.out.size)
      have HB5 := Lib.hid (HB2.out.trans (hb5.mono HB2.out.size))
      have HS5 := Lib.hid (HS2.out.later hb5)
      have HP5 := Lib.hid (HP2.out.later hb5)
      have HR5 := Lib.hid (HR2.out.later hb5)
      clear hW5 HSP HHS g2 g3 hne q0 q1 hb5
      obtain ⟨p0, p1⟩ := pl_cells HP5.out.at_
      have HRA := Lib.hid (raised_any (d := d) HS5.out HX.out (by omega) (by have := HL2.out; omega) HE.out)
      go_wp2_with fail
      rw [show ((L : Int) + 1) = ((n + 1 + d : Nat) : Int) by have := HL2.out; omega]
      refine HRA.out.mono ?_
      rintro e W4 ⟨g7, M7, hnx, hres⟩
      have HN7 := Lib.hid ((Nx.of_below HS0.out HB5.out).trans hnx)
      have HR7 := Lib.hid (HR5.out.nx hnx)
      clear hnx p0 p1 HRA
      obtain ⟨r0, r1, rf0, rf1⟩ := res_cells HR7.out.at_
      unfold plV at hres
      rcases hres with ⟨r, rfl, hq⟩ | ⟨rfl, hfull⟩
      · have HQQ := Lib.hid hq
        clear hq
        go_wp2_with fail
        obtain ⟨W, hW, hN, _, q0, q1⟩ := put_pl HN7.out HR7.out (by omega) (.pointer (some ⟨sb, 0, none⟩)) (.int .u32 (r : Int))
        rw [hW]
        refine bodyPost_ret (v := _) (by simp [results, Try.results34, go_sem, q0, q1]; rfl) rfl ?_
        exact ⟨g7, M7, hN.mono (by omega), Or.inl ⟨r, rfl, HQQ.out⟩⟩
      · have HQQ := Lib.hid hfull
        clear hfull
        go_wp2_with fail
        obtain ⟨W, hW, hN, _, q0, q1⟩ := put_pl HN7.out HR7.out (by omega) (.pointer none) (.int .u32 0)
        rw [hW]
        refine bodyPost_ret (v := _) (by simp [results, Try.results34, go_sem, q0, q1]; rfl) rfl ?_
        exact ⟨g7, M7, hN.mono (by omega), Or.inr ⟨rfl, HQQ.out⟩⟩
end Go.Proofs.Ytgciceogggldhaa
