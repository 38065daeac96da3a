/- Package evolve: smaller: contract, for each way. -/
import Derived.Test.YtaapkngpnlnjeaaGreatDoorP18
import Derived.Test.YtaapkngpnlnjeaaGreatDoorPq
namespace Go.Proofs.YtaapkngpnlnjeaaGreatDoor
open Go.RowKit Go.Maps
set_option maxRecDepth 100000

theorem res_two10 {P : Program} {fn : Func} {tmps : Array Value} {w : World} {i j : Nat} {t : TypeId} {ad : Addr} {v u : Value} (hr : fn.results = #[.cell i t, .tmp j]) (ha : tmps.getD i undef = .pointer (some ad)) (hl : (loadVar t ad).run P w = .ok v w) (hu : tmps.getD j undef = u) : (results fn tmps).run P w = .ok (.tuple #[v, u]) w := by
  unfold results
  rw [hr]
  rw [Array.getD_eq_getD_getElem?] at ha hu
  simp [ha, hu, asAddr, hl]
theorem fd_load {w : World} {b s : Nat} {q : Nat → Nat → Nat} (h : w.heap[b]? = some (fdO s q)) : (loadVar 166 ⟨b, 0, none⟩).run Tryz.prog w = .ok (.agg (fdC s q)) w :=
  run_loadVar_row w b _ _ (fdC s q) (0, 0) _ h Tryz.underlying166 rfl (by as_aux_lemma => kernel_rfl)
theorem four_of {N : List Nd} {n s : Nat} {q : Nat → Nat → Nat} {F : Plane} {cc dd : Int} (hq : ∀ i j, i ≤ s → j ≤ s → Con N n (q i j) (shF F (cc + (j : Int) * 2 ^ n) (dd + (i : Int) * 2 ^ n))) {y x : Nat} (hy : y < s) (hx : x < s) : Four N n (fourQ q y x) F (cc + (x : Int) * 2 ^ n) (dd + (y : Int) * 2 ^ n) := by
  have e : ∀ (c : Int) (k : Nat), c + ((k + 1 : Nat) : Int) * 2 ^ n = c + (k : Int) * 2 ^ n + 2 ^ n := fun c k => by
    rw [show ((k + 1 : Nat) : Int) = (k : Int) + 1 by omega, Int.add_mul]; omega
  intro r b
  have h00 := hq y x (by omega) (by omega)
  have h01 := hq y (x + 1) (by omega) (by omega)
  have h10 := hq (y + 1) x (by omega) (by omega)
  have h11 := hq (y + 1) (x + 1) (by omega) (by omega)
  rw [e] at h01 h10
  rw [e, e] at h11
  cases r <;> cases b <;> simp only [pick, fourQ, off, if_true, Bool.false_eq_true, if_false, Int.add_zero] <;> assumption
/-- What smaller comes to. -/
def Small (most : Nat) (e : Ending) (N' : List Nd) (n' s : Nat) (G : Plane) (cc dd st : Int) : Prop :=
  (∃ q' : Nat → Nat → Nat, e = .returned (.tuple #[.agg (fdC s q'), .nilIface]) ∧ ∀ i j, i < s → j < s → Con N' n' (q' i j) (shF G (cc + (j : Int) * st) (dd + (i : Int) * st))) ∨ (e = .returned (.tuple #[.agg (fdC 0 fun _ _ => 0), .iface 48 (.int .i64 7)]) ∧ most ≤ N'.length)
set_option maxHeartbeats 4000000 in
theorem small_L {sb tb mb most : Nat} {Bs : List (Nat × Obj)} {n n' t : Nat} {hh : Int} {c : Nat} {pa pb : Nat} (HWAY : Way sb tb mb most (Kp sb tb mb Bs) 101 (fun v => #[v, .pointer (some ⟨pa, 0, none⟩), .pointer (some ⟨pb, 0, none⟩)]) n n' t hh c)
    {w : World} {g : Nat} {N : List Nd} {fb : FbT} {m : Stp → Option Value} (h : Me w sb g tb most N mb fb m) (hkeep : Kp sb tb mb Bs w g fb) {S s : Nat} (hS : S = s + 1) (hs : s ≤ 3) {q : Nat → Nat → Nat} {F : Plane} {cc dd : Int}
    (hq : ∀ i j, i ≤ s → j ≤ s → Con N n (q i j) (shF F (cc + (j : Int) * 2 ^ n) (dd + (i : Int) * 2 ^ n))) :
    Calls Tryz.prog 102 #[.agg (fdC S q), .func (.func 101) #[] #[.pointer (some ⟨pa, 0, none⟩), .pointer (some ⟨pb, 0, none⟩)]] w fun e w' => ∃ g' N' fb' m', Mx sb tb mb most w g N fb m (s * s * c) w' g' N' fb' m' ∧ Kp sb tb mb Bs w' g' fb' ∧ Small most e N' n' s (gens t F) (cc + hh) (dd + hh) (2 ^ n) := by
  have HWY := Lib.hid HWAY
  have HKD : Hid (∀ bo ∈ Bs, bo.1 < w.heap.size) := fun bo hb => (hkeep bo hb).lt
  have HM := Lib.hid h
  have HQ := Lib.hid hq
  have w1 : IntKind.i64.wrap ((S : Int) - 1) = (s : Int) := by rw [show (S : Int) - 1 = (s : Int) by omega]; exact IntWalk.i64_in _ (by omega)
  have HB := Lib.hid (bel3 w (.cells (fdC S q) 166) (.cells #[.int .i64 0, .int .u32 0, .int .u32 0, .int .u32 0, .int .u32 0, .int .u32 0, .int .u32 0, .int .u32 0, .int .u32 0, .int .u32 0, .int .u32 0, .int .u32 0, .int .u32 0, .int .u32 0, .int .u32 0, .int .u32 0, .int .u32 0] 166) (.cells #[.int .i64 (s : Int), .int .u32 0, .int .u32 0, .int .u32 0, .int .u32 0, .int .u32 0, .int .u32 0, .int .u32 0, .int .u32 0, .int .u32 0, .int .u32 0, .int .u32 0, .int .u32 0, .int .u32 0, .int .u32 0, .int .u32 0, .int .u32 0] 166))
  have hz1 : (w.alloc (.cells (fdC S q) 166)).heap.size = w.heap.size + 1 := by simp
  have hz2 : ((w.alloc (.cells (fdC S q) 166)).alloc (.cells #[.int .i64 0, .int .u32 0, .int .u32 0, .int .u32 0, .int .u32 0, .int .u32 0, .int .u32 0, .int .u32 0, .int .u32 0, .int .u32 0, .int .u32 0, .int .u32 0, .int .u32 0, .int .u32 0, .int .u32 0, .int .u32 0, .int .u32 0] 166)).heap.size = w.heap.size + 1 + 1 := by simp
  have HF : Hid (Oe (((w.alloc (.cells (fdC S q) 166)).alloc (.cells #[.int .i64 0, .int .u32 0, .int .u32 0, .int .u32 0, .int .u32 0, .int .u32 0, .int .u32 0, .int .u32 0, .int .u32 0, .int .u32 0, .int .u32 0, .int .u32 0, .int .u32 0, .int .u32 0, .int .u32 0, .int .u32 0, .int .u32 0] 166)).alloc (.cells #[.int .i64 (s : Int), .int .u32 0, .int .u32 0, .int .u32 0, .int .u32 0, .int .u32 0, .int .u32 0, .int .u32 0, .int .u32 0, .int .u32 0, .int .u32 0, .int .u32 0, .int .u32 0, .int .u32 0, .int .u32 0, .int .u32 0, .int .u32 0] 166)) sb g tb mb fb w.heap.size (fdO S q)) := ((Oe.new h _ _).later (bel1 _ _)).later (bel1 _ _)
  have HR : Hid (Oe (((w.alloc (.cells (fdC S q) 166)).alloc (.cells #[.int .i64 0, .int .u32 0, .int .u32 0, .int .u32 0, .int .u32 0, .int .u32 0, .int .u32 0, .int .u32 0, .int .u32 0, .int .u32 0, .int .u32 0, .int .u32 0, .int .u32 0, .int .u32 0, .int .u32 0, .int .u32 0, .int .u32 0] 166)).alloc (.cells #[.int .i64 (s : Int), .int .u32 0, .int .u32 0, .int .u32 0, .int .u32 0, .int .u32 0, .int .u32 0, .int .u32 0, .int .u32 0, .int .u32 0, .int .u32 0, .int .u32 0, .int .u32 0, .int .u32 0, .int .u32 0, .int .u32 0, .int .u32 0] 166)) sb g tb mb fb (w.heap.size + 1) (fdO 0 fun _ _ => 0)) := by
    rw [← hz1]
    exact (Oe.new (h.later (bel1 w (.cells (fdC S q) 166))) _ _).later (bel1 _ _)
  have HL : Hid (Oe (((w.alloc (.cells (fdC S q) 166)).alloc (.cells #[.int .i64 0, .int .u32 0, .int .u32 0, .int .u32 0, .int .u32 0, .int .u32 0, .int .u32 0, .int .u32 0, .int .u32 0, .int .u32 0, .int .u32 0, .int .u32 0, .int .u32 0, .int .u32 0, .int .u32 0, .int .u32 0, .int .u32 0] 166)).alloc (.cells #[.int .i64 (s : Int), .int .u32 0, .int .u32 0, .int .u32 0, .int .u32 0, .int .u32 0, .int .u32 0, .int .u32 0, .int .u32 0, .int .u32 0, .int .u32 0, .int .u32 0, .int .u32 0, .int .u32 0, .int .u32 0, .int .u32 0, .int .u32 0] 166)) sb g tb mb fb (w.heap.size + 1 + 1) (fdO s fun _ _ => 0)) := by
    rw [← hz2]
    exact Oe.new (h.later (bel2 w (.cells (fdC S q) 166) (.cells #[.int .i64 0, .int .u32 0, .int .u32 0, .int .u32 0, .int .u32 0, .int .u32 0, .int .u32 0, .int .u32 0, .int .u32 0, .int .u32 0, .int .u32 0, .int .u32 0, .int .u32 0, .int .u32 0, .int .u32 0, .int .u32 0, .int .u32 0] 166))) _ _
  have HKP := Lib.hid (hkeep.mx (Mx.of_below h HB.out))
  have c0 : ((w.alloc (.cells (fdC S q) 166)).alloc (.cells #[.int .i64 0, .int .u32 0, .int .u32 0, .int .u32 0, .int .u32 0, .int .u32 0, .int .u32 0, .int .u32 0, .int .u32 0, .int .u32 0, .int .u32 0, .int .u32 0, .int .u32 0, .int .u32 0, .int .u32 0, .int .u32 0, .int .u32 0] 166)).cell? ⟨w.heap.size, 0, none⟩ = some (.int .i64 (S : Int)) := fd_side (kept (heap_alloc_new w (.cells (fdC S q) 166)) (bel1 _ _))
  have HMX := Lib.hid (Mx.of_below h HB.out)
  have HHS : Hid (S = s + 1 ∧ s ≤ 3) := ⟨hS, hs⟩
  clear h hkeep hq HWAY hz1 hz2 hS
  go_enter Tryz.func102, Tryz.ntmps102
  go_upto_region 2 with fail
  clear c0 w1 HB
  generalize ((w.alloc (.cells (fdC S q) 166)).alloc (.cells #[.int .i64 0, .int .u32 0, .int .u32 0, .int .u32 0, .int .u32 0, .int .u32 0, .int .u32 0, .int .u32 0, .int .u32 0, .int .u32 0, .int .u32 0, .int .u32 0, .int .u32 0, .int .u32 0, .int .u32 0, .int .u32 0, .int .u32 0] 166)).alloc (.cells #[.int .i64 (s : Int), .int .u32 0, .int .u32 0, .int .u32 0, .int .u32 0, .int .u32 0, .int .u32 0, .int .u32 0, .int .u32 0, .int .u32 0, .int .u32 0, .int .u32 0, .int .u32 0, .int .u32 0, .int .u32 0, .int .u32 0, .int .u32 0] 166) = W0 at *
  have s0 := fd_side HL.out.at_
  go_wp2_with fail
  clear s0
  go_loopg [7, 8, 9, 16] s (fun mm v7 v8 v9 cnt wr => ∃ (y : Nat) (g1 : Nat) (N1 : List Nd) (fb1 : FbT) (m1 : Stp → Option Value) (q1 : Nat → Nat → Nat), mm = s - y ∧ y ≤ s ∧ cnt = .int .i64 (y : Int) ∧ Mx sb tb mb most w g N fb m (y * s * c) wr g1 N1 fb1 m1 ∧ Kp sb tb mb Bs wr g1 fb1 ∧
    Oe wr sb g1 tb mb fb1 w.heap.size (fdO S q) ∧ Oe wr sb g1 tb mb fb1 (w.heap.size + 1) (fdO 0 fun _ _ => 0) ∧ Oe wr sb g1 tb mb fb1 (w.heap.size + 1 + 1) (fdO s q1) ∧ ∀ i j, i < y → j < s → Con N1 n' (q1 i j) (shF (gens t F) (cc + hh + (j : Int) * 2 ^ n) (dd + hh + (i : Int) * 2 ^ n)))
  case atStart => exact ⟨0, g, N, fb, m, _, rfl, Nat.zero_le _, rfl, by rw [Nat.zero_mul, Nat.zero_mul]; exact HMX.out, HKP.out, HF.out, HR.out, HL.out, fun i j hi _ => by omega⟩
  case round =>
    clear HMX HKP HF HR HL
    obtain ⟨y, g1, N1, fb1, m1, q1, hm, hy, rfl, hmx, hkp, hf, hr, hl, hcon⟩ := hrel
    have HMM := Lib.hid hm
    have HMX := Lib.hid hmx
    have HKP := Lib.hid hkp
    have HF := Lib.hid hf
    have HR := Lib.hid hr
    have HL := Lib.hid hl
    have HC := Lib.hid hcon
    clear hm hmx hkp hf hr hl hcon
    by_cases hlt : y < s
    · have hgj : decide (y < s) = true := by simp; omega
      have s0 := fd_side HL.out.at_
      go_wp2_with fail
      clear s0
      generalize wr = wo at *
      go_loopg [8, 9, 21] s (fun mm v8 v9 cnt wr => ∃ (x : Nat) (g1 : Nat) (N1 : List Nd) (fb1 : FbT) (m1 : Stp → Option Value) (q1 : Nat → Nat → Nat), mm = s - x ∧ x ≤ s ∧ cnt = .int .i64 (x : Int) ∧ Mx sb tb mb most w g N fb m (y * s * c + x * c) wr g1 N1 fb1 m1 ∧ Kp sb tb mb Bs wr g1 fb1 ∧
        Oe wr sb g1 tb mb fb1 w.heap.size (fdO S q) ∧ Oe wr sb g1 tb mb fb1 (w.heap.size + 1) (fdO 0 fun _ _ => 0) ∧ Oe wr sb g1 tb mb fb1 (w.heap.size + 1 + 1) (fdO s q1) ∧ ∀ i j, (i < y ∨ (i = y ∧ j < x)) → j < s → Con N1 n' (q1 i j) (shF (gens t F) (cc + hh + (j : Int) * 2 ^ n) (dd + hh + (i : Int) * 2 ^ n)))
      case atStart => exact ⟨0, g1, N1, fb1, m1, q1, rfl, Nat.zero_le _, rfl, by rw [Nat.zero_mul]; exact HMX.out, HKP.out, HF.out, HR.out, HL.out, fun i j hi hj => HC.out i j (by omega) hj⟩
      case round =>
        clear HMX HKP HF HR HL HC
        obtain ⟨x, g2, N2, fb2, m2, q2, hm, hx, rfl, hmx, hkp, hf, hr, hl, hcon⟩ := hrel
        have HMM2 := Lib.hid hm
        have HMX := Lib.hid hmx
        have HKP := Lib.hid hkp
        have HF := Lib.hid hf
        have HR := Lib.hid hr
        have HL := Lib.hid hl
        have HC := Lib.hid hcon
        clear hm hmx hkp hf hr hl hcon
        by_cases hlt2 : x < s
        · have hgj2 : decide (x < s) = true := by simp; omega
          have HFO : Hid (Four N2 n (fourQ q y x) F (cc + (x : Int) * 2 ^ n) (dd + (y : Int) * 2 ^ n)) := by
            obtain ⟨E, hE, _⟩ := HMX.out.ext
            rw [hE]
            exact (four_of HQ.out hlt hlt2).app HM.out.wf E
          have y1 : (0 : Int) ≤ (y : Int) := by omega
          have y2 : (y : Int) < 4 := by omega
          have y3 : (0 : Int) ≤ (x : Int) := by omega
          have y4 : (x : Int) < 4 := by omega
          go_upto_region 9 with fail
          refine region_sq 7 (fun _ => True) [(0, 1), (1, 1), (2, 1), (4, 1), (5, 1), (11, 1), (12, 1), (3, 0), (6, 0), (7, 3), (8, 1), (9, 1), (10, 1), (13, 1), (14, 3), (15, 1)] (by kernel_rfl) (by kernel_rfl) rfl (by intro c a d v w h; cases d <;> exact h) (by kernel_rfl) trivial ?_
          refine ⟨_, ?_, rfl, by rfl, ?_, ?_⟩
          rotate_left
          · intro W; go_simp; first | done | rfl
          conv => arg 6; simp only [Act.put, List.setIfInBounds_toArray, List.set_cons_zero, List.set_cons_succ]
          refine ⟨_, ?_, rfl, by rfl, ?_, ?_⟩
          rotate_left
          · intro W; go_simp; first | done | rfl
          conv => arg 6; simp only [Act.put, List.setIfInBounds_toArray, List.set_cons_zero, List.set_cons_succ]
          refine ⟨_, ?_, rfl, by rfl, ?_, ?_⟩
          rotate_left
          · intro W; go_simp; first | done | rfl
          conv => arg 6; simp only [Act.put, List.setIfInBounds_toArray, List.set_cons_zero, List.set_cons_succ]
          refine ⟨_, ?_, rfl, by rfl, ?_, ?_⟩
          rotate_left
          · intro W; go_simp; first | done | rfl
          conv => arg 6; simp only [Act.put, List.setIfInBounds_toArray, List.set_cons_zero, List.set_cons_succ]
          refine ⟨_, ?_, rfl, by rfl, ?_, ?_⟩
          rotate_left
          · intro W; go_simp; first | done | rfl
          conv => arg 6; simp only [Act.put, List.setIfInBounds_toArray, List.set_cons_zero, List.set_cons_succ]
          refine ⟨_, ?_, rfl, by rfl, ?_, ?_⟩
          rotate_left
          · intro W; go_simp; first | done | rfl
          conv => arg 6; simp only [Act.put, List.setIfInBounds_toArray, List.set_cons_zero, List.set_cons_succ]
          refine ⟨_, ?_, rfl, by rfl, ?_, ?_⟩
          rotate_left
          · intro W; go_simp; first | done | rfl
          conv => arg 6; simp only [Act.put, List.setIfInBounds_toArray, List.set_cons_zero, List.set_cons_succ]
          refine ⟨_, rfl, by rfl, fun K hK => ?_⟩
          refine wp_load_row 166 _ rfl w.heap.size rfl 166 (fdC S q) (0, 0) _ HF.out.at_ Tryz.underlying166 rfl (by as_aux_lemma => kernel_rfl) ?_
          refine hK _ _ trivial ?_
          clear hK K
          conv => arg 6; simp only [Act.put, List.setIfInBounds_toArray, List.set_cons_zero, List.set_cons_succ]
          refine ⟨_, rfl, by rfl, fun K hK => ?_⟩
          go_simp
          refine (four10_any S q x y (by omega) (by omega) _).mono ?_
          rintro e w6 ⟨rfl, hb⟩
          have HB6 : Hid (Below wr.heap.size wr w6) := ⟨hb.os, hb.tape, hb.output, hb.size, hb.block⟩
          clear hb
          refine hK _ _ trivial ?_
          clear hK K
          conv => arg 6; simp only [Act.put, List.setIfInBounds_toArray, List.set_cons_zero, List.set_cons_succ]
          refine ⟨_, rfl, by rfl, fun K hK => ?_⟩
          go_simp
          have HME6 := Lib.hid (HMX.out.me.later HB6.out)
          have HMB := Lib.hid (Mx.of_below HMX.out.me HB6.out)
          have HKP6 := Lib.hid (HKP.out.mx HMB.out)
          have HCA := Lib.hid (HWY.out _ _ _ _ _ HME6.out HKP6.out _ F _ _ HFO.out)
          dsimp only at HCA
          refine HCA.out.mono ?_
          rintro e w8 ⟨g8, N8, fb8, m8, hmx8, hres⟩
          obtain ⟨r, ev, rfl, hres2⟩ := two10 hres
          have HM68 := Lib.hid (HMB.out.trans hmx8)
          have HMX8 := Lib.hid (HMX.out.trans HM68.out)
          have HKP8 := Lib.hid (HKP6.out.mx hmx8)
          have HF8 := Lib.hid (HF.out.mx HM68.out)
          have HR8 := Lib.hid (HR.out.mx HM68.out)
          have HL8 := Lib.hid (HL.out.mx HM68.out)
          have HC8 : Hid (∀ i j, (i < y ∨ (i = y ∧ j < x)) → j < s → Con N8 n' (q2 i j) (shF (gens t F) (cc + hh + (j : Int) * 2 ^ n) (dd + hh + (i : Int) * 2 ^ n))) := fun i j h1 h2 => by
            obtain ⟨E, hE, _⟩ := HM68.out.ext
            rw [hE]
            exact (HC.out i j h1 h2).app HMX.out.me.wf E
          clear hmx8 hres HCA HME6 HMB HM68
          refine hK _ _ ?_
          clear hK K
          conv => arg 6; simp only [Act.put, List.setIfInBounds_toArray, List.set_cons_zero, List.set_cons_succ]
          refine ⟨_, ?_, rfl, by rfl, ?_, ?_⟩
          rotate_left
          · intro W; go_simp; first | done | rfl
          conv => arg 6; simp only [Act.put, List.setIfInBounds_toArray, List.set_cons_zero, List.set_cons_succ]
          refine ⟨_, ?_, rfl, by rfl, ?_, ?_⟩
          rotate_left
          · intro W; go_simp; first | done | rfl
          conv => arg 6; simp only [Act.put, List.setIfInBounds_toArray, List.set_cons_zero, List.set_cons_succ]
          refine ⟨_, ?_, rfl, by rfl, ?_, ?_⟩
          rotate_left
          · intro W; go_simp; first | done | rfl
          conv => arg 6; simp only [Act.put, List.setIfInBounds_toArray, List.set_cons_zero, List.set_cons_succ]
          refine ⟨_, ?_, rfl, by rfl, ?_, ?_⟩
          rotate_left
          · intro W; go_simp; first | done | rfl
          conv => arg 6; simp only [Act.put, List.setIfInBounds_toArray, List.set_cons_zero, List.set_cons_succ]
          refine ⟨_, rfl, by rfl, fun K hK => ?_⟩
          have t0 := fd_cell HL8.out.at_ (show y < 4 by omega) (show x < 4 by omega)
          have t1 := Lib.frozen_of_heap HL8.out.at_ (1 + y * 4 + x)
          go_simp
          refine hK _ _ ?_
          clear hK K t0 t1
          conv => arg 6; simp only [Act.put, List.setIfInBounds_toArray, List.set_cons_zero, List.set_cons_succ]
          refine ⟨_, ?_, rfl, by rfl, ?_, ?_⟩
          rotate_left
          · intro W; go_simp; first | done | rfl
          conv => arg 6; simp only [Act.put, List.setIfInBounds_toArray, List.set_cons_zero, List.set_cons_succ]
          unfold wpSq
          rcases hres2 with ⟨rfl, hz⟩ | ⟨rfl, rfl, hfull⟩
          · have HZ := Lib.hid hz
            clear hz
            go_wp2_with fail
            go_roundg (s - (x + 1))
            case measure => rw [HMM2.out]; omega
            case rel =>
              refine ⟨x + 1, g8, N8, fb8, m8, setQ q2 y x r, rfl, by omega, by go_num, ((HMX8.out.mono (by rw [Nat.add_mul]; omega)).set HL8.out (by omega) _), HKP8.out.set HKD.out (by omega) _, HF8.out.other (by show w.heap.size + 1 + 1 ≠ w.heap.size; omega) _, HR8.out.other (by show w.heap.size + 1 + 1 ≠ w.heap.size + 1; omega) _, ⟨fd_set HL8.out.at_ (by omega) (by omega) _, HL8.out.sb_, HL8.out.g_, HL8.out.tb_, HL8.out.mb_, HL8.out.fb_⟩, fun i j hi hj => ?_⟩
              unfold setQ
              by_cases e : i = y ∧ j = x
              · obtain ⟨rfl, rfl⟩ := e
                rw [if_pos ⟨rfl, rfl⟩]
                have := HZ.out
                rw [show cc + (j : Int) * 2 ^ n + hh = cc + hh + (j : Int) * 2 ^ n by omega, show dd + (i : Int) * 2 ^ n + hh = dd + hh + (i : Int) * 2 ^ n by omega] at this
                exact this
              · rw [if_neg e]
                exact HC8.out i j (by omega) hj
          · have HFU := Lib.hid hfull
            clear hfull
            have hrow := HR8.out.other (p := ⟨w.heap.size + 1 + 1, 1 + y * 4 + x, none⟩) (by show w.heap.size + 1 + 1 ≠ w.heap.size + 1; omega) (.int .u32 0)
            have HRW := Lib.hid hrow
            clear hrow
            have HM9 := Lib.hid (HMX8.out.set (i := 1 + y * 4 + x) HL8.out (by omega) (.int .u32 0))
            have HK9 := Lib.hid (HKP8.out.set (b := w.heap.size + 1 + 1) (i := 1 + y * 4 + x) HKD.out (by omega) (.int .u32 0))
            go_wp2_with (first
              | (refine wpList_store_row rfl 166 _ _ rfl (w.heap.size + 1) _ rfl rfl 166 _ HRW.out.at_ (by as_aux_lemma => kernel_rfl) rfl (by simp [Value.oneCell']) ?_))
            refine bodyPost_ret (res_two10 (i := 4) (j := 5) rfl rfl (fd_load (s := 0) (q := fun _ _ => 0) (fd_row HRW.out.at_ 0 fun _ _ => 0)) rfl) rfl ?_
            refine ⟨g8, N8, fb8, m8, (HM9.out.setRow HRW.out (by omega) _).mono ?_, HK9.out.setRow HKD.out (by omega) _, Or.inr ⟨rfl, HFU.out⟩⟩
            have h1 : (x + 1) * c ≤ s * c := Nat.mul_le_mul_right _ (by omega)
            have h2 : (y + 1) * s * c ≤ s * s * c := Nat.mul_le_mul_right _ (Nat.mul_le_mul_right _ (by omega))
            rw [Nat.add_mul, Nat.add_mul, Nat.one_mul] at h2
            rw [Nat.add_mul, Nat.one_mul] at h1
            omega
        · obtain rfl : x = s := by omega
          have hgj2 : decide (x < x) = false := by simp
          go_wp2_with fail
          go_roundg (x - (y + 1))
          case measure => rw [HMM.out]; omega
          case rel => exact ⟨y + 1, g2, N2, fb2, m2, q2, rfl, by omega, by go_num, HMX.out.mono (by rw [Nat.add_mul, Nat.add_mul, Nat.one_mul]; omega), HKP.out, HF.out, HR.out, HL.out, fun i j hi hj => HC.out i j (by omega) hj⟩
    · obtain rfl : y = s := by omega
      have hgj : decide (y < y) = false := by simp
      go_wp2_with (first
        | (refine wpList_load_row rfl 166 _ rfl (w.heap.size + 1 + 1) rfl 166 _ (0, 0) _ HL.out.at_ Tryz.underlying166 rfl (by as_aux_lemma => kernel_rfl) ?_)
        | (refine wpList_store_row rfl 166 _ _ rfl (w.heap.size + 1) _ rfl rfl 166 _ HR.out.at_ (by as_aux_lemma => kernel_rfl) rfl (fdC_one y q1) ?_))
      refine bodyPost_ret (res_two10 (i := 4) (j := 5) rfl rfl (fd_load (fd_row HR.out.at_ y q1)) rfl) rfl ?_
      exact ⟨g1, N1, fb1, m1, HMX.out.setRow HR.out (by omega) _, HKP.out.setRow HKD.out (by omega) _, Or.inl ⟨q1, rfl, fun i j hi hj => HC.out i j hi hj⟩⟩
end Go.Proofs.YtaapkngpnlnjeaaGreatDoor
