/- Layer 8's law's step: Paste. -/
import Derived.Test.YtnfjmmkokhncoaaGreatM24
import Derived.Test.YtnfjmmkokhncoaaGreatM20
import Derived.Test.YtnfjmmkokhncoaaGreatM25
import Derived.Deep.CutBlock
import Derived.Deep.DeepCutAuto
import Derived.Deep.CutRange
namespace Go.Proofs.YtnfjmmkokhncoaaGreat
open Go.RowKit Go.Maps
set_option maxRecDepth 100000

theorem owp_keep8 {w w' : World} {B : Nat} {v : Value} {l : List (Int × Int)} (h : OwP w B v l) (hk : ∀ b, v.ownBlock = some b → w'.heap[b]? = w.heap[b]?) : OwP w' B v l := by
  refine ⟨h.1, ?_⟩
  rcases h.2 with hn | ⟨g, cp, cur, hv, hB, hg, r⟩
  · exact Or.inl hn
  · exact Or.inr ⟨g, cp, cur, hv, hB, by rw [hk g (by rw [hv]; rfl)]; exact hg, r⟩
theorem owp_later8 {w w' : World} {B : Nat} {v : Value} {l : List (Int × Int)} (h : OwP w B v l) (hb : Below w.heap.size w w') : OwP w' B v l := owp_keep8 h fun b hv => hb.block b (World.ownsRow.lt h b hv).2
set_option maxHeartbeats 4000000 in
theorem step8_paste {w : World} {sb g tb cap most : Nat} {M : List Nd} (h : St w sb g tb cap most M) {n x : Nat} {l : List (Int × Int)} (hpl : Pl8 M n x l) (a : Option Addr) (cap' : Nat) (hr : Rv8 w sb g tb a l) (hl : l.length ≤ 5000) (T : List Place) (hT : Cov T (fun p q => (p, q) ∈ l)) (hroom : M.length + T.length + 3300 ≤ most) (k W H : Nat) (hk : k < 256) (hW : W < 256) (hH : H < 256) (p q : Int) (hp : -2305843009213693952 ≤ p ∧ p ≤ 2305843009213693952) (hq : -2305843009213693952 ≤ q ∧ q ≤ 2305843009213693952) (sl : Value) (over : Bool) (ca : Option Addr) (cs : List (Int × Int)) (cc : Nat) (hsl : sl = .slice ca cs.length cc) (hcs : Pts w w.heap.size ca cs) (hcl : cs.length ≤ 30) (hcf : ∀ d ∈ cs, fits d) (hk4 : k % 4 = 2) (hat : (onP p && onP q) = true) :
    Calls Tryz.prog 7 #[.agg #[.pointer (some ⟨sb, 0, none⟩), .int .u32 (x : Int)], .slice a l.length cap', .agg #[.int .u8 (k : Int), .int .i64 p, .int .i64 q, .int .u8 (W : Int), .int .u8 (H : Int), sl, .bool over]] w fun e w' => Out8 w sb g tb most M l a T e w' := by
  have hxu := Sq.u32 h hpl.sq
  have hn61 : n ≤ 61 := by have := hpl.sq.le62 h.wf; omega
  have HS0 := Lib.hid h
  have HPL := Lib.hid hpl
  have HRV := Lib.hid hr
  have HT := Lib.hid hT
  have HCS := Lib.hid hcs
  have HCF := Lib.hid hcf
  clear hcs hcf
  subst hsl
  obtain ⟨W0, hW0, hb0, hs0, hsz0⟩ := s8_start h x (.slice a l.length cap') #[.int .u8 (k : Int), .int .i64 p, .int .i64 q, .int .u8 (W : Int), .int .u8 (H : Int), .slice ca cs.length cc, .bool over] 38
  have HW0 := Lib.hid hW0
  have HB0 := Lib.hid hb0
  have HX0 : Hid (S8x W0 sb g tb w.heap.size x (acO8 k p q W H (.slice ca cs.length cc) over) (.slice a l.length cap')) := hs0
  clear h hpl hr hT hW0 hb0 hs0
  have m1 : IntKind.u8.wrap ((W : Int).tmod 24) = (W : Int) % 24 := by rw [Int.tmod_eq_emod_of_nonneg (by omega)]; exact IntWalk.u8_in _ (by omega)
  have m2 : IntKind.u8.wrap ((H : Int).tmod 24) = (H : Int) % 24 := by rw [Int.tmod_eq_emod_of_nonneg (by omega)]; exact IntWalk.u8_in _ (by omega)
  have m3 : IntKind.i64.wrap ((W : Int) % 24) = (W : Int) % 24 := IntWalk.i64_in _ (by omega)
  have m4 : IntKind.i64.wrap ((H : Int) % 24) = (H : Int) % 24 := IntWalk.i64_in _ (by omega)
  obtain ⟨q0, q1, q2, q3, q4, q5, q6⟩ := ac_cells8 HX0.out.ac.at_
  go_enter Tryz.func7, Tryz.ntmps7
  go_upto_region 1 with fail
  rw [HW0.out]
  go_quiet (fail)
  have hbq := below_drewN8 (Below.refl W0.heap.size W0) nq
  have HX1 := Lib.hid (HX0.out.later hbq)
  have HB1 := Lib.hid (HB0.out.trans (hbq.mono HB0.out.size))
  clear hbq HX0 HB0 m1 m2 m3 m4 q0 q1 q2 q3 q4 q5 q6
  clear HW0
  generalize W0.drewN nq = W1 at *
  clear hsz0 W0
  obtain ⟨wd, hwd⟩ : ∃ wd : Nat, wd = W % 24 := ⟨_, rfl⟩
  obtain ⟨hd, hhd⟩ : ∃ hd : Nat, hd = H % 24 := ⟨_, rfl⟩
  rw [show (W : Int) % 24 = (wd : Int) by omega, show (H : Int) % 24 = (hd : Int) by omega]
  have hwd24 : wd < 24 := by omega
  have hhd24 : hd < 24 := by omega
  clear hwd hhd
  have HRE := Lib.hid (rect8_any p q (wd : Int) (hd : Int) (by unfold I64; omega) (by unfold I64; omega) W1)
  obtain ⟨q0, q1, q2, q3, q4, q5, q6⟩ := ac_cells8 HX1.out.ac.at_
  go_wp2_with fail
  refine HRE.out.mono ?_
  rintro e W2 ⟨rfl, hb⟩
  have hba := hb.trans ((bel1 W2 (.cells #[.int .i64 p, .int .i64 q, .int .i64 (p + (wd : Int)), .int .i64 (q + (hd : Int))] 42)).mono hb.size)
  have HX3 := Lib.hid (HX1.out.later hba)
  have HB3 := Lib.hid (HB1.out.trans (hba.mono HB1.out.size))
  have HRC : Hid (Ob (W2.alloc (.cells #[.int .i64 p, .int .i64 q, .int .i64 (p + (wd : Int)), .int .i64 (q + (hd : Int))] 42)) sb g tb W2.heap.size (rcO8 ⟨p, q, p + (wd : Int), q + (hd : Int)⟩)) := Ob.new (HS0.out.later (HB1.out.trans (hb.mono HB1.out.size))) _ _
  have hrb : w.heap.size + 1 + 1 + 1 < W2.heap.size := by have := HX1.out.lt; have := hb.size; omega
  have HRB := Lib.hid hrb
  clear hb hba HRE HX1 HB1 hrb q0 q1 q2 q3 q4 q5 q6
  obtain ⟨q0, q1, q2, q3, q4, q5, q6⟩ := ac_cells8 HX3.out.ac.at_
  go_upto_region 3 with fail
  generalize W2.alloc (.cells #[.int .i64 p, .int .i64 q, .int .i64 (p + (wd : Int)), .int .i64 (q + (hd : Int))] 42) = W3 at *
  generalize W2.heap.size = rb at *
  clear W2
  have HS3 := Lib.hid (HS0.out.later HB3.out)
  have HN3 := Lib.hid (Nx.of_below HS0.out HB3.out)
  have HRV3 := Lib.hid (HRV.out.later HB3.out)
  have k0 : ((k : Int) % 4 == 0) = false := by simp; omega
  have k1 : ((k : Int) % 4 == 1) = false := by simp; omega
  have k2 : ((k : Int) % 4 == 2) = true := by simp; omega
  have HRN : Hid (∀ off, a ≠ some ⟨rb, off, none⟩) := fun off e => by have := (HRV.out.2 _ off e).2.2.2; have := HRB.out; omega
  have HPT3 : Hid (Pts W3 W3.heap.size ca cs) := (HCS.out.later HB3.out (Nat.le_refl _)).grow HB3.out.size
  go_wp2_with fail
  refine (new8_any cs ca cc _ HPT3.out (by omega) HCF.out).mono ?_
  rintro e W4 ⟨hnew, hb⟩
  clear HPT3
  rcases hnew with rfl | ⟨Wd, Hh, lo, L, a', c', rfl, hWd, hHh, hLl, hLn, hLin, hLr, hLb⟩
  · have hba := hb.trans ((bel2 W4 (.cells #[.int .i64 0, .int .i64 0, .slice none 0 0] 69) (.cells #[.int .i64 0, .int .i64 0] 24)).mono hb.size)
    have HPB : Hid (Ob ((W4.alloc (.cells #[.int .i64 0, .int .i64 0, .slice none 0 0] 69)).alloc (.cells #[.int .i64 0, .int .i64 0] 24)) sb g tb W4.heap.size (ptnO 0 0 (.slice none 0 0))) := (Ob.new (HS3.out.later hb) _ _).later (bel1 _ _)
    have HX5 := Lib.hid (HX3.out.later hba)
    have HRC5 := Lib.hid (HRC.out.later hba)
    have HRV5 := Lib.hid (HRV3.out.later hba)
    have HS5 := Lib.hid (HS3.out.later hba)
    have HN5 := Lib.hid (HN3.out.trans (Nx.of_below HS3.out hba))
    have hpb : w.heap.size + 1 + 1 + 1 < W4.heap.size ∧ rb < W4.heap.size := ⟨by have := HX3.out.lt; have := hb.size; omega, by have := HRC.out.lt; have := hb.size; omega⟩
    have HPL5 := Lib.hid hpb
    clear hpb
    clear HX3 HRC HRV3 HN3 HS3 hba
    clear q0 q1 q2 q3 q4 q5 q6
    obtain ⟨q0, q1, q2, q3, q4, q5, q6⟩ := ac_cells8 HX5.out.ac.at_
    obtain ⟨p0, p1⟩ := pl_cells HX5.out.pl.at_
    obtain ⟨t0, t1, t2⟩ := ptn_cells HPB.out.at_
    go_upto_region 18 with fail
    generalize (W4.alloc (.cells #[.int .i64 0, .int .i64 0, .slice none 0 0] 69)).alloc (.cells #[.int .i64 0, .int .i64 0] 24) = W5 at *
    generalize W4.heap.size = pb at *
    clear hb W4
    have HPS := Lib.hid (paste8_none HS5.out HPL.out.sq HPL.out.two (.slice none 0 0) p q hat over)
    go_wp2_with fail
    refine HPS.out.mono ?_
    clear HPS
    rintro e W6 ⟨rfl, hb6⟩
    have hba := hb6.trans ((bel1 W6 (.cells #[.pointer (some ⟨sb, 0, none⟩), .int .u32 (x : Int)] 32)).mono hb6.size)
    have HNB : Hid ((W6.alloc (.cells #[.pointer (some ⟨sb, 0, none⟩), .int .u32 (x : Int)] 32)).heap[W6.heap.size]? = some (plO sb x)) := heap_alloc_new W6 _
    have hnb : w.heap.size + 1 + 1 + 1 < W6.heap.size := by have := HX5.out.lt; have := hb6.size; omega
    have hrn : rb < W6.heap.size := by have := HRC5.out.lt; have := hb6.size; omega
    have HX7 := Lib.hid (HX5.out.later hba)
    have HRC7 := Lib.hid (HRC5.out.later hba)
    have HPB7 := Lib.hid (HPB.out.later hba)
    have HRV7 := Lib.hid (HRV5.out.later hba)
    have HN7 := Lib.hid (HN5.out.trans (Nx.of_below HS5.out hba))
    have HS7 := Lib.hid (HS5.out.later hba)
    clear HX5 HRC5 HPB HRV5 HN5 HS5 hb6 hba p0 p1 t0 t1 t2 q0 q1 q2 q3 q4 q5 q6
    obtain ⟨q0, q1, q2, q3, q4, q5, q6⟩ := ac_cells8 HX7.out.ac.at_
    go_upto_region 19 with fail
    generalize W6.alloc (.cells #[.pointer (some ⟨sb, 0, none⟩), .int .u32 (x : Int)] 32) = W7 at *
    generalize W6.heap.size = nb at *
    clear W6
    have HRA := Lib.hid (pright_any p q W7)
    rw [hat] at HRA
    go_wp2_with fail
    refine HRA.out.mono ?_
    rintro e W8 ⟨rfl, hb8⟩
    have HX8 := Lib.hid (HX7.out.later hb8)
    have HRC8 := Lib.hid (HRC7.out.later hb8)
    have HPB8 := Lib.hid (HPB7.out.later hb8)
    have HRV8 := Lib.hid (HRV7.out.later hb8)
    have HN8 := Lib.hid (HN7.out.trans (Nx.of_below HS7.out hb8))
    have HS8 := Lib.hid (HS7.out.later hb8)
    replace HNB : Hid (W8.heap[nb]? = some (plO sb x)) := keep8 HNB.out hb8
    clear HX7 HRC7 HPB7 HRV7 HN7 HS7 hb8 HRA q0 q1 q2 q3 q4 q5 q6
    have heq := eqPl8 sb x
    go_wp2_with fail
    refine region_sq 11 (fun W => W.heap[nb]? = some (plO sb x) ∧ W.heap[w.heap.size]? = some (plO sb x) ∧ W.heap[w.heap.size + 1]? = some (lbO (.slice a l.length cap'))) [(0, 2), (1, 2), (2, 1), (3, 1), (4, 1), (5, 2), (6, 2), (7, 1), (8, 1), (9, 0), (10, 0), (11, 3)] (by kernel_rfl) (by kernel_rfl) rfl (by intro c a d v w h; cases d <;> exact h) (by kernel_rfl) ⟨HNB.out, HX8.out.pl.at_, HX8.out.lb.at_⟩ ?_
    refine ⟨_, ?_, rfl, by rfl, ?_, ?_⟩
    rotate_left
    · intro W hW
      have z := pl_cells hW.1
      obtain ⟨z0, z1⟩ := z
      have y := pl_cells hW.2.1
      obtain ⟨y0, y1⟩ := y
      have x := lb_cell hW.2.2
      obtain ⟨x0, _⟩ := x
      go_simp; first | done | rfl
    conv => arg 6; simp only [Act.put, List.setIfInBounds_toArray, List.set_cons_zero, List.set_cons_succ]
    refine ⟨_, ?_, rfl, by rfl, ?_, ?_⟩
    rotate_left
    · intro W hW
      have z := pl_cells hW.1
      obtain ⟨z0, z1⟩ := z
      have y := pl_cells hW.2.1
      obtain ⟨y0, y1⟩ := y
      have x := lb_cell hW.2.2
      obtain ⟨x0, _⟩ := x
      go_simp; first | done | rfl
    conv => arg 6; simp only [Act.put, List.setIfInBounds_toArray, List.set_cons_zero, List.set_cons_succ]
    refine ⟨_, ?_, rfl, by rfl, ?_, ?_⟩
    rotate_left
    · intro W; go_simp; first | done | rfl
    conv => arg 6; simp only [Act.put, List.setIfInBounds_toArray, List.set_cons_zero, List.set_cons_succ]
    refine ⟨_, ?_, rfl, by rfl, ?_, ?_⟩
    rotate_left
    · intro W; go_simp; first | done | rfl
    conv => arg 6; simp only [Act.put, List.setIfInBounds_toArray, List.set_cons_zero, List.set_cons_succ]
    refine ⟨_, ?_, rfl, by rfl, ?_, ?_⟩
    rotate_left
    · intro W; go_simp; first | done | rfl
    conv => arg 6; simp only [Act.put, List.setIfInBounds_toArray, List.set_cons_zero, List.set_cons_succ]
    refine ⟨_, ?_, rfl, by rfl, ?_, ?_⟩
    rotate_left
    · intro W hW
      have z := pl_cells hW.1
      obtain ⟨z0, z1⟩ := z
      have y := pl_cells hW.2.1
      obtain ⟨y0, y1⟩ := y
      have x := lb_cell hW.2.2
      obtain ⟨x0, _⟩ := x
      go_simp; first | done | rfl
    conv => arg 6; simp only [Act.put, List.setIfInBounds_toArray, List.set_cons_zero, List.set_cons_succ]
    refine ⟨_, ?_, rfl, by rfl, ?_, ?_⟩
    rotate_left
    · intro W hW
      have z := pl_cells hW.1
      obtain ⟨z0, z1⟩ := z
      have y := pl_cells hW.2.1
      obtain ⟨y0, y1⟩ := y
      have x := lb_cell hW.2.2
      obtain ⟨x0, _⟩ := x
      go_simp; first | done | rfl
    conv => arg 6; simp only [Act.put, List.setIfInBounds_toArray, List.set_cons_zero, List.set_cons_succ]
    refine ⟨_, ?_, rfl, by rfl, ?_, ?_⟩
    rotate_left
    · intro W; go_simp; first | done | rfl
    conv => arg 6; simp only [Act.put, List.setIfInBounds_toArray, List.set_cons_zero, List.set_cons_succ]
    refine ⟨_, ?_, rfl, by rfl, ?_, ?_⟩
    rotate_left
    · intro W; go_simp; first | done | rfl
    conv => arg 6; simp only [Act.put, List.setIfInBounds_toArray, List.set_cons_zero, List.set_cons_succ]
    refine ⟨_, rfl, by rfl, fun K hK => ?_⟩
    have y := res_cells HX8.out.res.at_
    obtain ⟨y0, y1, y2, y3⟩ := y
    go_simp
    have HDX : Hid (((W8.setCell ⟨w.heap.size + 1 + 1 + 1, 0, none⟩ (.pointer (some ⟨sb, 0, none⟩))).setCell ⟨w.heap.size + 1 + 1 + 1, 1, none⟩ (.int .u32 (x : Int))).drew.heap[nb]? = some (plO sb x) ∧ ((W8.setCell ⟨w.heap.size + 1 + 1 + 1, 0, none⟩ (.pointer (some ⟨sb, 0, none⟩))).setCell ⟨w.heap.size + 1 + 1 + 1, 1, none⟩ (.int .u32 (x : Int))).drew.heap[w.heap.size]? = some (plO sb x) ∧ ((W8.setCell ⟨w.heap.size + 1 + 1 + 1, 0, none⟩ (.pointer (some ⟨sb, 0, none⟩))).setCell ⟨w.heap.size + 1 + 1 + 1, 1, none⟩ (.int .u32 (x : Int))).drew.heap[w.heap.size + 1]? = some (lbO (.slice a l.length cap'))) := by
      refine ⟨?_, ?_, ?_⟩
      · show ((W8.setCell _ _).setCell _ _).heap[nb]? = _
        rw [Below.heap_setCell _ _ _ _ (by show nb ≠ w.heap.size + 1 + 1 + 1; omega), Below.heap_setCell _ _ _ _ (by show nb ≠ w.heap.size + 1 + 1 + 1; omega)]; exact HNB.out
      · show ((W8.setCell _ _).setCell _ _).heap[w.heap.size]? = _
        rw [Below.heap_setCell _ _ _ _ (by show w.heap.size ≠ w.heap.size + 1 + 1 + 1; omega), Below.heap_setCell _ _ _ _ (by show w.heap.size ≠ w.heap.size + 1 + 1 + 1; omega)]; exact HX8.out.pl.at_
      · show ((W8.setCell _ _).setCell _ _).heap[w.heap.size + 1]? = _
        rw [Below.heap_setCell _ _ _ _ (by show w.heap.size + 1 ≠ w.heap.size + 1 + 1 + 1; omega), Below.heap_setCell _ _ _ _ (by show w.heap.size + 1 ≠ w.heap.size + 1 + 1 + 1; omega)]; exact HX8.out.lb.at_
    refine hK _ _ HDX.out ?_
    clear hK K y0 y1 y2 y3
    conv => arg 6; simp only [Act.put, List.setIfInBounds_toArray, List.set_cons_zero, List.set_cons_succ]
    refine ⟨_, rfl, by rfl, fun K hK => ?_⟩
    go_simp
    refine hK _ _ HDX.out ?_
    clear hK K
    conv => arg 6; simp only [Act.put, List.setIfInBounds_toArray, List.set_cons_zero, List.set_cons_succ]
    refine ⟨_, rfl, by rfl, fun K hK => ?_⟩
    go_simp
    refine hK _ _ ?_
    clear hK K
    conv => arg 6; simp only [Act.put, List.setIfInBounds_toArray, List.set_cons_zero, List.set_cons_succ]
    unfold wpSq
    obtain ⟨Wf, hWf, hNf, hOf, s0, s1⟩ := put_pl HN8.out HX8.out.res (by omega) (.pointer (some ⟨sb, 0, none⟩)) (.int .u32 (x : Int))
    have hrvf : Rv8 Wf sb g tb a l := by
      rw [← hWf]
      exact (HRV8.out.other (fun off e => by have := (HRV.out.2 _ off e).2.2.2; omega) _).other (fun off e => by have := (HRV.out.2 _ off e).2.2.2; omega) _
    rw [hWf]
    go_wp2_with fail
    refine bodyPost_ret (pl_ret3 (i := 6) (j := 7) (k := 8) rfl rfl rfl rfl hOf.at_) rfl ?_
    exact ⟨g, M, n, x, l, a, cap', T, rfl, nx_drew8 (hNf.mono (by omega)), HPL.out, hrvf.drew, Or.inl rfl, by omega, by omega, HT.out⟩
  · have HLR := Lib.hid (hLr.later (bel2 W4 (.cells #[.int .i64 (Wd : Int), .int .i64 (Hh : Int), .slice a' L.length c'] 69) (.cells #[.int .i64 lo.1, .int .i64 lo.2] 24)))
    have HLB : Hid (∀ bk off z, a' = some ⟨bk, off, z⟩ → w.heap.size ≤ bk ∧ rb < bk) := fun bk off z e => ⟨Nat.le_trans HB3.out.size (hLb bk off z e), Nat.lt_of_lt_of_le HRC.out.lt (hLb bk off z e)⟩
    clear hLr hLb
    have hba := hb.trans ((bel2 W4 (.cells #[.int .i64 (Wd : Int), .int .i64 (Hh : Int), .slice a' L.length c'] 69) (.cells #[.int .i64 lo.1, .int .i64 lo.2] 24)).mono hb.size)
    have HPB : Hid (Ob ((W4.alloc (.cells #[.int .i64 (Wd : Int), .int .i64 (Hh : Int), .slice a' L.length c'] 69)).alloc (.cells #[.int .i64 lo.1, .int .i64 lo.2] 24)) sb g tb W4.heap.size (ptnO (Wd : Int) (Hh : Int) (.slice a' L.length c'))) := (Ob.new (HS3.out.later hb) _ _).later (bel1 _ _)
    have HX5 := Lib.hid (HX3.out.later hba)
    have HRC5 := Lib.hid (HRC.out.later hba)
    have HRV5 := Lib.hid (HRV3.out.later hba)
    have HS5 := Lib.hid (HS3.out.later hba)
    have HN5 := Lib.hid (HN3.out.trans (Nx.of_below HS3.out hba))
    have hpb : w.heap.size + 1 + 1 + 1 < W4.heap.size ∧ rb < W4.heap.size := ⟨by have := HX3.out.lt; have := hb.size; omega, by have := HRC.out.lt; have := hb.size; omega⟩
    have HPL5 := Lib.hid hpb
    clear hpb
    clear HX3 HRC HRV3 HN3 HS3 hba
    clear q0 q1 q2 q3 q4 q5 q6
    obtain ⟨q0, q1, q2, q3, q4, q5, q6⟩ := ac_cells8 HX5.out.ac.at_
    obtain ⟨p0, p1⟩ := pl_cells HX5.out.pl.at_
    obtain ⟨t0, t1, t2⟩ := ptn_cells HPB.out.at_
    go_upto_region 18 with fail
    generalize (W4.alloc (.cells #[.int .i64 (Wd : Int), .int .i64 (Hh : Int), .slice a' L.length c'] 69)).alloc (.cells #[.int .i64 lo.1, .int .i64 lo.2] 24) = W5 at *
    generalize W4.heap.size = pb at *
    clear hb W4
    by_cases hrr' : rightR p q ((Wd : Int) + p) ((Hh : Int) + q) = true
    · have hrr := hrr'
      clear hrr'
      have HPS := Lib.hid (paste8_any HS5.out HPL.out.sq HPL.out.two (Wd : Int) (Hh : Int) (by omega) (by omega) L (by omega) hLin a' c' HLR.out p q hat hrr over)
      go_wp2_with fail
      refine HPS.out.mono ?_
      clear HPS
      rintro e W6 ⟨g6, M6, n6, hlow, hnx, hnew, hres⟩
      have hlen := paste_room hnx.wf HPL.out HT.out hlow.2.1 (by omega) hnew
      rcases hres with ⟨y, rfl, hc⟩ | ⟨rfl, hfull⟩
      case inr => exfalso; omega
      have HCON := Lib.hid hc
      have HLOW := Lib.hid hlow
      have hcnt := nx_cnt hnx (d := T.length + 1930) (by omega)
      have HX6 := Lib.hid (HX5.out.nx hnx)
      have HRC6 := Lib.hid (HRC5.out.nx hnx)
      have HPB6 := Lib.hid (HPB.out.nx hnx)
      have HRV6 := Lib.hid (HRV5.out.nx hnx)
      have HN6 := Lib.hid (HN5.out.trans hcnt)
      have HLR6 : Hid (Rk8 W6 a' L) := fun j c hj => by
        obtain ⟨bk, off, e1, e2, e3⟩ := HLR.out j c hj
        have hbk := HLB.out bk off none e1
        obtain ⟨l1, l2, l3⟩ := HS0.out.lt
        have hkk := hnx.frm.block bk (blk_lt e2) (by simp only [List.mem_cons, List.not_mem_nil, or_false]; omega)
        exact ⟨bk, off, e1, by rw [cell_blk8 hkk]; exact e2, by rw [cell_blk8 hkk]; exact e3⟩
      have hnb : w.heap.size + 1 + 1 + 1 < W6.heap.size := HX6.out.lt
      have hrn : rb < W6.heap.size := HRC6.out.lt
      obtain ⟨cap6, hS6⟩ := hnx.st
      clear hc hlow hnx hnew hcnt HX5 HRC5 HPB HRV5 HN5 HS5 HLR p0 p1 t0 t1 t2 q0 q1 q2 q3 q4 q5 q6
      have HNB : Hid ((W6.alloc (.cells #[.pointer (some ⟨sb, 0, none⟩), .int .u32 (y : Int)] 32)).heap[W6.heap.size]? = some (plO sb y)) := heap_alloc_new W6 _
      have HBN : Hid (Below W6.heap.size W6 (W6.alloc (.cells #[.pointer (some ⟨sb, 0, none⟩), .int .u32 (y : Int)] 32))) := bel1 W6 _
      have HX7 := Lib.hid (HX6.out.later HBN.out)
      have HRC7 := Lib.hid (HRC6.out.later HBN.out)
      have HPB7 := Lib.hid (HPB6.out.later HBN.out)
      have HRV7 := Lib.hid (HRV6.out.later HBN.out)
      have HLR7 := Lib.hid (HLR6.out.later HBN.out)
      have HS7 := Lib.hid (hS6.later HBN.out)
      have HN7 := Lib.hid (HN6.out.trans (Nx.of_below hS6 HBN.out))
      clear HX6 HRC6 HPB6 HRV6 HLR6 hS6 HN6 HBN
      obtain ⟨q0, q1, q2, q3, q4, q5, q6⟩ := ac_cells8 HX7.out.ac.at_
      go_upto_region 19 with fail
      generalize W6.alloc (.cells #[.pointer (some ⟨sb, 0, none⟩), .int .u32 (y : Int)] 32) = W7 at *
      generalize W6.heap.size = nb at *
      clear W6
      have HRA := Lib.hid (pright_any p q W7)
      rw [hat] at HRA
      go_wp2_with fail
      refine HRA.out.mono ?_
      rintro e W8 ⟨rfl, hb8⟩
      have HX8 := Lib.hid (HX7.out.later hb8)
      have HRC8 := Lib.hid (HRC7.out.later hb8)
      have HPB8 := Lib.hid (HPB7.out.later hb8)
      have HRV8 := Lib.hid (HRV7.out.later hb8)
      have HLR8 := Lib.hid (HLR7.out.later hb8)
      have HN8 := Lib.hid (HN7.out.trans (Nx.of_below HS7.out hb8))
      have HS8 := Lib.hid (HS7.out.later hb8)
      replace HNB : Hid (W8.heap[nb]? = some (plO sb y)) := keep8 HNB.out hb8
      clear HX7 HRC7 HPB7 HRV7 HLR7 HN7 HS7 hb8 HRA q0 q1 q2 q3 q4 q5 q6
      obtain ⟨q0, q1, q2, q3, q4, q5, q6⟩ := ac_cells8 HX8.out.ac.at_
      obtain ⟨t0, t1, t2⟩ := ptn_cells HPB8.out.at_
      have HRE := Lib.hid (rect8_any p q (Wd : Int) (Hh : Int) (by unfold I64; omega) (by unfold I64; omega) W8)
      go_wp2_with fail
      refine HRE.out.mono ?_
      rintro e W9 ⟨rfl, hb9⟩
      have HX9 := Lib.hid (HX8.out.later hb9)
      have HRC9 := Lib.hid (HRC8.out.later hb9)
      have HPB9 := Lib.hid (HPB8.out.later hb9)
      have HRV9 := Lib.hid (HRV8.out.later hb9)
      have HLR9 := Lib.hid (HLR8.out.later hb9)
      have HN9 := Lib.hid (HN8.out.trans (Nx.of_below HS8.out hb9))
      replace HNB : Hid (W9.heap[nb]? = some (plO sb y)) := keep8 HNB.out hb9
      clear HX8 HRC8 HPB8 HRV8 HLR8 HN8 HS8 hb9 HRE q0 q1 q2 q3 q4 q5 q6 t0 t1 t2
      obtain ⟨c0, c1, c2, c3⟩ := rc_cells8 HRC9.out.at_
      have z0 := Lib.frozen_of_heap HRC9.out.at_ 0
      have z1 := Lib.frozen_of_heap HRC9.out.at_ 1
      have z2 := Lib.frozen_of_heap HRC9.out.at_ 2
      have z3 := Lib.frozen_of_heap HRC9.out.at_ 3
      go_upto_region 24 with fail
      have HX10 := Lib.hid ((((HX9.out.set (i := 0) HRB.out (.int .i64 p)).set (i := 1) HRB.out (.int .i64 q)).set (i := 2) HRB.out (.int .i64 (p + (Wd : Int)))).set (i := 3) HRB.out (.int .i64 (q + (Hh : Int))))
      have HRV10 := Lib.hid ((((HRV9.out.other (i := 0) HRN.out (.int .i64 p)).other (i := 1) HRN.out (.int .i64 q)).other (i := 2) HRN.out (.int .i64 (p + (Wd : Int)))).other (i := 3) HRN.out (.int .i64 (q + (Hh : Int))))
      have hwrb : w.heap.size ≤ rb := by have := HRB.out; omega
      have HN10 := Lib.hid (nx_four HN9.out HRC9.out hwrb p q (p + (Wd : Int)) (q + (Hh : Int)))
      have HRC10 := Lib.hid (rc_put8 HRC9.out.at_ ⟨p, q, p + (Wd : Int), q + (Hh : Int)⟩)
      have hne : nb ≠ rb := by omega
      have hnp : pb ≠ rb := by have := HPL5.out.2; omega
      have HNB10 : Hid ((((((W9.setCell ⟨rb, 0, none⟩ (.int .i64 p)).setCell ⟨rb, 1, none⟩ (.int .i64 q)).setCell ⟨rb, 2, none⟩ (.int .i64 (p + (Wd : Int)))).setCell ⟨rb, 3, none⟩ (.int .i64 (q + (Hh : Int))))).heap[nb]? = some (plO sb y)) := by
        show _ = _
        rw [Below.heap_setCell _ _ _ _ hne, Below.heap_setCell _ _ _ _ hne, Below.heap_setCell _ _ _ _ hne, Below.heap_setCell _ _ _ _ hne]; exact HNB.out
      have HPB10 : Hid ((((((W9.setCell ⟨rb, 0, none⟩ (.int .i64 p)).setCell ⟨rb, 1, none⟩ (.int .i64 q)).setCell ⟨rb, 2, none⟩ (.int .i64 (p + (Wd : Int)))).setCell ⟨rb, 3, none⟩ (.int .i64 (q + (Hh : Int))))).heap[pb]? = some (ptnO (Wd : Int) (Hh : Int) (.slice a' L.length c'))) := by
        show _ = _
        rw [Below.heap_setCell _ _ _ _ hnp, Below.heap_setCell _ _ _ _ hnp, Below.heap_setCell _ _ _ _ hnp, Below.heap_setCell _ _ _ _ hnp]; exact HPB9.out.at_
      have HLR10 : Hid (Rk8 ((((W9.setCell ⟨rb, 0, none⟩ (.int .i64 p)).setCell ⟨rb, 1, none⟩ (.int .i64 q)).setCell ⟨rb, 2, none⟩ (.int .i64 (p + (Wd : Int)))).setCell ⟨rb, 3, none⟩ (.int .i64 (q + (Hh : Int)))) a' L) := fun j c hj => by
        obtain ⟨bk, off, e1, e2, e3⟩ := HLR9.out j c hj
        have hbk : bk ≠ rb := by have := (HLB.out bk off none e1).2; omega
        refine ⟨bk, off, e1, ?_, ?_⟩
        · rw [cell_blk8 (w := W9) (by rw [Below.heap_setCell _ _ _ _ hbk, Below.heap_setCell _ _ _ _ hbk, Below.heap_setCell _ _ _ _ hbk, Below.heap_setCell _ _ _ _ hbk])]; exact e2
        · rw [cell_blk8 (w := W9) (by rw [Below.heap_setCell _ _ _ _ hbk, Below.heap_setCell _ _ _ _ hbk, Below.heap_setCell _ _ _ _ hbk, Below.heap_setCell _ _ _ _ hbk])]; exact e3
      clear HX9 HRV9 HN9 HRC9 HNB HPB9 HLR9 c0 c1 c2 c3 z0 z1 z2 z3 hne hnp hwrb
      generalize (((W9.setCell ⟨rb, 0, none⟩ (.int .i64 p)).setCell ⟨rb, 1, none⟩ (.int .i64 q)).setCell ⟨rb, 2, none⟩ (.int .i64 (p + (Wd : Int)))).setCell ⟨rb, 3, none⟩ (.int .i64 (q + (Hh : Int))) = W10 at *
      obtain ⟨cap10, hS10⟩ := HN10.out.st
      have HRR := Lib.hid (rectRight_any p q (p + (Wd : Int)) (q + (Hh : Int)) (by omega) (by omega) (by omega) (by omega) W10)
      rw [Int.add_comm p, Int.add_comm q, hrr, ← Int.add_comm p, ← Int.add_comm q] at HRR
      obtain ⟨c0, c1, c2, c3⟩ := rc_cells8 HRC10.out
      go_wp2_with fail
      refine HRR.out.mono ?_
      rintro e W11 ⟨rfl, hb11⟩
      have HX11 := Lib.hid (HX10.out.later hb11)
      have HRC11 : Hid (W11.heap[rb]? = some (rcO8 ⟨p, q, p + (Wd : Int), q + (Hh : Int)⟩)) := keep8 HRC10.out hb11
      have HRV11 := Lib.hid (HRV10.out.later hb11)
      have HN11 := Lib.hid (HN10.out.trans (Nx.of_below hS10 hb11))
      have HS11 := Lib.hid (hS10.later hb11)
      have HNB11 : Hid (W11.heap[nb]? = some (plO sb y)) := keep8 HNB10.out hb11
      have HPB11 : Hid (W11.heap[pb]? = some (ptnO (Wd : Int) (Hh : Int) (.slice a' L.length c'))) := keep8 HPB10.out hb11
      have HLR11 := Lib.hid (HLR10.out.later hb11)
      clear HX10 HRV10 HN10 HRC10 HNB10 HPB10 HLR10 hb11 hS10 HRR c0 c1 c2 c3
      obtain ⟨q0, q1, q2, q3, q4, q5, q6⟩ := ac_cells8 HX11.out.ac.at_
      obtain ⟨t0, t1, t2⟩ := ptn_cells HPB11.out
      have HCON11 := HCON
      have HAL : Hid (∀ bk off, a = some ⟨bk, off, none⟩ → bk < w.heap.size) := fun bk off e => (HRV.out.2 bk off e).2.2.2
      have HL11 : Hid (Lst w W11 sb g6 tb a (.slice a l.length cap') l) := ⟨a, cap', rfl, HRV11.out, Or.inl rfl⟩
      have HLB2 : Hid (∀ bk off z, a' = some ⟨bk, off, z⟩ → w.heap.size + 1 + 1 + 1 < bk) := fun bk off z e => Nat.lt_trans HRB.out (HLB.out bk off z e).2
      cases over with
      | true =>
        clear HRV11
        go_wp2_with fail
        go_loopg [25, 220] L.length (fun m v25 cnt wr => ∃ (j : Nat) (v : Value), m = L.length - j ∧ j ≤ L.length ∧ cnt = .int .i64 (j : Int) ∧ S8x wr sb g6 tb w.heap.size x (acO8 k p q W H (.slice ca cs.length cc) true) v ∧ Lst w wr sb g6 tb a v (setA l ((mvL L p q).take j) true) ∧ Nx sb tb most w g M (T.length + 1930) wr g6 M6 ∧ wr.heap[nb]? = some (plO sb y) ∧ Rk8 wr a' L)
        case atStart => exact ⟨0, _, rfl, Nat.zero_le _, rfl, HX11.out, HL11.out, HN11.out.mono (by omega), HNB11.out, HLR11.out⟩
        case round =>
          clear HX11 HL11 HN11 HNB11 HLR11 HS11 HRC11 HPB11 q0 q1 q2 q3 q4 q5 q6 t0 t1 t2
          obtain ⟨j, v, hm, hj, rfl, hx, hls, hn, hnbk, hlr⟩ := hrel
          have HM := Lib.hid hm
          have HXr := Lib.hid hx
          have HLr := Lib.hid hls
          have HNr := Lib.hid hn
          have HNBr := Lib.hid hnbk
          have HLRr := Lib.hid hlr
          clear hm hx hls hn hnbk hlr
          by_cases hlt : j < L.length
          · have hgj : decide ((j : Int) < (L.length : Int)) = true := by simp; omega
            obtain ⟨c, hc⟩ : ∃ c, L[j]? = some c := ⟨L[j], List.getElem?_eq_getElem hlt⟩
            obtain ⟨bk, off, e1, d0, d1⟩ := HLRr.out j c hc
            have hcin := hLin c (List.mem_of_getElem? hc)
            have HTK : Hid ((mvL L p q).take (j + 1) = (mvL L p q).take j ++ [(p + c.1, q + c.2)]) := by
              show _ = _
              rw [List.take_add_one]
              unfold mvL
              rw [List.getElem?_map, hc, Int.add_comm p, Int.add_comm q]
              rfl
            obtain ⟨a0, c0, rfl, hrv0, hor0⟩ := HLr.out
            have HRV0 := Lib.hid hrv0
            have hlen0 := setA_len true ((mvL L p q).take j) l
            have hlen1 : ((mvL L p q).take j).length ≤ 30 := by
              have : (mvL L p q).length = L.length := by unfold mvL; rw [List.length_map]
              rw [List.length_take]; omega
            have hset : (setA l ((mvL L p q).take j) true).length ≤ 1000000 := by omega
            clear hlen0 hlen1 hrv0 hor0 hc
            subst e1
            obtain ⟨capr, hSr⟩ := HNr.out.st
            have HSr := Lib.hid hSr
            clear hSr
            have i1 : (0 : Int) ≤ (j : Int) := by omega
            have i2 : (j : Int) < (L.length : Int) := by omega
            have HB12 : Hid (Below wr.heap.size wr (wr.alloc (.cells #[.int .i64 c.1, .int .i64 c.2] 24))) := bel1 wr _
            have HPT : Hid ((wr.alloc (.cells #[.int .i64 c.1, .int .i64 c.2] 24)).heap[wr.heap.size]? = some (ptO c.1 c.2)) := heap_alloc_new wr _
            have HX12 := Lib.hid (HXr.out.later HB12.out)
            have HRV12 := Lib.hid (HRV0.out.later HB12.out)
            have HN12 : Hid (Nx sb tb most w g M (T.length + 1930) (wr.alloc (.cells #[.int .i64 c.1, .int .i64 c.2] 24)) g6 M6) := (HNr.out.trans (Nx.of_below HSr.out HB12.out)).mono (by omega)
            have HNB12 : Hid ((wr.alloc (.cells #[.int .i64 c.1, .int .i64 c.2] 24)).heap[nb]? = some (plO sb y)) := keep8 HNBr.out HB12.out
            have HLR12 := Lib.hid (HLRr.out.later HB12.out)
            have HS12 := Lib.hid (HSr.out.later HB12.out)
            have hwr : w.heap.size + 1 + 1 + 1 < wr.heap.size := HXr.out.lt
            go_upto_region 38 with fail
            clear d0 d1 i1 i2 hgj HXr HLr HNr HNBr HLRr HSr HRV0 HB12
            generalize wr.alloc (.cells #[.int .i64 c.1, .int .i64 c.2] 24) = W12 at *
            generalize wr.heap.size = qb at *
            clear wr
            have x1 : IntKind.i64.wrap (p + c.1) = p + c.1 := IntWalk.i64_in _ (by omega)
            have x2 : IntKind.i64.wrap (q + c.2) = q + c.2 := IntWalk.i64_in _ (by omega)
            refine region_sq 16 (fun W => Below W12.heap.size W12 W) [(0, 2), (1, 1), (2, 1), (3, 2), (4, 1), (5, 2), (6, 1), (7, 1), (8, 1), (9, 2), (10, 1), (11, 2), (12, 1), (13, 1), (14, 0), (15, 0), (16, 3)] (by kernel_rfl) (by kernel_rfl) rfl (by intro c a d v w h; cases d <;> exact h) (by kernel_rfl) (below_drewN8 (Below.refl _ W12) 1) ?_
            refine ⟨_, ?_, rfl, by rfl, ?_, ?_⟩
            rotate_left
            · intro W hW
              have ya := ac_cells8 (HX12.out.later hW).ac.at_
              obtain ⟨y0, y1, y2, y3, y4, y5, y6⟩ := ya
              have za := lb_cell (HX12.out.later hW).lb.at_
              obtain ⟨z0, _⟩ := za
              have ua := pt_cells (keep8 HPT.out hW)
              obtain ⟨u0, u1⟩ := ua
              go_simp; first | done | rfl
            conv => arg 6; simp only [Act.put, List.setIfInBounds_toArray, List.set_cons_zero, List.set_cons_succ]
            refine ⟨_, ?_, rfl, by rfl, ?_, ?_⟩
            rotate_left
            · intro W; go_simp; first | done | rfl
            conv => arg 6; simp only [Act.put, List.setIfInBounds_toArray, List.set_cons_zero, List.set_cons_succ]
            refine ⟨_, ?_, rfl, by rfl, ?_, ?_⟩
            rotate_left
            · intro W; go_simp; first | done | rfl
            conv => arg 6; simp only [Act.put, List.setIfInBounds_toArray, List.set_cons_zero, List.set_cons_succ]
            refine ⟨_, ?_, rfl, by rfl, ?_, ?_⟩
            rotate_left
            · intro W hW
              have ya := ac_cells8 (HX12.out.later hW).ac.at_
              obtain ⟨y0, y1, y2, y3, y4, y5, y6⟩ := ya
              have za := lb_cell (HX12.out.later hW).lb.at_
              obtain ⟨z0, _⟩ := za
              have ua := pt_cells (keep8 HPT.out hW)
              obtain ⟨u0, u1⟩ := ua
              go_simp; first | done | rfl
            conv => arg 6; simp only [Act.put, List.setIfInBounds_toArray, List.set_cons_zero, List.set_cons_succ]
            refine ⟨_, ?_, rfl, by rfl, ?_, ?_⟩
            rotate_left
            · intro W; go_simp; first | done | rfl
            conv => arg 6; simp only [Act.put, List.setIfInBounds_toArray, List.set_cons_zero, List.set_cons_succ]
            refine ⟨_, ?_, rfl, by rfl, ?_, ?_⟩
            rotate_left
            · intro W hW
              have ya := ac_cells8 (HX12.out.later hW).ac.at_
              obtain ⟨y0, y1, y2, y3, y4, y5, y6⟩ := ya
              have za := lb_cell (HX12.out.later hW).lb.at_
              obtain ⟨z0, _⟩ := za
              have ua := pt_cells (keep8 HPT.out hW)
              obtain ⟨u0, u1⟩ := ua
              go_simp; first | done | rfl
            conv => arg 6; simp only [Act.put, List.setIfInBounds_toArray, List.set_cons_zero, List.set_cons_succ]
            refine ⟨_, ?_, rfl, by rfl, ?_, ?_⟩
            rotate_left
            · intro W; go_simp; first | done | rfl
            conv => arg 6; simp only [Act.put, List.setIfInBounds_toArray, List.set_cons_zero, List.set_cons_succ]
            refine ⟨_, ?_, rfl, by rfl, ?_, ?_⟩
            rotate_left
            · intro W; go_simp; first | done | rfl
            conv => arg 6; simp only [Act.put, List.setIfInBounds_toArray, List.set_cons_zero, List.set_cons_succ]
            refine ⟨_, ?_, rfl, by rfl, ?_, ?_⟩
            rotate_left
            · intro W; go_simp; first | done | rfl
            conv => arg 6; simp only [Act.put, List.setIfInBounds_toArray, List.set_cons_zero, List.set_cons_succ]
            refine ⟨_, ?_, rfl, by rfl, ?_, ?_⟩
            rotate_left
            · intro W hW
              have ya := ac_cells8 (HX12.out.later hW).ac.at_
              obtain ⟨y0, y1, y2, y3, y4, y5, y6⟩ := ya
              have za := lb_cell (HX12.out.later hW).lb.at_
              obtain ⟨z0, _⟩ := za
              have ua := pt_cells (keep8 HPT.out hW)
              obtain ⟨u0, u1⟩ := ua
              go_simp; first | done | rfl
            conv => arg 6; simp only [Act.put, List.setIfInBounds_toArray, List.set_cons_zero, List.set_cons_succ]
            refine ⟨_, ?_, rfl, by rfl, ?_, ?_⟩
            rotate_left
            · intro W; go_simp; first | done | rfl
            conv => arg 6; simp only [Act.put, List.setIfInBounds_toArray, List.set_cons_zero, List.set_cons_succ]
            refine ⟨_, ?_, rfl, by rfl, ?_, ?_⟩
            rotate_left
            · intro W hW
              have ya := ac_cells8 (HX12.out.later hW).ac.at_
              obtain ⟨y0, y1, y2, y3, y4, y5, y6⟩ := ya
              have za := lb_cell (HX12.out.later hW).lb.at_
              obtain ⟨z0, _⟩ := za
              have ua := pt_cells (keep8 HPT.out hW)
              obtain ⟨u0, u1⟩ := ua
              go_simp; first | done | rfl
            conv => arg 6; simp only [Act.put, List.setIfInBounds_toArray, List.set_cons_zero, List.set_cons_succ]
            refine ⟨_, ?_, rfl, by rfl, ?_, ?_⟩
            rotate_left
            · intro W; go_simp; first | done | rfl
            conv => arg 6; simp only [Act.put, List.setIfInBounds_toArray, List.set_cons_zero, List.set_cons_succ]
            refine ⟨_, ?_, rfl, by rfl, ?_, ?_⟩
            rotate_left
            · intro W; go_simp; first | done | rfl
            conv => arg 6; simp only [Act.put, List.setIfInBounds_toArray, List.set_cons_zero, List.set_cons_succ]
            refine ⟨_, rfl, by rfl, fun K hK => ?_⟩
            go_simp
            refine (of8_law (p + c.1) (q + c.2) _).mono ?_
            rintro e w6 ⟨rfl, hb6⟩
            have HB6 : Hid (Below W12.heap.size W12 w6) := ⟨hb6.os, hb6.tape, hb6.output, hb6.size, hb6.block⟩
            clear hb6
            refine hK _ _ HB6.out ?_
            clear hK K
            conv => arg 6; simp only [Act.put, List.setIfInBounds_toArray, List.set_cons_zero, List.set_cons_succ]
            refine ⟨_, rfl, by rfl, fun K hK => ?_⟩
            go_simp
            refine (set_refB (setA l ((mvL L p q).take j) true) a0 c0 (p + c.1) (q + c.2) true _ (HRV12.out.1.later HB6.out) hset).mono ?_
            rintro e w8 ⟨v8, rfl, ho, hb8⟩
            obtain ⟨a8, c8, hv8, _, _⟩ := ho.ro
            subst hv8
            have HO8 := Lib.hid (OwP.mono ho HB6.out.size)
            have HB8 := Lib.hid (HB6.out.trans (hb8.mono HB6.out.size))
            clear ho hb8
            refine hK _ _ HB8.out ?_
            clear hK K
            conv => arg 6; simp only [Act.put, List.setIfInBounds_toArray, List.set_cons_zero, List.set_cons_succ]
            refine ⟨_, rfl, by rfl, fun K hK => ?_⟩
            have zb := lb_cell (HX12.out.later HB8.out).lb.at_
            obtain ⟨z0, z1⟩ := zb
            go_simp
            refine hK _ _ ?_
            clear hK K
            conv => arg 6; simp only [Act.put, List.setIfInBounds_toArray, List.set_cons_zero, List.set_cons_succ]
            unfold wpSq
            have hownr : OwP w8 W12.heap.size (.slice a8 (setL (setA l ((mvL L p q).take j) true) (p + c.1, q + c.2) true).length c8) (setA l ((mvL L p q).take (j + 1)) true) := by
              rw [HTK.out, setA_snoc]; exact HO8.out
            have hlt6 := HS12.out.lt
            have hszw := HX12.out.lt
            have hlst : Lst w w8 sb g6 tb a (.slice a8 (setL (setA l ((mvL L p q).take j) true) (p + c.1, q + c.2) true).length c8) (setA l ((mvL L p q).take (j + 1)) true) := lst_own hownr ⟨by omega, by omega, by omega, by omega⟩
            have HLF := Lib.hid (hlst.low (b := w.heap.size + 1) (i := 0) HAL.out ⟨by omega, by omega⟩ (.slice a8 (setL (setA l ((mvL L p q).take j) true) (p + c.1, q + c.2) true).length c8))
            have HXF := Lib.hid ((HX12.out.later HB8.out).lbput (.slice a8 (setL (setA l ((mvL L p q).take j) true) (p + c.1, q + c.2) true).length c8))
            have HNF := Lib.hid ((HN12.out.trans (Nx.of_below HS12.out HB8.out)).set (i := 0) (HX12.out.later HB8.out).lb (by omega) (.slice a8 (setL (setA l ((mvL L p q).take j) true) (p + c.1, q + c.2) true).length c8))
            have HBF : Hid ((w8.setCell ⟨w.heap.size + 1, 0, none⟩ (.slice a8 (setL (setA l ((mvL L p q).take j) true) (p + c.1, q + c.2) true).length c8)).heap[nb]? = some (plO sb y)) := by
              show _ = _
              rw [Below.heap_setCell _ _ _ _ (by show nb ≠ w.heap.size + 1; omega)]; exact keep8 HNB12.out HB8.out
            have HRF : Hid (Rk8 (w8.setCell ⟨w.heap.size + 1, 0, none⟩ (.slice a8 (setL (setA l ((mvL L p q).take j) true) (p + c.1, q + c.2) true).length c8)) (some ⟨bk, off, none⟩) L) := fun j2 c2 hj2 => by
              obtain ⟨bk2, off2, e1, e2, e3⟩ := HLR12.out.later HB8.out j2 c2 hj2
              have hbk := HLB2.out bk2 off2 none e1
              exact ⟨bk2, off2, e1, by rw [cell_blk8 (w := w8) (Below.heap_setCell _ _ _ _ (by show bk2 ≠ w.heap.size + 1; omega))]; exact e2, by rw [cell_blk8 (w := w8) (Below.heap_setCell _ _ _ _ (by show bk2 ≠ w.heap.size + 1; omega))]; exact e3⟩
            clear hownr hlt6 hszw hlst
            go_wp2_with fail
            go_roundg (L.length - (j + 1))
            case measure => rw [HM.out]; omega
            case rel =>
              exact ⟨j + 1, _, rfl, hlt, by go_num, HXF.out, HLF.out, HNF.out.mono (by omega), HBF.out, HRF.out⟩
          · obtain rfl : j = L.length := by omega
            have hgj : decide ((L.length : Int) < (L.length : Int)) = false := by simp
            obtain ⟨LL, hLL⟩ : ∃ LL, LL = setA l ((mvL L p q).take L.length) true := ⟨_, rfl⟩
            rw [← hLL] at HLr
            have HLL := Lib.hid hLL
            clear hLL
            obtain ⟨a0, c0, rfl, hrv0, hor0⟩ := HLr.out
            have HRV0 := Lib.hid hrv0
            have HOR0 := Lib.hid hor0
            clear hrv0 hor0
            have hwr : w.heap.size + 1 + 1 + 1 < wr.heap.size := HXr.out.lt
            go_wp2_with fail
            refine region_sq 6 (fun W => W.heap[nb]? = some (plO sb y) ∧ W.heap[w.heap.size + 1]? = some (lbO (.slice a0 LL.length c0))) [(0, 2), (1, 2), (2, 1), (3, 1), (4, 0), (5, 0), (6, 3)] (by kernel_rfl) (by kernel_rfl) rfl (by intro c a d v w h; cases d <;> exact h) (by kernel_rfl) ⟨HNBr.out, HXr.out.lb.at_⟩ ?_
            refine ⟨_, ?_, rfl, by rfl, ?_, ?_⟩
            rotate_left
            · intro W hW
              have z := pl_cells hW.1
              obtain ⟨z0, z1⟩ := z
              have y := lb_cell hW.2
              obtain ⟨y0, _⟩ := y
              go_simp; first | done | rfl
            conv => arg 6; simp only [Act.put, List.setIfInBounds_toArray, List.set_cons_zero, List.set_cons_succ]
            refine ⟨_, ?_, rfl, by rfl, ?_, ?_⟩
            rotate_left
            · intro W hW
              have z := pl_cells hW.1
              obtain ⟨z0, z1⟩ := z
              have y := lb_cell hW.2
              obtain ⟨y0, _⟩ := y
              go_simp; first | done | rfl
            conv => arg 6; simp only [Act.put, List.setIfInBounds_toArray, List.set_cons_zero, List.set_cons_succ]
            refine ⟨_, ?_, rfl, by rfl, ?_, ?_⟩
            rotate_left
            · intro W; go_simp; first | done | rfl
            conv => arg 6; simp only [Act.put, List.setIfInBounds_toArray, List.set_cons_zero, List.set_cons_succ]
            refine ⟨_, ?_, rfl, by rfl, ?_, ?_⟩
            rotate_left
            · intro W; go_simp; first | done | rfl
            conv => arg 6; simp only [Act.put, List.setIfInBounds_toArray, List.set_cons_zero, List.set_cons_succ]
            refine ⟨_, rfl, by rfl, fun K hK => ?_⟩
            have y := res_cells HXr.out.res.at_
            obtain ⟨y0, y1, y2, y3⟩ := y
            go_simp
            have HDX : Hid (((wr.setCell ⟨w.heap.size + 1 + 1 + 1, 0, none⟩ (.pointer (some ⟨sb, 0, none⟩))).setCell ⟨w.heap.size + 1 + 1 + 1, 1, none⟩ (.int .u32 (y : Int))).drew.heap[nb]? = some (plO sb y) ∧ ((wr.setCell ⟨w.heap.size + 1 + 1 + 1, 0, none⟩ (.pointer (some ⟨sb, 0, none⟩))).setCell ⟨w.heap.size + 1 + 1 + 1, 1, none⟩ (.int .u32 (y : Int))).drew.heap[w.heap.size + 1]? = some (lbO (.slice a0 LL.length c0))) := by
              constructor
              · show ((wr.setCell _ _).setCell _ _).heap[nb]? = _
                rw [Below.heap_setCell _ _ _ _ (by show nb ≠ w.heap.size + 1 + 1 + 1; omega), Below.heap_setCell _ _ _ _ (by show nb ≠ w.heap.size + 1 + 1 + 1; omega)]; exact HNBr.out
              · show ((wr.setCell _ _).setCell _ _).heap[w.heap.size + 1]? = _
                rw [Below.heap_setCell _ _ _ _ (by show w.heap.size + 1 ≠ w.heap.size + 1 + 1 + 1; omega), Below.heap_setCell _ _ _ _ (by show w.heap.size + 1 ≠ w.heap.size + 1 + 1 + 1; omega)]; exact HXr.out.lb.at_
            refine hK _ _ HDX.out ?_
            clear hK K y0 y1 y2 y3
            conv => arg 6; simp only [Act.put, List.setIfInBounds_toArray, List.set_cons_zero, List.set_cons_succ]
            refine ⟨_, rfl, by rfl, fun K hK => ?_⟩
            go_simp
            refine hK _ _ HDX.out ?_
            clear hK K
            conv => arg 6; simp only [Act.put, List.setIfInBounds_toArray, List.set_cons_zero, List.set_cons_succ]
            refine ⟨_, rfl, by rfl, fun K hK => ?_⟩
            go_simp
            refine hK _ _ ?_
            clear hK K
            conv => arg 6; simp only [Act.put, List.setIfInBounds_toArray, List.set_cons_zero, List.set_cons_succ]
            unfold wpSq
            obtain ⟨Wf, hWf, hNf, hOf, s0, s1⟩ := put_pl HNr.out HXr.out.res (by omega) (.pointer (some ⟨sb, 0, none⟩)) (.int .u32 (y : Int))
            have hne0 : ∀ off, a0 ≠ some ⟨w.heap.size + 1 + 1 + 1, off, none⟩ := fun off e => by
              rcases HOR0.out with e' | h3
              · have := HAL.out _ off (e' ▸ e); omega
              · have := h3 _ off e; omega
            have hrvf : Rv8 Wf sb g6 tb a0 LL := by
              rw [← hWf]
              exact (HRV0.out.other hne0 _).other hne0 _
            have hmlen : (mvL L p q).length = L.length := by unfold mvL; rw [List.length_map]
            have htk : (mvL L p q).take L.length = mvL L p q := List.take_of_length_le (by omega)
            have hmm : ∀ u z, (u, z) ∈ LL ↔ ((u, z) ∈ mvL L p q ∨ ((u, z) ∈ l ∧ (true = true ∨ (R4.mk p q ((Wd : Int) + p) ((Hh : Int) + q)).has u z = false))) := fun u z => by
              rw [HLL.out, htk, setA_mem]
              by_cases e : (u, z) ∈ mvL L p q
              · simp [e]
              · simp [e]
            have hplf : Pl8 M6 n6 y LL := paste_pl8 (over := true) HPL.out HLOW.out.1 HLOW.out.2.2.1 hrr (fun u z hu => by
              have := hLin _ (mvL_mem.1 hu)
              rw [R4.has_iff]
              simp only at this ⊢
              omega) HCON.out (by rw [HLL.out]; exact setA_nodup true _ _ HPL.out.nd) hmm
            have hln : LL.length ≤ l.length + 30 := by
              rw [HLL.out, htk]
              have := setA_len true (mvL L p q) l
              omega
            rw [hWf]
            go_wp2_with fail
            refine bodyPost_ret (pl_ret3 (i := 6) (j := 7) (k := 8) rfl rfl rfl rfl hOf.at_) rfl ?_
            refine ⟨g6, M6, n6, y, LL, a0, c0, T ++ cellT (mvL L p q), rfl, nx_drew8 (hNf.mono (by omega)), hplf, hrvf.drew, ?_, by omega, ?_, cov_paste HT.out fun u z hu => ?_⟩
            · rcases HOR0.out with e' | h3
              · exact Or.inl e'
              · exact Or.inr fun bk off e => by have := h3 bk off e; omega
            · rw [List.length_append, cellT_len]; omega
            · rcases (hmm u z).1 hu with e | e
              · exact Or.inl e
              · exact Or.inr e.1
      | false =>
        obtain ⟨i0, hi, hz0, hz1, hz2⟩ := infoP7
        have HI := Lib.hid hi
        have HZ0 := Lib.hid hz0
        have HZ1 := Lib.hid hz1
        have HZ2 := Lib.hid hz2
        clear hi hz0 hz1 hz2
        have zl := lb_cell HX11.out.lb.at_
        obtain ⟨zl0, _⟩ := zl
        go_wp2_with fail
        go_loopg [21, 23, 199] l.length (fun m v v23 cnt wr => ∃ j : Nat, m = l.length - j ∧ j ≤ l.length ∧ cnt = .int .i64 (j : Int) ∧ OwP wr W11.heap.size v ((l.take j).filter fun c => !((R4.mk p q ((Wd : Int) + p) ((Hh : Int) + q)).has c.1 c.2)) ∧ Below W11.heap.size W11 wr)
        case atStart => exact ⟨0, rfl, Nat.zero_le _, rfl, own_nil _ _, Below.refl _ _⟩
        case round =>
          obtain ⟨j, hm, hj, rfl, ho, hb⟩ := hrel
          have HM := Lib.hid hm
          have HO := Lib.hid ho
          have HB1 := Lib.hid hb
          have HR1 := Lib.hid (HRV11.out.1.later hb)
          have HX1 := Lib.hid (HX11.out.later hb)
          have HRC1 : Hid (wr.heap[rb]? = some (rcO8 ⟨p, q, p + (Wd : Int), q + (Hh : Int)⟩)) := keep8 HRC11.out hb
          clear hm ho hb
          by_cases hlt : j < l.length
          · obtain ⟨c, hc⟩ : ∃ c, l[j]? = some c := ⟨l[j], List.getElem?_eq_getElem hlt⟩
            obtain ⟨bk, ha, d0, d1⟩ := HR1.out j c hc
            have hgj : decide ((j : Int) < (l.length : Int)) = true := by simp; omega
            have i1 : (0 : Int) ≤ (j : Int) := by omega
            have i2 : (j : Int) < (l.length : Int) := by omega
            have HTK : Hid (l.take (j + 1) = l.take j ++ [c]) := by show _ = _; rw [List.take_add_one, hc]; rfl
            clear hc
            subst ha
            have HB12 : Hid (Below wr.heap.size wr (wr.alloc (.cells #[.int .i64 c.1, .int .i64 c.2] 45))) := bel1 wr _
            have HPT : Hid ((wr.alloc (.cells #[.int .i64 c.1, .int .i64 c.2] 45)).heap[wr.heap.size]? = some (ptO7 c.1 c.2)) := heap_alloc_new wr _
            have HRC2 : Hid ((wr.alloc (.cells #[.int .i64 c.1, .int .i64 c.2] 45)).heap[rb]? = some (rcO8 ⟨p, q, p + (Wd : Int), q + (Hh : Int)⟩) ) := keep8 HRC1.out HB12.out
            obtain ⟨c0, c1, c2, c3⟩ := rc_cells8 HRC2.out
            obtain ⟨u0, u1⟩ := pt_cells7 HPT.out
            have HHS := Lib.hid (fun W => has_any p q (p + (Wd : Int)) (q + (Hh : Int)) c.1 c.2 W)
            have hhs : (decide (p ≤ c.1) && decide (c.1 < p + (Wd : Int)) && decide (q ≤ c.2) && decide (c.2 < q + (Hh : Int))) = (R4.mk p q ((Wd : Int) + p) ((Hh : Int) + q)).has c.1 c.2 := by
              rw [Bool.eq_iff_iff, R4.has_iff]
              simp
              omega
            rw [hhs] at HHS
            go_wp2_with fail
            refine (HHS.out _).mono ?_
            rintro e w2 ⟨rfl, hb2⟩
            have HB2 := Lib.hid (HB12.out.trans (hb2.mono HB12.out.size))
            have HP2 : Hid (w2.heap[wr.heap.size]? = some (ptO7 c.1 c.2)) := keep8 HPT.out hb2
            have HO2 := Lib.hid (owp_later8 HO.out HB2.out)
            have hBB := HB1.out.trans (HB2.out.mono HB1.out.size)
            clear hb2 HB12 HPT HRC2 HO HHS c0 c1 c2 c3 u0 u1 d0 d1
            obtain ⟨u0, u1⟩ := pt_cells7 HP2.out
            cases hin : (R4.mk p q ((Wd : Int) + p) ((Hh : Int) + q)).has c.1 c.2 with
            | true =>
              go_wp2_with fail
              go_roundg (l.length - (j + 1))
              case measure => rw [HM.out]; omega
              case rel =>
                refine ⟨j + 1, rfl, hlt, by go_num, ?_, hBB⟩
                rw [HTK.out, List.filter_append, show List.filter (fun c => !((R4.mk p q ((Wd : Int) + p) ((Hh : Int) + q)).has c.1 c.2)) [c] = [] by simp [hin], List.append_nil]
                exact HO2.out
            | false =>
              have HFL : Hid ((l.take (j + 1)).filter (fun c => !((R4.mk p q ((Wd : Int) + p) ((Hh : Int) + q)).has c.1 c.2)) = (l.take j).filter (fun c => !((R4.mk p q ((Wd : Int) + p) ((Hh : Int) + q)).has c.1 c.2)) ++ [c]) := by
                show _ = _
                rw [HTK.out, List.filter_append]
                simp [hin]
              have hfl : ((l.take j).filter (fun c => !((R4.mk p q ((Wd : Int) + p) ((Hh : Int) + q)).has c.1 c.2))).length ≤ 1000000 := Nat.le_trans (List.length_filter_le _ _) (by rw [List.length_take]; omega)
              generalize (l.take j).filter (fun c => !((R4.mk p q ((Wd : Int) + p) ((Hh : Int) + q)).has c.1 c.2)) = F at *
              have hsz2 := hBB.size
              go_wp2_with (at_builtin; refine wpList_append_own _ rfl _ _ 35 rfl W11.heap.size 45 i0 (.agg #[.int .i64 0, .int .i64 0]) 2 16 Tryz.underlying35 HI.out HZ0.out HZ1.out HZ2.out rfl (by decide) _ _ _ rfl (World.ownsRow.alloc HO2.out _) ⟨w2.heap.size, 0, none⟩ 1 1 [.int .i64 c.1, .int .i64 c.2] rfl rfl ?_ ?_ ?_ ?_ ?_ ?_; (exact cell_pair _ _ _ _); (intro u hu; simp at hu; rcases hu with rfl | rfl <;> rfl); (unfold maxLen; omega); (omega); (simp; omega); intro v' w4 hown4 hgrow _; have HG := Lib.hid hgrow; have HO4 := Lib.hid hown4; clear hgrow hown4)
              have hW4 : Below W11.heap.size W11 w4 := (hBB.alloc hBB.size _).grown HG.out (by simp; omega) (fun k hk => (World.ownsRow.lt HO2.out k hk).1)
              go_roundg (l.length - (j + 1))
              case measure => rw [HM.out]; omega
              case rel =>
                refine ⟨j + 1, rfl, by omega, by go_num, ?_, hW4⟩
                rw [HFL.out]
                unfold OwP
                rw [ptVs_snoc, List.length_append]
                exact HO4.out
          · obtain rfl : j = l.length := by omega
            have hgj : decide ((l.length : Int) < (l.length : Int)) = false := by simp
            rw [List.take_length] at HO
            obtain ⟨F, hF⟩ : ∃ F, F = l.filter fun c => !((R4.mk p q ((Wd : Int) + p) ((Hh : Int) + q)).has c.1 c.2) := ⟨_, rfl⟩
            rw [← hF] at HO
            have HFF := Lib.hid hF
            have hfl : F.length ≤ l.length := by rw [hF]; exact List.length_filter_le _ _
            clear hF
            obtain ⟨a9, c9, hv9, ho9, hb9⟩ := HO.out.ro
            subst hv9
            have zl := lb_cell (HX11.out.later HB1.out).lb.at_
            obtain ⟨zl0, zl1⟩ := zl
            have hFnd : F.Nodup := by rw [HFF.out]; exact HPL.out.nd.filter _
            go_upto_region 35 with fail
            have hlt6 := HS11.out.lt
            have hszw := HX11.out.lt
            have HX13 := Lib.hid ((HX11.out.later HB1.out).lbput (.slice a9 F.length c9))
            have HL13 := Lib.hid ((lst_own (w := w) (a := a) HO.out ⟨by omega, by omega, by omega, by omega⟩ : Lst w wr sb g6 tb a (.slice a9 F.length c9) F).low (b := w.heap.size + 1) (i := 0) HAL.out ⟨by omega, by omega⟩ (.slice a9 F.length c9))
            have HN13 := Lib.hid ((HN11.out.trans (Nx.of_below HS11.out HB1.out)).set (i := 0) (HX11.out.later HB1.out).lb (by omega) (.slice a9 F.length c9))
            have HNB13 : Hid ((wr.setCell ⟨w.heap.size + 1, 0, none⟩ (.slice a9 F.length c9)).heap[nb]? = some (plO sb y)) := by
              show _ = _
              rw [Below.heap_setCell _ _ _ _ (by show nb ≠ w.heap.size + 1; omega)]; exact keep8 HNB11.out HB1.out
            have hpbw : pb ≠ w.heap.size + 1 := by have := HPL5.out; omega
            have HPB13 : Hid ((wr.setCell ⟨w.heap.size + 1, 0, none⟩ (.slice a9 F.length c9)).heap[pb]? = some (ptnO (Wd : Int) (Hh : Int) (.slice a' L.length c'))) := by
              show _ = _
              rw [Below.heap_setCell _ _ _ _ hpbw]; exact keep8 HPB11.out HB1.out
            have HLR13 : Hid (Rk8 (wr.setCell ⟨w.heap.size + 1, 0, none⟩ (.slice a9 F.length c9)) a' L) := fun j2 c2 hj2 => by
              obtain ⟨bk2, off2, e1, e2, e3⟩ := HLR11.out.later HB1.out j2 c2 hj2
              have hbk := HLB2.out bk2 off2 none e1
              exact ⟨bk2, off2, e1, by rw [cell_blk8 (w := wr) (Below.heap_setCell _ _ _ _ (by show bk2 ≠ w.heap.size + 1; omega))]; exact e2, by rw [cell_blk8 (w := wr) (Below.heap_setCell _ _ _ _ (by show bk2 ≠ w.heap.size + 1; omega))]; exact e3⟩
            clear HX11 HL11 HN11 HNB11 HLR11 HS11 HRC11 HPB11 HX1 HRC1 HR1 HO HB1 HM zl0 zl1 HRV11 q0 q1 q2 q3 q4 q5 q6 t0 t1 t2 ho9 hb9 hpbw hlt6 hszw
            generalize wr.setCell ⟨w.heap.size + 1, 0, none⟩ (.slice a9 F.length c9) = W13 at *
            obtain ⟨t0, t1, t2⟩ := ptn_cells HPB13.out
            go_wp2_with fail
            go_loopg [25, 220] L.length (fun m v25 cnt wr => ∃ (j : Nat) (v : Value), m = L.length - j ∧ j ≤ L.length ∧ cnt = .int .i64 (j : Int) ∧ S8x wr sb g6 tb w.heap.size x (acO8 k p q W H (.slice ca cs.length cc) false) v ∧ Lst w wr sb g6 tb a v (setA F ((mvL L p q).take j) true) ∧ Nx sb tb most w g M (T.length + 1930) wr g6 M6 ∧ wr.heap[nb]? = some (plO sb y) ∧ Rk8 wr a' L)
            case atStart => exact ⟨0, _, rfl, Nat.zero_le _, rfl, HX13.out, HL13.out, HN13.out.mono (by omega), HNB13.out, HLR13.out⟩
            case round =>
              clear HX13 HL13 HN13 HNB13 HLR13 HPB13 t0 t1 t2
              obtain ⟨j, v, hm, hj, rfl, hx, hls, hn, hnbk, hlr⟩ := hrel
              have HM := Lib.hid hm
              have HXr := Lib.hid hx
              have HLr := Lib.hid hls
              have HNr := Lib.hid hn
              have HNBr := Lib.hid hnbk
              have HLRr := Lib.hid hlr
              clear hm hx hls hn hnbk hlr
              by_cases hlt : j < L.length
              · have hgj : decide ((j : Int) < (L.length : Int)) = true := by simp; omega
                obtain ⟨c, hc⟩ : ∃ c, L[j]? = some c := ⟨L[j], List.getElem?_eq_getElem hlt⟩
                obtain ⟨bk, off, e1, d0, d1⟩ := HLRr.out j c hc
                have hcin := hLin c (List.mem_of_getElem? hc)
                have HTK : Hid ((mvL L p q).take (j + 1) = (mvL L p q).take j ++ [(p + c.1, q + c.2)]) := by
                  show _ = _
                  rw [List.take_add_one]
                  unfold mvL
                  rw [List.getElem?_map, hc, Int.add_comm p, Int.add_comm q]
                  rfl
                obtain ⟨a0, c0, rfl, hrv0, hor0⟩ := HLr.out
                have HRV0 := Lib.hid hrv0
                have hlen0 := setA_len true ((mvL L p q).take j) F
                have hlen1 : ((mvL L p q).take j).length ≤ 30 := by
                  have : (mvL L p q).length = L.length := by unfold mvL; rw [List.length_map]
                  rw [List.length_take]; omega
                have hset : (setA F ((mvL L p q).take j) true).length ≤ 1000000 := by omega
                clear hlen0 hlen1 hrv0 hor0 hc
                subst e1
                obtain ⟨capr, hSr⟩ := HNr.out.st
                have HSr := Lib.hid hSr
                clear hSr
                have i1 : (0 : Int) ≤ (j : Int) := by omega
                have i2 : (j : Int) < (L.length : Int) := by omega
                have HB12 : Hid (Below wr.heap.size wr (wr.alloc (.cells #[.int .i64 c.1, .int .i64 c.2] 24))) := bel1 wr _
                have HPT : Hid ((wr.alloc (.cells #[.int .i64 c.1, .int .i64 c.2] 24)).heap[wr.heap.size]? = some (ptO c.1 c.2)) := heap_alloc_new wr _
                have HX12 := Lib.hid (HXr.out.later HB12.out)
                have HRV12 := Lib.hid (HRV0.out.later HB12.out)
                have HN12 : Hid (Nx sb tb most w g M (T.length + 1930) (wr.alloc (.cells #[.int .i64 c.1, .int .i64 c.2] 24)) g6 M6) := (HNr.out.trans (Nx.of_below HSr.out HB12.out)).mono (by omega)
                have HNB12 : Hid ((wr.alloc (.cells #[.int .i64 c.1, .int .i64 c.2] 24)).heap[nb]? = some (plO sb y)) := keep8 HNBr.out HB12.out
                have HLR12 := Lib.hid (HLRr.out.later HB12.out)
                have HS12 := Lib.hid (HSr.out.later HB12.out)
                have hwr : w.heap.size + 1 + 1 + 1 < wr.heap.size := HXr.out.lt
                go_upto_region 38 with fail
                clear d0 d1 i1 i2 hgj HXr HLr HNr HNBr HLRr HSr HRV0 HB12
                generalize wr.alloc (.cells #[.int .i64 c.1, .int .i64 c.2] 24) = W12 at *
                generalize wr.heap.size = qb at *
                clear wr
                have x1 : IntKind.i64.wrap (p + c.1) = p + c.1 := IntWalk.i64_in _ (by omega)
                have x2 : IntKind.i64.wrap (q + c.2) = q + c.2 := IntWalk.i64_in _ (by omega)
                refine region_sq 16 (fun W => Below W12.heap.size W12 W) [(0, 2), (1, 1), (2, 1), (3, 2), (4, 1), (5, 2), (6, 1), (7, 1), (8, 1), (9, 2), (10, 1), (11, 2), (12, 1), (13, 1), (14, 0), (15, 0), (16, 3)] (by kernel_rfl) (by kernel_rfl) rfl (by intro c a d v w h; cases d <;> exact h) (by kernel_rfl) (below_drewN8 (Below.refl _ W12) 1) ?_
                refine ⟨_, ?_, rfl, by rfl, ?_, ?_⟩
                rotate_left
                · intro W hW
                  have ya := ac_cells8 (HX12.out.later hW).ac.at_
                  obtain ⟨y0, y1, y2, y3, y4, y5, y6⟩ := ya
                  have za := lb_cell (HX12.out.later hW).lb.at_
                  obtain ⟨z0, _⟩ := za
                  have ua := pt_cells (keep8 HPT.out hW)
                  obtain ⟨u0, u1⟩ := ua
                  go_simp; first | done | rfl
                conv => arg 6; simp only [Act.put, List.setIfInBounds_toArray, List.set_cons_zero, List.set_cons_succ]
                refine ⟨_, ?_, rfl, by rfl, ?_, ?_⟩
                rotate_left
                · intro W; go_simp; first | done | rfl
                conv => arg 6; simp only [Act.put, List.setIfInBounds_toArray, List.set_cons_zero, List.set_cons_succ]
                refine ⟨_, ?_, rfl, by rfl, ?_, ?_⟩
                rotate_left
                · intro W; go_simp; first | done | rfl
                conv => arg 6; simp only [Act.put, List.setIfInBounds_toArray, List.set_cons_zero, List.set_cons_succ]
                refine ⟨_, ?_, rfl, by rfl, ?_, ?_⟩
                rotate_left
                · intro W hW
                  have ya := ac_cells8 (HX12.out.later hW).ac.at_
                  obtain ⟨y0, y1, y2, y3, y4, y5, y6⟩ := ya
                  have za := lb_cell (HX12.out.later hW).lb.at_
                  obtain ⟨z0, _⟩ := za
                  have ua := pt_cells (keep8 HPT.out hW)
                  obtain ⟨u0, u1⟩ := ua
                  go_simp; first | done | rfl
                conv => arg 6; simp only [Act.put, List.setIfInBounds_toArray, List.set_cons_zero, List.set_cons_succ]
                refine ⟨_, ?_, rfl, by rfl, ?_, ?_⟩
                rotate_left
                · intro W; go_simp; first | done | rfl
                conv => arg 6; simp only [Act.put, List.setIfInBounds_toArray, List.set_cons_zero, List.set_cons_succ]
                refine ⟨_, ?_, rfl, by rfl, ?_, ?_⟩
                rotate_left
                · intro W hW
                  have ya := ac_cells8 (HX12.out.later hW).ac.at_
                  obtain ⟨y0, y1, y2, y3, y4, y5, y6⟩ := ya
                  have za := lb_cell (HX12.out.later hW).lb.at_
                  obtain ⟨z0, _⟩ := za
                  have ua := pt_cells (keep8 HPT.out hW)
                  obtain ⟨u0, u1⟩ := ua
                  go_simp; first | done | rfl
                conv => arg 6; simp only [Act.put, List.setIfInBounds_toArray, List.set_cons_zero, List.set_cons_succ]
                refine ⟨_, ?_, rfl, by rfl, ?_, ?_⟩
                rotate_left
                · intro W; go_simp; first | done | rfl
                conv => arg 6; simp only [Act.put, List.setIfInBounds_toArray, List.set_cons_zero, List.set_cons_succ]
                refine ⟨_, ?_, rfl, by rfl, ?_, ?_⟩
                rotate_left
                · intro W; go_simp; first | done | rfl
                conv => arg 6; simp only [Act.put, List.setIfInBounds_toArray, List.set_cons_zero, List.set_cons_succ]
                refine ⟨_, ?_, rfl, by rfl, ?_, ?_⟩
                rotate_left
                · intro W; go_simp; first | done | rfl
                conv => arg 6; simp only [Act.put, List.setIfInBounds_toArray, List.set_cons_zero, List.set_cons_succ]
                refine ⟨_, ?_, rfl, by rfl, ?_, ?_⟩
                rotate_left
                · intro W hW
                  have ya := ac_cells8 (HX12.out.later hW).ac.at_
                  obtain ⟨y0, y1, y2, y3, y4, y5, y6⟩ := ya
                  have za := lb_cell (HX12.out.later hW).lb.at_
                  obtain ⟨z0, _⟩ := za
                  have ua := pt_cells (keep8 HPT.out hW)
                  obtain ⟨u0, u1⟩ := ua
                  go_simp; first | done | rfl
                conv => arg 6; simp only [Act.put, List.setIfInBounds_toArray, List.set_cons_zero, List.set_cons_succ]
                refine ⟨_, ?_, rfl, by rfl, ?_, ?_⟩
                rotate_left
                · intro W; go_simp; first | done | rfl
                conv => arg 6; simp only [Act.put, List.setIfInBounds_toArray, List.set_cons_zero, List.set_cons_succ]
                refine ⟨_, ?_, rfl, by rfl, ?_, ?_⟩
                rotate_left
                · intro W hW
                  have ya := ac_cells8 (HX12.out.later hW).ac.at_
                  obtain ⟨y0, y1, y2, y3, y4, y5, y6⟩ := ya
                  have za := lb_cell (HX12.out.later hW).lb.at_
                  obtain ⟨z0, _⟩ := za
                  have ua := pt_cells (keep8 HPT.out hW)
                  obtain ⟨u0, u1⟩ := ua
                  go_simp; first | done | rfl
                conv => arg 6; simp only [Act.put, List.setIfInBounds_toArray, List.set_cons_zero, List.set_cons_succ]
                refine ⟨_, ?_, rfl, by rfl, ?_, ?_⟩
                rotate_left
                · intro W; go_simp; first | done | rfl
                conv => arg 6; simp only [Act.put, List.setIfInBounds_toArray, List.set_cons_zero, List.set_cons_succ]
                refine ⟨_, ?_, rfl, by rfl, ?_, ?_⟩
                rotate_left
                · intro W; go_simp; first | done | rfl
                conv => arg 6; simp only [Act.put, List.setIfInBounds_toArray, List.set_cons_zero, List.set_cons_succ]
                refine ⟨_, rfl, by rfl, fun K hK => ?_⟩
                go_simp
                refine (of8_law (p + c.1) (q + c.2) _).mono ?_
                rintro e w6 ⟨rfl, hb6⟩
                have HB6 : Hid (Below W12.heap.size W12 w6) := ⟨hb6.os, hb6.tape, hb6.output, hb6.size, hb6.block⟩
                clear hb6
                refine hK _ _ HB6.out ?_
                clear hK K
                conv => arg 6; simp only [Act.put, List.setIfInBounds_toArray, List.set_cons_zero, List.set_cons_succ]
                refine ⟨_, rfl, by rfl, fun K hK => ?_⟩
                go_simp
                refine (set_refB (setA F ((mvL L p q).take j) true) a0 c0 (p + c.1) (q + c.2) true _ (HRV12.out.1.later HB6.out) hset).mono ?_
                rintro e w8 ⟨v8, rfl, ho, hb8⟩
                obtain ⟨a8, c8, hv8, _, _⟩ := ho.ro
                subst hv8
                have HO8 := Lib.hid (OwP.mono ho HB6.out.size)
                have HB8 := Lib.hid (HB6.out.trans (hb8.mono HB6.out.size))
                clear ho hb8
                refine hK _ _ HB8.out ?_
                clear hK K
                conv => arg 6; simp only [Act.put, List.setIfInBounds_toArray, List.set_cons_zero, List.set_cons_succ]
                refine ⟨_, rfl, by rfl, fun K hK => ?_⟩
                have zb := lb_cell (HX12.out.later HB8.out).lb.at_
                obtain ⟨z0, z1⟩ := zb
                go_simp
                refine hK _ _ ?_
                clear hK K
                conv => arg 6; simp only [Act.put, List.setIfInBounds_toArray, List.set_cons_zero, List.set_cons_succ]
                unfold wpSq
                have hownr : OwP w8 W12.heap.size (.slice a8 (setL (setA F ((mvL L p q).take j) true) (p + c.1, q + c.2) true).length c8) (setA F ((mvL L p q).take (j + 1)) true) := by
                  rw [HTK.out, setA_snoc]; exact HO8.out
                have hlt6 := HS12.out.lt
                have hszw := HX12.out.lt
                have hlst : Lst w w8 sb g6 tb a (.slice a8 (setL (setA F ((mvL L p q).take j) true) (p + c.1, q + c.2) true).length c8) (setA F ((mvL L p q).take (j + 1)) true) := lst_own hownr ⟨by omega, by omega, by omega, by omega⟩
                have HLF := Lib.hid (hlst.low (b := w.heap.size + 1) (i := 0) HAL.out ⟨by omega, by omega⟩ (.slice a8 (setL (setA F ((mvL L p q).take j) true) (p + c.1, q + c.2) true).length c8))
                have HXF := Lib.hid ((HX12.out.later HB8.out).lbput (.slice a8 (setL (setA F ((mvL L p q).take j) true) (p + c.1, q + c.2) true).length c8))
                have HNF := Lib.hid ((HN12.out.trans (Nx.of_below HS12.out HB8.out)).set (i := 0) (HX12.out.later HB8.out).lb (by omega) (.slice a8 (setL (setA F ((mvL L p q).take j) true) (p + c.1, q + c.2) true).length c8))
                have HBF : Hid ((w8.setCell ⟨w.heap.size + 1, 0, none⟩ (.slice a8 (setL (setA F ((mvL L p q).take j) true) (p + c.1, q + c.2) true).length c8)).heap[nb]? = some (plO sb y)) := by
                  show _ = _
                  rw [Below.heap_setCell _ _ _ _ (by show nb ≠ w.heap.size + 1; omega)]; exact keep8 HNB12.out HB8.out
                have HRF : Hid (Rk8 (w8.setCell ⟨w.heap.size + 1, 0, none⟩ (.slice a8 (setL (setA F ((mvL L p q).take j) true) (p + c.1, q + c.2) true).length c8)) (some ⟨bk, off, none⟩) L) := fun j2 c2 hj2 => by
                  obtain ⟨bk2, off2, e1, e2, e3⟩ := HLR12.out.later HB8.out j2 c2 hj2
                  have hbk := HLB2.out bk2 off2 none e1
                  exact ⟨bk2, off2, e1, by rw [cell_blk8 (w := w8) (Below.heap_setCell _ _ _ _ (by show bk2 ≠ w.heap.size + 1; omega))]; exact e2, by rw [cell_blk8 (w := w8) (Below.heap_setCell _ _ _ _ (by show bk2 ≠ w.heap.size + 1; omega))]; exact e3⟩
                clear hownr hlt6 hszw hlst
                go_wp2_with fail
                go_roundg (L.length - (j + 1))
                case measure => rw [HM.out]; omega
                case rel =>
                  exact ⟨j + 1, _, rfl, hlt, by go_num, HXF.out, HLF.out, HNF.out.mono (by omega), HBF.out, HRF.out⟩
              · obtain rfl : j = L.length := by omega
                have hgj : decide ((L.length : Int) < (L.length : Int)) = false := by simp
                obtain ⟨LL, hLL⟩ : ∃ LL, LL = setA F ((mvL L p q).take L.length) true := ⟨_, rfl⟩
                rw [← hLL] at HLr
                have HLL := Lib.hid hLL
                clear hLL
                obtain ⟨a0, c0, rfl, hrv0, hor0⟩ := HLr.out
                have HRV0 := Lib.hid hrv0
                have HOR0 := Lib.hid hor0
                clear hrv0 hor0
                have hwr : w.heap.size + 1 + 1 + 1 < wr.heap.size := HXr.out.lt
                go_wp2_with fail
                refine region_sq 6 (fun W => W.heap[nb]? = some (plO sb y) ∧ W.heap[w.heap.size + 1]? = some (lbO (.slice a0 LL.length c0))) [(0, 2), (1, 2), (2, 1), (3, 1), (4, 0), (5, 0), (6, 3)] (by kernel_rfl) (by kernel_rfl) rfl (by intro c a d v w h; cases d <;> exact h) (by kernel_rfl) ⟨HNBr.out, HXr.out.lb.at_⟩ ?_
                refine ⟨_, ?_, rfl, by rfl, ?_, ?_⟩
                rotate_left
                · intro W hW
                  have z := pl_cells hW.1
                  obtain ⟨z0, z1⟩ := z
                  have y := lb_cell hW.2
                  obtain ⟨y0, _⟩ := y
                  go_simp; first | done | rfl
                conv => arg 6; simp only [Act.put, List.setIfInBounds_toArray, List.set_cons_zero, List.set_cons_succ]
                refine ⟨_, ?_, rfl, by rfl, ?_, ?_⟩
                rotate_left
                · intro W hW
                  have z := pl_cells hW.1
                  obtain ⟨z0, z1⟩ := z
                  have y := lb_cell hW.2
                  obtain ⟨y0, _⟩ := y
                  go_simp; first | done | rfl
                conv => arg 6; simp only [Act.put, List.setIfInBounds_toArray, List.set_cons_zero, List.set_cons_succ]
                refine ⟨_, ?_, rfl, by rfl, ?_, ?_⟩
                rotate_left
                · intro W; go_simp; first | done | rfl
                conv => arg 6; simp only [Act.put, List.setIfInBounds_toArray, List.set_cons_zero, List.set_cons_succ]
                refine ⟨_, ?_, rfl, by rfl, ?_, ?_⟩
                rotate_left
                · intro W; go_simp; first | done | rfl
                conv => arg 6; simp only [Act.put, List.setIfInBounds_toArray, List.set_cons_zero, List.set_cons_succ]
                refine ⟨_, rfl, by rfl, fun K hK => ?_⟩
                have y := res_cells HXr.out.res.at_
                obtain ⟨y0, y1, y2, y3⟩ := y
                go_simp
                have HDX : Hid (((wr.setCell ⟨w.heap.size + 1 + 1 + 1, 0, none⟩ (.pointer (some ⟨sb, 0, none⟩))).setCell ⟨w.heap.size + 1 + 1 + 1, 1, none⟩ (.int .u32 (y : Int))).drew.heap[nb]? = some (plO sb y) ∧ ((wr.setCell ⟨w.heap.size + 1 + 1 + 1, 0, none⟩ (.pointer (some ⟨sb, 0, none⟩))).setCell ⟨w.heap.size + 1 + 1 + 1, 1, none⟩ (.int .u32 (y : Int))).drew.heap[w.heap.size + 1]? = some (lbO (.slice a0 LL.length c0))) := by
                  constructor
                  · show ((wr.setCell _ _).setCell _ _).heap[nb]? = _
                    rw [Below.heap_setCell _ _ _ _ (by show nb ≠ w.heap.size + 1 + 1 + 1; omega), Below.heap_setCell _ _ _ _ (by show nb ≠ w.heap.size + 1 + 1 + 1; omega)]; exact HNBr.out
                  · show ((wr.setCell _ _).setCell _ _).heap[w.heap.size + 1]? = _
                    rw [Below.heap_setCell _ _ _ _ (by show w.heap.size + 1 ≠ w.heap.size + 1 + 1 + 1; omega), Below.heap_setCell _ _ _ _ (by show w.heap.size + 1 ≠ w.heap.size + 1 + 1 + 1; omega)]; exact HXr.out.lb.at_
                refine hK _ _ HDX.out ?_
                clear hK K y0 y1 y2 y3
                conv => arg 6; simp only [Act.put, List.setIfInBounds_toArray, List.set_cons_zero, List.set_cons_succ]
                refine ⟨_, rfl, by rfl, fun K hK => ?_⟩
                go_simp
                refine hK _ _ HDX.out ?_
                clear hK K
                conv => arg 6; simp only [Act.put, List.setIfInBounds_toArray, List.set_cons_zero, List.set_cons_succ]
                refine ⟨_, rfl, by rfl, fun K hK => ?_⟩
                go_simp
                refine hK _ _ ?_
                clear hK K
                conv => arg 6; simp only [Act.put, List.setIfInBounds_toArray, List.set_cons_zero, List.set_cons_succ]
                unfold wpSq
                obtain ⟨Wf, hWf, hNf, hOf, s0, s1⟩ := put_pl HNr.out HXr.out.res (by omega) (.pointer (some ⟨sb, 0, none⟩)) (.int .u32 (y : Int))
                have hne0 : ∀ off, a0 ≠ some ⟨w.heap.size + 1 + 1 + 1, off, none⟩ := fun off e => by
                  rcases HOR0.out with e' | h3
                  · have := HAL.out _ off (e' ▸ e); omega
                  · have := h3 _ off e; omega
                have hrvf : Rv8 Wf sb g6 tb a0 LL := by
                  rw [← hWf]
                  exact (HRV0.out.other hne0 _).other hne0 _
                have hmlen : (mvL L p q).length = L.length := by unfold mvL; rw [List.length_map]
                have htk : (mvL L p q).take L.length = mvL L p q := List.take_of_length_le (by omega)
                have hmm : ∀ u z, (u, z) ∈ LL ↔ ((u, z) ∈ mvL L p q ∨ ((u, z) ∈ l ∧ (false = true ∨ (R4.mk p q ((Wd : Int) + p) ((Hh : Int) + q)).has u z = false))) := fun u z => by
                  rw [HLL.out, htk, setA_mem]
                  rw [HFF.out, List.mem_filter]
                  by_cases e : (u, z) ∈ mvL L p q
                  · simp [e]
                  · simp [e]
                have hplf : Pl8 M6 n6 y LL := paste_pl8 (over := false) HPL.out HLOW.out.1 HLOW.out.2.2.1 hrr (fun u z hu => by
                  have := hLin _ (mvL_mem.1 hu)
                  rw [R4.has_iff]
                  simp only at this ⊢
                  omega) HCON.out (by rw [HLL.out]; exact setA_nodup true _ _ hFnd) hmm
                have hln : LL.length ≤ l.length + 30 := by
                  rw [HLL.out, htk]
                  have := setA_len true (mvL L p q) F
                  omega
                rw [hWf]
                go_wp2_with fail
                refine bodyPost_ret (pl_ret3 (i := 6) (j := 7) (k := 8) rfl rfl rfl rfl hOf.at_) rfl ?_
                refine ⟨g6, M6, n6, y, LL, a0, c0, T ++ cellT (mvL L p q), rfl, nx_drew8 (hNf.mono (by omega)), hplf, hrvf.drew, ?_, by omega, ?_, cov_paste HT.out fun u z hu => ?_⟩
                · rcases HOR0.out with e' | h3
                  · exact Or.inl e'
                  · exact Or.inr fun bk off e => by have := h3 bk off e; omega
                · rw [List.length_append, cellT_len]; omega
                · rcases (hmm u z).1 hu with e | e
                  · exact Or.inl e
                  · exact Or.inr e.1
    · have hrr : rightR p q ((Wd : Int) + p) ((Hh : Int) + q) = false := by simpa using hrr'
      clear hrr'
      have HPS := Lib.hid (paste8_far HS5.out HPL.out.sq HPL.out.two (Wd : Int) (Hh : Int) (by omega) (by omega) (.slice a' L.length c') p q hat hrr over)
      go_wp2_with fail
      refine HPS.out.mono ?_
      clear HPS
      rintro e W6 ⟨rfl, hb6⟩
      have hba := hb6.trans ((bel1 W6 (.cells #[.pointer none, .int .u32 0] 32)).mono hb6.size)
      have HNB : Hid ((W6.alloc (.cells #[.pointer none, .int .u32 0] 32)).heap[W6.heap.size]? = some zeO8) := heap_alloc_new W6 _
      have hnb : w.heap.size + 1 + 1 + 1 < W6.heap.size := by have := HX5.out.lt; have := hb6.size; omega
      have hrn : rb < W6.heap.size := by have := HRC5.out.lt; have := hb6.size; omega
      have HX7 := Lib.hid (HX5.out.later hba)
      have HRC7 := Lib.hid (HRC5.out.later hba)
      have HPB7 := Lib.hid (HPB.out.later hba)
      have HRV7 := Lib.hid (HRV5.out.later hba)
      have HN7 := Lib.hid (HN5.out.trans (Nx.of_below HS5.out hba))
      have HS7 := Lib.hid (HS5.out.later hba)
      clear HX5 HRC5 HPB HRV5 HN5 HS5 hb6 hba p0 p1 t0 t1 t2 q0 q1 q2 q3 q4 q5 q6
      obtain ⟨q0, q1, q2, q3, q4, q5, q6⟩ := ac_cells8 HX7.out.ac.at_
      go_upto_region 19 with fail
      generalize W6.alloc (.cells #[.pointer none, .int .u32 0] 32) = W7 at *
      generalize W6.heap.size = nb at *
      clear W6
      have HRA := Lib.hid (pright_any p q W7)
      rw [hat] at HRA
      go_wp2_with fail
      refine HRA.out.mono ?_
      rintro e W8 ⟨rfl, hb8⟩
      have HX8 := Lib.hid (HX7.out.later hb8)
      have HRC8 := Lib.hid (HRC7.out.later hb8)
      have HPB8 := Lib.hid (HPB7.out.later hb8)
      have HRV8 := Lib.hid (HRV7.out.later hb8)
      have HN8 := Lib.hid (HN7.out.trans (Nx.of_below HS7.out hb8))
      have HS8 := Lib.hid (HS7.out.later hb8)
      replace HNB : Hid (W8.heap[nb]? = some zeO8) := keep8 HNB.out hb8
      clear HX7 HRC7 HPB7 HRV7 HN7 HS7 hb8 HRA q0 q1 q2 q3 q4 q5 q6
      obtain ⟨q0, q1, q2, q3, q4, q5, q6⟩ := ac_cells8 HX8.out.ac.at_
      obtain ⟨t0, t1, t2⟩ := ptn_cells HPB8.out.at_
      have HRE := Lib.hid (rect8_any p q (Wd : Int) (Hh : Int) (by unfold I64; omega) (by unfold I64; omega) W8)
      go_wp2_with fail
      refine HRE.out.mono ?_
      rintro e W9 ⟨rfl, hb9⟩
      have HX9 := Lib.hid (HX8.out.later hb9)
      have HRC9 := Lib.hid (HRC8.out.later hb9)
      have HRV9 := Lib.hid (HRV8.out.later hb9)
      have HN9 := Lib.hid (HN8.out.trans (Nx.of_below HS8.out hb9))
      replace HNB : Hid (W9.heap[nb]? = some zeO8) := keep8 HNB.out hb9
      clear HX8 HRC8 HPB8 HRV8 HN8 HS8 hb9 HRE q0 q1 q2 q3 q4 q5 q6 t0 t1 t2
      obtain ⟨c0, c1, c2, c3⟩ := rc_cells8 HRC9.out.at_
      have z0 := Lib.frozen_of_heap HRC9.out.at_ 0
      have z1 := Lib.frozen_of_heap HRC9.out.at_ 1
      have z2 := Lib.frozen_of_heap HRC9.out.at_ 2
      have z3 := Lib.frozen_of_heap HRC9.out.at_ 3
      go_upto_region 24 with fail
      have HX10 := Lib.hid ((((HX9.out.set (i := 0) HRB.out (.int .i64 p)).set (i := 1) HRB.out (.int .i64 q)).set (i := 2) HRB.out (.int .i64 (p + (Wd : Int)))).set (i := 3) HRB.out (.int .i64 (q + (Hh : Int))))
      have HRV10 := Lib.hid ((((HRV9.out.other (i := 0) HRN.out (.int .i64 p)).other (i := 1) HRN.out (.int .i64 q)).other (i := 2) HRN.out (.int .i64 (p + (Wd : Int)))).other (i := 3) HRN.out (.int .i64 (q + (Hh : Int))))
      have hwrb : w.heap.size ≤ rb := by have := HRB.out; omega
      have HN10 := Lib.hid (nx_four HN9.out HRC9.out hwrb p q (p + (Wd : Int)) (q + (Hh : Int)))
      have HRC10 := Lib.hid (rc_put8 HRC9.out.at_ ⟨p, q, p + (Wd : Int), q + (Hh : Int)⟩)
      have hne : nb ≠ rb := by omega
      have HNB10 : Hid ((((((W9.setCell ⟨rb, 0, none⟩ (.int .i64 p)).setCell ⟨rb, 1, none⟩ (.int .i64 q)).setCell ⟨rb, 2, none⟩ (.int .i64 (p + (Wd : Int)))).setCell ⟨rb, 3, none⟩ (.int .i64 (q + (Hh : Int))))).heap[nb]? = some zeO8) := by
        show _ = _
        rw [Below.heap_setCell _ _ _ _ hne, Below.heap_setCell _ _ _ _ hne, Below.heap_setCell _ _ _ _ hne, Below.heap_setCell _ _ _ _ hne]; exact HNB.out
      clear HX9 HRV9 HN9 HRC9 HNB c0 c1 c2 c3 z0 z1 z2 z3 hne hwrb
      generalize (((W9.setCell ⟨rb, 0, none⟩ (.int .i64 p)).setCell ⟨rb, 1, none⟩ (.int .i64 q)).setCell ⟨rb, 2, none⟩ (.int .i64 (p + (Wd : Int)))).setCell ⟨rb, 3, none⟩ (.int .i64 (q + (Hh : Int))) = W10 at *
      obtain ⟨cap10, hS10⟩ := HN10.out.st
      have HRR := Lib.hid (rectRight_any p q (p + (Wd : Int)) (q + (Hh : Int)) (by omega) (by omega) (by omega) (by omega) W10)
      rw [Int.add_comm p, Int.add_comm q, hrr, ← Int.add_comm p, ← Int.add_comm q] at HRR
      obtain ⟨c0, c1, c2, c3⟩ := rc_cells8 HRC10.out
      go_wp2_with fail
      refine HRR.out.mono ?_
      rintro e W11 ⟨rfl, hb11⟩
      have HX11 := Lib.hid (HX10.out.later hb11)
      have HRV11 := Lib.hid (HRV10.out.later hb11)
      have HN11 := Lib.hid (HN10.out.trans (Nx.of_below hS10 hb11))
      have HS11 := Lib.hid (hS10.later hb11)
      have HNB : Hid (W11.heap[nb]? = some zeO8) := keep8 HNB10.out hb11
      clear HX10 HRV10 HN10 HRC10 HNB10 hb11 hS10 HRR c0 c1 c2 c3
      go_wp2_with fail
      refine region_sq 12 (fun W => W.heap[nb]? = some zeO8 ∧ W.heap[w.heap.size]? = some (plO sb x) ∧ W.heap[w.heap.size + 1]? = some (lbO (.slice a l.length cap'))) [(0, 2), (1, 2), (2, 1), (3, 0), (4, 0), (5, 1), (6, 2), (7, 1), (8, 1), (9, 1), (10, 0), (11, 0), (12, 3)] (by kernel_rfl) (by kernel_rfl) rfl (by intro c a d v w h; cases d <;> exact h) (by kernel_rfl) ⟨HNB.out, HX11.out.pl.at_, HX11.out.lb.at_⟩ ?_
      refine ⟨_, ?_, rfl, by rfl, ?_, ?_⟩
      rotate_left
      · intro W hW
        have z := res_cells hW.1
        obtain ⟨z0, z1, _, _⟩ := z
        have y := pl_cells hW.2.1
        obtain ⟨y0, y1⟩ := y
        have x := lb_cell hW.2.2
        obtain ⟨x0, _⟩ := x
        go_simp; first | done | rfl
      conv => arg 6; simp only [Act.put, List.setIfInBounds_toArray, List.set_cons_zero, List.set_cons_succ]
      refine ⟨_, ?_, rfl, by rfl, ?_, ?_⟩
      rotate_left
      · intro W hW
        have z := res_cells hW.1
        obtain ⟨z0, z1, _, _⟩ := z
        have y := pl_cells hW.2.1
        obtain ⟨y0, y1⟩ := y
        have x := lb_cell hW.2.2
        obtain ⟨x0, _⟩ := x
        go_simp; first | done | rfl
      conv => arg 6; simp only [Act.put, List.setIfInBounds_toArray, List.set_cons_zero, List.set_cons_succ]
      refine ⟨_, ?_, rfl, by rfl, ?_, ?_⟩
      rotate_left
      · intro W; go_simp; first | done | rfl
      conv => arg 6; simp only [Act.put, List.setIfInBounds_toArray, List.set_cons_zero, List.set_cons_succ]
      refine ⟨_, rfl, by rfl, fun K hK => ?_⟩
      go_simp
      have HBA : Hid (Below W11.heap.size W11 (W11.alloc (.cells #[.int .i64 8] 52)).drew) := below_drewN8 (bel1 W11 (.cells #[.int .i64 8] 52)) 1
      have HCE : Hid ((W11.alloc (.cells #[.int .i64 8] 52)).drew.cell? ⟨W11.heap.size, 0, none⟩ = some (.int .i64 8)) := cell_s8 W11 _ _
      refine hK _ _ ⟨keep8 HNB.out HBA.out, (HX11.out.later HBA.out).pl.at_, (HX11.out.later HBA.out).lb.at_⟩ ?_
      clear hK K
      generalize (W11.alloc (.cells #[.int .i64 8] 52)).drew = w6 at *
      conv => arg 6; simp only [Act.put, List.setIfInBounds_toArray, List.set_cons_zero, List.set_cons_succ]
      refine ⟨_, rfl, by rfl, fun K hK => ?_⟩
      go_simp
      refine (fis_one 8 (by omega) _ _ _ HCE.out).mono ?_
      rintro e w9 ⟨rfl, rfl⟩
      refine hK _ _ ⟨keep8 HNB.out HBA.out, (HX11.out.later HBA.out).pl.at_, (HX11.out.later HBA.out).lb.at_⟩ ?_
      clear hK K
      conv => arg 6; simp only [Act.put, List.setIfInBounds_toArray, List.set_cons_zero, List.set_cons_succ]
      refine ⟨_, ?_, rfl, by rfl, ?_, ?_⟩
      rotate_left
      · intro W; go_simp; first | done | rfl
      conv => arg 6; simp only [Act.put, List.setIfInBounds_toArray, List.set_cons_zero, List.set_cons_succ]
      refine ⟨_, ?_, rfl, by rfl, ?_, ?_⟩
      rotate_left
      · intro W hW
        have z := res_cells hW.1
        obtain ⟨z0, z1, _, _⟩ := z
        have y := pl_cells hW.2.1
        obtain ⟨y0, y1⟩ := y
        have x := lb_cell hW.2.2
        obtain ⟨x0, _⟩ := x
        go_simp; first | done | rfl
      conv => arg 6; simp only [Act.put, List.setIfInBounds_toArray, List.set_cons_zero, List.set_cons_succ]
      refine ⟨_, ?_, rfl, by rfl, ?_, ?_⟩
      rotate_left
      · intro W; go_simp; first | done | rfl
      conv => arg 6; simp only [Act.put, List.setIfInBounds_toArray, List.set_cons_zero, List.set_cons_succ]
      refine ⟨_, ?_, rfl, by rfl, ?_, ?_⟩
      rotate_left
      · intro W; go_simp; first | done | rfl
      conv => arg 6; simp only [Act.put, List.setIfInBounds_toArray, List.set_cons_zero, List.set_cons_succ]
      refine ⟨_, ?_, rfl, by rfl, ?_, ?_⟩
      rotate_left
      · intro W; go_simp; first | done | rfl
      conv => arg 6; simp only [Act.put, List.setIfInBounds_toArray, List.set_cons_zero, List.set_cons_succ]
      refine ⟨_, rfl, by rfl, fun K hK => ?_⟩
      have y := res_cells (HX11.out.later HBA.out).res.at_
      obtain ⟨y0, y1, y2, y3⟩ := y
      go_simp
      have HDX : Hid (((w6.setCell ⟨w.heap.size + 1 + 1 + 1, 0, none⟩ (.pointer (some ⟨sb, 0, none⟩))).setCell ⟨w.heap.size + 1 + 1 + 1, 1, none⟩ (.int .u32 (x : Int))).heap[nb]? = some zeO8 ∧ ((w6.setCell ⟨w.heap.size + 1 + 1 + 1, 0, none⟩ (.pointer (some ⟨sb, 0, none⟩))).setCell ⟨w.heap.size + 1 + 1 + 1, 1, none⟩ (.int .u32 (x : Int))).heap[w.heap.size]? = some (plO sb x) ∧ ((w6.setCell ⟨w.heap.size + 1 + 1 + 1, 0, none⟩ (.pointer (some ⟨sb, 0, none⟩))).setCell ⟨w.heap.size + 1 + 1 + 1, 1, none⟩ (.int .u32 (x : Int))).heap[w.heap.size + 1]? = some (lbO (.slice a l.length cap'))) := by
        refine ⟨?_, ?_, ?_⟩
        · rw [Below.heap_setCell _ _ _ _ (by show nb ≠ w.heap.size + 1 + 1 + 1; omega), Below.heap_setCell _ _ _ _ (by show nb ≠ w.heap.size + 1 + 1 + 1; omega)]; exact keep8 HNB.out HBA.out
        · rw [Below.heap_setCell _ _ _ _ (by show w.heap.size ≠ w.heap.size + 1 + 1 + 1; omega), Below.heap_setCell _ _ _ _ (by show w.heap.size ≠ w.heap.size + 1 + 1 + 1; omega)]; exact (HX11.out.later HBA.out).pl.at_
        · rw [Below.heap_setCell _ _ _ _ (by show w.heap.size + 1 ≠ w.heap.size + 1 + 1 + 1; omega), Below.heap_setCell _ _ _ _ (by show w.heap.size + 1 ≠ w.heap.size + 1 + 1 + 1; omega)]; exact (HX11.out.later HBA.out).lb.at_
      refine hK _ _ HDX.out ?_
      clear hK K y0 y1 y2 y3
      conv => arg 6; simp only [Act.put, List.setIfInBounds_toArray, List.set_cons_zero, List.set_cons_succ]
      refine ⟨_, rfl, by rfl, fun K hK => ?_⟩
      go_simp
      refine hK _ _ HDX.out ?_
      clear hK K
      conv => arg 6; simp only [Act.put, List.setIfInBounds_toArray, List.set_cons_zero, List.set_cons_succ]
      refine ⟨_, rfl, by rfl, fun K hK => ?_⟩
      go_simp
      refine hK _ _ ?_
      clear hK K
      conv => arg 6; simp only [Act.put, List.setIfInBounds_toArray, List.set_cons_zero, List.set_cons_succ]
      unfold wpSq
      obtain ⟨Wf, hWf, hNf, hOf, s0, s1⟩ := put_pl (HN11.out.trans (Nx.of_below HS11.out HBA.out)) (HX11.out.res.later HBA.out) (by omega) (.pointer (some ⟨sb, 0, none⟩)) (.int .u32 (x : Int))
      have hrvf : Rv8 Wf sb g tb a l := by
        rw [← hWf]
        exact ((HRV11.out.later HBA.out).other (fun off e => by have := (HRV.out.2 _ off e).2.2.2; omega) _).other (fun off e => by have := (HRV.out.2 _ off e).2.2.2; omega) _
      rw [hWf]
      go_wp2_with fail
      refine bodyPost_ret (pl_ret3 (i := 6) (j := 7) (k := 8) rfl rfl rfl rfl hOf.at_) rfl ?_
      exact ⟨g, M, n, x, l, a, cap', T, rfl, hNf.mono (by omega), HPL.out, hrvf, Or.inl rfl, by omega, by omega, HT.out⟩
end Go.Proofs.YtnfjmmkokhncoaaGreat
