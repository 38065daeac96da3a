-- M27
import Derived.Test.YtaapkngpnlnjeaaGreatM25
import Derived.Test.YtaapkngpnlnjeaaGreatM26
import Derived.Test.YtaapkngpnlnjeaaGreatProg
import Derived.Lib.SmallJoins
import Derived.OpenShut
import Derived.ProofKit
section
namespace Go.Proofs.YtaapkngpnlnjeaaGreat
open Go.RowKit Go.Maps
set_option maxRecDepth 100000

theorem A8s.grow {w : World} {B B' : Nat} {a : Option Addr} {L : List A8} (h : A8s w B a L) (hB : B ≤ B') : A8s w B' a L := fun j c hc => by
  obtain ⟨h0, hp, bk, off, e, hb, h1⟩ := h j c hc
  exact ⟨h0, hp.grow hB, bk, off, e, Nat.lt_of_lt_of_le hb hB, h1⟩
def tri8 : Nat → Nat
  | 0 => 0
  | j + 1 => tri8 j + j
theorem tri8_le {j : Nat} (h : j ≤ 7) : tri8 j ≤ 21 := by
  have : j = 0 ∨ j = 1 ∨ j = 2 ∨ j = 3 ∨ j = 4 ∨ j = 5 ∨ j = 6 ∨ j = 7 := by omega
  rcases this with rfl | rfl | rfl | rfl | rfl | rfl | rfl | rfl <;> decide
theorem cov_nil8 : Cov [] (fun p q => (p, q) ∈ ([] : List (Int × Int))) := fun a b h => by cases h
theorem rv8_nil (w : World) (sb g tb : Nat) : Rv8 w sb g tb none [] := ⟨fun j c hc => by simp at hc, fun bk off e => by cases e⟩
/-- The law's state behind some acts. -/
structure AS8 (W0 : World) (sb g0 tb : Nat) (N0 : List Nd) (pb j : Nat) (wr : World) (g : Nat) (M : List Nd) (n x : Nat) (l : List (Int × Int)) (a : Option Addr) (T : List Place) : Prop where
  nx : Nx sb tb 131072 W0 g0 N0 (3109 * tri8 j + 3210 * j) wr g M
  pl : Ob wr sb g tb pb (plO sb x)
  p8 : Pl8 M n x l
  rv : Rv8 wr sb g tb a l
  far : ∀ bk off, a = some ⟨bk, off, none⟩ → bk ≠ pb
  ll : l.length ≤ 530 * j
  tl : T.length ≤ 3109 * j
  cv : Cov T (fun p q => (p, q) ∈ l)
theorem AS8.later {W0 : World} {sb g0 tb : Nat} {N0 : List Nd} {pb j : Nat} {wr w' : World} {g : Nat} {M : List Nd} {n x : Nat} {l : List (Int × Int)} {a : Option Addr} {T : List Place} (h : AS8 W0 sb g0 tb N0 pb j wr g M n x l a T) (hb : Below wr.heap.size wr w') : AS8 W0 sb g0 tb N0 pb j w' g M n x l a T := by
  obtain ⟨cap, hs⟩ := h.nx.st
  exact ⟨h.nx.trans (Nx.of_below hs hb), h.pl.later hb, h.p8, h.rv.later hb, h.far, h.ll, h.tl, h.cv⟩
/-- One act more. -/
theorem AS8.step {W0 : World} {sb g0 tb : Nat} {N0 : List Nd} {pb j : Nat} {wr w' : World} {g g' : Nat} {M M' : List Nd} {n x n' x' : Nat} {l l' : List (Int × Int)} {a a' : Option Addr} {T T' : List Place} (h : AS8 W0 sb g0 tb N0 pb j wr g M n x l a T) (hpb : W0.heap.size ≤ pb)
    (hnx : Nx sb tb 131072 wr g M (T.length + 3210) w' g' M') (hpl : Pl8 M' n' x' l') (hrv : Rv8 w' sb g' tb a' l') (hfr : a' = a ∨ ∀ bk off, a' = some ⟨bk, off, none⟩ → wr.heap.size ≤ bk) (hl : l'.length ≤ l.length + 530) (ht : T'.length ≤ T.length + 3109) (hc : Cov T' (fun p q => (p, q) ∈ l')) :
    ∃ W, (w'.setCell ⟨pb, 0, none⟩ (.pointer (some ⟨sb, 0, none⟩))).setCell ⟨pb, 1, none⟩ (.int .u32 ((x' : Nat) : Int)) = W ∧ AS8 W0 sb g0 tb N0 pb (j + 1) W g' M' n' x' l' a' T' := by
  have hP := h.pl.nx hnx
  have hplt := h.pl.lt
  obtain ⟨W, hW, hN, hP2, _⟩ := put_pl (h.nx.trans hnx) hP hpb (.pointer (some ⟨sb, 0, none⟩)) (.int .u32 ((x' : Nat) : Int))
  have hfar : ∀ bk off, a' = some ⟨bk, off, none⟩ → bk ≠ pb := fun bk off e => by
    rcases hfr with e' | e'
    · exact h.far bk off (e' ▸ e)
    · have := e' bk off e; omega
  have hr := (hrv.other (b := pb) (i := 0) (fun off e => hfar pb off e rfl) (.pointer (some ⟨sb, 0, none⟩))).other (b := pb) (i := 1) (fun off e => hfar pb off e rfl) (.int .u32 ((x' : Nat) : Int))
  rw [hW] at hr
  have h1 := h.ll
  have h2 := h.tl
  refine ⟨W, hW, hN.mono ?_, hP2, hpl, hr, hfar, by omega, by omega, hc⟩
  show _ ≤ 3109 * (tri8 j + j) + 3210 * (j + 1)
  rw [Nat.mul_add]
  omega
set_option maxHeartbeats 8000000 in
theorem aacts_any (L : List A8) (a : Option Addr) (cap : Nat) (w : World) (h : A8s w w.heap.size a L) (hlm : L.length ≤ maxLen) :
    Calls Tryz.prog 3 #[.slice a L.length cap] w fun e w' => e = .returned (.bool true) ∧ Below w.heap.size w w' := by
  have HAC := Lib.hid h
  have HLM := Lib.hid hlm
  clear h hlm
  go_enter Tryz.func3, Tryz.ntmps3
  go_wp2_with fail
  refine (lives8_any _).mono ?_
  rintro e W1 ⟨rfl, hb⟩
  have HB1 := Lib.hid hb
  clear hb
  have HFT := Lib.hid (fits8_any L a cap W1 ((HAC.out.later HB1.out).grow HB1.out.size) HLM.out)
  go_wp2_with fail
  refine HFT.out.mono ?_
  rintro e W2 ⟨hft, hb⟩
  have HB2 := Lib.hid (HB1.out.trans (hb.mono HB1.out.size))
  clear hb HB1 HFT
  rcases hft with rfl | ⟨rfl, hl8, hgood⟩
  · go_wp2_with fail
    refine (lives8_any _).mono ?_
    rintro e W3 ⟨rfl, hb⟩
    have HB3 := Lib.hid (HB2.out.trans (hb.mono HB2.out.size))
    go_wp2_with fail
    go_ret
    exact ⟨rfl, HB3.out⟩
  have HG := Lib.hid hgood
  clear hgood
  go_wp2_with fail
  refine (plane8_any _).mono ?_
  rintro e W3 ⟨sb, g0, tb, cap0, x0, N0, rfl, hS, hem, hlen, hB, l1, l2, l3⟩
  have HS3 := Lib.hid hS
  have HB3 := Lib.hid (HB2.out.trans (hB.mono HB2.out.size))
  have hsz2 : w.heap.size ≤ W2.heap.size := HB2.out.size
  have HLO : Hid ((w.heap.size ≤ sb ∧ w.heap.size ≤ g0 ∧ w.heap.size ≤ tb) ∧ w.heap.size ≤ W3.heap.size) := ⟨⟨by omega, by omega, by omega⟩, HB3.out.size⟩
  have HLN := Lib.hid hlen
  have HP0 : Hid (Pl8 N0 2 x0 []) := ⟨hem.1, Nat.le_refl _, List.nodup_nil, (fun c hc => by cases hc), fun p q => by rw [em_al8 hem]; simp⟩
  have HO4 := Lib.hid (Ob.new hS #[.pointer (some ⟨sb, 0, none⟩), .int .u32 (x0 : Int)] 29)
  have HN4 := Lib.hid (Nx.of_below hS (bel1 W3 (.cells #[.pointer (some ⟨sb, 0, none⟩), .int .u32 (x0 : Int)] 29)))
  clear hS hem hlen hB l1 l2 l3 HB2
  go_upto_region 4 with fail
  have HA0 : Hid (AS8 W3 sb g0 tb N0 W3.heap.size 0 (W3.alloc (.cells #[.pointer (some ⟨sb, 0, none⟩), .int .u32 (x0 : Int)] 29)) g0 N0 2 x0 [] none []) := ⟨HN4.out, HO4.out, HP0.out, rv8_nil _ _ _ _, (fun bk off e => by cases e), Nat.le_refl _, Nat.le_refl _, cov_nil8⟩
  have HPB : Hid (W3.heap.size ≤ W3.heap.size) := Nat.le_refl _
  clear HN4 HO4 HP0 HS3
  generalize W3.alloc (.cells #[.pointer (some ⟨sb, 0, none⟩), .int .u32 (x0 : Int)] 29) = W4 at *
  have HPB2 : Hid (∃ pb, pb = W3.heap.size) := ⟨_, rfl⟩
  obtain ⟨pb, hpb⟩ := HPB2.out
  rw [← hpb] at HA0 ⊢
  have HPB3 : Hid (W3.heap.size ≤ pb) := by show _ ≤ _; omega
  clear HPB HPB2 hpb
  go_wp2_with fail
  go_loopg [4, 24] L.length (fun mm v4 cnt wr => ∃ (j g : Nat) (M : List Nd) (n x : Nat) (l : List (Int × Int)) (al : Option Addr) (c : Nat) (T : List Place), mm = L.length - j ∧ j ≤ L.length ∧ cnt = .int .i64 (j : Int) ∧ v4 = .slice al l.length c ∧ AS8 W3 sb g0 tb N0 pb j wr g M n x l al T)
  case atStart => exact ⟨0, g0, N0, 2, x0, [], none, 0, [], rfl, Nat.zero_le _, rfl, rfl, HA0.out⟩
  case round =>
    clear HA0
    obtain ⟨j, g, M, n, x, l, al, c, T, hmm, hj, rfl, rfl, hA⟩ := hrel
    have HM := Lib.hid hmm
    have HA := Lib.hid hA
    obtain ⟨hbw, _⟩ := hA.nx.bel (B := w.heap.size) HLO.out.1.1 HLO.out.1.2.1 HLO.out.1.2.2 HLO.out.2
    have HBW := Lib.hid (HB3.out.trans hbw)
    clear hmm hA hbw
    by_cases hlt : j < L.length
    · obtain ⟨⟨ck, cp, cq, cW, cH, cca, ccs, ccc, cov⟩, hc⟩ : ∃ c, L[j]? = some c := ⟨L[j], List.getElem?_eq_getElem hlt⟩
      obtain ⟨hk, hpt, bk, off, rfl, hbk, c0, c1, c2, c3, c4, c5, c6⟩ := (HAC.out.later HBW.out) j _ hc
      have HGD := Lib.hid (HG.out _ (List.mem_of_getElem? hc))
      simp only at c0 c1 c2 c3 c4 c5 c6 hpt hk
      have hgj : decide ((j : Int) < (L.length : Int)) = true := by simp; omega
      have i1 : (0 : Int) ≤ (j : Int) := by omega
      have i2 : (j : Int) < (L.length : Int) := by omega
      have hj7 : j ≤ 7 := by omega
      have htri := tri8_le hj7
      have hMl := HA.out.nx.len
      have hN0 := HLN.out
      have hll := HA.out.ll
      have htl := HA.out.tl
      have hbA := bel1 wr (.cells #[.int .u8 (ck : Int), .int .i64 cp, .int .i64 cq, .int .u8 (cW : Int), .int .u8 (cH : Int), .slice cca ccs.length ccc, .bool cov] 37)
      have HA1 := Lib.hid (HA.out.later hbA)
      obtain ⟨cap1, hS1⟩ := HA1.out.nx.st
      have hptA : Pts (wr.alloc (.cells #[.int .u8 (ck : Int), .int .i64 cp, .int .i64 cq, .int .u8 (cW : Int), .int .u8 (cH : Int), .slice cca ccs.length ccc, .bool cov] 37)) (wr.alloc (.cells #[.int .u8 (ck : Int), .int .i64 cp, .int .i64 cq, .int .u8 (cW : Int), .int .u8 (cH : Int), .slice cca ccs.length ccc, .bool cov] 37)).heap.size cca ccs := by
        have h0 := HBW.out.size
        exact (hpt.later (hbA.mono h0) (Nat.le_refl _)).grow (Nat.le_trans h0 hbA.size)
      obtain ⟨hg1, hg2, hg3, hg4⟩ := HGD.out
      simp only at hg1 hg2 hg3 hg4
      have HST := Lib.hid (step8_any hS1 HA1.out.p8 al c HA1.out.rv (by omega) T HA1.out.cv (by omega) ck cW cH hk.1 hk.2.1 hk.2.2 cp cq hg2 hg3 (.slice cca ccs.length ccc) cov cca ccs ccc rfl hptA hg1 hg4)
      obtain ⟨p0, p1⟩ := pl_cells HA1.out.pl.at_
      have hab : pb < wr.heap.size := HA.out.pl.lt
      clear hS1 hbA hptA hpt hg1 hg2 hg3 hg4 HGD hk hMl hN0 htri
      go_wp2_with fail
      generalize wr.alloc (.cells #[.int .u8 (ck : Int), .int .i64 cp, .int .i64 cq, .int .u8 (cW : Int), .int .u8 (cH : Int), .slice cca ccs.length ccc, .bool cov] 37) = WA at *
      generalize wr.heap.size = ab at *
      refine HST.out.mono ?_
      clear HST p0 p1 c0 c1 c2 c3 c4 c5 c6 hc
      rintro e W6 ⟨g6, M6, n', x', l', a', c', T', rfl, hnx, hpl, hrv, hfr, hl', ht', hcv⟩
      have HP6 := Lib.hid (HA1.out.pl.nx hnx)
      obtain ⟨W, hW, hA6⟩ := HA1.out.step HPB3.out hnx hpl hrv hfr hl' ht' hcv
      have HA6 := Lib.hid hA6
      have HWE := Lib.hid hW
      clear hnx hpl hrv hfr hcv hA6 hW HA1
      obtain ⟨p0, p1, pf0, pf1⟩ := res_cells HP6.out.at_
      go_upto_region 10 with fail
      rw [HWE.out]
      clear p0 p1 pf0 pf1 HP6 HWE
      obtain ⟨p0, p1⟩ := pl_cells HA6.out.pl.at_
      have HSM : Hid (Calls Tryz.prog 10 #[.agg #[.pointer (some ⟨sb, 0, none⟩), .int .u32 (x' : Int)], .slice a' l'.length c'] W fun e w' => e = .returned (.bool true) ∧ Below W.heap.size W w') := by
        obtain ⟨cap6, hS6⟩ := HA6.out.nx.st
        exact same_anyB hS6 HA6.out.p8.sq HA6.out.p8.two l' a' c' HA6.out.rv.1 (by omega) HA6.out.p8.nd HA6.out.p8.on HA6.out.p8.al
      go_wp2_with fail
      refine HSM.out.mono ?_
      rintro e W7 ⟨rfl, hb7⟩
      have HA7 := Lib.hid (HA6.out.later hb7)
      clear p0 p1 HSM HA6 hb7
      obtain ⟨p0, p1⟩ := pl_cells HA7.out.pl.at_
      have HBX : Hid (Calls Tryz.prog 11 #[.agg #[.pointer (some ⟨sb, 0, none⟩), .int .u32 (x' : Int)]] W7 fun e w' => e = .returned (.tuple #[.agg #[.int .i64 (bxP M6 n' x').x, .int .i64 (bxP M6 n' x').y, .int .i64 (bxP M6 n' x').X, .int .i64 (bxP M6 n' x').Y], .bool (!decide (ctZ M6 x' = 0))]) ∧ Below W7.heap.size W7 w') := by
        obtain ⟨cap7, hS7⟩ := HA7.out.nx.st
        exact box8_any hS7 HA7.out.p8.sq HA7.out.p8.two
      have hwf : Wf M6 := by obtain ⟨_, hs⟩ := HA7.out.nx.st; exact hs.wf
      cases l' with
      | nil =>
        obtain ⟨hct, hbx⟩ := box_nil8 hwf HA7.out.p8
        rw [hbx, show (!decide (ctZ M6 x' = 0)) = false by rw [hct]; rfl] at HBX
        clear hct hbx hwf
        go_wp2_with fail
        refine HBX.out.mono ?_
        rintro e W8 ⟨rfl, hb8⟩
        have HA8 := Lib.hid (HA7.out.later hb8)
        clear p0 p1 HBX hb8
        have HA9 := Lib.hid (HA8.out.later (bel1 W8 (.cells #[.int .i64 zeR.x, .int .i64 zeR.y, .int .i64 zeR.X, .int .i64 zeR.Y] 42)))
        have HR9 : Hid ((W8.alloc (.cells #[.int .i64 zeR.x, .int .i64 zeR.y, .int .i64 zeR.X, .int .i64 zeR.Y] 42)).heap[W8.heap.size]? = some (rcO8 zeR)) := heap_alloc_new _ _
        clear HA8 HA7
        go_wp2_with fail
        generalize W8.alloc (.cells #[.int .i64 zeR.x, .int .i64 zeR.y, .int .i64 zeR.X, .int .i64 zeR.Y] 42) = W9 at *
        generalize W8.heap.size = rb at *
        refine (boxr_nil a' c' W9).mono ?_
        rintro e Wa ⟨rfl, hba⟩
        have HAa := Lib.hid (HA9.out.later hba)
        have HRa := Lib.hid (keep8 HR9.out hba)
        clear HA9 HR9 hba
        have hb2 := bel2 Wa (.cells #[.int .i64 0, .int .i64 0] 45) (.cells #[.int .i64 0, .int .i64 0] 45)
        have HAb := Lib.hid (HAa.out.later hb2)
        have HRb := Lib.hid (keep8 HRa.out hb2)
        clear hb2 HAa HRa
        go_upto_region 14 with fail
        generalize (Wa.alloc (.cells #[.int .i64 0, .int .i64 0] 45)).alloc (.cells #[.int .i64 0, .int .i64 0] 45) = Wb at *
        obtain ⟨q0, q1, q2, q3⟩ := rc_cells8 HRb.out
        have hne := neR8 0 0 0 0 0 0 0 0
        have hz : (!((((0 : Int) == 0) && ((0 : Int) == 0)) && (((0 : Int) == 0) && ((0 : Int) == 0)))) = false := rfl
        rw [hz] at hne
        go_wp2_with fail
        go_roundg (L.length - (j + 1))
        case measure => rw [HM.out]; omega
        case rel => exact ⟨j + 1, g6, M6, n', x', [], a', c', T', rfl, hlt, by go_num, rfl, HAb.out⟩
      | cons d r =>
        obtain ⟨hct, hbx⟩ := box_cons8 hwf HA7.out.p8
        rw [hbx, show (!decide (ctZ M6 x' = 0)) = true by rw [decide_eq_false hct]; rfl] at HBX
        have hhi := hiP_is r d
        have hon : ∀ e ∈ d :: r, onP e.1 = true ∧ onP e.2 = true := fun e he => by simpa using HA7.out.p8.on e he
        have h1 : I64 ((r.foldl hiP d).1 + 1) := by
          obtain ⟨e, he, h⟩ := hhi.2.2.1
          have := (hon e he).1
          unfold onP at this
          simp only [Bool.and_eq_true, decide_eq_true_eq] at this
          unfold I64; omega
        have h2 : I64 ((r.foldl hiP d).2 + 1) := by
          obtain ⟨e, he, h⟩ := hhi.2.2.2
          have := (hon e he).2
          unfold onP at this
          simp only [Bool.and_eq_true, decide_eq_true_eq] at this
          unfold I64; omega
        have HW1 : Hid (wrap64 ((r.foldl hiP d).1 + 1) = (r.foldl hiP d).1 + 1 ∧ IntKind.i64.wrap ((r.foldl hiP d).1 + 1) = (r.foldl hiP d).1 + 1) := ⟨IntWalk.wrap64_in _ (by unfold I64 at h1; omega), IntWalk.i64_in _ (by unfold I64 at h1; omega)⟩
        have HW2 : Hid (wrap64 ((r.foldl hiP d).2 + 1) = (r.foldl hiP d).2 + 1 ∧ IntKind.i64.wrap ((r.foldl hiP d).2 + 1) = (r.foldl hiP d).2 + 1) := ⟨IntWalk.wrap64_in _ (by unfold I64 at h2; omega), IntWalk.i64_in _ (by unfold I64 at h2; omega)⟩
        have hlr : r.length ≤ 1000000 := by simp only [List.length_cons] at hl'; omega
        have HBR := Lib.hid (fun W (hW : Ro W a' (d :: r)) => boxr_any d r a' c' W hW hlr)
        clear hct hbx hwf hhi hon h1 h2 hlr
        have hE : Hid (∃ lo hi : Int × Int, lo = r.foldl loP d ∧ hi = r.foldl hiP d) := ⟨_, _, rfl, rfl⟩
        clear hE
        generalize r.foldl loP d = lo at *
        generalize r.foldl hiP d = hi at *
        go_wp2_with fail
        refine HBX.out.mono ?_
        rintro e W8 ⟨rfl, hb8⟩
        have HA8 := Lib.hid (HA7.out.later hb8)
        clear p0 p1 HBX hb8
        have HA9 := Lib.hid (HA8.out.later (bel1 W8 (.cells #[.int .i64 lo.1, .int .i64 lo.2, .int .i64 (hi.1 + 1), .int .i64 (hi.2 + 1)] 42)))
        have HR9 : Hid ((W8.alloc (.cells #[.int .i64 lo.1, .int .i64 lo.2, .int .i64 (hi.1 + 1), .int .i64 (hi.2 + 1)] 42)).heap[W8.heap.size]? = some (rcO8 ⟨lo.1, lo.2, hi.1 + 1, hi.2 + 1⟩)) := heap_alloc_new _ _
        clear HA8 HA7
        go_wp2_with fail
        generalize W8.alloc (.cells #[.int .i64 lo.1, .int .i64 lo.2, .int .i64 (hi.1 + 1), .int .i64 (hi.2 + 1)] 42) = W9 at *
        generalize W8.heap.size = rb at *
        refine (HBR.out W9 HA9.out.rv.1).mono ?_
        rintro e Wa ⟨rfl, hba⟩
        have HAa := Lib.hid (HA9.out.later hba)
        have HRa := Lib.hid (keep8 HR9.out hba)
        clear HA9 HR9 hba HBR
        have hb2 := bel2 Wa (.cells #[.int .i64 lo.1, .int .i64 lo.2] 45) (.cells #[.int .i64 hi.1, .int .i64 hi.2] 45)
        have HAb := Lib.hid (HAa.out.later hb2)
        have HRb := Lib.hid (keep8 HRa.out hb2)
        have HL0 : Hid (((Wa.alloc (.cells #[.int .i64 lo.1, .int .i64 lo.2] 45)).alloc (.cells #[.int .i64 hi.1, .int .i64 hi.2] 45)).heap[Wa.heap.size]? = some (ptO7 lo.1 lo.2)) := keep8 (heap_alloc_new Wa _) (bel1 _ _)
        have HH0 : Hid (((Wa.alloc (.cells #[.int .i64 lo.1, .int .i64 lo.2] 45)).alloc (.cells #[.int .i64 hi.1, .int .i64 hi.2] 45)).heap[Wa.heap.size + 1]? = some (ptO7 hi.1 hi.2)) := new_2 Wa _ _
        clear hb2 HAa HRa
        go_upto_region 14 with fail
        generalize (Wa.alloc (.cells #[.int .i64 lo.1, .int .i64 lo.2] 45)).alloc (.cells #[.int .i64 hi.1, .int .i64 hi.2] 45) = Wb at *
        obtain ⟨q0, q1, q2, q3⟩ := rc_cells8 HRb.out
        obtain ⟨u0, u1, _, _⟩ := ptR_cell HL0.out
        obtain ⟨v0, v1, _, _⟩ := ptR_cell HH0.out
        have hne := neR8 lo.1 lo.2 (hi.1 + 1) (hi.2 + 1) lo.1 lo.2 (hi.1 + 1) (hi.2 + 1)
        have hz : (!(((lo.1 == lo.1) && (lo.2 == lo.2)) && ((hi.1 + 1 == hi.1 + 1) && (hi.2 + 1 == hi.2 + 1)))) = false := by simp
        rw [hz] at hne
        obtain ⟨w1, w2⟩ := HW1.out
        obtain ⟨w3, w4⟩ := HW2.out
        go_wp2_with fail
        go_roundg (L.length - (j + 1))
        case measure => rw [HM.out]; omega
        case rel => exact ⟨j + 1, g6, M6, n', x', d :: r, a', c', T', rfl, hlt, by go_num, rfl, HAb.out⟩
    · obtain rfl : j = L.length := by omega
      have hgj : decide ((L.length : Int) < (L.length : Int)) = false := by simp
      go_wp2_with fail
      go_ret
      exact ⟨rfl, HBW.out⟩
end Go.Proofs.YtaapkngpnlnjeaaGreat
end

section
namespace Go.Proofs.YtaapkngpnlnjeaaGreat
open Go.ChangeShapes Go.WideShapes Go.RowKit Go.Joins
set_option maxRecDepth 100000

theorem Tryz.knob : ownKnob Tryz.prog.godebug = none := by kernel_rfl
theorem Tryz.laidAll : laidOutB Tryz.prog = true := by kernel_rfl
theorem two_ints {H : Type} {enc : TypeId × Value → H} {w : World} {base : Nat} {spare : Nat → Bool} {held : Bool} {fuel : Nat} {c0 c1 : Value} {y : DataW H × List MemPlace} (h : DataW.trod enc Tryz.prog w base spare held fuel 34 [c0, c1] = some y) :
    ∃ a b, c0 = .int .i64 a ∧ c1 = .int .i64 b ∧ (Lit.int .i64 a).wf = true ∧ (Lit.int .i64 b).wf = true := by
  obtain ⟨y0, y1, n, _, _, h0, h1⟩ := trod_struct2 Tryz.underlying34 h
  have hc : Tryz.prog.cellsOf 2 = 1 := by kernel_rfl
  simp only [hc] at h0 h1
  obtain ⟨a, e0, _, wa⟩ := DataW.trod_int Tryz.underlying2 h0
  obtain ⟨b, e1, _, wb⟩ := DataW.trod_int Tryz.underlying2 h1
  simp at e0 e1
  exact ⟨a, b, e0, e1, wa, wb⟩
theorem open_point {H : Type} {enc : TypeId × Value → H} {w : World} {base : Nat} {spare : Nat → Bool} {held : Bool} {r : Reach} {b0 : Nat} {v : Value} {d : DataW H} {p : List MemPlace}
    (hv : Value.okWide Tryz.prog w r b0 34 v) (h : DataW.Trod enc Tryz.prog w base spare held 34 v d p) :
    ∃ x y, v = .agg #[.int .i64 x, .int .i64 y] ∧ (Lit.int .i64 x).wf = true ∧ (Lit.int .i64 y).wf = true := by
  obtain ⟨cs, rfl, hsz⟩ := okWide_struct Tryz.underlying34 hv
  obtain ⟨c0, c1, rfl⟩ := array2 (hsz.trans (show Tryz.prog.cellsOf 34 = 2 by kernel_rfl))
  obtain ⟨fuel, hf⟩ := h
  obtain ⟨a, b, rfl, rfl, wa, wb⟩ := two_ints hf
  exact ⟨a, b, rfl, wa, wb⟩
theorem open_rect {H : Type} {enc : TypeId × Value → H} {w : World} {base : Nat} {spare : Nat → Bool} {held : Bool} {r : Reach} {b0 : Nat} {v : Value} {d : DataW H} {p : List MemPlace}
    (hv : Value.okWide Tryz.prog w r b0 42 v) (h : DataW.Trod enc Tryz.prog w base spare held 42 v d p) :
    ∃ x y X Y, v = .agg #[.int .i64 x, .int .i64 y, .int .i64 X, .int .i64 Y] ∧ (Lit.int .i64 x).wf = true ∧ (Lit.int .i64 y).wf = true ∧ (Lit.int .i64 X).wf = true ∧ (Lit.int .i64 Y).wf = true := by
  obtain ⟨cs, rfl, hsz⟩ := okWide_struct Tryz.underlying42 hv
  obtain ⟨c0, c1, c2, c3, rfl⟩ := array4 (hsz.trans (show Tryz.prog.cellsOf 42 = 4 by kernel_rfl))
  obtain ⟨fuel, hf⟩ := h
  obtain ⟨y0, y1, n, _, _, h0, h1⟩ := trod_struct2 Tryz.underlying42 hf
  have hc : Tryz.prog.cellsOf 34 = 2 := by kernel_rfl
  simp only [hc] at h0 h1
  obtain ⟨a, b, rfl, rfl, wa, wb⟩ := two_ints (c0 := c0) (c1 := c1) h0
  obtain ⟨a', b', rfl, rfl, wa', wb'⟩ := two_ints (c0 := c2) (c1 := c3) h1
  exact ⟨a, b, a', b', rfl, wa, wb, wa', wb'⟩
theorem okWide_arr {P : Program} {w : World} {r : Reach} {b0 : Nat} {t e : TypeId} {n : Nat} {v : Value} (ht : P.underlying t = some (.array n e)) (h : Value.okWide P w r b0 t v) : ∃ cs, v = .agg cs ∧ cs.size = P.cellsOf t := by
  simp only [Value.okWide, ht] at h
  obtain ⟨cs, h1, h2, _⟩ := h
  exact ⟨cs, h1, h2⟩
theorem open_u8 {H : Type} {enc : TypeId × Value → H} {w : World} {base : Nat} {spare : Nat → Bool} {held : Bool} {r : Reach} {b0 : Nat} {v : Value} {d : DataW H} {p : List MemPlace}
    (hv : Value.okWide Tryz.prog w r b0 5 v) (h : DataW.Trod enc Tryz.prog w base spare held 5 v d p) : ∃ n, v = .int .u8 n ∧ (Lit.int .u8 n).wf = true := by
  obtain ⟨n, rfl, _, _, wn⟩ := open_int Tryz.underlying5 hv h
  exact ⟨n, rfl, wn⟩
end Go.Proofs.YtaapkngpnlnjeaaGreat
end
