-- M31
import Derived.Test.YtnfjmmkokhncoaaGreatAA8
import Derived.Test.YtnfjmmkokhncoaaGreatCz8
import Derived.Test.YtnfjmmkokhncoaaGreatM30
import Derived.Test.YtnfjmmkokhncoaaGreatProg
import Derived.Lib.SmallJoins
import Derived.OpenShut
import Derived.ProofKit
import Derived.Test.YtnfjmmkokhncoaaGreatM26
import Derived.Deep.Slices
import Derived.Deep.SlicePairs
import Derived.Deep.Strs
section
namespace Go.Proofs.YtnfjmmkokhncoaaGreat
open Go.RowKit Go.Maps
set_option maxRecDepth 100000

/-- How many cells a plane has. -/
theorem cells_le8 {N : List Nd} {n x : Nat} {l : List (Int × Int)} (h : Pl8 N n x l) : (cellsQ N (n + 1) x).length ≤ l.length := by
  have h1 : ∀ X Y, 0 ≤ X ∧ X < 2 ^ (n + 1) → 0 ≤ Y ∧ Y < 2 ^ (n + 1) → R4.has ⟨0, 0, 2 ^ (n + 1), 2 ^ (n + 1)⟩ X Y = R4.has ⟨-2 ^ n, -2 ^ n, 2 ^ n, 2 ^ n⟩ (X - 2 ^ n) (Y - 2 ^ n) := by
    intro X Y hX hY
    have h2 := pow_two2 n
    rw [Bool.eq_iff_iff, R4.has_iff, R4.has_iff]
    simp only
    omega
  have h2 := plS_mem (N := N) (n := n) (x := x) h1
  have h3 := plS_nodup N n x ⟨0, 0, 2 ^ (n + 1), 2 ^ (n + 1)⟩
  have h4 := plS_len N n x ⟨0, 0, 2 ^ (n + 1), 2 ^ (n + 1)⟩
  unfold ctP at h4
  rw [ptL_whole rfl] at h4
  rw [← h4]
  refine nodup_le _ _ h3 fun c hc => ?_
  obtain ⟨p, q⟩ := c
  have h5 := ((h2 p q).1 hc).1
  rw [h.al p q] at h5
  exact of_decide_eq_true h5
theorem a3_cells {w : World} {b : Nat} {x y z : Value} {t : TypeId} (h : w.heap[b]? = some (.cells #[x, y, z] t (0, 0))) : w.cell? ⟨b, 0, none⟩ = some x ∧ w.cell? ⟨b, 1, none⟩ = some y ∧ w.cell? ⟨b, 2, none⟩ = some z :=
  ⟨by rw [Lib.cell_of_heap h]; rfl, by rw [Lib.cell_of_heap h]; rfl, by rw [Lib.cell_of_heap h]; rfl⟩
set_option maxHeartbeats 16000000 in
theorem acells_any (L : List A8) (a : Option Addr) (cap : Nat) (px py : Int) (s0 s1 s2 : Nat) (hs0 : s0 < 256) (hs1 : s1 < 256) (hs2 : s2 < 256) (w : World) (h : A8s w w.heap.size a L) (hlm : L.length ≤ maxLen) :
    Calls Tryz.prog 3 #[.slice a L.length cap, .agg #[.int .i64 px, .int .i64 py], .agg #[.int .u8 (s0 : Int), .int .u8 (s1 : Int), .int .u8 (s2 : Int)]] w fun e w' => e = .returned (.bool true) ∧ Below w.heap.size w w' := by
  have HLM := Lib.hid hlm
  have HB0 : Hid (Below w.heap.size w ((w.alloc (.cells #[.int .i64 px, .int .i64 py] 24)).alloc (.cells #[.int .u8 (s0 : Int), .int .u8 (s1 : Int), .int .u8 (s2 : Int)] 25))) := bel2 w _ _
  have HPT : Hid (((w.alloc (.cells #[.int .i64 px, .int .i64 py] 24)).alloc (.cells #[.int .u8 (s0 : Int), .int .u8 (s1 : Int), .int .u8 (s2 : Int)] 25)).heap[w.heap.size]? = some (.cells #[.int .i64 px, .int .i64 py] 24 (0, 0))) := keep8 (heap_alloc_new w _) (bel1 _ _)
  have HSZ : Hid (((w.alloc (.cells #[.int .i64 px, .int .i64 py] 24)).alloc (.cells #[.int .u8 (s0 : Int), .int .u8 (s1 : Int), .int .u8 (s2 : Int)] 25)).heap[w.heap.size + 1]? = some (.cells #[.int .u8 (s0 : Int), .int .u8 (s1 : Int), .int .u8 (s2 : Int)] 25 (0, 0))) := new_2 w _ _
  have HAC := Lib.hid ((h.later HB0.out).grow HB0.out.size)
  clear h hlm
  go_enter Tryz.func3, Tryz.ntmps3
  go_wp2_with fail
  generalize hw0 : (w.alloc (.cells #[.int .i64 px, .int .i64 py] 24)).alloc (.cells #[.int .u8 (s0 : Int), .int .u8 (s1 : Int), .int .u8 (s2 : Int)] 25) = w0 at *
  clear hw0
  refine (lives8_any _).mono ?_
  rintro e W1 ⟨rfl, hb⟩
  have HB1 := Lib.hid hb
  clear hb
  have HFT := Lib.hid (fits8_any L a cap W1 ((HAC.out.later HB1.out).grow HB1.out.size) HLM.out)
  go_wp2_with fail
  refine HFT.out.mono ?_
  rintro e W2 ⟨hft, hb⟩
  have HB2 := Lib.hid (HB1.out.trans (hb.mono HB1.out.size))
  clear hb HB1 HFT
  have HEND : Hid (∀ W, Below w0.heap.size w0 W → Below w.heap.size w W) := fun W hb => HB0.out.trans (hb.mono HB0.out.size)
  rcases hft with rfl | ⟨rfl, hl8, hgood⟩
  · go_wp2_with fail
    refine (lives8_any _).mono ?_
    rintro e W3 ⟨rfl, hb⟩
    have HB3 := Lib.hid (HB2.out.trans (hb.mono HB2.out.size))
    go_wp2_with fail
    go_ret
    exact ⟨rfl, HEND.out _ HB3.out⟩
  have HG := Lib.hid hgood
  clear hgood
  obtain ⟨p0, p1⟩ := gp_cells (keep8 HPT.out HB2.out)

  by_cases g0 : px > 2305843009213693952
  · have dpxg : decide ((2305843009213693952 : Int) < px) = true := decide_eq_true (by omega)
    have epxg : decide (px > 2305843009213693952) = true := decide_eq_true (by omega)
    go_wp2_with fail
    refine (lives8_any _).mono ?_
    rintro e W3 ⟨rfl, hb⟩
    have HB3 := Lib.hid (HB2.out.trans (hb.mono HB2.out.size))
    go_wp2_with fail
    go_ret
    exact ⟨rfl, HEND.out _ HB3.out⟩
  by_cases g1 : py > 2305843009213693952
  · have dpxg : decide ((2305843009213693952 : Int) < px) = false := decide_eq_false (by omega)
    have epxg : decide (px > 2305843009213693952) = false := decide_eq_false (by omega)
    have dpyg : decide ((2305843009213693952 : Int) < py) = true := decide_eq_true (by omega)
    have epyg : decide (py > 2305843009213693952) = true := decide_eq_true (by omega)
    go_wp2_with fail
    refine (lives8_any _).mono ?_
    rintro e W3 ⟨rfl, hb⟩
    have HB3 := Lib.hid (HB2.out.trans (hb.mono HB2.out.size))
    go_wp2_with fail
    go_ret
    exact ⟨rfl, HEND.out _ HB3.out⟩
  by_cases g2 : px < -2305843009213693952
  · have dpxg : decide ((2305843009213693952 : Int) < px) = false := decide_eq_false (by omega)
    have epxg : decide (px > 2305843009213693952) = false := decide_eq_false (by omega)
    have dpyg : decide ((2305843009213693952 : Int) < py) = false := decide_eq_false (by omega)
    have epyg : decide (py > 2305843009213693952) = false := decide_eq_false (by omega)
    have dpxl : decide (px < (-2305843009213693952)) = true := decide_eq_true (by omega)
    go_wp2_with fail
    refine (lives8_any _).mono ?_
    rintro e W3 ⟨rfl, hb⟩
    have HB3 := Lib.hid (HB2.out.trans (hb.mono HB2.out.size))
    go_wp2_with fail
    go_ret
    exact ⟨rfl, HEND.out _ HB3.out⟩
  by_cases g3 : py < -2305843009213693952
  · have dpxg : decide ((2305843009213693952 : Int) < px) = false := decide_eq_false (by omega)
    have epxg : decide (px > 2305843009213693952) = false := decide_eq_false (by omega)
    have dpyg : decide ((2305843009213693952 : Int) < py) = false := decide_eq_false (by omega)
    have epyg : decide (py > 2305843009213693952) = false := decide_eq_false (by omega)
    have dpxl : decide (px < (-2305843009213693952)) = false := decide_eq_false (by omega)
    have dpyl : decide (py < (-2305843009213693952)) = true := decide_eq_true (by omega)
    go_wp2_with fail
    refine (lives8_any _).mono ?_
    rintro e W3 ⟨rfl, hb⟩
    have HB3 := Lib.hid (HB2.out.trans (hb.mono HB2.out.size))
    go_wp2_with fail
    go_ret
    exact ⟨rfl, HEND.out _ HB3.out⟩
  have dpxg : decide ((2305843009213693952 : Int) < px) = false := decide_eq_false (by omega)
  have epxg : decide (px > 2305843009213693952) = false := decide_eq_false (by omega)
  have dpyg : decide ((2305843009213693952 : Int) < py) = false := decide_eq_false (by omega)
  have epyg : decide (py > 2305843009213693952) = false := decide_eq_false (by omega)
  have dpxl : decide (px < (-2305843009213693952)) = false := decide_eq_false (by omega)
  have dpyl : decide (py < (-2305843009213693952)) = false := decide_eq_false (by omega)
  have HPB : Hid ((-2305843009213693952 ≤ px ∧ px ≤ 2305843009213693952) ∧ (-2305843009213693952 ≤ py ∧ py ≤ 2305843009213693952)) := by show _ ∧ _; omega
  go_wp2_with fail
  clear dpxg epxg dpyg epyg dpxl dpyl p0 p1 g0 g1 g2 g3
  refine (plane8_any _).mono ?_
  rintro e W3 ⟨sb, g0, tb, cap0, x0, N0, rfl, hS, hem, hlen, hB, l1, l2, l3⟩
  have HS3 := Lib.hid hS
  have HB3 := Lib.hid (HB2.out.trans (hB.mono HB2.out.size))
  have hsz2 : w0.heap.size ≤ W2.heap.size := HB2.out.size
  have HLO : Hid ((w0.heap.size ≤ sb ∧ w0.heap.size ≤ g0 ∧ w0.heap.size ≤ tb) ∧ w0.heap.size ≤ W3.heap.size) := ⟨⟨by omega, by omega, by omega⟩, HB3.out.size⟩
  have HLN := Lib.hid hlen
  have HP0 : Hid (Pl8 N0 2 x0 []) := ⟨hem.1, Nat.le_refl _, List.nodup_nil, (fun c hc => by cases hc), fun p q => by rw [em_al8 hem]; simp⟩
  have HO4 := Lib.hid (Ob.new hS #[.pointer (some ⟨sb, 0, none⟩), .int .u32 (x0 : Int)] 32)
  have HN4 := Lib.hid (Nx.of_below hS (bel1 W3 (.cells #[.pointer (some ⟨sb, 0, none⟩), .int .u32 (x0 : Int)] 32)))
  clear hS hem hlen hB l1 l2 l3 HB2
  go_upto_region 4 with fail
  have HA0 : Hid (AS8 W3 sb g0 tb N0 W3.heap.size 0 (W3.alloc (.cells #[.pointer (some ⟨sb, 0, none⟩), .int .u32 (x0 : Int)] 32)) g0 N0 2 x0 [] none []) := ⟨HN4.out, HO4.out, HP0.out, rv8_nil _ _ _ _, (fun bk off e => by cases e), Nat.le_refl _, Nat.le_refl _, cov_nil8⟩
  clear HN4 HO4 HP0 HS3
  generalize W3.alloc (.cells #[.pointer (some ⟨sb, 0, none⟩), .int .u32 (x0 : Int)] 32) = W4 at *
  have HPB2 : Hid (∃ pb, pb = W3.heap.size) := ⟨_, rfl⟩
  obtain ⟨pb, hpb⟩ := HPB2.out
  rw [← hpb] at HA0 ⊢
  have HPB3 : Hid (W3.heap.size ≤ pb) := by show _ ≤ _; omega
  clear HPB2 hpb
  go_wp2_with fail
  go_loopg [8, 51] L.length (fun mm v8 cnt wr => ∃ (j g : Nat) (M : List Nd) (n x : Nat) (l : List (Int × Int)) (al : Option Addr) (c : Nat) (T : List Place), mm = L.length - j ∧ j ≤ L.length ∧ cnt = .int .i64 (j : Int) ∧ v8 = .slice al l.length c ∧ AS8 W3 sb g0 tb N0 pb j wr g M n x l al T)
  case atStart => exact ⟨0, g0, N0, 2, x0, [], none, 0, [], rfl, Nat.zero_le _, rfl, rfl, HA0.out⟩

  case round =>
    clear HA0
    obtain ⟨j, g, M, n, x, l, al, c, T, hmm, hj, rfl, rfl, hA⟩ := hrel
    have HM := Lib.hid hmm
    have HA := Lib.hid hA
    obtain ⟨hbw, _⟩ := hA.nx.bel (B := w0.heap.size) HLO.out.1.1 HLO.out.1.2.1 HLO.out.1.2.2 HLO.out.2
    have HBW := Lib.hid (HB3.out.trans hbw)
    clear hmm hA hbw
    by_cases hlt : j < L.length
    · obtain ⟨⟨ck, cp, cq, cW, cH, cca, ccs, ccc, cov⟩, hc⟩ : ∃ c, L[j]? = some c := ⟨L[j], List.getElem?_eq_getElem hlt⟩
      obtain ⟨hk, hpt, bk, off, rfl, hbk, c0, c1, c2, c3, c4, c5, c6⟩ := (HAC.out.later HBW.out) j _ hc
      have HGD := Lib.hid (HG.out _ (List.mem_of_getElem? hc))
      simp only at c0 c1 c2 c3 c4 c5 c6 hpt hk
      have hgj : decide ((j : Int) < (L.length : Int)) = true := by simp; omega
      have i1 : (0 : Int) ≤ (j : Int) := by omega
      have i2 : (j : Int) < (L.length : Int) := by omega
      have hj7 : j ≤ 7 := by omega
      have htri := tri8_le hj7
      have hMl := HA.out.nx.len
      have hN0 := HLN.out
      have hll := HA.out.ll
      have htl := HA.out.tl
      have hbA := bel1 wr (.cells #[.int .u8 (ck : Int), .int .i64 cp, .int .i64 cq, .int .u8 (cW : Int), .int .u8 (cH : Int), .slice cca ccs.length ccc, .bool cov] 38)
      have HA1 := Lib.hid (HA.out.later hbA)
      obtain ⟨cap1, hS1⟩ := HA1.out.nx.st
      have hptA : Pts (wr.alloc (.cells #[.int .u8 (ck : Int), .int .i64 cp, .int .i64 cq, .int .u8 (cW : Int), .int .u8 (cH : Int), .slice cca ccs.length ccc, .bool cov] 38)) (wr.alloc (.cells #[.int .u8 (ck : Int), .int .i64 cp, .int .i64 cq, .int .u8 (cW : Int), .int .u8 (cH : Int), .slice cca ccs.length ccc, .bool cov] 38)).heap.size cca ccs := by
        have h0 := HBW.out.size
        exact (hpt.later (hbA.mono h0) (Nat.le_refl _)).grow (Nat.le_trans h0 hbA.size)
      obtain ⟨hg1, hg2, hg3, hg4⟩ := HGD.out
      simp only at hg1 hg2 hg3 hg4
      have HST := Lib.hid (step8_any hS1 HA1.out.p8 al c HA1.out.rv (by omega) T HA1.out.cv (by omega) ck cW cH hk.1 hk.2.1 hk.2.2 cp cq hg2 hg3 (.slice cca ccs.length ccc) cov cca ccs ccc rfl hptA hg1 hg4)
      obtain ⟨p0, p1⟩ := pl_cells HA1.out.pl.at_
      have hab : pb < wr.heap.size := HA.out.pl.lt
      clear hS1 hbA hptA hpt hg1 hg2 hg3 hg4 HGD hk hMl hN0 htri
      go_wp2_with fail
      generalize wr.alloc (.cells #[.int .u8 (ck : Int), .int .i64 cp, .int .i64 cq, .int .u8 (cW : Int), .int .u8 (cH : Int), .slice cca ccs.length ccc, .bool cov] 38) = WA at *
      generalize wr.heap.size = ab at *
      refine HST.out.mono ?_
      clear HST p0 p1 c0 c1 c2 c3 c4 c5 c6 hc
      rintro e W6 ⟨g6, M6, n', x', l', a', c', T', rfl, hnx, hpl, hrv, hfr, hl', ht', hcv⟩
      have HP6 := Lib.hid (HA1.out.pl.nx hnx)
      obtain ⟨W, hW, hA6⟩ := HA1.out.step HPB3.out hnx hpl hrv hfr hl' ht' hcv
      have HA6 := Lib.hid hA6
      have HWE := Lib.hid hW
      clear hnx hpl hrv hfr hcv hA6 hW HA1
      obtain ⟨p0, p1, pf0, pf1⟩ := res_cells HP6.out.at_
      go_wp2_with fail
      rw [HWE.out]
      go_roundg (L.length - (j + 1))
      case measure => rw [HM.out]; omega
      case rel => exact ⟨j + 1, g6, M6, n', x', l', a', c', T', rfl, hlt, by go_num, rfl, HA6.out⟩
    · obtain rfl : j = L.length := by omega
      have hgs : decide ((L.length : Int) < (L.length : Int)) = false := by simp
      have HPT1 := Lib.hid (keep8 HPT.out HBW.out)
      have HSZ1 := Lib.hid (keep8 HSZ.out HBW.out)
      obtain ⟨p0, p1⟩ := gp_cells HPT1.out
      obtain ⟨z0, z1, z2⟩ := a3_cells HSZ1.out
      have k0 : IntKind.i64.wrap (s0 : Int) = (s0 : Int) := IntWalk.i64_in _ (by omega)
      have k1 : IntKind.i64.wrap (s1 : Int) = (s1 : Int) := IntWalk.i64_in _ (by omega)
      have hpb := HPB.out
      have HRX := Lib.hid (fun W => rect8_any px py (s0 : Int) (s1 : Int) (by unfold I64; omega) (by unfold I64; omega) W)
      obtain ⟨i0, hi0, hz0, hz1, hz2⟩ := infoP7
      have HI := Lib.hid hi0
      have HZ0 := Lib.hid hz0
      have HZ1 := Lib.hid hz1
      have HZ2 := Lib.hid hz2
      clear hi0 hz0 hz1 hz2 hpb
      have hll := HA.out.ll
      have hl8' : l.length ≤ 4240 := by omega
      go_wp2_with fail
      refine (HRX.out _).mono ?_
      clear HRX p0 p1 z0 z1 z2
      rintro e W5 ⟨rfl, hb⟩
      have HA6 := Lib.hid ((HA.out.later hb).later (bel1 W5 (.cells #[.int .i64 px, .int .i64 py, .int .i64 (px + (s0 : Int)), .int .i64 (py + (s1 : Int))] 42)))
      have HB6 := Lib.hid (up8 (up8 HBW.out hb) (bel1 W5 (.cells #[.int .i64 px, .int .i64 py, .int .i64 (px + (s0 : Int)), .int .i64 (py + (s1 : Int))] 42)))
      have HSZ6 := Lib.hid (keep8 (keep8 HSZ1.out hb) (bel1 W5 (.cells #[.int .i64 px, .int .i64 py, .int .i64 (px + (s0 : Int)), .int .i64 (py + (s1 : Int))] 42)))
      have HR6 : Hid ((W5.alloc (.cells #[.int .i64 px, .int .i64 py, .int .i64 (px + (s0 : Int)), .int .i64 (py + (s1 : Int))] 42)).heap[W5.heap.size]? = some (rcO8 ⟨px, py, px + (s0 : Int), py + (s1 : Int)⟩)) := heap_alloc_new _ _
      clear hb HA HBW HPT1 HSZ1 HPT HSZ k0 k1
      go_upto_region 12 with fail
      generalize W5.alloc (.cells #[.int .i64 px, .int .i64 py, .int .i64 (px + (s0 : Int)), .int .i64 (py + (s1 : Int))] 42) = W6 at *
      generalize W5.heap.size = rb at *
      have HSO := Lib.hid (sorted_any l al c W6 HA6.out.rv.1 (by omega) HA6.out.p8.nd)
      go_wp2_with fail
      refine HSO.out.mono ?_
      clear HSO
      rintro e W7 ⟨v7, out, rfl, hown, hst, hmem, hlen, hb⟩
      have HA7 := Lib.hid (HA6.out.later hb)
      have HB7 := Lib.hid (up8 HB6.out hb)
      have HSZ7 := Lib.hid (keep8 HSZ6.out hb)
      have HR7 := Lib.hid (keep8 HR6.out hb)
      obtain ⟨ao, co, hv, hro, _⟩ := hown.ro
      subst hv
      have HRO := Lib.hid hro
      have HST := Lib.hid hst
      have HME := Lib.hid hmem
      have hlo : out.length ≤ 4240 := by omega
      clear hown hst hmem hb hro HA6 HB6 HSZ6 HR6 hlen
      go_wp2_with fail
      go_loopg [12, 14, 75] out.length (fun mm v12 v14 cnt wr => ∃ j : Nat, mm = out.length - j ∧ j ≤ out.length ∧ cnt = .int .i64 (j : Int) ∧ OwP wr W7.heap.size v12 ((out.take j).filter fun c => (R4.mk px py (px + (s0 : Int)) (py + (s1 : Int))).has c.1 c.2) ∧ Below W7.heap.size W7 wr)
      case atStart => exact ⟨0, rfl, Nat.zero_le _, rfl, own_nil _ _, Below.refl _ _⟩
      case round =>
        obtain ⟨j, hm, hj, rfl, ho, hb⟩ := hrel
        have HM := Lib.hid hm
        have HO := Lib.hid ho
        have HB1 := Lib.hid hb
        have HR1 := Lib.hid (HRO.out.later hb)
        have HRC1 : Hid (wr.heap[rb]? = some (rcO8 ⟨px, py, px + (s0 : Int), py + (s1 : Int)⟩)) := keep8 HR7.out hb
        clear hm ho hb
        by_cases hlt : j < out.length
        · obtain ⟨c, hc⟩ : ∃ c, out[j]? = some c := ⟨out[j], List.getElem?_eq_getElem hlt⟩
          obtain ⟨bk, ha, d0, d1⟩ := HR1.out j c hc
          have hgj : decide ((j : Int) < (out.length : Int)) = true := by simp; omega
          have i1 : (0 : Int) ≤ (j : Int) := by omega
          have i2 : (j : Int) < (out.length : Int) := by omega
          have HTK : Hid (out.take (j + 1) = out.take j ++ [c]) := by show _ = _; rw [List.take_add_one, hc]; rfl
          clear hc
          subst ha
          have HB12 : Hid (Below wr.heap.size wr (wr.alloc (.cells #[.int .i64 c.1, .int .i64 c.2] 45))) := bel1 wr _
          have HPT : Hid ((wr.alloc (.cells #[.int .i64 c.1, .int .i64 c.2] 45)).heap[wr.heap.size]? = some (ptO7 c.1 c.2)) := heap_alloc_new wr _
          have HRC2 : Hid ((wr.alloc (.cells #[.int .i64 c.1, .int .i64 c.2] 45)).heap[rb]? = some (rcO8 ⟨px, py, px + (s0 : Int), py + (s1 : Int)⟩)) := keep8 HRC1.out HB12.out
          obtain ⟨c0, c1, c2, c3⟩ := rc_cells8 HRC2.out
          obtain ⟨u0, u1⟩ := pt_cells7 HPT.out
          have HHS := Lib.hid (fun W => has_any px py (px + (s0 : Int)) (py + (s1 : Int)) c.1 c.2 W)
          have hhs : (decide (px ≤ c.1) && decide (c.1 < px + (s0 : Int)) && decide (py ≤ c.2) && decide (c.2 < py + (s1 : Int))) = (R4.mk px py (px + (s0 : Int)) (py + (s1 : Int))).has c.1 c.2 := by
            rw [Bool.eq_iff_iff, R4.has_iff]
            simp
            omega
          rw [hhs] at HHS
          clear hhs
          go_wp2_with fail
          refine (HHS.out _).mono ?_
          rintro e w2 ⟨rfl, hb2⟩
          have HB2 := Lib.hid (HB12.out.trans (hb2.mono HB12.out.size))
          have HP2 : Hid (w2.heap[wr.heap.size]? = some (ptO7 c.1 c.2)) := keep8 HPT.out hb2
          have HO2 := Lib.hid (owp_laterS HO.out HB2.out)
          have hBB := HB1.out.trans (HB2.out.mono HB1.out.size)
          clear hb2 HB12 HPT HRC2 HO HHS c0 c1 c2 c3 u0 u1 d0 d1
          obtain ⟨u0, u1⟩ := pt_cells7 HP2.out
          cases hin : (R4.mk px py (px + (s0 : Int)) (py + (s1 : Int))).has c.1 c.2 with
          | false =>
            go_wp2_with fail
            go_roundg (out.length - (j + 1))
            case measure => rw [HM.out]; omega
            case rel =>
              refine ⟨j + 1, rfl, hlt, by go_num, ?_, hBB⟩
              rw [HTK.out, List.filter_append, show List.filter (fun c => (R4.mk px py (px + (s0 : Int)) (py + (s1 : Int))).has c.1 c.2) [c] = [] by simp [hin], List.append_nil]
              exact HO2.out
          | true =>
            have HFL : Hid ((out.take (j + 1)).filter (fun c => (R4.mk px py (px + (s0 : Int)) (py + (s1 : Int))).has c.1 c.2) = (out.take j).filter (fun c => (R4.mk px py (px + (s0 : Int)) (py + (s1 : Int))).has c.1 c.2) ++ [c]) := by
              show _ = _
              rw [HTK.out, List.filter_append]
              simp [hin]
            have hfl : ((out.take j).filter (fun c => (R4.mk px py (px + (s0 : Int)) (py + (s1 : Int))).has c.1 c.2)).length ≤ 1000000 := Nat.le_trans (List.length_filter_le _ _) (by rw [List.length_take]; omega)
            generalize (out.take j).filter (fun c => (R4.mk px py (px + (s0 : Int)) (py + (s1 : Int))).has c.1 c.2) = F at *
            have hsz2 := hBB.size
            go_wp2_with (at_builtin; refine wpList_append_own _ rfl _ _ 35 rfl W7.heap.size 45 i0 (.agg #[.int .i64 0, .int .i64 0]) 2 16 Tryz.underlying35 HI.out HZ0.out HZ1.out HZ2.out rfl (by decide) _ _ _ rfl (World.ownsRow.alloc HO2.out _) ⟨w2.heap.size, 0, none⟩ 1 1 [.int .i64 c.1, .int .i64 c.2] rfl rfl ?_ ?_ ?_ ?_ ?_ ?_; (exact cell_pair _ _ _ _); (intro u hu; simp at hu; rcases hu with rfl | rfl <;> rfl); (unfold maxLen; omega); (omega); (simp; omega); intro v' w4 hown4 hgrow _; have HG := Lib.hid hgrow; have HO4 := Lib.hid hown4; clear hgrow hown4)
            have hW4 : Below W7.heap.size W7 w4 := (hBB.alloc hBB.size _).grown HG.out (by simp; omega) (fun k hk => (World.ownsRow.lt HO2.out k hk).1)
            go_roundg (out.length - (j + 1))
            case measure => rw [HM.out]; omega
            case rel =>
              refine ⟨j + 1, rfl, by omega, by go_num, ?_, hW4⟩
              rw [HFL.out]
              unfold OwP
              rw [ptVs_snoc, List.length_append]
              exact HO4.out
        · obtain rfl : j = out.length := by omega
          have hgs : decide ((out.length : Int) < (out.length : Int)) = false := by simp
          rw [List.take_length] at HO
          obtain ⟨F, hF⟩ : ∃ F, F = out.filter (fun c => (R4.mk px py (px + (s0 : Int)) (py + (s1 : Int))).has c.1 c.2) := ⟨_, rfl⟩
          rw [← hF] at HO
          have HFF := Lib.hid hF
          obtain ⟨af, cf, hvf, hrf, _⟩ := HO.out.ro
          subst hvf
          have HRF := Lib.hid hrf
          have HAr := Lib.hid (HA7.out.later HB1.out)
          have HRr := Lib.hid (keep8 HR7.out HB1.out)
          have HSr := Lib.hid (keep8 HSZ7.out HB1.out)
          have HBr := Lib.hid (up8 HB7.out HB1.out)
          obtain ⟨p0, p1⟩ := pl_cells HAr.out.pl.at_
          obtain ⟨z0, z1, z2⟩ := a3_cells HSr.out
          obtain ⟨c0, c1, c2, c3⟩ := rc_cells8 HRr.out
          simp only at c0 c1 c2 c3
          have k2 : IntKind.i64.wrap (s2 : Int) = (s2 : Int) := IntWalk.i64_in _ (by omega)
          have HCE : Hid (Calls Tryz.prog 11 #[.agg #[.pointer (some ⟨sb, 0, none⟩), .int .u32 (x : Int)], .agg #[.int .i64 px, .int .i64 py, .int .i64 (px + (s0 : Int)), .int .i64 (py + (s1 : Int))], .int .i64 (s2 : Int)] wr fun e w' => ∃ S : List (Int × Int), S.Nodup ∧ (∀ X Y, (X, Y) ∈ S ↔ alK M n (kidZ M x) X Y = true ∧ (R4.mk px py (px + (s0 : Int)) (py + (s1 : Int))).has X Y = true) ∧ Below wr.heap.size wr w' ∧
              ((s2 < S.length ∧ e = .returned (.tuple #[.slice none 0 0, .iface 52 (.int .i64 9)])) ∨ (S.length ≤ s2 ∧ ∃ a c, e = .returned (.tuple #[.slice a S.length c, .nilIface]) ∧ Rk8 w' a (sortZ S)))) := by
            show Calls _ _ _ _ _
            obtain ⟨capr, hSr⟩ := HAr.out.nx.st
            exact cells8_any hSr HAr.out.p8.sq HAr.out.p8.two ⟨px, py, px + (s0 : Int), py + (s1 : Int)⟩ s2 (by omega) (Nat.le_trans (cells_le8 HAr.out.p8) (by omega))
          have HAL := Lib.hid HAr.out.p8.al
          clear hF hrf HO HA7 HR7 HSZ7 HB7 HRO HRr HB1 HAr HSr
          go_wp2_with fail
          refine HCE.out.mono ?_
          clear HCE p0 p1 z0 z1 z2 c0 c1 c2 c3 k2
          rintro e W9 ⟨S, hnd, hms, hb9, hres⟩
          have hFS : F = sortZ S := by
            rw [HFF.out]
            refine want_got HST.out hnd fun c => ?_
            obtain ⟨p, q⟩ := c
            rw [hms p q, HAL.out p q, HME.out (p, q)]
            simp
          have hFl : F.length = S.length := by rw [hFS, sortZ_len]
          have HB9 := Lib.hid (up8 HBr.out hb9)
          have HRF9 := Lib.hid (HRF.out.later hb9)
          rw [hFS] at HRF9
          rw [hFl]
          clear hms hnd hb9 HRF HFF HAL HBr hFS hFl
          rcases hres with ⟨hgt, rfl⟩ | ⟨hle, ag, cg, rfl, hrk⟩
          · have hd : decide ((S.length : Int) > (s2 : Int)) = true := by simp; omega
            have hd' : decide ((s2 : Int) < (S.length : Int)) = true := by simp; omega
            go_wp2_with fail
            refine (fis_one 9 (by decide) _ _ _ (by simp)).mono ?_
            rintro e W10 ⟨rfl, rfl⟩
            go_wp2_with fail
            go_ret
            exact ⟨rfl, HEND.out _ (up8 HB9.out (bel1 W9 _))⟩
          · have HRK := Lib.hid hrk
            clear hrk
            have hd : decide ((S.length : Int) > (s2 : Int)) = false := by simp; omega
            have hd' : decide ((s2 : Int) < (S.length : Int)) = false := by simp; omega
            go_wp2_with fail
            go_loopg [18, 19, 124] S.length (fun mm v18 v19 cnt wr => ∃ j : Nat, mm = S.length - j ∧ j ≤ S.length ∧ cnt = .int .i64 (j : Int) ∧ Below W9.heap.size W9 wr)
            case atStart => exact ⟨0, rfl, Nat.zero_le _, rfl, Below.refl _ _⟩
            case round =>
              obtain ⟨j, hm, hj, rfl, hb⟩ := hrel
              have HM := Lib.hid hm
              have HBJ := Lib.hid hb
              clear hm hb
              by_cases hlt : j < S.length
              · obtain ⟨c, hc⟩ : ∃ c, (sortZ S)[j]? = some c := ⟨(sortZ S)[j]'(by rw [sortZ_len]; exact hlt), List.getElem?_eq_getElem _⟩
                have hgj : decide ((j : Int) < (S.length : Int)) = true := by simp; omega
                have i1 : (0 : Int) ≤ (j : Int) := by omega
                have i2 : (j : Int) < (S.length : Int) := by omega
                obtain ⟨bg, og, hag, e0, e1⟩ := (HRK.out.later HBJ.out) j c hc
                obtain ⟨bf, haf, f0, f1⟩ := (HRF9.out.later HBJ.out) j c hc
                subst hag
                subst haf
                have HBQ : Hid (Below wr.heap.size wr (wr.alloc (.cells #[.int .i64 c.1, .int .i64 c.2] 24))) := bel1 wr _
                have HQ : Hid ((wr.alloc (.cells #[.int .i64 c.1, .int .i64 c.2] 24)).heap[wr.heap.size]? = some (.cells #[.int .i64 c.1, .int .i64 c.2] 24 (0, 0))) := heap_alloc_new wr _
                have u0 : (wr.alloc (.cells #[.int .i64 c.1, .int .i64 c.2] 24)).cell? ⟨bf, j * 2, none⟩ = some (.int .i64 c.1) := by rw [HBQ.out.cell (blk_lt f0)]; exact f0
                have u1 : (wr.alloc (.cells #[.int .i64 c.1, .int .i64 c.2] 24)).cell? ⟨bf, j * 2 + 1, none⟩ = some (.int .i64 c.2) := by rw [HBQ.out.cell (blk_lt f1)]; exact f1
                obtain ⟨v0, v1⟩ := gp_cells HQ.out
                have hne : ∀ w, (binOp .neq 45 (.agg #[.int .i64 c.1, .int .i64 c.2]) (.agg #[.int .i64 c.1, .int .i64 c.2])).run Tryz.prog w = .ok (.bool false) w := fun w => by rw [neP]; simp
                go_upto_region 27 with fail
                generalize wr.alloc (.cells #[.int .i64 c.1, .int .i64 c.2] 24) = Wq at *
                have hup := Up.me Wq
                have q0 := fun z : Up Wq => Up.cell u0 z
                have q1 := fun z : Up Wq => Up.cell u1 z
                have q2 := fun z : Up Wq => Up.cell v0 z
                have q3 := fun z : Up Wq => Up.cell v1 z
                have HS1 := Lib.hid (fun z : Up Wq => Up.calls (fun W _ => of8_law c.1 c.2 W) z)
                clear u0 u1 v0 v1 e0 e1 f0 f1
                refine region_up (by kernel_rfl) (by kernel_rfl) ?_
                repeat (go_big_quiet_step ((go_at_call 13; with_reducible exact HS1.out _)))
                refine wpQuiet_nil ?_
                rintro w2 ⟨⟨W2, hW2⟩, rfl⟩
                have HB2 := Lib.hid (up8 (up8 HBJ.out HBQ.out) hW2)
                go_wp2_with fail
                go_roundg (S.length - (j + 1))
                case measure => rw [HM.out]; omega
                case rel => exact ⟨j + 1, rfl, hlt, by go_num, HB2.out⟩
              · obtain rfl : j = S.length := by omega
                have hgs : decide ((S.length : Int) < (S.length : Int)) = false := by simp
                go_wp2_with fail
                go_ret
                exact ⟨rfl, HEND.out _ (up8 HB9.out HBJ.out)⟩
end Go.Proofs.YtnfjmmkokhncoaaGreat
end

section
namespace Go.Proofs.YtnfjmmkokhncoaaGreat
open Go.ChangeShapes Go.WideShapes Go.RowKit Go.Joins
set_option maxRecDepth 100000

theorem Tryz.knob : ownKnob Tryz.prog.godebug = none := by kernel_rfl
theorem Tryz.laidAll : laidOutB Tryz.prog = true := by kernel_rfl
theorem two_ints {H : Type} {enc : TypeId × Value → H} {w : World} {base : Nat} {spare : Nat → Bool} {held : Bool} {fuel : Nat} {c0 c1 : Value} {y : DataW H × List MemPlace} (h : DataW.trod enc Tryz.prog w base spare held fuel 24 [c0, c1] = some y) :
    ∃ a b, c0 = .int .i64 a ∧ c1 = .int .i64 b ∧ (Lit.int .i64 a).wf = true ∧ (Lit.int .i64 b).wf = true := by
  obtain ⟨y0, y1, n, _, _, h0, h1⟩ := trod_struct2 Tryz.underlying24 h
  have hc : Tryz.prog.cellsOf 2 = 1 := by kernel_rfl
  simp only [hc] at h0 h1
  obtain ⟨a, e0, _, wa⟩ := DataW.trod_int Tryz.underlying2 h0
  obtain ⟨b, e1, _, wb⟩ := DataW.trod_int Tryz.underlying2 h1
  simp at e0 e1
  exact ⟨a, b, e0, e1, wa, wb⟩
theorem open_point {H : Type} {enc : TypeId × Value → H} {w : World} {base : Nat} {spare : Nat → Bool} {held : Bool} {r : Reach} {b0 : Nat} {v : Value} {d : DataW H} {p : List MemPlace}
    (hv : Value.okWide Tryz.prog w r b0 24 v) (h : DataW.Trod enc Tryz.prog w base spare held 24 v d p) :
    ∃ x y, v = .agg #[.int .i64 x, .int .i64 y] ∧ (Lit.int .i64 x).wf = true ∧ (Lit.int .i64 y).wf = true := by
  obtain ⟨cs, rfl, hsz⟩ := okWide_struct Tryz.underlying24 hv
  obtain ⟨c0, c1, rfl⟩ := array2 (hsz.trans (show Tryz.prog.cellsOf 24 = 2 by kernel_rfl))
  obtain ⟨fuel, hf⟩ := h
  obtain ⟨a, b, rfl, rfl, wa, wb⟩ := two_ints hf
  exact ⟨a, b, rfl, wa, wb⟩
theorem open_rect {H : Type} {enc : TypeId × Value → H} {w : World} {base : Nat} {spare : Nat → Bool} {held : Bool} {r : Reach} {b0 : Nat} {v : Value} {d : DataW H} {p : List MemPlace}
    (hv : Value.okWide Tryz.prog w r b0 42 v) (h : DataW.Trod enc Tryz.prog w base spare held 42 v d p) :
    ∃ x y X Y, v = .agg #[.int .i64 x, .int .i64 y, .int .i64 X, .int .i64 Y] ∧ (Lit.int .i64 x).wf = true ∧ (Lit.int .i64 y).wf = true ∧ (Lit.int .i64 X).wf = true ∧ (Lit.int .i64 Y).wf = true := by
  obtain ⟨cs, rfl, hsz⟩ := okWide_struct Tryz.underlying42 hv
  obtain ⟨c0, c1, c2, c3, rfl⟩ := array4 (hsz.trans (show Tryz.prog.cellsOf 42 = 4 by kernel_rfl))
  obtain ⟨fuel, hf⟩ := h
  obtain ⟨y0, y1, n, _, _, h0, h1⟩ := trod_struct2 Tryz.underlying42 hf
  have hc : Tryz.prog.cellsOf 24 = 2 := by kernel_rfl
  simp only [hc] at h0 h1
  obtain ⟨a, b, rfl, rfl, wa, wb⟩ := two_ints (c0 := c0) (c1 := c1) h0
  obtain ⟨a', b', rfl, rfl, wa', wb'⟩ := two_ints (c0 := c2) (c1 := c3) h1
  exact ⟨a, b, a', b', rfl, wa, wb, wa', wb'⟩
theorem okWide_arr {P : Program} {w : World} {r : Reach} {b0 : Nat} {t e : TypeId} {n : Nat} {v : Value} (ht : P.underlying t = some (.array n e)) (h : Value.okWide P w r b0 t v) : ∃ cs, v = .agg cs ∧ cs.size = P.cellsOf t := by
  simp only [Value.okWide, ht] at h
  obtain ⟨cs, h1, h2, _⟩ := h
  exact ⟨cs, h1, h2⟩
theorem open_u8 {H : Type} {enc : TypeId × Value → H} {w : World} {base : Nat} {spare : Nat → Bool} {held : Bool} {r : Reach} {b0 : Nat} {v : Value} {d : DataW H} {p : List MemPlace}
    (hv : Value.okWide Tryz.prog w r b0 5 v) (h : DataW.Trod enc Tryz.prog w base spare held 5 v d p) : ∃ n, v = .int .u8 n ∧ (Lit.int .u8 n).wf = true := by
  obtain ⟨n, rfl, _, _, wn⟩ := open_int Tryz.underlying5 hv h
  exact ⟨n, rfl, wn⟩
end Go.Proofs.YtnfjmmkokhncoaaGreat
end

section
namespace Go.Proofs.YtnfjmmkokhncoaaGreat
open Go.ChangeShapes Go.WideShapes Go.RowKit Go.Joins Go.Deep
set_option maxRecDepth 100000

theorem spot8_none {w : World} {r : Reach} {b0 : Nat} {a : Addr} {n cap : Nat} (h : Value.okWide Tryz.prog w r b0 22 (.slice (some a) n cap)) : a.spot = none := by
  simp only [Value.okWide, Tryz.underlying22, Cell.okWide, Cell.ok] at h
  exact h.2.2.2.1
theorem nat88 {c : Value} {x : Int} (hc : [c] = [.int .u8 x]) (w : (Lit.int .u8 x).wf = true) : ∃ n : Nat, c = .int .u8 (n : Int) ∧ n < 256 := by
  obtain ⟨h0, h1⟩ := bounds_u8 w
  simp at hc
  exact ⟨x.toNat, by rw [hc]; congr 1; omega, by omega⟩
/-- A slice of points in a field. -/
theorem inner_pts {H : Type} {enc : TypeId × Value → H} {W : World} {base fuel : Nat} {held : Bool} {c : Value} {y : DataW H × List MemPlace} (h : DataW.trod enc Tryz.prog W base (fun _ => true) held fuel 36 [c] = some y) :
    ∃ (a : Option Addr) (zs : List (Int × Int)) (cap : Nat), c = .slice a zs.length cap ∧ Pts W W.heap.size a zs := by
  rcases open_slice_pairs Tryz.underlying36 Tryz.underlying24 (by kernel_rfl) rfl rfl (by kernel_rfl) (by kernel_rfl) h with ⟨hcs, _⟩ | ⟨a', len, cap', m, k, V0, V1, D0, D1, P0, P1, hcs, _, hl, hm, hmm, _, hall⟩
  · simp at hcs
    exact ⟨none, [], 0, hcs, Pts.nil⟩
  · simp at hcs
    simp only [if_true] at hmm
    have each : ∀ i, i < len → ∃ z : Int × Int, W.cell? (a'.add (i * 2)) = some (.int .i64 z.1) ∧ W.cell? (a'.add (i * 2 + 1)) = some (.int .i64 z.2) := fun i hi => by
      obtain ⟨h0, h1, h2, h3⟩ := hall i (by omega)
      obtain ⟨x, e0, _, _⟩ := DataW.trod_int Tryz.underlying2 h2
      obtain ⟨y, e1, _, _⟩ := DataW.trod_int Tryz.underlying2 h3
      simp at e0 e1
      rw [e0] at h0
      rw [e1] at h1
      exact ⟨(x, y), h0, h1⟩
    obtain ⟨f, hf2⟩ := choose_lt each
    refine ⟨some a', (List.range len).map f, cap', by simpa using hcs, fun j z hz => ?_⟩
    have hj : j < len := by have := (List.getElem?_eq_some_iff.1 hz).1; simpa using this
    have : f j = z := by simpa [hj] using hz
    subst this
    obtain ⟨c0, c1⟩ := hf2 j hj
    obtain ⟨bk, off, spot⟩ := a'
    have hspot : spot = none := by simpa [Addr.add] using World.cell?_spot (hf2 0 (by omega)).1
    subst hspot
    rw [Addr.add_lit] at c0 c1
    exact ⟨bk, off, rfl, World.block_lt_of_cell? W _ c0, c0, c1⟩
theorem trod_struct6 {H : Type} {enc : TypeId × Value → H} {P : Program} {w : World} {base : Nat} {spare : Nat → Bool} {held : Bool} {t : TypeId} {f0 f1 f2 f3 f4 f5 : Field} {fuel : Nat} {cs : List Value} {x : DataW H × List MemPlace} (ht : P.underlying t = some (.struct #[f0, f1, f2, f3, f4, f5])) (h : DataW.trod enc P w base spare held fuel t cs = some x) :
    ∃ y0 y1 y2 y3 y4 y5 n, cs.length = P.cellsOf t ∧ DataW.trod enc P w base spare held n f0.type ((cs.drop f0.offset).take (P.cellsOf f0.type)) = some y0 ∧ DataW.trod enc P w base spare held n f1.type ((cs.drop f1.offset).take (P.cellsOf f1.type)) = some y1 ∧
      DataW.trod enc P w base spare held n f2.type ((cs.drop f2.offset).take (P.cellsOf f2.type)) = some y2 ∧ DataW.trod enc P w base spare held n f3.type ((cs.drop f3.offset).take (P.cellsOf f3.type)) = some y3 ∧
      DataW.trod enc P w base spare held n f4.type ((cs.drop f4.offset).take (P.cellsOf f4.type)) = some y4 ∧ DataW.trod enc P w base spare held n f5.type ((cs.drop f5.offset).take (P.cellsOf f5.type)) = some y5 := by
  obtain ⟨xs, n, _, _, hl, hlen, hf⟩ := DataW.trod_struct ht h
  match xs, hlen with
  | [y0, y1, y2, y3, y4, y5], _ => exact ⟨y0, y1, y2, y3, y4, y5, n, hl, by simpa using hf 0 f0 rfl, by simpa using hf 1 f1 rfl, by simpa using hf 2 f2 rfl, by simpa using hf 3 f3 rfl, by simpa using hf 4 f4 rfl, by simpa using hf 5 f5 rfl⟩
/-- One act: its seven cells. -/
theorem act8_cells {H : Type} {enc : TypeId × Value → H} {w : World} {base : Nat} {held : Bool} {fuel : Nat} {cs : List Value} {y : DataW H × List MemPlace} (h : DataW.trod enc Tryz.prog w base (fun _ => true) held fuel 38 cs = some y) :
    ∃ c : A8, (c.k < 256 ∧ c.W < 256 ∧ c.H < 256) ∧ Pts w w.heap.size c.ca c.cs ∧ cs = [.int .u8 (c.k : Int), .int .i64 c.p, .int .i64 c.q, .int .u8 (c.W : Int), .int .u8 (c.H : Int), .slice c.ca c.cs.length c.cc, .bool c.over] := by
  obtain ⟨x0, x1, x2, x3, x4, x5, n, hl, h0, h1, h2, h3, h4, h5⟩ := trod_struct6 Tryz.underlying38 h
  rw [show Tryz.prog.cellsOf 38 = 7 by kernel_rfl] at hl
  clear h
  match cs, hl with
  | [c0, c1, c2, c3, c4, c5, c6], _ =>
    have hc8 : Tryz.prog.cellsOf 5 = 1 := by kernel_rfl
    have hcp : Tryz.prog.cellsOf 24 = 2 := by kernel_rfl
    have hcs : Tryz.prog.cellsOf 36 = 1 := by kernel_rfl
    have hcb : Tryz.prog.cellsOf 4 = 1 := by kernel_rfl
    simp only [hc8, List.drop, List.take] at h0
    simp only [hcp, List.drop, List.take] at h1
    simp only [hc8, List.drop, List.take] at h2
    simp only [hc8, List.drop, List.take] at h3
    simp only [hcs, List.drop, List.take] at h4
    simp only [hcb, List.drop, List.take] at h5
    obtain ⟨z0, e0, _, w0⟩ := DataW.trod_int Tryz.underlying5 h0
    obtain ⟨n0, rfl, l0⟩ := nat88 e0 w0
    obtain ⟨a, b, rfl, rfl, _, _⟩ := two_ints h1
    obtain ⟨z2, e2, _, w2⟩ := DataW.trod_int Tryz.underlying5 h2
    obtain ⟨n2, rfl, l2⟩ := nat88 e2 w2
    obtain ⟨z3, e3, _, w3⟩ := DataW.trod_int Tryz.underlying5 h3
    obtain ⟨n3, rfl, l3⟩ := nat88 e3 w3
    obtain ⟨sa, zs, cap, rfl, hp⟩ := inner_pts h4
    obtain ⟨bb, e5, _⟩ := DataW.trod_bool Tryz.underlying4 h5
    obtain rfl : c6 = .bool bb := by simpa using e5
    exact ⟨⟨n0, a, b, n2, n3, sa, zs, cap, bb⟩, ⟨l0, l2, l3⟩, hp, rfl⟩
instance : Inhabited A8 := ⟨⟨0, 0, 0, 0, 0, none, [], 0, false⟩⟩
theorem open_acts8 {H : Type} {enc : TypeId × Value → H} {W : World} {r : Reach} {b0 : Nat} {v : Value} {d : DataW H} {p : List MemPlace}
    (hv : Value.okWide Tryz.prog W r b0 22 v) (h : DataW.Trod enc Tryz.prog W 0 (fun _ => true) true 22 v d p) :
    ∃ a n cap L, v = .slice a n cap ∧ n = L.length ∧ n ≤ maxLen ∧ A8s W W.heap.size a L := by
  obtain ⟨a, n, cap, rfl⟩ := okWide_slice Tryz.underlying22 hv
  obtain ⟨fuel, hf⟩ := h
  rcases open_slice Tryz.underlying22 hf with ⟨hcs, _⟩ | ⟨a', len, cap', m, k, D, Pl, hcs, _, hl, hm, hmm, _, hall⟩
  · simp [Value.cells] at hcs
    obtain ⟨rfl, rfl, rfl⟩ := hcs
    exact ⟨none, 0, 0, [], rfl, rfl, Nat.zero_le _, fun j c hc => by simp at hc⟩
  · simp [Value.cells] at hcs
    obtain ⟨rfl, rfl, rfl⟩ := hcs
    have hsp := spot8_none hv
    obtain ⟨bk, off, spot⟩ := a'
    simp only at hsp
    subst hsp
    simp only [if_true] at hmm
    rw [show Tryz.prog.cellsOf 38 = 7 by kernel_rfl] at hall
    have each : ∀ i, i < n → ∃ c : A8, (c.k < 256 ∧ c.W < 256 ∧ c.H < 256) ∧ Pts W W.heap.size c.ca c.cs ∧ ∀ j, j < 7 → W.cell? ⟨bk, off + i * 7 + j, none⟩ = ([.int .u8 (c.k : Int), .int .i64 c.p, .int .i64 c.q, .int .u8 (c.W : Int), .int .u8 (c.H : Int), .slice c.ca c.cs.length c.cc, .bool c.over] : List Value)[j]? := fun i hi => by
      obtain ⟨cs', h1, h2⟩ := hall i (by omega)
      obtain ⟨c, hok, hp, rfl⟩ := act8_cells h2
      obtain ⟨_, _, hcell⟩ := World.cells?_some h1
      refine ⟨c, hok, hp, fun j hj => ?_⟩
      have := hcell j (by simpa using hj)
      rw [add_add, Addr.add_lit, ← Nat.add_assoc] at this
      exact this
    obtain ⟨f, hf2⟩ := choose_lt each
    refine ⟨some ⟨bk, off, none⟩, n, cap, (List.range n).map f, rfl, by simp, by omega, fun j z hz => ?_⟩
    have hj : j < n := by have := (List.getElem?_eq_some_iff.1 hz).1; simpa using this
    have : f j = z := by simpa [hj] using hz
    subst this
    obtain ⟨c0, c1, q⟩ := hf2 j hj
    have q0 := q 0 (by omega)
    exact ⟨c0, c1, bk, off, rfl, World.block_lt_of_cell? W _ q0, q0, q 1 (by omega), q 2 (by omega), q 3 (by omega), q 4 (by omega), q 5 (by omega), q 6 (by omega)⟩
end Go.Proofs.YtnfjmmkokhncoaaGreat
end
