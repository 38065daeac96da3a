/- The laws of layer 13: which squares are needed, by the document: contract. -/
import Derived.Test.YtgciceogggldhaaNe13
import Derived.Test.YtgciceogggldhaaLv7
namespace Go.Proofs.Ytgciceogggldhaa
open Go.RowKit Go.Maps
set_option maxRecDepth 100000

/-- The first so many: of these the cells are needed. -/
def fst13 (n j : Nat) : List Bool := (List.range n).map fun i => decide (i < j ∧ i < 2)
theorem fst_len (n j : Nat) : (fst13 n j).length = n := by simp [fst13]
theorem fst_zero (n : Nat) : fst13 n 0 = List.replicate n false := by
  refine List.ext_getElem? fun i => ?_
  unfold fst13
  rcases Nat.lt_or_ge i n with h | h
  · simp [h]
  · rw [List.getElem?_eq_none (by simpa using h), List.getElem?_eq_none (by simpa using h)]
theorem fst_step (n j : Nat) : (fst13 n j).set j (decide (j < 2)) = fst13 n (j + 1) := by
  refine List.ext_getElem? fun i => ?_
  rw [List.getElem?_set, fst_len]
  unfold fst13
  rcases Nat.lt_or_ge i n with h | h
  · by_cases e : j = i
    · subst e
      simp [h]
    · rw [if_neg e]
      simp only [List.getElem?_map, List.getElem?_range h, Option.map_some, Option.some.injEq, decide_eq_decide]
      omega
  · rw [List.getElem?_eq_none (by simpa using h), List.getElem?_eq_none (by simpa using h)]
    split
    · rw [if_neg (by omega)]
    · rfl
theorem fst_all {n : Nat} (h : 2 ≤ n) : fst13 n n = b00 n := by
  refine List.ext_getElem? fun i => ?_
  unfold fst13 b00
  rcases Nat.lt_or_ge i n with hi | hi
  · rw [List.getElem?_map, List.getElem?_range hi]
    match i with
    | 0 => simp; omega
    | 1 => simp; omega
    | i + 2 =>
      simp only [Option.map_some, List.getElem?_cons_succ]
      rw [List.getElem?_replicate, if_pos (by omega)]
      simp
  · rw [List.getElem?_eq_none (by simpa using hi), List.getElem?_eq_none (by simp; omega)]
theorem rtB_snoc (b : List Bool) (l : List Nat) (x : Nat) : rtB b (l ++ [x]) = (rtB b l).set x true := by unfold rtB; rw [List.foldl_append]; rfl
set_option maxHeartbeats 4000000 in
theorem lneed_any {w : World} {sb g tb cap most : Nat} {N : List Nd} (h : St w sb g tb cap most N) {a : Option Addr} {L : List Nat} {l c : Nat} (hL : LRow w a L) (hl : l = L.length) (hl9 : l ≤ 1000000) :
    Calls Try.prog 10 #[.pointer (some ⟨sb, 0, none⟩), .slice a l c] w fun e w' => ∃ ib, e = .returned (.slice (some ⟨ib, 0, none⟩) N.length N.length) ∧ BAt w' ib (nedF N L) ∧ Below w.heap.size w w' := by
  have h2 := h.wf.two
  have hNm := h.room
  have hMm := h.most_le
  have HS := Lib.hid h
  have HL := Lib.hid hL
  have HLN := Lib.hid hl
  have HL9 := Lib.hid hl9
  clear h hL hl hl9
  obtain ⟨MC, hMC, hmake⟩ := made_bools N.length (by omega)
  have HMC := Lib.hid hMC
  have HWF := Lib.hid HS.out.wf
  obtain ⟨n, hn⟩ : ∃ n, N.length = n := ⟨_, rfl⟩
  have HNN := Lib.hid hn
  rw [hn] at h2 hNm hmake HMC
  rw [hn]
  clear hMC
  go_enter Try.func10, Try.ntmps10
  go_wp2_with fail
  refine (len_any HS.out).mono ?_
  rintro e W1 ⟨rfl, rfl⟩
  rw [hn]
  clear hn
  have HB0 : Hid (BAt (w.alloc (.cells MC 4)) w.heap.size (fst13 n 0)) := by
    show BAt _ _ _
    unfold BAt
    rw [fst_zero, ← HMC.out]
    exact heap_alloc_new w _
  have HW0 := Lib.hid (bel1 w (.cells MC 4))
  go_upto_region 2 with fail
  clear hmake HMC
  generalize w.alloc (.cells MC 4) = W0 at *
  go_wp2_with fail
  go_loopg [6, 19] n (fun mm v6 cnt wr => ∃ j : Nat, mm = n - j ∧ j ≤ n ∧ cnt = .int .i64 (j : Int) ∧ BAt wr w.heap.size (fst13 n j) ∧ Below w.heap.size w wr)
  case atStart => exact ⟨0, rfl, Nat.zero_le _, rfl, HB0.out, HW0.out⟩
  case round =>
    clear HB0 HW0
    obtain ⟨j, hm, hj, rfl, hB, hW⟩ := hrel
    have HMM := Lib.hid hm
    have HB := Lib.hid hB
    have HW := Lib.hid hW
    clear hm hB hW
    by_cases hlt : j < n
    · have hgj : decide (j < n) = true := by simp; omega
      obtain ⟨b0, f0⟩ := HB.out.cell (j := j) (by rw [fst_len]; exact hlt)
      have i1 : (j : Int) < (n : Int) := by omega
      have i0 : (0 : Int) ≤ (j : Int) := by omega
      have HST := Lib.hid (HB.out.set j (decide (j < 2)))
      rw [fst_step] at HST
      have hd : decide ((j : Int) < 2) = decide (j < 2) := by
        by_cases e : j < 2
        · rw [decide_eq_true e, decide_eq_true (by omega)]
        · rw [decide_eq_false e, decide_eq_false (by omega)]
      have w2 : IntKind.i64.wrap ((j : Int) + 1) = ((j + 1 : Nat) : Int) := by rw [IntWalk.i64_in _ (by omega)]; omega
      generalize decide (j < 2) = dv at *
      go_wp2_with fail
      go_roundg (n - (j + 1))
      case measure => rw [HMM.out]; omega
      case rel => exact ⟨j + 1, rfl, by omega, by go_num, HST.out, HW.out.setCell (p := ⟨w.heap.size, j, none⟩) (Nat.le_refl _) _⟩
    · obtain rfl : n = j := by omega
      have hgj : decide (n < n) = false := by simp
      have HB1 : Hid (BAt wr w.heap.size (b00 n)) := by
        have := HB.out
        rw [fst_all h2] at this
        exact this
      clear HB HMM hj hlt
      go_wp2_with fail
      clear hgj
      have HWB := Lib.hid HW.out
      generalize wr = wB at *
      clear HW
      go_loopg [8, 30] l (fun mm v8 cnt wr => ∃ j : Nat, mm = l - j ∧ j ≤ l ∧ cnt = .int .i64 (j : Int) ∧ BAt wr w.heap.size (rtB (b00 n) (L.take j)) ∧ Below w.heap.size w wr)
      case atStart => exact ⟨0, rfl, Nat.zero_le _, rfl, HB1.out, HWB.out⟩
      case round =>
        clear HB1 HWB
        obtain ⟨j, hm, hj, rfl, hB, hW⟩ := hrel
        have HMM := Lib.hid hm
        have HB := Lib.hid hB
        have HW := Lib.hid hW
        clear hm hB hW
        have HBL : Hid ((rtB (b00 n) (L.take j)).length = n) := by
          show _ = _
          rw [rtB_len, b00_len h2]
        by_cases hlt : j < l
        · have hgj : decide (j < l) = true := by simp; omega
          obtain ⟨x, hx⟩ : ∃ x, L[j]? = some x := ⟨_, List.getElem?_eq_getElem (by rw [← HLN.out]; exact hlt)⟩
          obtain ⟨hxu, bk, off, rfl, hbk, hcell⟩ := HL.out j x hx
          have cx : wr.cell? ⟨bk, off + j, none⟩ = some (.int .u32 (x : Int)) := by rw [HW.out.cell (p := ⟨bk, off + j, none⟩) hbk]; exact hcell
          have i1 : (j : Int) < (l : Int) := by omega
          have i2 : (0 : Int) ≤ (j : Int) := by omega
          have HT : Hid (rtB (b00 n) (L.take (j + 1)) = (rtB (b00 n) (L.take j)).set x true) := by
            show _ = _
            rw [take_next13 hx, rtB_snoc]
          have w1 : IntKind.i64.wrap ((j : Int) + 1) = ((j + 1 : Nat) : Int) := by rw [IntWalk.i64_in _ (by have := HL9.out; omega)]; omega
          have w0 : IntKind.i64.wrap (x : Int) = (x : Int) := IntWalk.i64_in _ (by omega)
          clear hx hcell
          by_cases hin : x < n
          · have hg2 : decide ((x : Int) < (n : Int)) = true := by simp; omega
            obtain ⟨b0, bf⟩ := HB.out.cell (j := x) (by rw [HBL.out]; omega)
            have i3 : (x : Int) < (n : Int) := by omega
            have i4 : (0 : Int) ≤ (x : Int) := by omega
            go_wp2_with fail
            go_roundg (l - (j + 1))
            case measure => rw [HMM.out]; omega
            case rel =>
              refine ⟨j + 1, rfl, by omega, by go_num, ?_, HW.out.setCell (p := ⟨w.heap.size, x, none⟩) (Nat.le_refl _) _⟩
              rw [HT.out]
              exact HB.out.set x true
          · have hg2 : decide ((x : Int) < (n : Int)) = false := by simp; omega
            go_wp2_with fail
            go_roundg (l - (j + 1))
            case measure => rw [HMM.out]; omega
            case rel =>
              refine ⟨j + 1, rfl, by omega, by go_num, ?_, HW.out⟩
              rw [HT.out, List.set_eq_of_length_le (by rw [HBL.out]; omega)]
              exact HB.out
        · obtain rfl : l = j := by omega
          have hgj : decide (l < l) = false := by simp
          have HB1 : Hid (BAt wr w.heap.size (rtB (b00 n) L)) := by
            have := HB.out
            rw [HLN.out, List.take_length] at this
            exact this
          have HBL1 : Hid ((rtB (b00 n) L).length = n) := by
            show _ = _
            rw [rtB_len, b00_len h2]
          have HD : Hid (dnN N n (rtB (b00 n) L) = nedF N L) := by
            show _ = _
            unfold nedF
            rw [HNN.out]
          clear HB HBL HMM hj hlt
          generalize rtB (b00 n) L = Bs at *
          have HWB := Lib.hid HW.out
          have HSB := Lib.hid (HS.out.later HW.out)
          have w1 : IntKind.i64.wrap ((n : Int) - 1) = (n : Int) - 1 := IntWalk.i64_in _ (by omega)
          generalize wr = wC at *
          clear HW
          go_wp2_with fail
          refine (len_any HSB.out).mono ?_
          rintro e W5 ⟨rfl, hW⟩
          rw [← hW, HNN.out]
          clear hW W5 HSB
          go_wp2_with fail
          go_loopg [9, 10, 11, 13] n (fun mm v9 v10 v11 v13 wr => ∃ (q : Nat) (B : List Bool), mm = q + 1 ∧ q < n ∧ v9 = .int .i64 (q : Int) ∧ BAt wr w.heap.size B ∧ B.length = n ∧ dnN N (q + 1) B = nedF N L ∧ 1 ≤ q ∧ Below w.heap.size w wr)
          case atStart =>
            refine ⟨n - 1, Bs, by omega, by omega, ?_, HB1.out, HBL1.out, ?_, by omega, HWB.out⟩
            · rw [show ((n - 1 : Nat) : Int) = (n : Int) - 1 by omega]
            · rw [show n - 1 + 1 = n by omega]; exact HD.out
          case round =>
            clear HB1 HBL1 HD HWB
            obtain ⟨q, B, hm, hq, rfl, hB, hBl, hD, hq1, hW⟩ := hrel
            have HMM := Lib.hid hm
            have HB := Lib.hid hB
            have HBL := Lib.hid hBl
            have HD := Lib.hid hD
            have HW := Lib.hid hW
            clear hm hB hBl hD hW
            by_cases hlt : 1 < q
            · have hgj : decide (1 < (q : Int)) = true := by simp; omega
              obtain ⟨nd, hNq⟩ : ∃ nd, N[q]? = some nd := ⟨_, List.getElem?_eq_getElem (show q < N.length by have := HNN.out; omega)⟩
              obtain ⟨hlv, _⟩ := HWF.out.up q _ (by omega) hNq
              have HOF := Lib.hid (of_good (HS.out.later HW.out) q (by omega) hNq (by omega))
              have hkl := HWF.out.k_lt hNq
              have hkk : ∀ i, i < 4 → kAt nd.k i < n := fun i hi => by
                have := HNN.out
                have : i = 0 ∨ i = 1 ∨ i = 2 ∨ i = 3 := by omega
                rcases this with rfl | rfl | rfl | rfl
                · show nd.k.1 < n; omega
                · show nd.k.2.1 < n; omega
                · show nd.k.2.2.1 < n; omega
                · show nd.k.2.2.2 < n; omega
              have HKK := Lib.hid hkk
              have HST : Hid (stN N q B = if nd13 B q then mk4L B nd.k else B) := by
                show _ = _
                unfold stN
                rw [hNq]
                simp only
                rw [if_pos hlv]
              have HDN : Hid (dnN N q (stN N q B) = nedF N L) := HD.out
              obtain ⟨b0, bf⟩ := HB.out.cell (j := q) (by rw [HBL.out]; omega)
              have i1 : (q : Int) < (n : Int) := by omega
              have i2 : (0 : Int) ≤ (q : Int) := by omega
              have hc : ((q : Int) % 4294967296) = (q : Int) := by omega
              have w2 : IntKind.i64.wrap ((q : Int) - 1) = ((q - 1 : Nat) : Int) := by rw [IntWalk.i64_in _ (by omega)]; omega
              generalize nd.k = k at *
              clear hNq hlv hkl hkk HD
              go_wp2_with fail
              refine HOF.out.mono ?_
              rintro e W6 ⟨rfl, hb⟩
              have HB1 := Lib.hid (HB.out.later (hb.trans ((bel1 W6 (.cells #[.int .u32 (k.1 : Int), .int .u32 (k.2.1 : Int), .int .u32 (k.2.2.1 : Int), .int .u32 (k.2.2.2 : Int)] 68)).mono hb.size)))
              have HW1 := Lib.hid (HW.out.trans ((hb.trans ((bel1 W6 (.cells #[.int .u32 (k.1 : Int), .int .u32 (k.2.1 : Int), .int .u32 (k.2.2.1 : Int), .int .u32 (k.2.2.2 : Int)] 68)).mono hb.size)).mono HW.out.size))
              have HO : Hid ((W6.alloc (.cells #[.int .u32 (k.1 : Int), .int .u32 (k.2.1 : Int), .int .u32 (k.2.2.1 : Int), .int .u32 (k.2.2.2 : Int)] 68)).heap[W6.heap.size]? = some (kO k)) := heap_alloc_new W6 _
              clear hb b0 bf HOF HB HW
              obtain ⟨b0, bf⟩ := HB1.out.cell (j := q) (by rw [HBL.out]; omega)
              obtain ⟨c0, c1, c2, c3⟩ := k_cells HO.out
              unfold kv
              cases hnd : nd13 B q with
              | true =>
                rw [hnd] at b0
                rw [hnd, if_pos rfl] at HST
                go_wp2_with fail
                clear c0 c1 c2 c3 HO b0 bf
                generalize W6.alloc (.cells #[.int .u32 (k.1 : Int), .int .u32 (k.2.1 : Int), .int .u32 (k.2.2.1 : Int), .int .u32 (k.2.2.2 : Int)] 68) = W7 at *
                generalize W6.heap.size = kb at *
                go_loopg [13, 62] 4 (fun mm v13 cnt wr => ∃ j : Nat, mm = 4 - j ∧ j ≤ 4 ∧ cnt = .int .i64 (j : Int) ∧ BAt wr w.heap.size (mkJ B k j) ∧ Below w.heap.size w wr)
                case atStart => exact ⟨0, rfl, Nat.zero_le _, rfl, HB1.out, HW1.out⟩
                case round =>
                  clear HB1 HW1
                  obtain ⟨j, hm, hj, rfl, hB, hW⟩ := hrel
                  have HM2 := Lib.hid hm
                  have HB := Lib.hid hB
                  have HW := Lib.hid hW
                  clear hm hB hW
                  by_cases hlt4 : j < 4
                  · have hgj4 : decide ((j : Int) < 4) = true := by simp; omega
                    have hix := kix k hlt4
                    have hkj := HKK.out j hlt4
                    obtain ⟨b0, f0⟩ := HB.out.cell (j := kAt k j) (by rw [mkJ_len, HBL.out]; exact hkj)
                    have i3 : ((kAt k j : Nat) : Int) < (n : Int) := by omega
                    have i4 : (0 : Int) ≤ ((kAt k j : Nat) : Int) := by omega
                    have HK : Hid ((mkJ B k (j + 1)) = (mkJ B k j).set (kAt k j) true) := rfl
                    have w5 : IntKind.i64.wrap ((j : Int) + 1) = ((j + 1 : Nat) : Int) := by rw [IntWalk.i64_in _ (by omega)]; omega
                    generalize kAt k j = y at *
                    go_wp2_with fail
                    go_roundg (4 - (j + 1))
                    case measure => rw [HM2.out]; omega
                    case rel =>
                      refine ⟨j + 1, rfl, by omega, by go_num, ?_, HW.out.setCell (p := ⟨w.heap.size, y, none⟩) (Nat.le_refl _) _⟩
                      rw [HK.out]
                      exact HB.out.set y true
                  · obtain rfl : j = 4 := by omega
                    have hgj4 : decide (((4 : Nat) : Int) < 4) = false := by simp
                    go_wp2_with fail
                    go_roundg (q - 1 + 1)
                    case measure => rw [HMM.out]; omega
                    case rel =>
                      refine ⟨q - 1, mk4L B k, rfl, by omega, rfl, ?_, ?_, ?_, by omega, HW.out⟩
                      · have := HB.out
                        rw [mkJ_all] at this
                        exact this
                      · rw [mk4_len]; exact HBL.out
                      · rw [show q - 1 + 1 = q by omega, ← HDN.out, HST.out]
              | false =>
                rw [hnd] at b0
                rw [hnd, if_neg (by simp)] at HST
                go_wp2_with fail
                go_roundg (q - 1 + 1)
                case measure => rw [HMM.out]; omega
                case rel =>
                  refine ⟨q - 1, B, rfl, by omega, rfl, HB1.out, HBL.out, ?_, by omega, HW1.out⟩
                  rw [show q - 1 + 1 = q by omega, ← HDN.out, HST.out]
            · obtain rfl : q = 1 := by omega
              have hgj : decide (1 < ((1 : Nat) : Int)) = false := by simp
              have HE : Hid (B = nedF N L) := by
                show _ = _
                rw [← HD.out]
                exact (dn_two HWF.out B).symm
              go_wp2_with fail
              go_ret
              refine ⟨_, rfl, ?_, HW.out⟩
              rw [← HE.out]
              exact HB.out
end Go.Proofs.Ytgciceogggldhaa
