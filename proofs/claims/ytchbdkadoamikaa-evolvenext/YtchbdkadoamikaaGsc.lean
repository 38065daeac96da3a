-- Gsc
import Derived.Test.YtchbdkadoamikaaLabk
import Derived.Test.YtchbdkadoamikaaNx9
section
namespace Go.Proofs.Ytchbdkadoamikaa
open Go.RowKit Go.Maps
set_option maxRecDepth 100000

set_option maxHeartbeats 2000000 in
theorem get10_any {w : World} {sb g tb cap most : Nat} {N : List Nd} (h : St w sb g tb cap most N) {n x : Nat} (hn : n ≤ 6) (hx : Sq N n x) (X Y : Nat) (hX : X < 2 ^ n) (hY : Y < 2 ^ n) :
    Calls Try.prog 32 #[.pointer (some ⟨sb, 0, none⟩), .int .u32 (x : Int), .int .i64 (X : Int), .int .i64 (Y : Int)] w fun e w' => e = .returned (.bool (decide (getZ N n x (X : Int) (Y : Int) = 1))) ∧ Below w.heap.size w w' := by
  have HS := Lib.hid h
  have HX0 := Lib.hid hx
  have HXY := Lib.hid (And.intro hX hY)
  have HN6 := Lib.hid hn
  have HWF := Lib.hid h.wf
  clear h hx hX hY hn
  go_enter Try.func32, Try.ntmps32
  go_wp2_with fail
  go_loopg [1, 2, 3, 9, 10, 11, 12] n (fun mm v1 v2 v3 v9 v10 v11 v12 wr => ∃ (k z A B : Nat), mm = k ∧ k ≤ 6 ∧ v1 = .int .u32 (z : Int) ∧ v2 = .int .i64 (A : Int) ∧ v3 = .int .i64 (B : Int) ∧ Sq N k z ∧ A < 2 ^ k ∧ B < 2 ^ k ∧ getZ N k z (A : Int) (B : Int) = getZ N n x (X : Int) (Y : Int) ∧ Below w.heap.size w wr)
  case atStart => exact ⟨n, x, X, Y, rfl, HN6.out, rfl, rfl, rfl, HX0.out, HXY.out.1, HXY.out.2, rfl, Below.refl _ _⟩
  case round =>
    obtain ⟨k, z, A, B, hm, hk, rfl, rfl, rfl, hz, hA, hB, hg, hb⟩ := hrel
    have HMM := Lib.hid hm
    clear hm
    have HSr := Lib.hid (HS.out.later hb)
    have HBr := Lib.hid hb
    have HZ := Lib.hid hz
    have HG := Lib.hid hg
    have hzu := Sq.u32 HSr.out hz
    have HLV := Lib.hid (level_any HSr.out z hzu)
    rw [show lvZ N z = ((k : Nat) : Int) from hz] at HLV
    clear hz hg hb
    cases k with
    | zero =>
      have g0 : decide (((0 : Nat) : Int) > 0) = false := by simp
      go_wp2_with fail
      refine HLV.out.mono ?_
      rintro e w5 ⟨rfl, rfl⟩
      have hz01 := (show Sq N 0 z from HZ.out).zero HWF.out
      have hgz : ((z : Int) == 1) = decide (getZ N n x (X : Int) (Y : Int) = 1) := by
        rw [← HG.out]
        show _ = decide (z = 1)
        rw [Bool.eq_iff_iff, beq_iff_eq, decide_eq_true_eq]; omega
      have HGZ := Lib.hid hgz
      clear hgz
      go_wp2_with fail
      go_ret
      rw [← HGZ.out]
      exact ⟨rfl, HBr.out⟩
    | succ k =>
      have g0 : decide (0 < ((k + 1 : Nat) : Int)) = true := by rw [decide_eq_true_eq]; omega
      obtain ⟨H, hH⟩ : ∃ H : Nat, H = 2 ^ k := ⟨_, rfl⟩
      have hHi : (2 : Int) ^ k = (H : Int) := by rw [hH]; exact (pow_nat k).symm
      have hp2 : 2 ^ (k + 1) = 2 * H := by rw [Nat.pow_succ, hH]; omega
      rw [hp2] at hA hB
      have hH64 : H ≤ 64 := by rw [hH]; exact Nat.pow_le_pow_right (n := 2) (by decide) (show k ≤ 6 by omega)
      have g1 : wrap64 (2 ^ k) = (H : Int) := by rw [hHi]; exact IntWalk.wrap64_in _ (by omega)
      have HH := Lib.hid hH
      have HHI := Lib.hid hHi
      have HK1 := Lib.hid (fo_iff.1 (HZ.out.kid HWF.out))
      clear hH hHi hp2
      go_wp2_with fail
      refine HLV.out.mono ?_
      rintro e w5 ⟨rfl, rfl⟩
      go_wp2_with fail
      refine (of_sqk HSr.out HZ.out).mono ?_
      rintro e w6 ⟨rfl, hb⟩
      have HKZ : Hid (∀ A B : Int, getZ N (k + 1) z A B = getZ N k (kAt (kidZ N z) (pl (qb k A) (qb k B))) A B) := fun A B => by rw [← pick_kAt]; rfl
      generalize kidZ N z = k1 at *
      have hb6 := hb.trans ((bel1 w6 (.cells #[.int .u32 (k1.1 : Int), .int .u32 (k1.2.1 : Int), .int .u32 (k1.2.2.1 : Int), .int .u32 (k1.2.2.2 : Int)] 46)).mono hb.size)
      have HB6 := Lib.hid (HBr.out.trans (hb6.mono HBr.out.size))
      have HS6 := Lib.hid (HSr.out.later hb6)
      have HK6 : Hid ((w6.alloc (.cells #[.int .u32 (k1.1 : Int), .int .u32 (k1.2.1 : Int), .int .u32 (k1.2.2.1 : Int), .int .u32 (k1.2.2.2 : Int)] 46)).heap[w6.heap.size]? = some (kO k1)) := heap_alloc_new w6 _
      have HLV6 := Lib.hid (level_any HS6.out z hzu)
      rw [show lvZ N z = ((k + 1 : Nat) : Int) from HZ.out] at HLV6
      clear hb hb6 HBr HSr HLV
      go_wp2_with fail
      generalize w6.alloc (.cells #[.int .u32 (k1.1 : Int), .int .u32 (k1.2.1 : Int), .int .u32 (k1.2.2.1 : Int), .int .u32 (k1.2.2.2 : Int)] 46) = w7 at *
      generalize w6.heap.size = kb at *
      refine HLV6.out.mono ?_
      rintro e w8 ⟨rfl, rfl⟩
      obtain ⟨c0, c1, c2, c3⟩ := k_cells HK6.out
      clear HLV6
      have hqb : ∀ A : Nat, A < 2 * H → qb k (A : Int) = decide (H ≤ A) := fun A hA => by
        have := HHI.out
        by_cases h : H ≤ A
        · rw [decide_eq_true h]
          exact qb_hi (by omega) (by rw [pow_two2]; omega)
        · rw [decide_eq_false h]
          exact qb_lo (by omega) (by omega)
      have HQB := Lib.hid hqb
      clear hqb
      have HNXT : Hid (∀ (A' B' : Nat) (r b : Bool), r = decide (H ≤ A) → b = decide (H ≤ B) → (A' : Int) = (A : Int) - off k r → (B' : Int) = (B : Int) - off k b → getZ N k (kAt k1 (pl r b)) (A' : Int) (B' : Int) = getZ N n x (X : Int) (Y : Int)) := fun A' B' r b hr hb h1 h2 => by
        rw [← HG.out, HKZ.out, HQB.out A hA, HQB.out B hB, ← hr, ← hb, h1, h2, get_off]
      have HK1' := Lib.hid HK1.out
      by_cases hAH : H ≤ A
      · have j1 : decide (H ≤ A) = true := by simp; omega
        by_cases hBH : H ≤ B
        · have j2 : decide (H ≤ B) = true := by simp; omega
          go_wp2_with (first | (rw [g1]) | fail)
          go_roundg k
          case measure => rw [HMM.out]; omega
          case rel => exact ⟨k, kAt k1 (pl true true), A - H, B - H, rfl, by omega, rfl, by go_num, by go_num, HK1'.out _ (pl_lt _ _), by have := HH.out; omega, by have := HH.out; omega, HNXT.out (A - H) (B - H) true true j1.symm j2.symm (by have := HHI.out; first | (simp [off]; done) | (simp [off]; omega)) (by have := HHI.out; first | (simp [off]; done) | (simp [off]; omega)), HB6.out⟩
        · have j2 : decide (H ≤ B) = false := by simp; omega
          go_wp2_with (first | (rw [g1]) | fail)
          go_roundg k
          case measure => rw [HMM.out]; omega
          case rel => exact ⟨k, kAt k1 (pl true false), A - H, B, rfl, by omega, rfl, by go_num, by go_num, HK1'.out _ (pl_lt _ _), by have := HH.out; omega, by have := HH.out; omega, HNXT.out (A - H) (B) true false j1.symm j2.symm (by have := HHI.out; first | (simp [off]; done) | (simp [off]; omega)) (by have := HHI.out; first | (simp [off]; done) | (simp [off]; omega)), HB6.out⟩
      · have j1 : decide (H ≤ A) = false := by simp; omega
        by_cases hBH : H ≤ B
        · have j2 : decide (H ≤ B) = true := by simp; omega
          go_wp2_with (first | (rw [g1]) | fail)
          go_roundg k
          case measure => rw [HMM.out]; omega
          case rel => exact ⟨k, kAt k1 (pl false true), A, B - H, rfl, by omega, rfl, by go_num, by go_num, HK1'.out _ (pl_lt _ _), by have := HH.out; omega, by have := HH.out; omega, HNXT.out (A) (B - H) false true j1.symm j2.symm (by have := HHI.out; first | (simp [off]; done) | (simp [off]; omega)) (by have := HHI.out; first | (simp [off]; done) | (simp [off]; omega)), HB6.out⟩
        · have j2 : decide (H ≤ B) = false := by simp; omega
          go_wp2_with (first | (rw [g1]) | fail)
          go_roundg k
          case measure => rw [HMM.out]; omega
          case rel => exact ⟨k, kAt k1 (pl false false), A, B, rfl, by omega, rfl, by go_num, by go_num, HK1'.out _ (pl_lt _ _), by have := HH.out; omega, by have := HH.out; omega, HNXT.out (A) (B) false false j1.symm j2.symm (by have := HHI.out; first | (simp [off]; done) | (simp [off]; omega)) (by have := HHI.out; first | (simp [off]; done) | (simp [off]; omega)), HB6.out⟩
end Go.Proofs.Ytchbdkadoamikaa
end

section
namespace Go.Proofs.Ytchbdkadoamikaa
open Go.RowKit Go.Maps
set_option maxRecDepth 100000

/-- Is a cell in the square that begins at a place? -/
def inr (at_ side : Nat) (c : Int × Int) : Bool := decide ((at_ : Int) ≤ c.1) && decide ((at_ : Int) ≤ c.2) && decide (c.1 < (at_ : Int) + (side : Int)) && decide (c.2 < (at_ : Int) + (side : Int))
theorem inr_iff {at_ side : Nat} {c : Int × Int} : inr at_ side c = true ↔ ((at_ : Int) ≤ c.1 ∧ c.1 < (at_ : Int) + (side : Int)) ∧ (at_ : Int) ≤ c.2 ∧ c.2 < (at_ : Int) + (side : Int) := by
  unfold inr
  simp only [Bool.and_eq_true, decide_eq_true_eq]
  omega
theorem same_ct {N : List Nd} (hw : Wf N) {n x at_ : Nat} {L : List (Int × Int)} (hc : Con N n x (shF (plL L) (at_ : Int) (at_ : Int))) (hd : L.Nodup) (hl : L.length ≤ 1000) : ctZ N x = L.countP (inr at_ (2 ^ n)) := by
  have hp := pow_nat n
  rw [ct_con hw hc (L := (L.filter (inr at_ (2 ^ n))).map fun c => (c.1 - (at_ : Int), c.2 - (at_ : Int))) ?_ ?_]
  · rw [List.length_map, ← List.countP_eq_length_filter]
    have : L.countP (inr at_ (2 ^ n)) ≤ L.length := List.countP_le_length
    unfold topN
    omega
  · refine List.Pairwise.map _ (fun a b h e => h ?_) (hd.filter _)
    simp only [Prod.mk.injEq] at e
    exact Prod.ext (by omega) (by omega)
  · intro X Y
    simp only [List.mem_map, List.mem_filter, Prod.mk.injEq]
    have hpl : shF (plL L) (at_ : Int) (at_ : Int) X Y = 1 ↔ (X + (at_ : Int), Y + (at_ : Int)) ∈ L := by
      unfold shF plL
      split <;> simp_all
    rw [hpl]
    constructor
    · rintro ⟨c, ⟨hc, hi⟩, h1, h2⟩
      rw [inr_iff] at hi
      have e : (X + (at_ : Int), Y + (at_ : Int)) = c := Prod.ext (by simp only; omega) (by simp only; omega)
      exact ⟨by omega, by omega, by rw [e]; exact hc⟩
    · rintro ⟨h1, h2, h3⟩
      exact ⟨_, ⟨h3, by rw [inr_iff]; simp only; omega⟩, by simp only; omega, by simp only; omega⟩
set_option maxHeartbeats 4000000 in
theorem same10_any {w : World} {sb g tb cap most : Nat} {N : List Nd} (h : St w sb g tb cap most N) {n x : Nat} (hn : n ≤ 6) (at_ side : Nat) (hat : at_ ≤ 1000) (hsd : side = 2 ^ n) (L : List (Int × Int)) (a : Option Addr) (cp : Nat) (hr : Ro w a L) (hd : L.Nodup) (hl : L.length ≤ 1000) (hc : Con N n x (shF (plL L) (at_ : Int) (at_ : Int))) :
    Calls Try.prog 17 #[.pointer (some ⟨sb, 0, none⟩), .int .u32 (x : Int), .int .i64 (at_ : Int), .int .i64 (side : Int), .slice a L.length cp] w fun e w' => e = .returned (.bool true) ∧ Below w.heap.size w w' := by
  have hs64 : side ≤ 64 := by rw [hsd]; exact Nat.pow_le_pow_right (n := 2) (by decide) hn
  have HS := Lib.hid h
  have HR := Lib.hid hr
  have HC := Lib.hid hc
  have HN6 := Lib.hid hn
  have HCT : Hid (ctZ N x = L.countP (inr at_ side)) := by rw [hsd]; exact same_ct h.wf hc hd hl
  have HSD := Lib.hid hsd
  clear h hr hd hc hn hsd
  go_enter Try.func17, Try.ntmps17
  go_wp2_with fail
  go_loopg [11, 13, 16] L.length (fun mm v11 v13 cnt wr => ∃ (j : Nat), mm = L.length - j ∧ j ≤ L.length ∧ cnt = .int .i64 (j : Int) ∧ v11 = .int .u64 (((L.take j).countP (inr at_ side) : Nat) : Int) ∧ Below w.heap.size w wr)
  case atStart => exact ⟨0, rfl, Nat.zero_le _, rfl, rfl, Below.refl _ _⟩
  case round =>
    obtain ⟨j, hm, hj, rfl, rfl, hb⟩ := hrel
    have HMM := Lib.hid hm
    have HB := Lib.hid hb
    clear hm hb
    by_cases hlt : j < L.length
    · have hgj : decide (j < L.length) = true := by simp; omega
      have hgj' : decide ((j : Int) < (L.length : Int)) = true := by simp; omega
      have hcj := List.getElem?_eq_getElem hlt
      have HTK : Hid ((L.take (j + 1)).countP (inr at_ side) = (L.take j).countP (inr at_ side) + if inr at_ side (L[j]'hlt) then 1 else 0) := by
        show _ = _
        rw [List.take_add_one, hcj, List.countP_append]; simp [List.countP_cons]
      have hcl : (L.take j).countP (inr at_ side) ≤ 1000 := Nat.le_trans List.countP_le_length (by rw [List.length_take]; omega)
      have HMEM : Hid (L[j]'hlt ∈ L) := List.getElem_mem hlt
      generalize L[j]'hlt = c at *
      generalize (L.take j).countP (inr at_ side) = q at *
      obtain ⟨b, rfl, r0, r1⟩ := (HR.out.later HB.out) j c hcj
      have HB1 := Lib.hid (HB.out.trans ((bel1 wr (.cells #[.int .i64 c.1, .int .i64 c.2] 74)).mono HB.out.size))
      have HP := Lib.hid (heap_alloc_new wr (.cells #[.int .i64 c.1, .int .i64 c.2] 74))
      have p0 : (wr.alloc (.cells #[.int .i64 c.1, .int .i64 c.2] 74)).cell? ⟨wr.heap.size, 0, none⟩ = some (.int .i64 c.1) := by rw [Lib.cell_of_heap HP.out]; rfl
      have p1 : (wr.alloc (.cells #[.int .i64 c.1, .int .i64 c.2] 74)).cell? ⟨wr.heap.size, 1, none⟩ = some (.int .i64 c.2) := by rw [Lib.cell_of_heap HP.out]; rfl
      have w1 : IntKind.i64.wrap ((at_ : Int) + (side : Int)) = (at_ : Int) + (side : Int) := IntWalk.i64_in _ (by omega)
      by_cases h0 : (at_ : Int) ≤ c.1
      · have d0 : decide ((at_ : Int) ≤ c.1) = true := by rw [decide_eq_true_eq]; exact h0
        by_cases h1 : (at_ : Int) ≤ c.2
        · have d1 : decide ((at_ : Int) ≤ c.2) = true := by rw [decide_eq_true_eq]; exact h1
          by_cases h2 : c.1 < (at_ : Int) + (side : Int)
          · have d2 : decide (c.1 < (at_ : Int) + (side : Int)) = true := by rw [decide_eq_true_eq]; exact h2
            by_cases h3 : c.2 < (at_ : Int) + (side : Int)
            · have d3 : decide (c.2 < (at_ : Int) + (side : Int)) = true := by rw [decide_eq_true_eq]; exact h3
              have hin : inr at_ side c = true := by rw [inr_iff]; omega
              have HTK1 : Hid ((L.take (j + 1)).countP (inr at_ side) = q + 1) := by show _ = _; rw [HTK.out, hin]; rfl
              obtain ⟨X, hX⟩ : ∃ X : Nat, c.1 - (at_ : Int) = (X : Int) := ⟨(c.1 - (at_ : Int)).toNat, by omega⟩
              obtain ⟨Y, hY⟩ : ∃ Y : Nat, c.2 - (at_ : Int) = (Y : Int) := ⟨(c.2 - (at_ : Int)).toNat, by omega⟩
              have w2 : IntKind.i64.wrap (c.1 - (at_ : Int)) = (X : Int) := by rw [hX]; exact IntWalk.i64_in _ (by omega)
              have w3 : IntKind.i64.wrap (c.2 - (at_ : Int)) = (Y : Int) := by rw [hY]; exact IntWalk.i64_in _ (by omega)
              have HGE := Lib.hid (get10_any (HS.out.later HB1.out) HN6.out HC.out.1 X Y (by rw [← HSD.out]; omega) (by rw [← HSD.out]; omega))
              have hgz : getZ N n x (X : Int) (Y : Int) = 1 := by
                have hp := pow_nat n
                rw [HC.out.2 _ _ (by rw [← hp, ← HSD.out]; omega) (by rw [← hp, ← HSD.out]; omega)]
                show plL L ((X : Int) + (at_ : Int)) ((Y : Int) + (at_ : Int)) = 1
                rw [← hX, ← hY, Int.sub_add_cancel, Int.sub_add_cancel]
                unfold plL
                rw [if_pos HMEM.out]
              rw [hgz] at HGE
              have HXY := Lib.hid (And.intro hX hY)
              clear hX hY hgz hin
              go_wp2_with fail
              refine HGE.out.mono ?_
              rintro e w5 ⟨rfl, hb⟩
              have HB2 := Lib.hid (HB1.out.trans (hb.mono HB1.out.size))
              clear hb HGE
              go_wp2_with fail
              go_roundg (L.length - (j + 1))
              case measure => rw [HMM.out]; omega
              case rel => exact ⟨j + 1, rfl, by omega, by go_num, by rw [HTK1.out]; go_num, HB2.out⟩
            · have d3 : decide (c.2 < (at_ : Int) + (side : Int)) = false := by rw [decide_eq_false_iff_not]; exact h3
              have hin : inr at_ side c = false := by rw [Bool.eq_false_iff]; intro hh; rw [inr_iff] at hh; omega
              have HTK1 : Hid ((L.take (j + 1)).countP (inr at_ side) = q) := by show _ = _; rw [HTK.out, hin]; rfl
              clear hin
              go_wp2_with fail
              go_roundg (L.length - (j + 1))
              case measure => rw [HMM.out]; omega
              case rel => exact ⟨j + 1, rfl, by omega, by go_num, by rw [HTK1.out], HB1.out⟩
          · have d2 : decide (c.1 < (at_ : Int) + (side : Int)) = false := by rw [decide_eq_false_iff_not]; exact h2
            have hin : inr at_ side c = false := by rw [Bool.eq_false_iff]; intro hh; rw [inr_iff] at hh; omega
            have HTK1 : Hid ((L.take (j + 1)).countP (inr at_ side) = q) := by show _ = _; rw [HTK.out, hin]; rfl
            clear hin
            go_wp2_with fail
            go_roundg (L.length - (j + 1))
            case measure => rw [HMM.out]; omega
            case rel => exact ⟨j + 1, rfl, by omega, by go_num, by rw [HTK1.out], HB1.out⟩
        · have d1 : decide ((at_ : Int) ≤ c.2) = false := by rw [decide_eq_false_iff_not]; exact h1
          have hin : inr at_ side c = false := by rw [Bool.eq_false_iff]; intro hh; rw [inr_iff] at hh; omega
          have HTK1 : Hid ((L.take (j + 1)).countP (inr at_ side) = q) := by show _ = _; rw [HTK.out, hin]; rfl
          clear hin
          go_wp2_with fail
          go_roundg (L.length - (j + 1))
          case measure => rw [HMM.out]; omega
          case rel => exact ⟨j + 1, rfl, by omega, by go_num, by rw [HTK1.out], HB1.out⟩
      · have d0 : decide ((at_ : Int) ≤ c.1) = false := by rw [decide_eq_false_iff_not]; exact h0
        have hin : inr at_ side c = false := by rw [Bool.eq_false_iff]; intro hh; rw [inr_iff] at hh; omega
        have HTK1 : Hid ((L.take (j + 1)).countP (inr at_ side) = q) := by show _ = _; rw [HTK.out, hin]; rfl
        clear hin
        go_wp2_with fail
        go_roundg (L.length - (j + 1))
        case measure => rw [HMM.out]; omega
        case rel => exact ⟨j + 1, rfl, by omega, by go_num, by rw [HTK1.out], HB1.out⟩
    · obtain rfl : j = L.length := by omega
      have hgj : decide (L.length < L.length) = false := by simp
      have HSr := Lib.hid (HS.out.later HB.out)
      have hxu := Sq.u32 HSr.out HC.out.1
      have HCN := Lib.hid (count_any HSr.out x hxu)
      rw [HCT.out] at HCN
      rw [List.take_length]
      generalize L.countP (inr at_ side) = q at *
      go_wp2_with fail
      refine HCN.out.mono ?_
      rintro e w5 ⟨rfl, rfl⟩
      go_wp2_with fail
      go_ret
      exact ⟨rfl, HB.out⟩
end Go.Proofs.Ytchbdkadoamikaa
end

section
namespace Go.Proofs.Ytchbdkadoamikaa
open Go.RowKit Go.Maps
set_option maxRecDepth 100000

/-- A row of the law's cells, up to a column. -/
def rowC (l : List Nat) (side y n : Nat) : List (Int × Int) := ((List.range n).filter fun x => alv l side x y).map fun (x : Nat) => ((x : Int), (y : Int))
/-- The rows ahead of one. -/
def rowsC (l : List Nat) (side : Nat) : Nat → List (Int × Int)
  | 0 => []
  | y + 1 => rowsC l side y ++ rowC l side y side
theorem rowC_succ (l : List Nat) (side y n : Nat) : rowC l side y (n + 1) = rowC l side y n ++ if alv l side n y then [((n : Int), (y : Int))] else [] := by
  unfold rowC
  rw [List.range_succ, List.filter_append, List.map_append]
  congr 1
  cases h : alv l side n y <;> simp [List.filter, h]
theorem mem_rowC {l : List Nat} {side y n : Nat} {p : Int × Int} : p ∈ rowC l side y n ↔ ∃ x : Nat, x < n ∧ alv l side x y = true ∧ p = ((x : Int), (y : Int)) := by
  unfold rowC
  simp only [List.mem_map, List.mem_filter, List.mem_range]
  constructor
  · rintro ⟨x, ⟨h1, h2⟩, rfl⟩; exact ⟨x, h1, h2, rfl⟩
  · rintro ⟨x, h1, h2, rfl⟩; exact ⟨x, ⟨h1, h2⟩, rfl⟩
theorem mem_rowsC {l : List Nat} {side : Nat} {p : Int × Int} : ∀ {y : Nat}, p ∈ rowsC l side y ↔ ∃ x k : Nat, x < side ∧ k < y ∧ alv l side x k = true ∧ p = ((x : Int), (k : Int))
  | 0 => by simp [rowsC]
  | y + 1 => by
    unfold rowsC
    rw [List.mem_append, mem_rowsC, mem_rowC]
    constructor
    · rintro (⟨x, k, h1, h2, h3, h4⟩ | ⟨x, h1, h2, h3⟩)
      · exact ⟨x, k, h1, by omega, h3, h4⟩
      · exact ⟨x, y, h1, by omega, h2, h3⟩
    · rintro ⟨x, k, h1, h2, h3, h4⟩
      by_cases e : k = y
      · subst e; exact Or.inr ⟨x, h1, h3, h4⟩
      · exact Or.inl ⟨x, k, h1, by omega, h3, h4⟩
theorem nodup_rowC (l : List Nat) (side y n : Nat) : (rowC l side y n).Nodup := by
  unfold rowC
  refine List.Pairwise.map _ (fun a b h e => h ?_) (List.nodup_range.filter _)
  simp only [Prod.mk.injEq] at e
  omega
theorem nodup_rowsC (l : List Nat) (side : Nat) : ∀ y, (rowsC l side y).Nodup
  | 0 => List.nodup_nil
  | y + 1 => by
    unfold rowsC
    refine List.nodup_append.2 ⟨nodup_rowsC l side y, nodup_rowC l side y side, fun a ha b hb e => ?_⟩
    obtain ⟨x, k, h1, h2, h3, h4⟩ := mem_rowsC.1 ha
    obtain ⟨x', h1', h2', h3'⟩ := mem_rowC.1 hb
    rw [e, h3'] at h4
    simp only [Prod.mk.injEq] at h4
    omega
theorem len_rowC (l : List Nat) (side y n : Nat) : (rowC l side y n).length ≤ n := by
  unfold rowC
  rw [List.length_map]
  exact Nat.le_trans (List.length_filter_le _ _) (by simp)
theorem len_rowsC (l : List Nat) (side : Nat) : ∀ y, (rowsC l side y).length ≤ y * side
  | 0 => by simp [rowsC]
  | y + 1 => by
    unfold rowsC
    rw [List.length_append, Nat.add_mul, Nat.one_mul]
    exact Nat.add_le_add (len_rowsC l side y) (len_rowC l side y side)
/-- All that are alive. -/
def cellsU (l : List Nat) (side : Nat) : List (Int × Int) := rowsC l side side
theorem plL_cellsU (l : List Nat) (side : Nat) : plL (cellsU l side) = plU l side := by
  funext X Y
  unfold plL plU cellsU
  by_cases h : 0 ≤ X ∧ X < (side : Int) ∧ 0 ≤ Y ∧ Y < (side : Int) ∧ alv l side X.toNat Y.toNat = true
  · rw [if_pos h, if_pos]
    exact mem_rowsC.2 ⟨X.toNat, Y.toNat, by omega, by omega, h.2.2.2.2, Prod.ext (by simp only; omega) (by simp only; omega)⟩
  · rw [if_neg h, if_neg]
    intro hm
    obtain ⟨x, k, h1, h2, h3, h4⟩ := mem_rowsC.1 hm
    simp only [Prod.mk.injEq] at h4
    obtain ⟨rfl, rfl⟩ := h4
    exact h ⟨by omega, by omega, by omega, by omega, by simpa using h3⟩
set_option maxHeartbeats 4000000 in
theorem cells10_any (l : List Nat) (hl2 : l.length ≤ 4) (hz : ∀ z ∈ l, z < 18446744073709551616) (a : Option Addr) (cap : Nat) (w : World) (h : RowU w a l) (hD : 0 < l.length → ∀ b off, a = some ⟨b, off, none⟩ → b < w.heap.size) (side : Nat) (hs : side ≤ 16) :
    Calls Try.prog 14 #[.slice a l.length cap, .int .i64 (side : Int)] w fun e w' => ∃ v, e = .returned v ∧ OwP w' w.heap.size v (cellsU l side) ∧ Below w.heap.size w w' := by
  obtain ⟨i0, hi, hz0, hz1, hz2⟩ := infoP7
  have HI := Lib.hid hi
  have HZ0 := Lib.hid hz0
  have HZ1 := Lib.hid hz1
  have HZ2 := Lib.hid hz2
  have HR := Lib.hid h
  have HD := Lib.hid hD
  clear hi hz0 hz1 hz2 h hD
  go_enter Try.func14, Try.ntmps14
  go_wp2_with fail
  go_loopg [5, 6, 7, 9] side (fun mm v5 v6 v7 cnt wr => ∃ (y : Nat), mm = side - y ∧ y ≤ side ∧ cnt = .int .i64 (y : Int) ∧ OwP wr w.heap.size v5 (rowsC l side y) ∧ Below w.heap.size w wr)
  case atStart => exact ⟨0, rfl, Nat.zero_le _, rfl, own_nil _ _, Below.refl _ _⟩
  case round =>
    obtain ⟨y, hm, hy, rfl, ho, hb⟩ := hrel
    have HMM := Lib.hid hm
    have HO := Lib.hid ho
    have HB := Lib.hid hb
    clear hm ho hb
    by_cases hlt : y < side
    · have hgj : decide (y < side) = true := by simp; omega
      go_wp2_with fail
      generalize wr = wo at *
      go_loopg [5, 7, 13] side (fun mm v5 v7 cnt wr => ∃ (x : Nat), mm = side - x ∧ x ≤ side ∧ cnt = .int .i64 (x : Int) ∧ OwP wr w.heap.size v5 (rowsC l side y ++ rowC l side y x) ∧ Below w.heap.size w wr)
      case atStart => exact ⟨0, rfl, Nat.zero_le _, rfl, by unfold rowC; simpa using HO.out, HB.out⟩
      case round =>
        clear HO HB
        obtain ⟨x, hm, hx, rfl, ho, hb⟩ := hrel
        have HMM2 := Lib.hid hm
        have HO := Lib.hid ho
        have HB := Lib.hid hb
        clear hm ho hb
        by_cases hlt2 : x < side
        · have hgj2 : decide (x < side) = true := by simp; omega
          have HAL := Lib.hid (alive_all l hl2 hz a cap wr (HR.out.later HD.out HB.out) side x y hlt2 hlt (by omega))
          have HFL := Lib.hid (rowC_succ l side y x)
          have hlen : (rowsC l side y ++ rowC l side y x).length ≤ 256 + 16 := by
            rw [List.length_append]
            have h1 := len_rowsC l side y
            have h2 := len_rowC l side y x
            have h3 : y * side ≤ 16 * 16 := Nat.mul_le_mul (by omega) hs
            omega
          go_wp2_with fail
          refine HAL.out.mono ?_
          rintro e w5 ⟨rfl, rfl⟩
          clear HAL
          cases hbj : alv l side x y with
          | false =>
            rw [hbj] at HFL
            clear hbj
            go_wp2_with fail
            go_roundg (side - (x + 1))
            case measure => rw [HMM2.out]; omega
            case rel =>
              refine ⟨x + 1, rfl, by omega, by go_num, ?_, HB.out⟩
              rw [HFL.out]
              simp only [Bool.false_eq_true, if_false, List.append_nil]
              exact HO.out
          | true =>
            rw [hbj] at HFL
            clear hbj
            generalize hF : rowsC l side y ++ rowC l side y x = F at *
            have HFF := Lib.hid hF
            clear hF
            go_wp2_with (at_builtin; refine wpList_append_own_at _ rfl _ _ 39 rfl w.heap.size 74 i0 (.agg #[.int .i64 0, .int .i64 0]) 2 16 Try.underlying39 HI.out HZ0.out HZ1.out HZ2.out rfl (by decide) _ _ _ rfl (World.ownsRow.alloc HO.out _) ⟨wr.heap.size, 0, none⟩ 1 1 [.int .i64 (x : Int), .int .i64 (y : Int)] rfl rfl ?_ ?_ ?_ ?_ ?_ ?_; (exact cell_pair _ _ _ _); (intro u hu; simp at hu; rcases hu with rfl | rfl <;> rfl); (unfold maxLen; omega); (omega); (have := HB.out.size; simp; omega); intro v' w7 hown4 hgrow _ hat; have HG := Lib.hid hgrow; have HO4 := Lib.hid hown4; clear hgrow hown4 hat)
            have HB7 := Lib.hid ((HB.out.alloc HB.out.size (.cells #[.int .i64 (x : Int), .int .i64 (y : Int)] 74)).grown HG.out (by have := HB.out.size; simp; omega) (fun k hk => (World.ownsRow.lt HO.out k hk).1))
            go_roundg (side - (x + 1))
            case measure => rw [HMM2.out]; omega
            case rel =>
              refine ⟨x + 1, rfl, by omega, by go_num, ?_, HB7.out⟩
              rw [HFL.out]
              simp only [if_true]
              rw [← List.append_assoc, HFF.out]
              unfold OwP
              rw [ptVs_snoc, List.length_append]
              exact HO4.out
        · obtain rfl : x = side := by omega
          have hgj2 : decide (x < x) = false := by simp
          go_wp2_with fail
          go_roundg (x - (y + 1))
          case measure => rw [HMM.out]; omega
          case rel => exact ⟨y + 1, rfl, by omega, by go_num, HO.out, HB.out⟩
    · obtain rfl : y = side := by omega
      have hgj : decide (y < y) = false := by simp
      go_wp2_with fail
      go_ret
      exact ⟨_, rfl, HO.out, HB.out⟩
end Go.Proofs.Ytchbdkadoamikaa
end
