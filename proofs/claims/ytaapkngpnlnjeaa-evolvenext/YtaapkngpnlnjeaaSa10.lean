/- The laws of layer 10: same: contract. -/
import Derived.Test.YtaapkngpnlnjeaaGt10
namespace Go.Proofs.Ytaapkngpnlnjeaa
open Go.RowKit Go.Maps
set_option maxRecDepth 100000

/-- Is a cell in the square that begins at a place? -/
def inr (at_ side : Nat) (c : Int × Int) : Bool := decide ((at_ : Int) ≤ c.1) && decide ((at_ : Int) ≤ c.2) && decide (c.1 < (at_ : Int) + (side : Int)) && decide (c.2 < (at_ : Int) + (side : Int))
theorem inr_iff {at_ side : Nat} {c : Int × Int} : inr at_ side c = true ↔ ((at_ : Int) ≤ c.1 ∧ c.1 < (at_ : Int) + (side : Int)) ∧ (at_ : Int) ≤ c.2 ∧ c.2 < (at_ : Int) + (side : Int) := by
  unfold inr
  simp only [Bool.and_eq_true, decide_eq_true_eq]
  omega
theorem same_ct {N : List Nd} (hw : Wf N) {n x at_ : Nat} {L : List (Int × Int)} (hc : Con N n x (shF (plL L) (at_ : Int) (at_ : Int))) (hd : L.Nodup) (hl : L.length ≤ 1000) : ctZ N x = L.countP (inr at_ (2 ^ n)) := by
  have hp := pow_nat n
  rw [ct_con hw hc (L := (L.filter (inr at_ (2 ^ n))).map fun c => (c.1 - (at_ : Int), c.2 - (at_ : Int))) ?_ ?_]
  · rw [List.length_map, ← List.countP_eq_length_filter]
    have : L.countP (inr at_ (2 ^ n)) ≤ L.length := List.countP_le_length
    unfold topN
    omega
  · refine List.Pairwise.map _ (fun a b h e => h ?_) (hd.filter _)
    simp only [Prod.mk.injEq] at e
    exact Prod.ext (by omega) (by omega)
  · intro X Y
    simp only [List.mem_map, List.mem_filter, Prod.mk.injEq]
    have hpl : shF (plL L) (at_ : Int) (at_ : Int) X Y = 1 ↔ (X + (at_ : Int), Y + (at_ : Int)) ∈ L := by
      unfold shF plL
      split <;> simp_all
    rw [hpl]
    constructor
    · rintro ⟨c, ⟨hc, hi⟩, h1, h2⟩
      rw [inr_iff] at hi
      have e : (X + (at_ : Int), Y + (at_ : Int)) = c := Prod.ext (by simp only; omega) (by simp only; omega)
      exact ⟨by omega, by omega, by rw [e]; exact hc⟩
    · rintro ⟨h1, h2, h3⟩
      exact ⟨_, ⟨h3, by rw [inr_iff]; simp only; omega⟩, by simp only; omega, by simp only; omega⟩
set_option maxHeartbeats 4000000 in
theorem same10_any {w : World} {sb g tb cap most : Nat} {N : List Nd} (h : St w sb g tb cap most N) {n x : Nat} (hn : n ≤ 6) (at_ side : Nat) (hat : at_ ≤ 1000) (hsd : side = 2 ^ n) (L : List (Int × Int)) (a : Option Addr) (cp : Nat) (hr : Ro w a L) (hd : L.Nodup) (hl : L.length ≤ 1000) (hc : Con N n x (shF (plL L) (at_ : Int) (at_ : Int))) :
    Calls Try.prog 16 #[.pointer (some ⟨sb, 0, none⟩), .int .u32 (x : Int), .int .i64 (at_ : Int), .int .i64 (side : Int), .slice a L.length cp] w fun e w' => e = .returned (.bool true) ∧ Below w.heap.size w w' := by
  have hs64 : side ≤ 64 := by rw [hsd]; exact Nat.pow_le_pow_right (n := 2) (by decide) hn
  have HS := Lib.hid h
  have HR := Lib.hid hr
  have HC := Lib.hid hc
  have HN6 := Lib.hid hn
  have HCT : Hid (ctZ N x = L.countP (inr at_ side)) := by rw [hsd]; exact same_ct h.wf hc hd hl
  have HSD := Lib.hid hsd
  clear h hr hd hc hn hsd
  go_enter Try.func16, Try.ntmps16
  go_wp2_with fail
  go_loopg [11, 13, 16] L.length (fun mm v11 v13 cnt wr => ∃ (j : Nat), mm = L.length - j ∧ j ≤ L.length ∧ cnt = .int .i64 (j : Int) ∧ v11 = .int .u64 (((L.take j).countP (inr at_ side) : Nat) : Int) ∧ Below w.heap.size w wr)
  case atStart => exact ⟨0, rfl, Nat.zero_le _, rfl, rfl, Below.refl _ _⟩
  case round =>
    obtain ⟨j, hm, hj, rfl, rfl, hb⟩ := hrel
    have HMM := Lib.hid hm
    have HB := Lib.hid hb
    clear hm hb
    by_cases hlt : j < L.length
    · have hgj : decide (j < L.length) = true := by simp; omega
      have hgj' : decide ((j : Int) < (L.length : Int)) = true := by simp; omega
      have hcj := List.getElem?_eq_getElem hlt
      have HTK : Hid ((L.take (j + 1)).countP (inr at_ side) = (L.take j).countP (inr at_ side) + if inr at_ side (L[j]'hlt) then 1 else 0) := by
        show _ = _
        rw [List.take_add_one, hcj, List.countP_append]; simp [List.countP_cons]
      have hcl : (L.take j).countP (inr at_ side) ≤ 1000 := Nat.le_trans List.countP_le_length (by rw [List.length_take]; omega)
      have HMEM : Hid (L[j]'hlt ∈ L) := List.getElem_mem hlt
      generalize L[j]'hlt = c at *
      generalize (L.take j).countP (inr at_ side) = q at *
      obtain ⟨b, rfl, r0, r1⟩ := (HR.out.later HB.out) j c hcj
      have HB1 := Lib.hid (HB.out.trans ((bel1 wr (.cells #[.int .i64 c.1, .int .i64 c.2] 74)).mono HB.out.size))
      have HP := Lib.hid (heap_alloc_new wr (.cells #[.int .i64 c.1, .int .i64 c.2] 74))
      have p0 : (wr.alloc (.cells #[.int .i64 c.1, .int .i64 c.2] 74)).cell? ⟨wr.heap.size, 0, none⟩ = some (.int .i64 c.1) := by rw [Lib.cell_of_heap HP.out]; rfl
      have p1 : (wr.alloc (.cells #[.int .i64 c.1, .int .i64 c.2] 74)).cell? ⟨wr.heap.size, 1, none⟩ = some (.int .i64 c.2) := by rw [Lib.cell_of_heap HP.out]; rfl
      have w1 : IntKind.i64.wrap ((at_ : Int) + (side : Int)) = (at_ : Int) + (side : Int) := IntWalk.i64_in _ (by omega)
      by_cases h0 : (at_ : Int) ≤ c.1
      · have d0 : decide ((at_ : Int) ≤ c.1) = true := by rw [decide_eq_true_eq]; exact h0
        by_cases h1 : (at_ : Int) ≤ c.2
        · have d1 : decide ((at_ : Int) ≤ c.2) = true := by rw [decide_eq_true_eq]; exact h1
          by_cases h2 : c.1 < (at_ : Int) + (side : Int)
          · have d2 : decide (c.1 < (at_ : Int) + (side : Int)) = true := by rw [decide_eq_true_eq]; exact h2
            by_cases h3 : c.2 < (at_ : Int) + (side : Int)
            · have d3 : decide (c.2 < (at_ : Int) + (side : Int)) = true := by rw [decide_eq_true_eq]; exact h3
              have hin : inr at_ side c = true := by rw [inr_iff]; omega
              have HTK1 : Hid ((L.take (j + 1)).countP (inr at_ side) = q + 1) := by show _ = _; rw [HTK.out, hin]; rfl
              obtain ⟨X, hX⟩ : ∃ X : Nat, c.1 - (at_ : Int) = (X : Int) := ⟨(c.1 - (at_ : Int)).toNat, by omega⟩
              obtain ⟨Y, hY⟩ : ∃ Y : Nat, c.2 - (at_ : Int) = (Y : Int) := ⟨(c.2 - (at_ : Int)).toNat, by omega⟩
              have w2 : IntKind.i64.wrap (c.1 - (at_ : Int)) = (X : Int) := by rw [hX]; exact IntWalk.i64_in _ (by omega)
              have w3 : IntKind.i64.wrap (c.2 - (at_ : Int)) = (Y : Int) := by rw [hY]; exact IntWalk.i64_in _ (by omega)
              have HGE := Lib.hid (get10_any (HS.out.later HB1.out) HN6.out HC.out.1 X Y (by rw [← HSD.out]; omega) (by rw [← HSD.out]; omega))
              have hgz : getZ N n x (X : Int) (Y : Int) = 1 := by
                have hp := pow_nat n
                rw [HC.out.2 _ _ (by rw [← hp, ← HSD.out]; omega) (by rw [← hp, ← HSD.out]; omega)]
                show plL L ((X : Int) + (at_ : Int)) ((Y : Int) + (at_ : Int)) = 1
                rw [← hX, ← hY, Int.sub_add_cancel, Int.sub_add_cancel]
                unfold plL
                rw [if_pos HMEM.out]
              rw [hgz] at HGE
              have HXY := Lib.hid (And.intro hX hY)
              clear hX hY hgz hin
              go_wp2_with fail
              refine HGE.out.mono ?_
              rintro e w5 ⟨rfl, hb⟩
              have HB2 := Lib.hid (HB1.out.trans (hb.mono HB1.out.size))
              clear hb HGE
              go_wp2_with fail
              go_roundg (L.length - (j + 1))
              case measure => rw [HMM.out]; omega
              case rel => exact ⟨j + 1, rfl, by omega, by go_num, by rw [HTK1.out]; go_num, HB2.out⟩
            · have d3 : decide (c.2 < (at_ : Int) + (side : Int)) = false := by rw [decide_eq_false_iff_not]; exact h3
              have hin : inr at_ side c = false := by rw [Bool.eq_false_iff]; intro hh; rw [inr_iff] at hh; omega
              have HTK1 : Hid ((L.take (j + 1)).countP (inr at_ side) = q) := by show _ = _; rw [HTK.out, hin]; rfl
              clear hin
              go_wp2_with fail
              go_roundg (L.length - (j + 1))
              case measure => rw [HMM.out]; omega
              case rel => exact ⟨j + 1, rfl, by omega, by go_num, by rw [HTK1.out], HB1.out⟩
          · have d2 : decide (c.1 < (at_ : Int) + (side : Int)) = false := by rw [decide_eq_false_iff_not]; exact h2
            have hin : inr at_ side c = false := by rw [Bool.eq_false_iff]; intro hh; rw [inr_iff] at hh; omega
            have HTK1 : Hid ((L.take (j + 1)).countP (inr at_ side) = q) := by show _ = _; rw [HTK.out, hin]; rfl
            clear hin
            go_wp2_with fail
            go_roundg (L.length - (j + 1))
            case measure => rw [HMM.out]; omega
            case rel => exact ⟨j + 1, rfl, by omega, by go_num, by rw [HTK1.out], HB1.out⟩
        · have d1 : decide ((at_ : Int) ≤ c.2) = false := by rw [decide_eq_false_iff_not]; exact h1
          have hin : inr at_ side c = false := by rw [Bool.eq_false_iff]; intro hh; rw [inr_iff] at hh; omega
          have HTK1 : Hid ((L.take (j + 1)).countP (inr at_ side) = q) := by show _ = _; rw [HTK.out, hin]; rfl
          clear hin
          go_wp2_with fail
          go_roundg (L.length - (j + 1))
          case measure => rw [HMM.out]; omega
          case rel => exact ⟨j + 1, rfl, by omega, by go_num, by rw [HTK1.out], HB1.out⟩
      · have d0 : decide ((at_ : Int) ≤ c.1) = false := by rw [decide_eq_false_iff_not]; exact h0
        have hin : inr at_ side c = false := by rw [Bool.eq_false_iff]; intro hh; rw [inr_iff] at hh; omega
        have HTK1 : Hid ((L.take (j + 1)).countP (inr at_ side) = q) := by show _ = _; rw [HTK.out, hin]; rfl
        clear hin
        go_wp2_with fail
        go_roundg (L.length - (j + 1))
        case measure => rw [HMM.out]; omega
        case rel => exact ⟨j + 1, rfl, by omega, by go_num, by rw [HTK1.out], HB1.out⟩
    · obtain rfl : j = L.length := by omega
      have hgj : decide (L.length < L.length) = false := by simp
      have HSr := Lib.hid (HS.out.later HB.out)
      have hxu := Sq.u32 HSr.out HC.out.1
      have HCN := Lib.hid (count_any HSr.out x hxu)
      rw [HCT.out] at HCN
      rw [List.take_length]
      generalize L.countP (inr at_ side) = q at *
      go_wp2_with fail
      refine HCN.out.mono ?_
      rintro e w5 ⟨rfl, rfl⟩
      go_wp2_with fail
      go_ret
      exact ⟨rfl, HB.out⟩
end Go.Proofs.Ytaapkngpnlnjeaa
