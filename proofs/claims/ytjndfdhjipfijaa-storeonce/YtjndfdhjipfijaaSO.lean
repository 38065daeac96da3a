/- The law StoreOnce: its walk. -/
import Derived.Test.YtjndfdhjipfijaaBd
import Derived.Test.YtjndfdhjipfijaaRw
namespace Go.Proofs.Ytjndfdhjipfijaa
open Go.RowKit Go.Maps
set_option maxRecDepth 100000

/-- The store of the law, j squares built. -/
def So (w : World) (sb tb : Nat) (c first j : Nat) (W : World) : Prop :=
  ∃ (gg cc : Nat) (E : List Nd), St W sb gg tb cc 5000 (N0 ++ E) ∧ E.length ≤ 21 * j ∧ Has (N0 ++ E) 3 first (bits c) ∧ Below w.heap.size w W ∧ w.heap.size ≤ gg
theorem bit_id2 (c j : Nat) (hc : c < 18446744073709551616) : Go.bits .and .u64 ((c : Int) / 2 ^ j) 1 = ((idOf (c.testBit j) : Nat) : Int) := by
  have h := bit_id c j hc
  have e : ((c : Int) / 2 ^ j) = ((c / 2 ^ j : Nat) : Int) := by push_cast; rfl
  have hle : c / 2 ^ j ≤ c := Nat.div_le_self _ _
  rw [e] at h ⊢
  generalize c / 2 ^ j = d at *
  rw [and_one6 _ (by omega) (by omega)] at h ⊢
  omega
def ones (c q : Nat) : Nat := ((bits c).take q).count true
theorem ones_next (c q : Nat) (hq : q < 64) : ones c (q + 1) = ones c q + idOf (c.testBit q) := by
  unfold ones
  have : (bits c)[q]? = some (c.testBit q) := by simp [bits, hq]
  rw [List.take_add_one, this, List.count_append]
  unfold idOf
  cases c.testBit q <;> simp
theorem ones_le (c q : Nat) : ones c q ≤ q := by
  unfold ones
  exact Nat.le_trans List.count_le_length (by rw [List.length_take]; omega)
theorem ones_all (c : Nat) : ones c 64 = (bits c).count true := by
  unfold ones
  rw [List.take_of_length_le (by simp [bits])]
set_option maxHeartbeats 4000000 in
theorem sonce_any (c : Nat) (hc : c < 18446744073709551616) (zs : List Int) (hz : ∀ z ∈ zs, 0 ≤ z ∧ z ≤ 18446744073709551615) (a : Option Addr) (n cap : Nat) (hn : n = zs.length) (hm : n ≤ maxLen) (w : World) (h : Row .u64 w w.heap.size a zs) :
    Calls Try.prog 4 #[.int .u64 (c : Int), .slice a n cap] w fun e w' => e = .returned (.bool true) ∧ Below w.heap.size w w' := by
  have HC := Lib.hid hc
  have HZ := Lib.hid hz
  have HN := Lib.hid hn
  have HM := Lib.hid hm
  have HR := Lib.hid h
  clear hc hz hn hm h
  go_enter Try.func4, Try.ntmps4
  go_wp2_with fail
  refine (lives6_any _).mono ?_
  rintro e W1 ⟨rfl, hb⟩
  have HB1 := Lib.hid hb
  clear hb
  by_cases hbig : 30 < n
  · have hg : decide ((30 : Int) < (n : Int)) = true := by simp; omega
    go_wp2_with fail
    refine (lives6_any _).mono ?_
    rintro e W2 ⟨rfl, hb⟩
    have HB2 := Lib.hid (HB1.out.trans (hb.mono HB1.out.size))
    clear hb
    go_wp2_with fail
    go_ret
    exact ⟨rfl, HB2.out⟩
  have hg : decide ((30 : Int) < (n : Int)) = false := by simp; omega
  go_wp2_with fail
  refine (new_good 5000 (by omega) (by omega) _).mono ?_
  rintro e W2 ⟨sb, g, tb, rfl, hS, hB, l1, l2, l3⟩
  have HS2 := Lib.hid hS
  have HB2 := Lib.hid (HB1.out.trans (hB.mono HB1.out.size))
  have HLS : Hid (w.heap.size ≤ sb ∧ w.heap.size ≤ g ∧ w.heap.size ≤ tb) := by have := HB1.out.size; exact ⟨by omega, by omega, by omega⟩
  clear hS hB l1 l2 l3 HB1 hg
  go_wp2_with fail
  refine (build_any HS2.out c HC.out (by decide)).mono ?_
  rintro e W3 ⟨g3, c3, E3, first, rfl, hS, hE, hH, hF, hg⟩
  have HSO : Hid (So w sb tb c first 1 W3) := by
    have hl := HLS.out
    have := HB2.out.size
    exact ⟨g3, c3, E3, hS, hE, hH, HB2.out.trans (hF.below (by intro b hb; simp at hb; omega) HB2.out.size), by omega⟩
  clear hS hE hH hF hg HS2 HB2
  go_wp2_with fail
  go_loopg [10, 11, 12, 37] n (fun m d x f i wr => ∃ j : Nat, m = n - j ∧ j ≤ n ∧ i = .int .i64 (j : Int) ∧ So w sb tb c first (j + 1) wr)
  case atStart => exact ⟨0, rfl, Nat.zero_le _, rfl, HSO.out⟩
  case round =>
    obtain ⟨j, hm, hj, rfl, hso⟩ := hrel
    have HMJ := Lib.hid hm
    have HS := Lib.hid hso
    clear hm hso HSO
    by_cases hlt : j < n
    · obtain ⟨z, hz⟩ : ∃ z, zs[j]? = some z := ⟨zs[j]'(by have := HN.out; omega), List.getElem?_eq_getElem _⟩
      obtain ⟨z0, z1⟩ := HZ.out z (List.mem_of_getElem? hz)
      obtain ⟨d, rfl⟩ : ∃ d : Nat, z = (d : Int) := ⟨z.toNat, by omega⟩
      obtain ⟨gg, cc, E, hS, hE, hH, hB, hgl⟩ := HS.out
      obtain ⟨bk, off, rfl, hbk, hcell⟩ := (HR.out.later hB (Nat.le_refl _)) j _ hz
      have HS1 := Lib.hid hS
      have HE1 := Lib.hid hE
      have HH1 := Lib.hid hH
      have HB1 := Lib.hid hB
      have HGL := Lib.hid hgl
      clear hS hE hH hB hgl hz HS
      have hgj : decide ((j : Int) < (n : Int)) = true := by simp; omega
      have hij : (j : Int) < (n : Int) := by omega
      have hd : d < 18446744073709551616 := by omega
      go_wp2_with fail
      refine (build_any HS1.out d hd (by have := HE1.out; simp [N0]; omega)).mono ?_
      rintro e W4 ⟨g4, c4, E4, x, rfl, hS, hE, hH, hF, hg⟩
      have HXB : Hid (((x : Int) == (first : Int)) = ((d : Int) == (c : Int))) := by
        show _ = _
        have hf := HH1.out.app E4 HS1.out.wf.two
        by_cases e : d = c
        · subst e
          have := hH.inj hS.wf hf
          subst this
          simp
        · have : x ≠ first := fun e2 => e (bits_inj hd HC.out (by subst e2; exact hH.only hf))
          rw [beq_eq_false_iff_ne.2 (by omega), beq_eq_false_iff_ne.2 (by omega)]
      have HSO2 : Hid (So w sb tb c first (j + 1 + 1) W4) := by
        have hl := HLS.out
        have h1 := HE1.out
        have h2 := HGL.out
        have := HB1.out.size
        refine ⟨g4, c4, E ++ E4, by simpa [List.append_assoc] using hS, by simp; omega, by simpa [List.append_assoc] using HH1.out.app E4 HS1.out.wf.two, HB1.out.trans (hF.below (by intro b hb; simp at hb; omega) HB1.out.size), by omega⟩
      clear hS hE hH hF hg hcell
      have hxb := HXB.out
      go_wp2_with fail
      go_roundg (n - (j + 1))
      case measure => rw [HMJ.out]; omega
      case rel => exact ⟨j + 1, rfl, hlt, by go_num, HSO2.out⟩
    · obtain ⟨gg, cc, E, hS, hE, hH, hB, hgl⟩ := HS.out
      have HS1 := Lib.hid hS
      have HE1 := Lib.hid hE
      have HH1 := Lib.hid hH
      have HB1 := Lib.hid hB
      have HGL := Lib.hid hgl
      clear hS hE hH hB hgl HS
      have hgj : decide ((j : Int) < (n : Int)) = false := by simp; omega
      go_wp2_with fail
      refine (build_any HS1.out c HC.out (by have := HE1.out; simp [N0]; omega)).mono ?_
      rintro e W4 ⟨g4, c4, E4, x, rfl, hS, hE, hH, hF, hg⟩
      have hf := HH1.out.app E4 HS1.out.wf.two
      obtain rfl : x = first := hH.inj hS.wf hf
      have HB4 : Hid (Below w.heap.size w W4) := by
        have hl := HLS.out
        have h2 := HGL.out
        exact HB1.out.trans (hF.below (by intro b hb; simp at hb; omega) HB1.out.size)
      have HS4 := Lib.hid hS
      have HLV : Hid (lvZ (N0 ++ E ++ E4) x = 3) := hH.lv hS.wf
      have HCT : Hid (ctZ (N0 ++ E ++ E4) x = (bits c).count true) := by
        show _ = _
        rw [hH.ct hS.wf]
        have : (bits c).count true ≤ (bits c).length := List.count_le_length
        have hl : (bits c).length = 64 := by simp [bits]
        unfold topN
        omega
      have HX : Hid (x < 4294967296) := by
        have h1 := lv_lt (N := N0 ++ E ++ E4) (x := x) (by rw [hH.lv hS.wf]; omega)
        have h2 := hS.room
        show _ < _
        omega
      clear hS hE hH hF hg hf HS1 HE1 HH1 HB1 hgj
      generalize N0 ++ E ++ E4 = M at *
      go_wp2_with fail
      go_loopg [15, 16, 65] 64 (fun m s i0 i wr => ∃ q : Nat, m = 64 - q ∧ q ≤ 64 ∧ i = .int .i64 (q : Int) ∧ s = .int .u64 ((ones c q : Nat) : Int) ∧ wr = W4)
      case atStart => exact ⟨0, rfl, by omega, rfl, rfl, rfl⟩
      case round =>
        obtain ⟨q, hm, hq, rfl, rfl, rfl⟩ := hrel
        have HMQ := Lib.hid hm
        clear hm
        by_cases hlt : q < 64
        · have hgq : decide ((q : Int) < 64) = true := by simp; omega
          have hb := bit_id2 c q HC.out
          have HON := Lib.hid (ones_next c q hlt)
          have hi0 : (0 : Int) ≤ (q : Int) := by omega
          have hw : IntKind.u64.wrap (((ones c q : Nat) : Int) + ((idOf (c.testBit q) : Nat) : Int)) = ((ones c (q + 1) : Nat) : Int) := by
            have h1 := ones_le c (q + 1)
            rw [HON.out] at h1
            rw [IntWalk.u64_in _ (by omega), HON.out]; omega
          go_wp2_with fail
          go_roundg (64 - (q + 1))
          case measure => rw [HMQ.out]; omega
          case rel => exact ⟨q + 1, rfl, hlt, by go_num, rfl, rfl⟩
        · obtain rfl : q = 64 := by omega
          have hgq : decide (((64 : Nat) : Int) < 64) = false := by decide
          rw [ones_all]
          go_wp2_with fail
          refine (level_any HS4.out x HX.out).mono ?_
          rw [HLV.out]
          rintro e W5 ⟨rfl, rfl⟩
          go_wp2_with fail
          refine (count_any HS4.out x HX.out).mono ?_
          rw [HCT.out]
          rintro e W5 ⟨rfl, rfl⟩
          go_wp2_with fail
          go_ret
          exact ⟨rfl, HB4.out⟩
end Go.Proofs.Ytjndfdhjipfijaa
