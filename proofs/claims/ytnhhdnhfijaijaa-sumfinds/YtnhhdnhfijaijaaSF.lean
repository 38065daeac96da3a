/- The law SumFinds: its walk. -/
import Derived.Test.YtnhhdnhfijaijaaSm3
import Derived.Test.YtnhhdnhfijaijaaApd
import Derived.Test.YtnhhdnhfijaijaaFnd
namespace Go.Proofs.Ytnhhdnhfijaijaa
open Go.RowKit

/-- A bit of a row is turned; the bits of a pattern. -/
def flipZ (l : List Int) (p : Nat) : List Int := l.set (p / 8) (((l.getD (p / 8) 0).toNat ^^^ (128 >>> (p % 8)) : Nat) : Int)
def flipsZ (l : List Int) (i : Nat) (b : BitVec 32) : Nat → List Int
  | 0 => l
  | k + 1 => if b.getLsbD k then flipZ (flipsZ l i b k) (i + k) else flipsZ l i b k
theorem flipZ_map (l : List Int) (p : Nat) : (flipZ l p).map Int.toNat = flipN (l.map Int.toNat) p := by
  unfold flipZ flipN
  rw [List.map_set]
  congr 1
  rw [List.getD_eq_getElem?_getD, List.getD_eq_getElem?_getD, List.getElem?_map, Int.toNat_natCast]
  cases l[p / 8]? <;> rfl
theorem flipsZ_map (l : List Int) (i : Nat) (b : BitVec 32) (k : Nat) : (flipsZ l i b k).map Int.toNat = flipsN (l.map Int.toNat) i b k := by
  induction k with
  | zero => rfl
  | succ k ih =>
    simp only [flipsZ, flipsN]
    split
    · rw [flipZ_map, ih]
    · exact ih
theorem flipZ_length (l : List Int) (p : Nat) : (flipZ l p).length = l.length := by simp [flipZ]
theorem flipsZ_length (l : List Int) (i : Nat) (b : BitVec 32) (k : Nat) : (flipsZ l i b k).length = l.length := by
  induction k with
  | zero => rfl
  | succ k ih => simp only [flipsZ]; split <;> simp [flipZ_length, ih]
theorem xor_byte (a r : Nat) (h : a < 256) : a ^^^ (128 >>> r) < 256 := by
  have h1 : 128 >>> r < 2 ^ 8 := by
    rw [Nat.shiftRight_eq_div_pow]
    exact Nat.lt_of_le_of_lt (Nat.div_le_self _ _) (by decide)
  exact Nat.xor_lt_two_pow (n := 8) h h1
theorem flipZ_range (l : List Int) (p : Nat) (hp : p / 8 < l.length) (h : ∀ v ∈ l, 0 ≤ v ∧ v ≤ 255) : ∀ v ∈ flipZ l p, 0 ≤ v ∧ v ≤ 255 := by
  intro v hv
  rcases List.mem_or_eq_of_mem_set hv with hv | rfl
  · exact h v hv
  · have hm : l.getD (p / 8) 0 ∈ l := by
      rw [List.getD_eq_getElem?_getD, List.getElem?_eq_getElem hp]
      exact List.getElem_mem hp
    have := h _ hm
    have := xor_byte (l.getD (p / 8) 0).toNat (p % 8) (by omega)
    omega
theorem flipsZ_range (l : List Int) (i : Nat) (b : BitVec 32) (k : Nat) (hk : i + k ≤ 8 * l.length) (h : ∀ v ∈ l, 0 ≤ v ∧ v ≤ 255) : ∀ v ∈ flipsZ l i b k, 0 ≤ v ∧ v ≤ 255 := by
  induction k with
  | zero => exact h
  | succ k ih =>
    simp only [flipsZ]
    split
    · exact flipZ_range _ _ (by rw [flipsZ_length]; omega) (ih (by omega))
    · exact ih (by omega)
theorem flipsZ_finds (l : List Int) (i : Nat) (b : BitVec 32) (h : i + 32 ≤ 8 * l.length) (hb : b ≠ 0#32) : (((crcz l).toNat : Int) != ((crcz (flipsZ l i b 32)).toNat : Int)) = true := by
  have h1 : crcz l ≠ crcz (flipsZ l i b 32) := by
    unfold crcz
    rw [flipsZ_map]
    exact flipsN_finds _ i b (by rw [List.length_map]; exact h) hb
  have h2 : (crcz l).toNat ≠ (crcz (flipsZ l i b 32)).toNat := fun h => h1 (BitVec.eq_of_toNat_eq h)
  simp only [bne_iff_ne, ne_eq]
  omega
theorem at_mod (z : Int) (n : Nat) (h4 : 4 ≤ n) (h : n ≤ 20000) : ∃ i : Nat, wrap64 ((IntKind.u64.wrap z).tmod (8 * (n : Int) - 31)) = (i : Int) ∧ i + 32 ≤ 8 * n := by
  have h0 : 0 ≤ IntKind.u64.wrap z := by rw [IntKind.wrap_u64]; omega
  rw [Int.tmod_eq_emod_of_nonneg h0]
  have h1 := Int.emod_nonneg (IntKind.u64.wrap z) (b := 8 * (n : Int) - 31) (by omega)
  have h2 := Int.emod_lt_of_pos (IntKind.u64.wrap z) (b := 8 * (n : Int) - 31) (by omega)
  refine ⟨(IntKind.u64.wrap z % (8 * (n : Int) - 31)).toNat, ?_, by omega⟩
  generalize IntKind.u64.wrap z % (8 * (n : Int) - 31) = q at *
  unfold wrap64
  omega
/-- A bit of a row of the call's own is turned. -/
theorem own_flip {wr : World} {B g cap : Nat} {l : List Int} {p : Nat} {c v : Int} (hO : Own wr B (.slice (some ⟨g, 0, none⟩) l.length cap) l) (hc : l[p / 8]? = some c) (hv : v = ((c.toNat ^^^ (128 >>> (p % 8)) : Nat) : Int)) :
    Own (wr.setCell ⟨g, p / 8, none⟩ (.int .u8 v)).drew B (.slice (some ⟨g, 0, none⟩) l.length cap) (flipZ l p) := by
  unfold Own at hO ⊢
  have hs := (hO.stored (p / 8) (.int .u8 v)).1
  rw [flipZ_length]
  unfold flipZ
  rw [List.getD_eq_getElem?_getD, hc, Option.getD_some, ← hv, List.map_set]
  exact hs
theorem flip_val (c : Int) (r : Nat) (h0 : 0 ≤ c) (h1 : c ≤ 255) : bits .xor .u8 c (128 / 2 ^ r) = ((c.toNat ^^^ (128 >>> r) : Nat) : Int) := by
  have e : (128 : Int) / (2 : Int) ^ r = ((128 >>> r : Nat) : Int) := by rw [Nat.shiftRight_eq_div_pow]; simp
  have hl : 128 >>> r < 256 := by
    rw [Nat.shiftRight_eq_div_pow]
    exact Nat.lt_of_le_of_lt (Nat.div_le_self _ _) (by decide)
  rw [e, show c = ((c.toNat : Nat) : Int) by omega, u8_xor_nat _ _ (by omega) hl]
  simp
  rw [show max c 0 = c by omega]

set_option maxRecDepth 100000 in
set_option maxHeartbeats 1000000 in
theorem sfinds_great (a0 : Option Addr) (n0 c0 : Nat) (at' bs : Int) (w : World) (h0 : n0 ≤ 1000000000000000) (h : n0 < 4 ∨ 20000 < n0 ∨ bs = 0) :
    Calls Try.prog 4 #[.slice a0 n0 c0, .int .i64 at', .int .u32 bs] w fun e w' => e = .returned (.bool true) ∧ Below w.heap.size w w' := by
  by_cases h1 : n0 < 4
  · go_enter Try.func4, Try.ntmps4
    go_wp2_with fail
    refine (lives3_any w).mono ?_
    rintro e w1 ⟨rfl, hb⟩
    have HB := Lib.hid hb
    clear hb
    go_wp2_with fail
    refine (lives3_any w1).mono ?_
    rintro e w2 ⟨rfl, hb⟩
    have HB2 := Lib.hid hb
    clear hb
    go_wp2
    go_ret
    exact ⟨rfl, HB.out.trans (HB2.out.mono HB.out.size)⟩
  · by_cases h2 : 20000 < n0
    · clear h
      go_enter Try.func4, Try.ntmps4
      go_wp2_with fail
      refine (lives3_any w).mono ?_
      rintro e w1 ⟨rfl, hb⟩
      have HB := Lib.hid hb
      clear hb
      go_wp2_with fail
      refine (lives3_any w1).mono ?_
      rintro e w2 ⟨rfl, hb⟩
      have HB2 := Lib.hid hb
      clear hb
      go_wp2
      go_ret
      exact ⟨rfl, HB.out.trans (HB2.out.mono HB.out.size)⟩
    · obtain rfl : bs = 0 := by omega
      clear h
      go_enter Try.func4, Try.ntmps4
      go_wp2_with fail
      refine (lives3_any w).mono ?_
      rintro e w1 ⟨rfl, hb⟩
      have HB := Lib.hid hb
      clear hb
      go_wp2_with fail
      refine (lives3_any w1).mono ?_
      rintro e w2 ⟨rfl, hb⟩
      have HB2 := Lib.hid hb
      clear hb
      go_wp2
      go_ret
      exact ⟨rfl, HB.out.trans (HB2.out.mono HB.out.size)⟩

set_option maxRecDepth 100000 in
set_option maxHeartbeats 4000000 in
theorem sfinds_small (a0 : Option Addr) (c0 : Nat) (at' : Int) (bs : BitVec 32) (x : List Int) (w : World) (h4 : 4 ≤ x.length) (h : x.length ≤ 20000) (hb0 : bs ≠ 0#32)
    (r0 : Row .u8 w w.heap.size a0 x) (n0 : a0 = none → c0 = 0) (z0 : ∀ v ∈ x, 0 ≤ v ∧ v ≤ 255) :
    Calls Try.prog 4 #[.slice a0 x.length c0, .int .i64 at', .int .u32 (bs.toNat : Int)] w fun e w' => e = .returned (.bool true) ∧ Below w.heap.size w w' := by
  have R0 := Lib.hid r0
  have Z0 := Lib.hid z0
  have N0 := Lib.hid n0
  clear r0 z0 n0
  have hbn : ((bs.toNat : Int) == 0) = false := by
    have : bs.toNat ≠ 0 := fun h => hb0 (BitVec.eq_of_toNat_eq h)
    simpa using this
  have HBT := Lib.hid (bit_test bs)
  have hbl := lt32 bs
  generalize bs.toNat = bn at *
  go_enter Try.func4, Try.ntmps4
  go_wp2_with fail
  refine (lives3_any w).mono ?_
  rintro e w1 ⟨rfl, hb⟩
  have HB1 := Lib.hid hb
  clear hb
  have hws := HB1.out.size
  have HO1 := Lib.hid (own_built w1 w.heap.size hws)
  have HBA := Lib.hid (HB1.out.alloc hws (.cells #[] 5))
  go_wp2_with (at_builtin; refine apd_own rfl _ _ rfl w.heap.size _ [] rfl HO1.out a0 _ c0 x rfl rfl N0.out (Nat.le_refl _) HBA.out R0.out ?_ ?_; (simp; omega); (intro v5 w5 h5 hb5; have HO5 := Lib.hid h5; have HB5 := Lib.hid hb5; clear h5 hb5))
  have ho5 := HO5.out
  rw [List.nil_append] at ho5
  obtain ⟨g, cap, rfl⟩ : ∃ g cap, v5 = .slice (some ⟨g, 0, none⟩) x.length cap := by
    rcases ho5.2 with ⟨_, hn⟩ | ⟨g, cap, cur, h, _⟩
    · omega
    · exact ⟨g, cap, h⟩
  have HO := Lib.hid ho5
  obtain ⟨i, hi, hi32⟩ := at_mod at' x.length h4 h
  rw [hi]
  clear ho5 HO5 HO1 HBA HB1 hi
  go_loopg [39] 32 (fun q kk wr => ∃ j : Nat, q = 32 - j ∧ j ≤ 32 ∧ kk = .int .i64 (j : Int) ∧ Own wr w.heap.size (.slice (some ⟨g, 0, none⟩) x.length cap) (flipsZ x i bs j) ∧ Below w.heap.size w wr)
  case atStart => exact ⟨0, by omega, by omega, rfl, HO.out, HB5.out⟩
  case round =>
    obtain ⟨j, hm, hj, rfl, hown, hbel⟩ := hrel
    have HM := Lib.hid hm
    have HW := Lib.hid hown
    have HB := Lib.hid hbel
    clear hm hown hbel HO HB5
    by_cases hlt : j < 32
    · have hbt := HBT.out j
      cases hbit : bs.getLsbD j
      · rw [hbit] at hbt
        have HN : Hid (flipsZ x i bs (j + 1) = flipsZ x i bs j) := by show _ = _; simp only [flipsZ]; rw [hbit]; rfl
        clear hbit
        go_wp2
        go_roundg (32 - (j + 1))
        case measure => rw [HM.out]; omega
        case rel => exact ⟨j + 1, rfl, by omega, by go_num, by rw [HN.out]; exact HW.out, HB.out⟩
      · rw [hbit] at hbt
        have HN : Hid (flipsZ x i bs (j + 1) = flipZ (flipsZ x i bs j) (i + j)) := by show _ = _; simp only [flipsZ]; rw [hbit]; rfl
        clear hbit
        have hfl := flipsZ_length x i bs j
        obtain ⟨c, hc⟩ : ∃ c, (flipsZ x i bs j)[(i + j) / 8]? = some c := ⟨_, List.getElem?_eq_getElem (by omega)⟩
        obtain ⟨c0', c1'⟩ := flipsZ_range x i bs j (by omega) Z0.out c (List.mem_of_getElem? hc)
        have hcell : wr.cell? ⟨g, (i + j) / 8, none⟩ = some (.int .u8 c) := by
          have hO := HW.out
          unfold Own at hO
          rw [hfl] at hO
          rw [hO.cellAt ((i + j) / 8) (by omega), List.getElem?_map, hc]; rfl
        have hf : wr.frozen? ⟨g, (i + j) / 8, none⟩ = false := by
          have hO := HW.out
          unfold Own at hO
          rw [hfl] at hO
          exact hO.frozenAt _
        have HC := Lib.hid hc
        have HV := Lib.hid (flip_val c ((i + j) % 8) c0' c1')
        clear hc
        have hq1 : ((i : Int) + (j : Int)) / 8 < (x.length : Int) := by omega
        have hq0 : 0 ≤ ((i : Int) + (j : Int)) / 8 := by omega
        have hq2 : (((i : Int) + (j : Int)) / 8).toNat = (i + j) / 8 := by omega
        have hq3 : ((i : Int) + (j : Int)).tdiv 8 = (((i + j) / 8 : Nat) : Int) := by rw [Int.tdiv_eq_ediv_of_nonneg (by omega)]; omega
        have hq4 : ((i : Int) + (j : Int)).tmod 8 = (((i + j) % 8 : Nat) : Int) := by rw [Int.tmod_eq_emod_of_nonneg (by omega)]; omega
        have hq5 : (((i + j) / 8 : Nat) : Int) < (x.length : Int) := by omega
        go_wp2
        go_region
        go_wp2
        have hfl := flipsZ_length x i bs j
        have hOW := HW.out
        rw [← hfl] at hOW
        have hfo := own_flip (p := i + j) hOW HC.out HV.out
        rw [hfl, ← HN.out] at hfo
        go_roundg (32 - (j + 1))
        case measure => rw [HM.out]; omega
        case rel => exact ⟨j + 1, rfl, by omega, by go_num, hfo, (HB.out.setCell (HW.out.lt g rfl).1 _).drew⟩
    · obtain rfl : j = 32 := by omega
      have hfl := flipsZ_length x i bs 32
      have hOW := HW.out
      rw [← hfl] at hOW
      obtain ⟨a7, c7, hv7, _, _, hr7⟩ := hOW.row
      have HR7 := Lib.hid hr7
      obtain ⟨rfl, rfl⟩ : some ⟨g, 0, none⟩ = a7 ∧ cap = c7 := by
        injection hv7 with e1 e2 e3
        exact ⟨e1, e3⟩
      have HFI := Lib.hid (flipsZ_finds x i bs hi32 hb0)
      have HZF := Lib.hid (flipsZ_range x i bs 32 hi32 Z0.out)
      have HFL := Lib.hid hfl
      clear hr7 hOW hv7 HM HBT hfl
      go_wp2_with fail
      refine (of_any x a0 c0 wr ((R0.out.later HB.out (Nat.le_refl _)).mono HB.out.size) Z0.out (by omega)).mono ?_
      rintro e w6 ⟨rfl, hb⟩
      have HB6 := Lib.hid hb
      clear hb
      have HOC := Lib.hid (of_any (flipsZ x i bs 32) (some ⟨g, 0, none⟩) cap w6 ((HR7.out.later HB6.out (Nat.le_refl _)).mono HB6.out.size) HZF.out (by rw [HFL.out]; omega))
      rw [HFL.out] at HOC
      go_wp2_with fail
      refine HOC.out.mono ?_
      rintro e w7 ⟨rfl, hb⟩
      have HB7 := Lib.hid (HB.out.trans ((HB6.out.trans (hb.mono HB6.out.size)).mono HB.out.size))
      clear hb HB6 HOC
      have hfi := HFI.out
      clear HFI
      generalize (crcz x).toNat = X at *
      generalize (crcz (flipsZ x i bs 32)).toNat = Y at *
      go_wp2
      go_ret
      exact ⟨rfl, HB7.out⟩
end Go.Proofs.Ytnhhdnhfijaijaa
