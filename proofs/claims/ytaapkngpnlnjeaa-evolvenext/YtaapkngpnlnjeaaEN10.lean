/- The law EvolveNext: its walk. -/
import Derived.Test.YtaapkngpnlnjeaaET10
import Derived.Test.YtaapkngpnlnjeaaCe10
import Derived.Deep.QuietTactic
import Derived.BigQuiet
namespace Go.Proofs.Ytaapkngpnlnjeaa
open Go.RowKit Go.Maps
set_option maxRecDepth 100000

/-- Cells within a box, each once, are no more than its places. -/
theorem len_box {L : List (Int × Int)} (hd : L.Nodup) (lo : Int) (W : Nat) (h : ∀ c ∈ L, (lo ≤ c.1 ∧ c.1 < lo + (W : Int)) ∧ lo ≤ c.2 ∧ c.2 < lo + (W : Int)) : L.length ≤ W * W := by
  have hW : ∀ c ∈ L, 0 < W := fun c hc => by have := h c hc; omega
  have hc : ∀ c ∈ L, (c.2 - lo).toNat * W + (c.1 - lo).toNat < W * W := fun c hc => by
    obtain ⟨⟨h1, h2⟩, h3, h4⟩ := h c hc
    have : ((c.2 - lo).toNat + 1) * W ≤ W * W := Nat.mul_le_mul_right W (by omega)
    rw [Nat.add_mul, Nat.one_mul] at this
    omega
  have := nat_few (W * W) (L.map fun c => (c.2 - lo).toNat * W + (c.1 - lo).toNat) (map_nodup hd fun x hx y hy e => by
    obtain ⟨⟨h1, h2⟩, h3, h4⟩ := h x hx
    obtain ⟨⟨k1, k2⟩, k3, k4⟩ := h y hy
    have hWp := hW x hx
    have e1 : (x.1 - lo).toNat = (y.1 - lo).toNat := by
      have := congrArg (· % W) e
      simp only [Nat.mul_comm _ W, Nat.mul_add_mod] at this
      rw [Nat.mod_eq_of_lt (by omega), Nat.mod_eq_of_lt (by omega)] at this
      exact this
    have e2 : (x.2 - lo).toNat = (y.2 - lo).toNat := by
      rw [e1] at e
      exact Nat.eq_of_mul_eq_mul_right hWp (by omega)
    exact Prod.ext (by omega) (by omega)) (fun x hx => by
    obtain ⟨c, hcm, rfl⟩ := List.mem_map.1 hx
    exact hc c hcm)
  rwa [List.length_map] at this
/-- What lives is near what lived. -/
theorem life_near {l : List (Int × Int)} {p : Int × Int} (h : lifeL l p = true) : ∃ c ∈ l, c.1 - 1 ≤ p.1 ∧ p.1 ≤ c.1 + 1 ∧ c.2 - 1 ≤ p.2 ∧ p.2 ≤ c.2 + 1 := by
  rcases life_vis h with ⟨j, c, _, hc, q, hq, rfl⟩ | ⟨c, hc, q, hq, _⟩
  · refine ⟨c, List.mem_of_getElem? hc, ?_⟩
    simp only [nine]
    omega
  · omega
def Box10 (L : List (Int × Int)) (k s : Nat) : Prop := ∀ c ∈ L, (-(k : Int) ≤ c.1 ∧ c.1 < (s : Int) + (k : Int)) ∧ -(k : Int) ≤ c.2 ∧ c.2 < (s : Int) + (k : Int)
theorem Box10.len {L : List (Int × Int)} {k s : Nat} (h : Box10 L k s) (hd : L.Nodup) (hk : k ≤ 4) (hs : s ≤ 16) : L.length ≤ 1000 := by
  refine Nat.le_trans (len_box hd (-(k : Int)) (s + 2 * k) fun c hc => ?_) (Nat.le_trans (Nat.mul_le_mul (show s + 2 * k ≤ 24 by omega) (show s + 2 * k ≤ 24 by omega)) (by decide))
  obtain ⟨⟨h1, h2⟩, h3, h4⟩ := h c hc
  have e : -(k : Int) + ((s + 2 * k : Nat) : Int) = (s : Int) + (k : Int) := by omega
  rw [e]
  exact ⟨⟨h1, h2⟩, h3, h4⟩
theorem Box10.next {l L : List (Int × Int)} {k s : Nat} (h : Box10 l k s) (hL : ∀ p, p ∈ L ↔ lifeL l p = true) : Box10 L (k + 1) s := fun p hp => by
  obtain ⟨c, hc, h1, h2, h3, h4⟩ := life_near ((hL p).1 hp)
  have := h c hc
  have e : ((k + 1 : Nat) : Int) = (k : Int) + 1 := by omega
  rw [e]
  omega
theorem Box10.mid {L : List (Int × Int)} {k s : Nat} (h : Box10 L k s) (hk : k ≤ 4) (hs : s ≤ 16) : Mid L := fun c hc => by
  have := h c hc
  omega
theorem box_cells (l : List Nat) (side : Nat) : Box10 (cellsU l side) 0 side := fun c hc => by
  obtain ⟨x, k, h1, h2, h3, rfl⟩ := mem_rowsC.1 hc
  simp only
  omega
set_option maxHeartbeats 8000000 in
theorem enx_0_0 (l other : List Nat) (hl : l.length ≤ 4) (ho : other.length ≤ 4) (hz : ∀ z ∈ l, z < 18446744073709551616) (hzo : ∀ z ∈ other, z < 18446744073709551616) (p0 p1 : Nat) (hp0 : p0 < 256) (hp1 : p1 < 256) (h0 : p0 % 3 = 0) (h1 : p1 % 1 = 0) (a ao : Option Addr) (cap capo : Nat) (w : World)
    (h : RowU w a l) (hD : 0 < l.length → ∀ b off, a = some ⟨b, off, none⟩ → b < w.heap.size) (h' : RowU w ao other) (hD' : 0 < other.length → ∀ b off, ao = some ⟨b, off, none⟩ → b < w.heap.size) :
    Calls Try.prog 3 #[.slice a l.length cap, .agg #[.int .u8 (p0 : Int), .int .u8 (p1 : Int)], .slice ao other.length capo] w fun e w' => e = .returned (.bool true) ∧ Below w.heap.size w w' := by
  have HR := Lib.hid h
  have HD := Lib.hid hD
  have HRO := Lib.hid h'
  have HDO := Lib.hid hD'
  have HLL := Lib.hid (And.intro hl ho)
  have HZ := Lib.hid (And.intro hz hzo)
  have gl : decide ((4 : Int) < (l.length : Int)) = false := by simp; omega
  have gl' : decide (4 < l.length) = false := by simp; omega
  have gm : decide ((4 : Int) < (other.length : Int)) = false := by simp; omega
  have gm' : decide (4 < other.length) = false := by simp; omega
  have HB0 := Lib.hid (bel1 w (.cells #[.int .u8 (p0 : Int), .int .u8 (p1 : Int)] 23))
  have HP0 := Lib.hid (heap_alloc_new w (.cells #[.int .u8 (p0 : Int), .int .u8 (p1 : Int)] 23))
  have HPP := Lib.hid (And.intro hp0 (And.intro hp1 (And.intro h0 h1)))
  clear h hD h' hD' hl ho hz hzo hp0 hp1 h0 h1
  go_enter Try.func3, Try.ntmps3
  go_wp2_with fail
  generalize w.alloc (.cells #[.int .u8 (p0 : Int), .int .u8 (p1 : Int)] 23) = W0 at *
  refine (lives10_any _).mono ?_
  rintro e W1 ⟨rfl, hb⟩
  have HB1 := Lib.hid (HB0.out.trans (hb.mono HB0.out.size))
  have HP1 := Lib.hid (kept HP0.out hb)
  clear hb HB0 HP0
  have q0 : W1.cell? ⟨w.heap.size, 0, none⟩ = some (.int .u8 (p0 : Int)) := by rw [Lib.cell_of_heap HP1.out]; rfl
  have q1 : W1.cell? ⟨w.heap.size, 1, none⟩ = some (.int .u8 (p1 : Int)) := by rw [Lib.cell_of_heap HP1.out]; rfl
  have r0 : IntKind.u8.wrap ((p0 : Int).tmod 3) = 0 := by rw [Int.tmod_eq_emod_of_nonneg (by omega), show (p0 : Int) % 3 = 0 by have := HPP.out; omega]; exact IntWalk.u8_in _ (by omega)
  have r4 : (p0 : Int) % 3 = 0 := by have := HPP.out; omega
  have r1 : IntKind.i64.wrap (p1 : Int) = (p1 : Int) := IntWalk.i64_in _ (by have := HPP.out; omega)
  have r2 : (p1 : Int) % 1 = 0 := by have := HPP.out; omega
  have r3 : (p1 : Int).tmod 1 = 0 := by rw [Int.tmod_eq_emod_of_nonneg (by omega)]; exact r2
  go_upto_region 5 with fail
  clear q0 q1 r0 r1 r2 r3 r4 gl gl' gm gm' HP1
  go_wp2_with fail
  refine (new_good 50000 (by omega) (by omega) _).mono ?_
  rintro e W2 ⟨sb, g, tb, rfl, hS, hB, l1, l2, l3⟩
  have HS2 := Lib.hid hS
  have HB2 := Lib.hid (HB1.out.trans (hB.mono HB1.out.size))
  have HL : Hid (w.heap.size ≤ sb ∧ w.heap.size ≤ g ∧ w.heap.size ≤ tb) := by have := HB1.out.size; exact ⟨by omega, by omega, by omega⟩
  clear hS hB l1 l2 l3 HB1
  go_wp2_with fail
  refine (enew_any HS2.out).mono ?_
  rintro e W3 ⟨mb, rfl, hmb, hme, hB3⟩
  have HM3 := Lib.hid hme
  have HB3 := Lib.hid (HB2.out.trans (hB3.mono HB2.out.size))
  have HAB : Hid (Abv w.heap.size sb g tb mb FbT.no) := by
    obtain ⟨a1, a2, a3⟩ := HL.out
    have := HB2.out.size
    exact ⟨by omega, by omega, by omega, by omega, fun b e => absurd e no_bl⟩
  have HRW : Hid (RowS W3 sb g tb ao other) := rowS_arg HRO.out HDO.out HB3.out HB3.out.size HAB.out.sb_ HAB.out.g_ HAB.out.tb_
  clear hmb hme hB3 HB2 HS2 HL HRO HDO
  go_wp2_with fail
  refine (bld10 HM3.out 4 (by omega) other HLL.out.2 HZ.out.2 ao capo HRW.out).mono ?_
  rintro e W4 ⟨g4, N4, hmx, hres⟩
  have HL4 : Hid (N4.length ≤ 87) := Nat.le_trans hmx.len (by decide)
  obtain ⟨y, rfl, hcy⟩ := bld_out hres (by have := HL4.out; omega)
  have HCY := Lib.hid hcy
  have HB4 := Lib.hid (HAB.out.below HB3.out HB3.out.size hmx)
  have HAB4 := Lib.hid (HAB.out.mx HB3.out.size hmx)
  have HM4 := Lib.hid hmx.me
  clear hres hcy hmx HM3 HRW HB3 HAB
  have HN4 := Lib.hid (enext_any HM4.out (n := 2) (p := 2) HCY.out.1 (by omega))
  go_wp2_with fail
  refine HN4.out.mono ?_
  rintro e W5 ⟨g5, N5, fb5, m5, hmx, hres⟩
  have HL5 : Hid (N5.length ≤ 452) := Nat.le_trans hmx.len (by have := HL4.out; have : cE 2 = 365 := rfl; omega)
  obtain ⟨z5, rfl, _, _⟩ := res_good hres (by have := HL5.out; omega)
  have HCY5 := Lib.hid (HCY.out.mx HM4.out.wf hmx)
  have HB5 := Lib.hid (HAB4.out.below HB4.out HB4.out.size hmx)
  have HAB5 := Lib.hid (HAB4.out.mx HB4.out.size hmx)
  have HM5 := Lib.hid hmx.me
  clear hres hmx HN4 HM4 HB4 HAB4 HL4 HCY
  have HN5 := Lib.hid (enext_any HM5.out (n := 2) (p := 1) HCY5.out.1 (by omega))
  go_wp2_with fail
  refine HN5.out.mono ?_
  rintro e W6 ⟨g6, N6, fb6, m6, hmx, hres⟩
  have HL6 : Hid (N6.length ≤ 817) := Nat.le_trans hmx.len (by have := HL5.out; have : cE 2 = 365 := rfl; omega)
  obtain ⟨z6, rfl, _, _⟩ := res_good hres (by have := HL6.out; omega)
  have HB6 := Lib.hid (HAB5.out.below HB5.out HB5.out.size hmx)
  have HAB6 := Lib.hid (HAB5.out.mx HB5.out.size hmx)
  have HM6 := Lib.hid hmx.me
  have HRW6 : Hid (RowS W6 sb g6 tb a l) := rowS_arg HR.out HD.out HB6.out HB6.out.size HAB6.out.sb_ HAB6.out.g_ HAB6.out.tb_
  clear hres hmx HN5 HM5 HB5 HAB5 HL5 HCY5
  go_wp2_with fail
  refine (bld10 HM6.out 2 (by omega) l HLL.out.1 HZ.out.1 a cap HRW6.out).mono ?_
  rintro e W7 ⟨g7, N7, hmx, hres⟩
  have HL7 : Hid (N7.length ≤ 902) := Nat.le_trans hmx.len (by have := HL6.out; have : bC 2 ≤ 85 := (by decide); omega)
  obtain ⟨x, rfl, hcx⟩ := bld_out hres (by have := HL7.out; omega)
  rw [show (2 : Nat) ^ 2 = 4 from rfl] at hcx
  have HCX := Lib.hid hcx
  have HB7 := Lib.hid (HAB6.out.below HB6.out HB6.out.size hmx)
  have HAB7 := Lib.hid (HAB6.out.mx HB6.out.size hmx)
  have HM7 := Lib.hid hmx.me
  clear hres hcx hmx HM6 HRW6 HB6 HAB6 HL6
  have HN7 := Lib.hid (enext_any HM7.out (n := 0) (p := 0) HCX.out.1 (by omega))
  go_wp2_with fail
  refine HN7.out.mono ?_
  rintro e W8 ⟨g8, N8, fb8, m8, hmx, hres⟩
  have HL8 : Hid (N8.length ≤ 1267) := Nat.le_trans hmx.len (by have := HL7.out; have : cE 0 ≤ 365 := (by decide); omega)
  obtain ⟨z, rfl, hz, hmz⟩ := res_good hres (by have := HL8.out; omega)
  have HCX8 := Lib.hid (HCX.out.mx HM7.out.wf hmx)
  have HZ8 := Lib.hid hz
  have HMZ := Lib.hid hmz
  have HB8 := Lib.hid (HAB7.out.below HB7.out HB7.out.size hmx)
  have HAB8 := Lib.hid (HAB7.out.mx HB7.out.size hmx)
  have HM8 := Lib.hid hmx.me
  clear hres hz hmz hmx HN7 HM7 HB7 HAB7 HL7 HCX
  obtain ⟨cs8, hs8⟩ := HM8.out.st
  have HS8 := Lib.hid hs8
  clear hs8
  go_wp2_with fail
  refine (len_any HS8.out).mono ?_
  rintro e W9 ⟨rfl, rfl⟩
  obtain ⟨kn, hkn, hkp⟩ := HM8.out.kn
  have hk0 := hkp _ _ HMZ.out
  have HKN := Lib.hid hkn
  obtain ⟨sv8, cl8, hth8, _⟩ := HM8.out.blk
  have HKC := Lib.hid (known_blk hth8 hkn)
  clear hkn hkp hth8
  go_wp2_with fail
  refine HKC.out.mono ?_
  rintro e W9 ⟨rfl, rfl⟩
  have HEK := Lib.hid (enext_known HM8.out HZ8.out HMZ.out)
  clear HKC
  go_wp2_with fail
  refine HEK.out.mono ?_
  rintro e W9 ⟨rfl, fb9, hmx⟩
  have HM9 := Lib.hid hmx.me
  have HB9 := Lib.hid (HAB8.out.below HB8.out HB8.out.size hmx)
  have HKN9 : Hid (KnS W9 fb9 m8 kn) := HKN.out.of HM9.out
  clear hmx HEK HM8 HB8 HAB8 HKN HS8 HMZ HL8
  have HCE := Lib.hid (cells10_any l HLL.out.1 HZ.out.1 a cap W9 (HR.out.later HD.out HB9.out) (fun hl b off e => Nat.lt_of_lt_of_le (HD.out hl b off e) HB9.out.size) 4 (by omega))
  go_wp2_with fail
  refine HCE.out.mono ?_
  rintro e Wa ⟨va, rfl, ho, hb⟩
  obtain ⟨la, lcap, hle, hlr, _⟩ := ho.ro
  subst hle
  have HRA := Lib.hid hlr
  have HBA := Lib.hid (HB9.out.trans (hb.mono HB9.out.size))
  have HMA := Lib.hid (HM9.out.later hb)
  have HKNA : Hid (KnS Wa fb9 m8 kn) := HKN9.out.of HMA.out
  have HPL := Lib.hid (plL_cellsU l 4)
  have HND : Hid ((cellsU l 4).Nodup) := nodup_rowsC l 4 4
  have HBX := Lib.hid (box_cells l 4)
  clear ho hlr hb HCE HM9 HKN9 HB9
  generalize cellsU l 4 = L0 at *
  go_wp2_with fail
  go_loopg [22, 96] 1 (fun mm v22 cnt wr => ∃ (j : Nat) (L : List (Int × Int)) (b : Option Addr) (cb : Nat), mm = 1 - j ∧ j ≤ 1 ∧ cnt = .int .i64 (j : Int) ∧ v22 = .slice b L.length cb ∧ Ro wr b L ∧ L.Nodup ∧ Box10 L j 4 ∧ plL L = gens j (plU l 4) ∧ Below Wa.heap.size Wa wr)
  case atStart => exact ⟨0, L0, la, lcap, rfl, Nat.zero_le _, rfl, rfl, HRA.out, HND.out, HBX.out, HPL.out, Below.refl _ _⟩
  case round =>
    obtain ⟨j, L, b, cb, hm, hj, rfl, rfl, hro, hnd, hbx, hpl, hb⟩ := hrel
    have HMM := Lib.hid hm
    have HRO := Lib.hid hro
    have HNDL := Lib.hid hnd
    have HBXL := Lib.hid hbx
    have HPLL := Lib.hid hpl
    have HBL := Lib.hid hb
    have hlen : L.length ≤ 1000 := hbx.len hnd (by omega) (by omega)
    clear hm hro hnd hbx hpl hb
    by_cases hlt : j < 1
    · have hgj : decide ((j : Int) < 1) = true := by simp; omega
      go_wp2_with fail
      refine (next_ref L b cb _ HRO.out (by omega) (HBXL.out.mid (by omega) (by omega))).mono ?_
      rintro e w5 ⟨v, L5, rfl, ho, hn5, hp5, _, hb5⟩
      obtain ⟨b5, cb5, hle, hlr, _⟩ := ho.ro
      subst hle
      have HR5 := Lib.hid hlr
      have HN5 := Lib.hid hn5
      have HX5 := Lib.hid (HBXL.out.next hp5)
      have HP5 : Hid (plL L5 = gens (j + 1) (plU l 4)) := by
        show _ = _
        rw [plL_next HNDL.out hp5, HPLL.out, gens_add j 1]; rfl
      have HB5 := Lib.hid (HBL.out.trans (hb5.mono HBL.out.size))
      clear ho hlr hn5 hp5 hb5 HBL HRO
      go_wp2_with fail
      go_roundg (1 - (j + 1))
      case measure => rw [HMM.out]; omega
      case rel => exact ⟨j + 1, L5, b5, cb5, rfl, by omega, by go_num, rfl, HR5.out, HN5.out, HX5.out, HP5.out, HB5.out⟩
    · obtain rfl : j = 1 := by omega
      have hgj : decide (((1 : Nat) : Int) < 1) = false := by simp
      have HMr := Lib.hid (HMA.out.later HBL.out)
      have HKNr : Hid (KnS wr fb9 m8 kn) := HKNA.out.of HMr.out
      have HBr := Lib.hid (HBA.out.trans (HBL.out.mono HBA.out.size))
      have HCZ : Hid (Con N8 1 z (shF (plL L) ((1 : Nat) : Int) ((1 : Nat) : Int))) := by
        have := HZ8.out.out _ HCX8.out
        rw [HPLL.out]
        exact this
      obtain ⟨csr, hsr⟩ := HMr.out.st
      obtain ⟨svr, clr, htr, _⟩ := HMr.out.blk
      have hzu := Sq.u32 hsr HCZ.out.1
      have HC1 := Lib.hid (fun z : Up wr => Up.callsE (fun W hW => len_any (hsr.later hW)) z)
      have HC2 := Lib.hid (fun z : Up wr => Up.callsE (fun W hW => known_blk (kept htr hW) (HKNr.out.of (HMr.out.later hW))) z)
      have HC3 := Lib.hid (fun z' : Up wr => Up.callsE (fun W hW => level_any (hsr.later hW) z hzu) z')
      rw [show lvZ N8 z = ((1 : Nat) : Int) from HCZ.out.1] at HC3
      have HC4 := Lib.hid (fun z' : Up wr => Up.calls (fun W hW => same10_any (hsr.later hW) (n := 1) (by omega) 1 2 (by omega) rfl L b cb (HRO.out.later hW) HNDL.out hlen HCZ.out) z')
      rw [show ((1 : Nat) : Int) = 1 from rfl, show ((2 : Nat) : Int) = 2 from rfl] at HC4
      have hkg : decide ((0 : Int) < (kn : Int)) = true := by simp; omega
      have hkg' : decide (0 < kn) = true := by simp; omega
      clear hsr hzu htr
      go_upto_region 19 with fail
      have hme := Up.me wr
      refine region_up rfl (by kernel_rfl) ?_
      repeat' (go_big_quiet_step ((first | (go_at_call 11; with_reducible exact HC1.out _) | (go_at_call 12; with_reducible exact HC2.out _) | (go_at_call 15; with_reducible exact HC3.out _) | (go_at_call 16; with_reducible exact HC4.out _) | fail)))
      refine wpQuiet_nil ?_
      rintro w2 ⟨⟨W2, hW2⟩, rfl⟩
      go_wp2_with fail
      go_ret
      exact ⟨rfl, HBr.out.trans (hW2.mono HBr.out.size)⟩
set_option maxHeartbeats 8000000 in
theorem enx_1_0 (l other : List Nat) (hl : l.length ≤ 4) (ho : other.length ≤ 4) (hz : ∀ z ∈ l, z < 18446744073709551616) (hzo : ∀ z ∈ other, z < 18446744073709551616) (p0 p1 : Nat) (hp0 : p0 < 256) (hp1 : p1 < 256) (h0 : p0 % 3 = 1) (h1 : p1 % 2 = 0) (a ao : Option Addr) (cap capo : Nat) (w : World)
    (h : RowU w a l) (hD : 0 < l.length → ∀ b off, a = some ⟨b, off, none⟩ → b < w.heap.size) (h' : RowU w ao other) (hD' : 0 < other.length → ∀ b off, ao = some ⟨b, off, none⟩ → b < w.heap.size) :
    Calls Try.prog 3 #[.slice a l.length cap, .agg #[.int .u8 (p0 : Int), .int .u8 (p1 : Int)], .slice ao other.length capo] w fun e w' => e = .returned (.bool true) ∧ Below w.heap.size w w' := by
  have HR := Lib.hid h
  have HD := Lib.hid hD
  have HRO := Lib.hid h'
  have HDO := Lib.hid hD'
  have HLL := Lib.hid (And.intro hl ho)
  have HZ := Lib.hid (And.intro hz hzo)
  have gl : decide ((4 : Int) < (l.length : Int)) = false := by simp; omega
  have gl' : decide (4 < l.length) = false := by simp; omega
  have gm : decide ((4 : Int) < (other.length : Int)) = false := by simp; omega
  have gm' : decide (4 < other.length) = false := by simp; omega
  have HB0 := Lib.hid (bel1 w (.cells #[.int .u8 (p0 : Int), .int .u8 (p1 : Int)] 23))
  have HP0 := Lib.hid (heap_alloc_new w (.cells #[.int .u8 (p0 : Int), .int .u8 (p1 : Int)] 23))
  have HPP := Lib.hid (And.intro hp0 (And.intro hp1 (And.intro h0 h1)))
  clear h hD h' hD' hl ho hz hzo hp0 hp1 h0 h1
  go_enter Try.func3, Try.ntmps3
  go_wp2_with fail
  generalize w.alloc (.cells #[.int .u8 (p0 : Int), .int .u8 (p1 : Int)] 23) = W0 at *
  refine (lives10_any _).mono ?_
  rintro e W1 ⟨rfl, hb⟩
  have HB1 := Lib.hid (HB0.out.trans (hb.mono HB0.out.size))
  have HP1 := Lib.hid (kept HP0.out hb)
  clear hb HB0 HP0
  have q0 : W1.cell? ⟨w.heap.size, 0, none⟩ = some (.int .u8 (p0 : Int)) := by rw [Lib.cell_of_heap HP1.out]; rfl
  have q1 : W1.cell? ⟨w.heap.size, 1, none⟩ = some (.int .u8 (p1 : Int)) := by rw [Lib.cell_of_heap HP1.out]; rfl
  have r0 : IntKind.u8.wrap ((p0 : Int).tmod 3) = 1 := by rw [Int.tmod_eq_emod_of_nonneg (by omega), show (p0 : Int) % 3 = 1 by have := HPP.out; omega]; exact IntWalk.u8_in _ (by omega)
  have r4 : (p0 : Int) % 3 = 1 := by have := HPP.out; omega
  have r1 : IntKind.i64.wrap (p1 : Int) = (p1 : Int) := IntWalk.i64_in _ (by have := HPP.out; omega)
  have r2 : (p1 : Int) % 2 = 0 := by have := HPP.out; omega
  have r3 : (p1 : Int).tmod 2 = 0 := by rw [Int.tmod_eq_emod_of_nonneg (by omega)]; exact r2
  go_upto_region 5 with fail
  clear q0 q1 r0 r1 r2 r3 r4 gl gl' gm gm' HP1
  go_wp2_with fail
  refine (new_good 50000 (by omega) (by omega) _).mono ?_
  rintro e W2 ⟨sb, g, tb, rfl, hS, hB, l1, l2, l3⟩
  have HS2 := Lib.hid hS
  have HB2 := Lib.hid (HB1.out.trans (hB.mono HB1.out.size))
  have HL : Hid (w.heap.size ≤ sb ∧ w.heap.size ≤ g ∧ w.heap.size ≤ tb) := by have := HB1.out.size; exact ⟨by omega, by omega, by omega⟩
  clear hS hB l1 l2 l3 HB1
  go_wp2_with fail
  refine (enew_any HS2.out).mono ?_
  rintro e W3 ⟨mb, rfl, hmb, hme, hB3⟩
  have HM3 := Lib.hid hme
  have HB3 := Lib.hid (HB2.out.trans (hB3.mono HB2.out.size))
  have HAB : Hid (Abv w.heap.size sb g tb mb FbT.no) := by
    obtain ⟨a1, a2, a3⟩ := HL.out
    have := HB2.out.size
    exact ⟨by omega, by omega, by omega, by omega, fun b e => absurd e no_bl⟩
  have HRW : Hid (RowS W3 sb g tb ao other) := rowS_arg HRO.out HDO.out HB3.out HB3.out.size HAB.out.sb_ HAB.out.g_ HAB.out.tb_
  clear hmb hme hB3 HB2 HS2 HL HRO HDO
  go_wp2_with fail
  refine (bld10 HM3.out 4 (by omega) other HLL.out.2 HZ.out.2 ao capo HRW.out).mono ?_
  rintro e W4 ⟨g4, N4, hmx, hres⟩
  have HL4 : Hid (N4.length ≤ 87) := Nat.le_trans hmx.len (by decide)
  obtain ⟨y, rfl, hcy⟩ := bld_out hres (by have := HL4.out; omega)
  have HCY := Lib.hid hcy
  have HB4 := Lib.hid (HAB.out.below HB3.out HB3.out.size hmx)
  have HAB4 := Lib.hid (HAB.out.mx HB3.out.size hmx)
  have HM4 := Lib.hid hmx.me
  clear hres hcy hmx HM3 HRW HB3 HAB
  have HN4 := Lib.hid (enext_any HM4.out (n := 2) (p := 2) HCY.out.1 (by omega))
  go_wp2_with fail
  refine HN4.out.mono ?_
  rintro e W5 ⟨g5, N5, fb5, m5, hmx, hres⟩
  have HL5 : Hid (N5.length ≤ 452) := Nat.le_trans hmx.len (by have := HL4.out; have : cE 2 = 365 := rfl; omega)
  obtain ⟨z5, rfl, _, _⟩ := res_good hres (by have := HL5.out; omega)
  have HCY5 := Lib.hid (HCY.out.mx HM4.out.wf hmx)
  have HB5 := Lib.hid (HAB4.out.below HB4.out HB4.out.size hmx)
  have HAB5 := Lib.hid (HAB4.out.mx HB4.out.size hmx)
  have HM5 := Lib.hid hmx.me
  clear hres hmx HN4 HM4 HB4 HAB4 HL4 HCY
  have HN5 := Lib.hid (enext_any HM5.out (n := 2) (p := 1) HCY5.out.1 (by omega))
  go_wp2_with fail
  refine HN5.out.mono ?_
  rintro e W6 ⟨g6, N6, fb6, m6, hmx, hres⟩
  have HL6 : Hid (N6.length ≤ 817) := Nat.le_trans hmx.len (by have := HL5.out; have : cE 2 = 365 := rfl; omega)
  obtain ⟨z6, rfl, _, _⟩ := res_good hres (by have := HL6.out; omega)
  have HB6 := Lib.hid (HAB5.out.below HB5.out HB5.out.size hmx)
  have HAB6 := Lib.hid (HAB5.out.mx HB5.out.size hmx)
  have HM6 := Lib.hid hmx.me
  have HRW6 : Hid (RowS W6 sb g6 tb a l) := rowS_arg HR.out HD.out HB6.out HB6.out.size HAB6.out.sb_ HAB6.out.g_ HAB6.out.tb_
  clear hres hmx HN5 HM5 HB5 HAB5 HL5 HCY5
  go_wp2_with fail
  refine (bld10 HM6.out 3 (by omega) l HLL.out.1 HZ.out.1 a cap HRW6.out).mono ?_
  rintro e W7 ⟨g7, N7, hmx, hres⟩
  have HL7 : Hid (N7.length ≤ 902) := Nat.le_trans hmx.len (by have := HL6.out; have : bC 3 ≤ 85 := (by decide); omega)
  obtain ⟨x, rfl, hcx⟩ := bld_out hres (by have := HL7.out; omega)
  rw [show (2 : Nat) ^ 3 = 8 from rfl] at hcx
  have HCX := Lib.hid hcx
  have HB7 := Lib.hid (HAB6.out.below HB6.out HB6.out.size hmx)
  have HAB7 := Lib.hid (HAB6.out.mx HB6.out.size hmx)
  have HM7 := Lib.hid hmx.me
  clear hres hcx hmx HM6 HRW6 HB6 HAB6 HL6
  have HN7 := Lib.hid (enext_any HM7.out (n := 1) (p := 0) HCX.out.1 (by omega))
  go_wp2_with fail
  refine HN7.out.mono ?_
  rintro e W8 ⟨g8, N8, fb8, m8, hmx, hres⟩
  have HL8 : Hid (N8.length ≤ 1267) := Nat.le_trans hmx.len (by have := HL7.out; have : cE 1 ≤ 365 := (by decide); omega)
  obtain ⟨z, rfl, hz, hmz⟩ := res_good hres (by have := HL8.out; omega)
  have HCX8 := Lib.hid (HCX.out.mx HM7.out.wf hmx)
  have HZ8 := Lib.hid hz
  have HMZ := Lib.hid hmz
  have HB8 := Lib.hid (HAB7.out.below HB7.out HB7.out.size hmx)
  have HAB8 := Lib.hid (HAB7.out.mx HB7.out.size hmx)
  have HM8 := Lib.hid hmx.me
  clear hres hz hmz hmx HN7 HM7 HB7 HAB7 HL7 HCX
  obtain ⟨cs8, hs8⟩ := HM8.out.st
  have HS8 := Lib.hid hs8
  clear hs8
  go_wp2_with fail
  refine (len_any HS8.out).mono ?_
  rintro e W9 ⟨rfl, rfl⟩
  obtain ⟨kn, hkn, hkp⟩ := HM8.out.kn
  have hk0 := hkp _ _ HMZ.out
  have HKN := Lib.hid hkn
  obtain ⟨sv8, cl8, hth8, _⟩ := HM8.out.blk
  have HKC := Lib.hid (known_blk hth8 hkn)
  clear hkn hkp hth8
  go_wp2_with fail
  refine HKC.out.mono ?_
  rintro e W9 ⟨rfl, rfl⟩
  have HEK := Lib.hid (enext_known HM8.out HZ8.out HMZ.out)
  clear HKC
  go_wp2_with fail
  refine HEK.out.mono ?_
  rintro e W9 ⟨rfl, fb9, hmx⟩
  have HM9 := Lib.hid hmx.me
  have HB9 := Lib.hid (HAB8.out.below HB8.out HB8.out.size hmx)
  have HKN9 : Hid (KnS W9 fb9 m8 kn) := HKN.out.of HM9.out
  clear hmx HEK HM8 HB8 HAB8 HKN HS8 HMZ HL8
  have HCE := Lib.hid (cells10_any l HLL.out.1 HZ.out.1 a cap W9 (HR.out.later HD.out HB9.out) (fun hl b off e => Nat.lt_of_lt_of_le (HD.out hl b off e) HB9.out.size) 8 (by omega))
  go_wp2_with fail
  refine HCE.out.mono ?_
  rintro e Wa ⟨va, rfl, ho, hb⟩
  obtain ⟨la, lcap, hle, hlr, _⟩ := ho.ro
  subst hle
  have HRA := Lib.hid hlr
  have HBA := Lib.hid (HB9.out.trans (hb.mono HB9.out.size))
  have HMA := Lib.hid (HM9.out.later hb)
  have HKNA : Hid (KnS Wa fb9 m8 kn) := HKN9.out.of HMA.out
  have HPL := Lib.hid (plL_cellsU l 8)
  have HND : Hid ((cellsU l 8).Nodup) := nodup_rowsC l 8 8
  have HBX := Lib.hid (box_cells l 8)
  clear ho hlr hb HCE HM9 HKN9 HB9
  generalize cellsU l 8 = L0 at *
  go_wp2_with fail
  go_loopg [22, 96] 1 (fun mm v22 cnt wr => ∃ (j : Nat) (L : List (Int × Int)) (b : Option Addr) (cb : Nat), mm = 1 - j ∧ j ≤ 1 ∧ cnt = .int .i64 (j : Int) ∧ v22 = .slice b L.length cb ∧ Ro wr b L ∧ L.Nodup ∧ Box10 L j 8 ∧ plL L = gens j (plU l 8) ∧ Below Wa.heap.size Wa wr)
  case atStart => exact ⟨0, L0, la, lcap, rfl, Nat.zero_le _, rfl, rfl, HRA.out, HND.out, HBX.out, HPL.out, Below.refl _ _⟩
  case round =>
    obtain ⟨j, L, b, cb, hm, hj, rfl, rfl, hro, hnd, hbx, hpl, hb⟩ := hrel
    have HMM := Lib.hid hm
    have HRO := Lib.hid hro
    have HNDL := Lib.hid hnd
    have HBXL := Lib.hid hbx
    have HPLL := Lib.hid hpl
    have HBL := Lib.hid hb
    have hlen : L.length ≤ 1000 := hbx.len hnd (by omega) (by omega)
    clear hm hro hnd hbx hpl hb
    by_cases hlt : j < 1
    · have hgj : decide ((j : Int) < 1) = true := by simp; omega
      go_wp2_with fail
      refine (next_ref L b cb _ HRO.out (by omega) (HBXL.out.mid (by omega) (by omega))).mono ?_
      rintro e w5 ⟨v, L5, rfl, ho, hn5, hp5, _, hb5⟩
      obtain ⟨b5, cb5, hle, hlr, _⟩ := ho.ro
      subst hle
      have HR5 := Lib.hid hlr
      have HN5 := Lib.hid hn5
      have HX5 := Lib.hid (HBXL.out.next hp5)
      have HP5 : Hid (plL L5 = gens (j + 1) (plU l 8)) := by
        show _ = _
        rw [plL_next HNDL.out hp5, HPLL.out, gens_add j 1]; rfl
      have HB5 := Lib.hid (HBL.out.trans (hb5.mono HBL.out.size))
      clear ho hlr hn5 hp5 hb5 HBL HRO
      go_wp2_with fail
      go_roundg (1 - (j + 1))
      case measure => rw [HMM.out]; omega
      case rel => exact ⟨j + 1, L5, b5, cb5, rfl, by omega, by go_num, rfl, HR5.out, HN5.out, HX5.out, HP5.out, HB5.out⟩
    · obtain rfl : j = 1 := by omega
      have hgj : decide (((1 : Nat) : Int) < 1) = false := by simp
      have HMr := Lib.hid (HMA.out.later HBL.out)
      have HKNr : Hid (KnS wr fb9 m8 kn) := HKNA.out.of HMr.out
      have HBr := Lib.hid (HBA.out.trans (HBL.out.mono HBA.out.size))
      have HCZ : Hid (Con N8 2 z (shF (plL L) ((2 : Nat) : Int) ((2 : Nat) : Int))) := by
        have := HZ8.out.out _ HCX8.out
        rw [HPLL.out]
        exact this
      obtain ⟨csr, hsr⟩ := HMr.out.st
      obtain ⟨svr, clr, htr, _⟩ := HMr.out.blk
      have hzu := Sq.u32 hsr HCZ.out.1
      have HC1 := Lib.hid (fun z : Up wr => Up.callsE (fun W hW => len_any (hsr.later hW)) z)
      have HC2 := Lib.hid (fun z : Up wr => Up.callsE (fun W hW => known_blk (kept htr hW) (HKNr.out.of (HMr.out.later hW))) z)
      have HC3 := Lib.hid (fun z' : Up wr => Up.callsE (fun W hW => level_any (hsr.later hW) z hzu) z')
      rw [show lvZ N8 z = ((2 : Nat) : Int) from HCZ.out.1] at HC3
      have HC4 := Lib.hid (fun z' : Up wr => Up.calls (fun W hW => same10_any (hsr.later hW) (n := 2) (by omega) 2 4 (by omega) rfl L b cb (HRO.out.later hW) HNDL.out hlen HCZ.out) z')
      rw [show ((2 : Nat) : Int) = 2 from rfl, show ((4 : Nat) : Int) = 4 from rfl] at HC4
      have hkg : decide ((0 : Int) < (kn : Int)) = true := by simp; omega
      have hkg' : decide (0 < kn) = true := by simp; omega
      clear hsr hzu htr
      go_upto_region 19 with fail
      have hme := Up.me wr
      refine region_up rfl (by kernel_rfl) ?_
      repeat' (go_big_quiet_step ((first | (go_at_call 11; with_reducible exact HC1.out _) | (go_at_call 12; with_reducible exact HC2.out _) | (go_at_call 15; with_reducible exact HC3.out _) | (go_at_call 16; with_reducible exact HC4.out _) | fail)))
      refine wpQuiet_nil ?_
      rintro w2 ⟨⟨W2, hW2⟩, rfl⟩
      go_wp2_with fail
      go_ret
      exact ⟨rfl, HBr.out.trans (hW2.mono HBr.out.size)⟩
set_option maxHeartbeats 8000000 in
theorem enx_1_1 (l other : List Nat) (hl : l.length ≤ 4) (ho : other.length ≤ 4) (hz : ∀ z ∈ l, z < 18446744073709551616) (hzo : ∀ z ∈ other, z < 18446744073709551616) (p0 p1 : Nat) (hp0 : p0 < 256) (hp1 : p1 < 256) (h0 : p0 % 3 = 1) (h1 : p1 % 2 = 1) (a ao : Option Addr) (cap capo : Nat) (w : World)
    (h : RowU w a l) (hD : 0 < l.length → ∀ b off, a = some ⟨b, off, none⟩ → b < w.heap.size) (h' : RowU w ao other) (hD' : 0 < other.length → ∀ b off, ao = some ⟨b, off, none⟩ → b < w.heap.size) :
    Calls Try.prog 3 #[.slice a l.length cap, .agg #[.int .u8 (p0 : Int), .int .u8 (p1 : Int)], .slice ao other.length capo] w fun e w' => e = .returned (.bool true) ∧ Below w.heap.size w w' := by
  have HR := Lib.hid h
  have HD := Lib.hid hD
  have HRO := Lib.hid h'
  have HDO := Lib.hid hD'
  have HLL := Lib.hid (And.intro hl ho)
  have HZ := Lib.hid (And.intro hz hzo)
  have gl : decide ((4 : Int) < (l.length : Int)) = false := by simp; omega
  have gl' : decide (4 < l.length) = false := by simp; omega
  have gm : decide ((4 : Int) < (other.length : Int)) = false := by simp; omega
  have gm' : decide (4 < other.length) = false := by simp; omega
  have HB0 := Lib.hid (bel1 w (.cells #[.int .u8 (p0 : Int), .int .u8 (p1 : Int)] 23))
  have HP0 := Lib.hid (heap_alloc_new w (.cells #[.int .u8 (p0 : Int), .int .u8 (p1 : Int)] 23))
  have HPP := Lib.hid (And.intro hp0 (And.intro hp1 (And.intro h0 h1)))
  clear h hD h' hD' hl ho hz hzo hp0 hp1 h0 h1
  go_enter Try.func3, Try.ntmps3
  go_wp2_with fail
  generalize w.alloc (.cells #[.int .u8 (p0 : Int), .int .u8 (p1 : Int)] 23) = W0 at *
  refine (lives10_any _).mono ?_
  rintro e W1 ⟨rfl, hb⟩
  have HB1 := Lib.hid (HB0.out.trans (hb.mono HB0.out.size))
  have HP1 := Lib.hid (kept HP0.out hb)
  clear hb HB0 HP0
  have q0 : W1.cell? ⟨w.heap.size, 0, none⟩ = some (.int .u8 (p0 : Int)) := by rw [Lib.cell_of_heap HP1.out]; rfl
  have q1 : W1.cell? ⟨w.heap.size, 1, none⟩ = some (.int .u8 (p1 : Int)) := by rw [Lib.cell_of_heap HP1.out]; rfl
  have r0 : IntKind.u8.wrap ((p0 : Int).tmod 3) = 1 := by rw [Int.tmod_eq_emod_of_nonneg (by omega), show (p0 : Int) % 3 = 1 by have := HPP.out; omega]; exact IntWalk.u8_in _ (by omega)
  have r4 : (p0 : Int) % 3 = 1 := by have := HPP.out; omega
  have r1 : IntKind.i64.wrap (p1 : Int) = (p1 : Int) := IntWalk.i64_in _ (by have := HPP.out; omega)
  have r2 : (p1 : Int) % 2 = 1 := by have := HPP.out; omega
  have r3 : (p1 : Int).tmod 2 = 1 := by rw [Int.tmod_eq_emod_of_nonneg (by omega)]; exact r2
  go_upto_region 5 with fail
  clear q0 q1 r0 r1 r2 r3 r4 gl gl' gm gm' HP1
  go_wp2_with fail
  refine (new_good 50000 (by omega) (by omega) _).mono ?_
  rintro e W2 ⟨sb, g, tb, rfl, hS, hB, l1, l2, l3⟩
  have HS2 := Lib.hid hS
  have HB2 := Lib.hid (HB1.out.trans (hB.mono HB1.out.size))
  have HL : Hid (w.heap.size ≤ sb ∧ w.heap.size ≤ g ∧ w.heap.size ≤ tb) := by have := HB1.out.size; exact ⟨by omega, by omega, by omega⟩
  clear hS hB l1 l2 l3 HB1
  go_wp2_with fail
  refine (enew_any HS2.out).mono ?_
  rintro e W3 ⟨mb, rfl, hmb, hme, hB3⟩
  have HM3 := Lib.hid hme
  have HB3 := Lib.hid (HB2.out.trans (hB3.mono HB2.out.size))
  have HAB : Hid (Abv w.heap.size sb g tb mb FbT.no) := by
    obtain ⟨a1, a2, a3⟩ := HL.out
    have := HB2.out.size
    exact ⟨by omega, by omega, by omega, by omega, fun b e => absurd e no_bl⟩
  have HRW : Hid (RowS W3 sb g tb ao other) := rowS_arg HRO.out HDO.out HB3.out HB3.out.size HAB.out.sb_ HAB.out.g_ HAB.out.tb_
  clear hmb hme hB3 HB2 HS2 HL HRO HDO
  go_wp2_with fail
  refine (bld10 HM3.out 4 (by omega) other HLL.out.2 HZ.out.2 ao capo HRW.out).mono ?_
  rintro e W4 ⟨g4, N4, hmx, hres⟩
  have HL4 : Hid (N4.length ≤ 87) := Nat.le_trans hmx.len (by decide)
  obtain ⟨y, rfl, hcy⟩ := bld_out hres (by have := HL4.out; omega)
  have HCY := Lib.hid hcy
  have HB4 := Lib.hid (HAB.out.below HB3.out HB3.out.size hmx)
  have HAB4 := Lib.hid (HAB.out.mx HB3.out.size hmx)
  have HM4 := Lib.hid hmx.me
  clear hres hcy hmx HM3 HRW HB3 HAB
  have HN4 := Lib.hid (enext_any HM4.out (n := 2) (p := 2) HCY.out.1 (by omega))
  go_wp2_with fail
  refine HN4.out.mono ?_
  rintro e W5 ⟨g5, N5, fb5, m5, hmx, hres⟩
  have HL5 : Hid (N5.length ≤ 452) := Nat.le_trans hmx.len (by have := HL4.out; have : cE 2 = 365 := rfl; omega)
  obtain ⟨z5, rfl, _, _⟩ := res_good hres (by have := HL5.out; omega)
  have HCY5 := Lib.hid (HCY.out.mx HM4.out.wf hmx)
  have HB5 := Lib.hid (HAB4.out.below HB4.out HB4.out.size hmx)
  have HAB5 := Lib.hid (HAB4.out.mx HB4.out.size hmx)
  have HM5 := Lib.hid hmx.me
  clear hres hmx HN4 HM4 HB4 HAB4 HL4 HCY
  have HN5 := Lib.hid (enext_any HM5.out (n := 2) (p := 1) HCY5.out.1 (by omega))
  go_wp2_with fail
  refine HN5.out.mono ?_
  rintro e W6 ⟨g6, N6, fb6, m6, hmx, hres⟩
  have HL6 : Hid (N6.length ≤ 817) := Nat.le_trans hmx.len (by have := HL5.out; have : cE 2 = 365 := rfl; omega)
  obtain ⟨z6, rfl, _, _⟩ := res_good hres (by have := HL6.out; omega)
  have HB6 := Lib.hid (HAB5.out.below HB5.out HB5.out.size hmx)
  have HAB6 := Lib.hid (HAB5.out.mx HB5.out.size hmx)
  have HM6 := Lib.hid hmx.me
  have HRW6 : Hid (RowS W6 sb g6 tb a l) := rowS_arg HR.out HD.out HB6.out HB6.out.size HAB6.out.sb_ HAB6.out.g_ HAB6.out.tb_
  clear hres hmx HN5 HM5 HB5 HAB5 HL5 HCY5
  go_wp2_with fail
  refine (bld10 HM6.out 3 (by omega) l HLL.out.1 HZ.out.1 a cap HRW6.out).mono ?_
  rintro e W7 ⟨g7, N7, hmx, hres⟩
  have HL7 : Hid (N7.length ≤ 902) := Nat.le_trans hmx.len (by have := HL6.out; have : bC 3 ≤ 85 := (by decide); omega)
  obtain ⟨x, rfl, hcx⟩ := bld_out hres (by have := HL7.out; omega)
  rw [show (2 : Nat) ^ 3 = 8 from rfl] at hcx
  have HCX := Lib.hid hcx
  have HB7 := Lib.hid (HAB6.out.below HB6.out HB6.out.size hmx)
  have HAB7 := Lib.hid (HAB6.out.mx HB6.out.size hmx)
  have HM7 := Lib.hid hmx.me
  clear hres hcx hmx HM6 HRW6 HB6 HAB6 HL6
  have HN7 := Lib.hid (enext_any HM7.out (n := 1) (p := 1) HCX.out.1 (by omega))
  go_wp2_with fail
  refine HN7.out.mono ?_
  rintro e W8 ⟨g8, N8, fb8, m8, hmx, hres⟩
  have HL8 : Hid (N8.length ≤ 1267) := Nat.le_trans hmx.len (by have := HL7.out; have : cE 1 ≤ 365 := (by decide); omega)
  obtain ⟨z, rfl, hz, hmz⟩ := res_good hres (by have := HL8.out; omega)
  have HCX8 := Lib.hid (HCX.out.mx HM7.out.wf hmx)
  have HZ8 := Lib.hid hz
  have HMZ := Lib.hid hmz
  have HB8 := Lib.hid (HAB7.out.below HB7.out HB7.out.size hmx)
  have HAB8 := Lib.hid (HAB7.out.mx HB7.out.size hmx)
  have HM8 := Lib.hid hmx.me
  clear hres hz hmz hmx HN7 HM7 HB7 HAB7 HL7 HCX
  obtain ⟨cs8, hs8⟩ := HM8.out.st
  have HS8 := Lib.hid hs8
  clear hs8
  go_wp2_with fail
  refine (len_any HS8.out).mono ?_
  rintro e W9 ⟨rfl, rfl⟩
  obtain ⟨kn, hkn, hkp⟩ := HM8.out.kn
  have hk0 := hkp _ _ HMZ.out
  have HKN := Lib.hid hkn
  obtain ⟨sv8, cl8, hth8, _⟩ := HM8.out.blk
  have HKC := Lib.hid (known_blk hth8 hkn)
  clear hkn hkp hth8
  go_wp2_with fail
  refine HKC.out.mono ?_
  rintro e W9 ⟨rfl, rfl⟩
  have HEK := Lib.hid (enext_known HM8.out HZ8.out HMZ.out)
  clear HKC
  go_wp2_with fail
  refine HEK.out.mono ?_
  rintro e W9 ⟨rfl, fb9, hmx⟩
  have HM9 := Lib.hid hmx.me
  have HB9 := Lib.hid (HAB8.out.below HB8.out HB8.out.size hmx)
  have HKN9 : Hid (KnS W9 fb9 m8 kn) := HKN.out.of HM9.out
  clear hmx HEK HM8 HB8 HAB8 HKN HS8 HMZ HL8
  have HCE := Lib.hid (cells10_any l HLL.out.1 HZ.out.1 a cap W9 (HR.out.later HD.out HB9.out) (fun hl b off e => Nat.lt_of_lt_of_le (HD.out hl b off e) HB9.out.size) 8 (by omega))
  go_wp2_with fail
  refine HCE.out.mono ?_
  rintro e Wa ⟨va, rfl, ho, hb⟩
  obtain ⟨la, lcap, hle, hlr, _⟩ := ho.ro
  subst hle
  have HRA := Lib.hid hlr
  have HBA := Lib.hid (HB9.out.trans (hb.mono HB9.out.size))
  have HMA := Lib.hid (HM9.out.later hb)
  have HKNA : Hid (KnS Wa fb9 m8 kn) := HKN9.out.of HMA.out
  have HPL := Lib.hid (plL_cellsU l 8)
  have HND : Hid ((cellsU l 8).Nodup) := nodup_rowsC l 8 8
  have HBX := Lib.hid (box_cells l 8)
  clear ho hlr hb HCE HM9 HKN9 HB9
  generalize cellsU l 8 = L0 at *
  go_wp2_with fail
  go_loopg [22, 96] 2 (fun mm v22 cnt wr => ∃ (j : Nat) (L : List (Int × Int)) (b : Option Addr) (cb : Nat), mm = 2 - j ∧ j ≤ 2 ∧ cnt = .int .i64 (j : Int) ∧ v22 = .slice b L.length cb ∧ Ro wr b L ∧ L.Nodup ∧ Box10 L j 8 ∧ plL L = gens j (plU l 8) ∧ Below Wa.heap.size Wa wr)
  case atStart => exact ⟨0, L0, la, lcap, rfl, Nat.zero_le _, rfl, rfl, HRA.out, HND.out, HBX.out, HPL.out, Below.refl _ _⟩
  case round =>
    obtain ⟨j, L, b, cb, hm, hj, rfl, rfl, hro, hnd, hbx, hpl, hb⟩ := hrel
    have HMM := Lib.hid hm
    have HRO := Lib.hid hro
    have HNDL := Lib.hid hnd
    have HBXL := Lib.hid hbx
    have HPLL := Lib.hid hpl
    have HBL := Lib.hid hb
    have hlen : L.length ≤ 1000 := hbx.len hnd (by omega) (by omega)
    clear hm hro hnd hbx hpl hb
    by_cases hlt : j < 2
    · have hgj : decide ((j : Int) < 2) = true := by simp; omega
      go_wp2_with fail
      refine (next_ref L b cb _ HRO.out (by omega) (HBXL.out.mid (by omega) (by omega))).mono ?_
      rintro e w5 ⟨v, L5, rfl, ho, hn5, hp5, _, hb5⟩
      obtain ⟨b5, cb5, hle, hlr, _⟩ := ho.ro
      subst hle
      have HR5 := Lib.hid hlr
      have HN5 := Lib.hid hn5
      have HX5 := Lib.hid (HBXL.out.next hp5)
      have HP5 : Hid (plL L5 = gens (j + 1) (plU l 8)) := by
        show _ = _
        rw [plL_next HNDL.out hp5, HPLL.out, gens_add j 1]; rfl
      have HB5 := Lib.hid (HBL.out.trans (hb5.mono HBL.out.size))
      clear ho hlr hn5 hp5 hb5 HBL HRO
      go_wp2_with fail
      go_roundg (2 - (j + 1))
      case measure => rw [HMM.out]; omega
      case rel => exact ⟨j + 1, L5, b5, cb5, rfl, by omega, by go_num, rfl, HR5.out, HN5.out, HX5.out, HP5.out, HB5.out⟩
    · obtain rfl : j = 2 := by omega
      have hgj : decide (((2 : Nat) : Int) < 2) = false := by simp
      have HMr := Lib.hid (HMA.out.later HBL.out)
      have HKNr : Hid (KnS wr fb9 m8 kn) := HKNA.out.of HMr.out
      have HBr := Lib.hid (HBA.out.trans (HBL.out.mono HBA.out.size))
      have HCZ : Hid (Con N8 2 z (shF (plL L) ((2 : Nat) : Int) ((2 : Nat) : Int))) := by
        have := HZ8.out.out _ HCX8.out
        rw [HPLL.out]
        exact this
      obtain ⟨csr, hsr⟩ := HMr.out.st
      obtain ⟨svr, clr, htr, _⟩ := HMr.out.blk
      have hzu := Sq.u32 hsr HCZ.out.1
      have HC1 := Lib.hid (fun z : Up wr => Up.callsE (fun W hW => len_any (hsr.later hW)) z)
      have HC2 := Lib.hid (fun z : Up wr => Up.callsE (fun W hW => known_blk (kept htr hW) (HKNr.out.of (HMr.out.later hW))) z)
      have HC3 := Lib.hid (fun z' : Up wr => Up.callsE (fun W hW => level_any (hsr.later hW) z hzu) z')
      rw [show lvZ N8 z = ((2 : Nat) : Int) from HCZ.out.1] at HC3
      have HC4 := Lib.hid (fun z' : Up wr => Up.calls (fun W hW => same10_any (hsr.later hW) (n := 2) (by omega) 2 4 (by omega) rfl L b cb (HRO.out.later hW) HNDL.out hlen HCZ.out) z')
      rw [show ((2 : Nat) : Int) = 2 from rfl, show ((4 : Nat) : Int) = 4 from rfl] at HC4
      have hkg : decide ((0 : Int) < (kn : Int)) = true := by simp; omega
      have hkg' : decide (0 < kn) = true := by simp; omega
      clear hsr hzu htr
      go_upto_region 19 with fail
      have hme := Up.me wr
      refine region_up rfl (by kernel_rfl) ?_
      repeat' (go_big_quiet_step ((first | (go_at_call 11; with_reducible exact HC1.out _) | (go_at_call 12; with_reducible exact HC2.out _) | (go_at_call 15; with_reducible exact HC3.out _) | (go_at_call 16; with_reducible exact HC4.out _) | fail)))
      refine wpQuiet_nil ?_
      rintro w2 ⟨⟨W2, hW2⟩, rfl⟩
      go_wp2_with fail
      go_ret
      exact ⟨rfl, HBr.out.trans (hW2.mono HBr.out.size)⟩
set_option maxHeartbeats 8000000 in
theorem enx_2_0 (l other : List Nat) (hl : l.length ≤ 4) (ho : other.length ≤ 4) (hz : ∀ z ∈ l, z < 18446744073709551616) (hzo : ∀ z ∈ other, z < 18446744073709551616) (p0 p1 : Nat) (hp0 : p0 < 256) (hp1 : p1 < 256) (h0 : p0 % 3 = 2) (h1 : p1 % 3 = 0) (a ao : Option Addr) (cap capo : Nat) (w : World)
    (h : RowU w a l) (hD : 0 < l.length → ∀ b off, a = some ⟨b, off, none⟩ → b < w.heap.size) (h' : RowU w ao other) (hD' : 0 < other.length → ∀ b off, ao = some ⟨b, off, none⟩ → b < w.heap.size) :
    Calls Try.prog 3 #[.slice a l.length cap, .agg #[.int .u8 (p0 : Int), .int .u8 (p1 : Int)], .slice ao other.length capo] w fun e w' => e = .returned (.bool true) ∧ Below w.heap.size w w' := by
  have HR := Lib.hid h
  have HD := Lib.hid hD
  have HRO := Lib.hid h'
  have HDO := Lib.hid hD'
  have HLL := Lib.hid (And.intro hl ho)
  have HZ := Lib.hid (And.intro hz hzo)
  have gl : decide ((4 : Int) < (l.length : Int)) = false := by simp; omega
  have gl' : decide (4 < l.length) = false := by simp; omega
  have gm : decide ((4 : Int) < (other.length : Int)) = false := by simp; omega
  have gm' : decide (4 < other.length) = false := by simp; omega
  have HB0 := Lib.hid (bel1 w (.cells #[.int .u8 (p0 : Int), .int .u8 (p1 : Int)] 23))
  have HP0 := Lib.hid (heap_alloc_new w (.cells #[.int .u8 (p0 : Int), .int .u8 (p1 : Int)] 23))
  have HPP := Lib.hid (And.intro hp0 (And.intro hp1 (And.intro h0 h1)))
  clear h hD h' hD' hl ho hz hzo hp0 hp1 h0 h1
  go_enter Try.func3, Try.ntmps3
  go_wp2_with fail
  generalize w.alloc (.cells #[.int .u8 (p0 : Int), .int .u8 (p1 : Int)] 23) = W0 at *
  refine (lives10_any _).mono ?_
  rintro e W1 ⟨rfl, hb⟩
  have HB1 := Lib.hid (HB0.out.trans (hb.mono HB0.out.size))
  have HP1 := Lib.hid (kept HP0.out hb)
  clear hb HB0 HP0
  have q0 : W1.cell? ⟨w.heap.size, 0, none⟩ = some (.int .u8 (p0 : Int)) := by rw [Lib.cell_of_heap HP1.out]; rfl
  have q1 : W1.cell? ⟨w.heap.size, 1, none⟩ = some (.int .u8 (p1 : Int)) := by rw [Lib.cell_of_heap HP1.out]; rfl
  have r0 : IntKind.u8.wrap ((p0 : Int).tmod 3) = 2 := by rw [Int.tmod_eq_emod_of_nonneg (by omega), show (p0 : Int) % 3 = 2 by have := HPP.out; omega]; exact IntWalk.u8_in _ (by omega)
  have r4 : (p0 : Int) % 3 = 2 := by have := HPP.out; omega
  have r1 : IntKind.i64.wrap (p1 : Int) = (p1 : Int) := IntWalk.i64_in _ (by have := HPP.out; omega)
  have r2 : (p1 : Int) % 3 = 0 := by have := HPP.out; omega
  have r3 : (p1 : Int).tmod 3 = 0 := by rw [Int.tmod_eq_emod_of_nonneg (by omega)]; exact r2
  go_upto_region 5 with fail
  clear q0 q1 r0 r1 r2 r3 r4 gl gl' gm gm' HP1
  go_wp2_with fail
  refine (new_good 50000 (by omega) (by omega) _).mono ?_
  rintro e W2 ⟨sb, g, tb, rfl, hS, hB, l1, l2, l3⟩
  have HS2 := Lib.hid hS
  have HB2 := Lib.hid (HB1.out.trans (hB.mono HB1.out.size))
  have HL : Hid (w.heap.size ≤ sb ∧ w.heap.size ≤ g ∧ w.heap.size ≤ tb) := by have := HB1.out.size; exact ⟨by omega, by omega, by omega⟩
  clear hS hB l1 l2 l3 HB1
  go_wp2_with fail
  refine (enew_any HS2.out).mono ?_
  rintro e W3 ⟨mb, rfl, hmb, hme, hB3⟩
  have HM3 := Lib.hid hme
  have HB3 := Lib.hid (HB2.out.trans (hB3.mono HB2.out.size))
  have HAB : Hid (Abv w.heap.size sb g tb mb FbT.no) := by
    obtain ⟨a1, a2, a3⟩ := HL.out
    have := HB2.out.size
    exact ⟨by omega, by omega, by omega, by omega, fun b e => absurd e no_bl⟩
  have HRW : Hid (RowS W3 sb g tb ao other) := rowS_arg HRO.out HDO.out HB3.out HB3.out.size HAB.out.sb_ HAB.out.g_ HAB.out.tb_
  clear hmb hme hB3 HB2 HS2 HL HRO HDO
  go_wp2_with fail
  refine (bld10 HM3.out 4 (by omega) other HLL.out.2 HZ.out.2 ao capo HRW.out).mono ?_
  rintro e W4 ⟨g4, N4, hmx, hres⟩
  have HL4 : Hid (N4.length ≤ 87) := Nat.le_trans hmx.len (by decide)
  obtain ⟨y, rfl, hcy⟩ := bld_out hres (by have := HL4.out; omega)
  have HCY := Lib.hid hcy
  have HB4 := Lib.hid (HAB.out.below HB3.out HB3.out.size hmx)
  have HAB4 := Lib.hid (HAB.out.mx HB3.out.size hmx)
  have HM4 := Lib.hid hmx.me
  clear hres hcy hmx HM3 HRW HB3 HAB
  have HN4 := Lib.hid (enext_any HM4.out (n := 2) (p := 2) HCY.out.1 (by omega))
  go_wp2_with fail
  refine HN4.out.mono ?_
  rintro e W5 ⟨g5, N5, fb5, m5, hmx, hres⟩
  have HL5 : Hid (N5.length ≤ 452) := Nat.le_trans hmx.len (by have := HL4.out; have : cE 2 = 365 := rfl; omega)
  obtain ⟨z5, rfl, _, _⟩ := res_good hres (by have := HL5.out; omega)
  have HCY5 := Lib.hid (HCY.out.mx HM4.out.wf hmx)
  have HB5 := Lib.hid (HAB4.out.below HB4.out HB4.out.size hmx)
  have HAB5 := Lib.hid (HAB4.out.mx HB4.out.size hmx)
  have HM5 := Lib.hid hmx.me
  clear hres hmx HN4 HM4 HB4 HAB4 HL4 HCY
  have HN5 := Lib.hid (enext_any HM5.out (n := 2) (p := 1) HCY5.out.1 (by omega))
  go_wp2_with fail
  refine HN5.out.mono ?_
  rintro e W6 ⟨g6, N6, fb6, m6, hmx, hres⟩
  have HL6 : Hid (N6.length ≤ 817) := Nat.le_trans hmx.len (by have := HL5.out; have : cE 2 = 365 := rfl; omega)
  obtain ⟨z6, rfl, _, _⟩ := res_good hres (by have := HL6.out; omega)
  have HB6 := Lib.hid (HAB5.out.below HB5.out HB5.out.size hmx)
  have HAB6 := Lib.hid (HAB5.out.mx HB5.out.size hmx)
  have HM6 := Lib.hid hmx.me
  have HRW6 : Hid (RowS W6 sb g6 tb a l) := rowS_arg HR.out HD.out HB6.out HB6.out.size HAB6.out.sb_ HAB6.out.g_ HAB6.out.tb_
  clear hres hmx HN5 HM5 HB5 HAB5 HL5 HCY5
  go_wp2_with fail
  refine (bld10 HM6.out 4 (by omega) l HLL.out.1 HZ.out.1 a cap HRW6.out).mono ?_
  rintro e W7 ⟨g7, N7, hmx, hres⟩
  have HL7 : Hid (N7.length ≤ 902) := Nat.le_trans hmx.len (by have := HL6.out; have : bC 4 ≤ 85 := (by decide); omega)
  obtain ⟨x, rfl, hcx⟩ := bld_out hres (by have := HL7.out; omega)
  rw [show (2 : Nat) ^ 4 = 16 from rfl] at hcx
  have HCX := Lib.hid hcx
  have HB7 := Lib.hid (HAB6.out.below HB6.out HB6.out.size hmx)
  have HAB7 := Lib.hid (HAB6.out.mx HB6.out.size hmx)
  have HM7 := Lib.hid hmx.me
  clear hres hcx hmx HM6 HRW6 HB6 HAB6 HL6
  have HN7 := Lib.hid (enext_any HM7.out (n := 2) (p := 0) HCX.out.1 (by omega))
  go_wp2_with fail
  refine HN7.out.mono ?_
  rintro e W8 ⟨g8, N8, fb8, m8, hmx, hres⟩
  have HL8 : Hid (N8.length ≤ 1267) := Nat.le_trans hmx.len (by have := HL7.out; have : cE 2 ≤ 365 := (by decide); omega)
  obtain ⟨z, rfl, hz, hmz⟩ := res_good hres (by have := HL8.out; omega)
  have HCX8 := Lib.hid (HCX.out.mx HM7.out.wf hmx)
  have HZ8 := Lib.hid hz
  have HMZ := Lib.hid hmz
  have HB8 := Lib.hid (HAB7.out.below HB7.out HB7.out.size hmx)
  have HAB8 := Lib.hid (HAB7.out.mx HB7.out.size hmx)
  have HM8 := Lib.hid hmx.me
  clear hres hz hmz hmx HN7 HM7 HB7 HAB7 HL7 HCX
  obtain ⟨cs8, hs8⟩ := HM8.out.st
  have HS8 := Lib.hid hs8
  clear hs8
  go_wp2_with fail
  refine (len_any HS8.out).mono ?_
  rintro e W9 ⟨rfl, rfl⟩
  obtain ⟨kn, hkn, hkp⟩ := HM8.out.kn
  have hk0 := hkp _ _ HMZ.out
  have HKN := Lib.hid hkn
  obtain ⟨sv8, cl8, hth8, _⟩ := HM8.out.blk
  have HKC := Lib.hid (known_blk hth8 hkn)
  clear hkn hkp hth8
  go_wp2_with fail
  refine HKC.out.mono ?_
  rintro e W9 ⟨rfl, rfl⟩
  have HEK := Lib.hid (enext_known HM8.out HZ8.out HMZ.out)
  clear HKC
  go_wp2_with fail
  refine HEK.out.mono ?_
  rintro e W9 ⟨rfl, fb9, hmx⟩
  have HM9 := Lib.hid hmx.me
  have HB9 := Lib.hid (HAB8.out.below HB8.out HB8.out.size hmx)
  have HKN9 : Hid (KnS W9 fb9 m8 kn) := HKN.out.of HM9.out
  clear hmx HEK HM8 HB8 HAB8 HKN HS8 HMZ HL8
  have HCE := Lib.hid (cells10_any l HLL.out.1 HZ.out.1 a cap W9 (HR.out.later HD.out HB9.out) (fun hl b off e => Nat.lt_of_lt_of_le (HD.out hl b off e) HB9.out.size) 16 (by omega))
  go_wp2_with fail
  refine HCE.out.mono ?_
  rintro e Wa ⟨va, rfl, ho, hb⟩
  obtain ⟨la, lcap, hle, hlr, _⟩ := ho.ro
  subst hle
  have HRA := Lib.hid hlr
  have HBA := Lib.hid (HB9.out.trans (hb.mono HB9.out.size))
  have HMA := Lib.hid (HM9.out.later hb)
  have HKNA : Hid (KnS Wa fb9 m8 kn) := HKN9.out.of HMA.out
  have HPL := Lib.hid (plL_cellsU l 16)
  have HND : Hid ((cellsU l 16).Nodup) := nodup_rowsC l 16 16
  have HBX := Lib.hid (box_cells l 16)
  clear ho hlr hb HCE HM9 HKN9 HB9
  generalize cellsU l 16 = L0 at *
  go_wp2_with fail
  go_loopg [22, 96] 1 (fun mm v22 cnt wr => ∃ (j : Nat) (L : List (Int × Int)) (b : Option Addr) (cb : Nat), mm = 1 - j ∧ j ≤ 1 ∧ cnt = .int .i64 (j : Int) ∧ v22 = .slice b L.length cb ∧ Ro wr b L ∧ L.Nodup ∧ Box10 L j 16 ∧ plL L = gens j (plU l 16) ∧ Below Wa.heap.size Wa wr)
  case atStart => exact ⟨0, L0, la, lcap, rfl, Nat.zero_le _, rfl, rfl, HRA.out, HND.out, HBX.out, HPL.out, Below.refl _ _⟩
  case round =>
    obtain ⟨j, L, b, cb, hm, hj, rfl, rfl, hro, hnd, hbx, hpl, hb⟩ := hrel
    have HMM := Lib.hid hm
    have HRO := Lib.hid hro
    have HNDL := Lib.hid hnd
    have HBXL := Lib.hid hbx
    have HPLL := Lib.hid hpl
    have HBL := Lib.hid hb
    have hlen : L.length ≤ 1000 := hbx.len hnd (by omega) (by omega)
    clear hm hro hnd hbx hpl hb
    by_cases hlt : j < 1
    · have hgj : decide ((j : Int) < 1) = true := by simp; omega
      go_wp2_with fail
      refine (next_ref L b cb _ HRO.out (by omega) (HBXL.out.mid (by omega) (by omega))).mono ?_
      rintro e w5 ⟨v, L5, rfl, ho, hn5, hp5, _, hb5⟩
      obtain ⟨b5, cb5, hle, hlr, _⟩ := ho.ro
      subst hle
      have HR5 := Lib.hid hlr
      have HN5 := Lib.hid hn5
      have HX5 := Lib.hid (HBXL.out.next hp5)
      have HP5 : Hid (plL L5 = gens (j + 1) (plU l 16)) := by
        show _ = _
        rw [plL_next HNDL.out hp5, HPLL.out, gens_add j 1]; rfl
      have HB5 := Lib.hid (HBL.out.trans (hb5.mono HBL.out.size))
      clear ho hlr hn5 hp5 hb5 HBL HRO
      go_wp2_with fail
      go_roundg (1 - (j + 1))
      case measure => rw [HMM.out]; omega
      case rel => exact ⟨j + 1, L5, b5, cb5, rfl, by omega, by go_num, rfl, HR5.out, HN5.out, HX5.out, HP5.out, HB5.out⟩
    · obtain rfl : j = 1 := by omega
      have hgj : decide (((1 : Nat) : Int) < 1) = false := by simp
      have HMr := Lib.hid (HMA.out.later HBL.out)
      have HKNr : Hid (KnS wr fb9 m8 kn) := HKNA.out.of HMr.out
      have HBr := Lib.hid (HBA.out.trans (HBL.out.mono HBA.out.size))
      have HCZ : Hid (Con N8 3 z (shF (plL L) ((4 : Nat) : Int) ((4 : Nat) : Int))) := by
        have := HZ8.out.out _ HCX8.out
        rw [HPLL.out]
        exact this
      obtain ⟨csr, hsr⟩ := HMr.out.st
      obtain ⟨svr, clr, htr, _⟩ := HMr.out.blk
      have hzu := Sq.u32 hsr HCZ.out.1
      have HC1 := Lib.hid (fun z : Up wr => Up.callsE (fun W hW => len_any (hsr.later hW)) z)
      have HC2 := Lib.hid (fun z : Up wr => Up.callsE (fun W hW => known_blk (kept htr hW) (HKNr.out.of (HMr.out.later hW))) z)
      have HC3 := Lib.hid (fun z' : Up wr => Up.callsE (fun W hW => level_any (hsr.later hW) z hzu) z')
      rw [show lvZ N8 z = ((3 : Nat) : Int) from HCZ.out.1] at HC3
      have HC4 := Lib.hid (fun z' : Up wr => Up.calls (fun W hW => same10_any (hsr.later hW) (n := 3) (by omega) 4 8 (by omega) rfl L b cb (HRO.out.later hW) HNDL.out hlen HCZ.out) z')
      rw [show ((4 : Nat) : Int) = 4 from rfl, show ((8 : Nat) : Int) = 8 from rfl] at HC4
      have hkg : decide ((0 : Int) < (kn : Int)) = true := by simp; omega
      have hkg' : decide (0 < kn) = true := by simp; omega
      clear hsr hzu htr
      go_upto_region 19 with fail
      have hme := Up.me wr
      refine region_up rfl (by kernel_rfl) ?_
      repeat' (go_big_quiet_step ((first | (go_at_call 11; with_reducible exact HC1.out _) | (go_at_call 12; with_reducible exact HC2.out _) | (go_at_call 15; with_reducible exact HC3.out _) | (go_at_call 16; with_reducible exact HC4.out _) | fail)))
      refine wpQuiet_nil ?_
      rintro w2 ⟨⟨W2, hW2⟩, rfl⟩
      go_wp2_with fail
      go_ret
      exact ⟨rfl, HBr.out.trans (hW2.mono HBr.out.size)⟩
set_option maxHeartbeats 8000000 in
theorem enx_2_1 (l other : List Nat) (hl : l.length ≤ 4) (ho : other.length ≤ 4) (hz : ∀ z ∈ l, z < 18446744073709551616) (hzo : ∀ z ∈ other, z < 18446744073709551616) (p0 p1 : Nat) (hp0 : p0 < 256) (hp1 : p1 < 256) (h0 : p0 % 3 = 2) (h1 : p1 % 3 = 1) (a ao : Option Addr) (cap capo : Nat) (w : World)
    (h : RowU w a l) (hD : 0 < l.length → ∀ b off, a = some ⟨b, off, none⟩ → b < w.heap.size) (h' : RowU w ao other) (hD' : 0 < other.length → ∀ b off, ao = some ⟨b, off, none⟩ → b < w.heap.size) :
    Calls Try.prog 3 #[.slice a l.length cap, .agg #[.int .u8 (p0 : Int), .int .u8 (p1 : Int)], .slice ao other.length capo] w fun e w' => e = .returned (.bool true) ∧ Below w.heap.size w w' := by
  have HR := Lib.hid h
  have HD := Lib.hid hD
  have HRO := Lib.hid h'
  have HDO := Lib.hid hD'
  have HLL := Lib.hid (And.intro hl ho)
  have HZ := Lib.hid (And.intro hz hzo)
  have gl : decide ((4 : Int) < (l.length : Int)) = false := by simp; omega
  have gl' : decide (4 < l.length) = false := by simp; omega
  have gm : decide ((4 : Int) < (other.length : Int)) = false := by simp; omega
  have gm' : decide (4 < other.length) = false := by simp; omega
  have HB0 := Lib.hid (bel1 w (.cells #[.int .u8 (p0 : Int), .int .u8 (p1 : Int)] 23))
  have HP0 := Lib.hid (heap_alloc_new w (.cells #[.int .u8 (p0 : Int), .int .u8 (p1 : Int)] 23))
  have HPP := Lib.hid (And.intro hp0 (And.intro hp1 (And.intro h0 h1)))
  clear h hD h' hD' hl ho hz hzo hp0 hp1 h0 h1
  go_enter Try.func3, Try.ntmps3
  go_wp2_with fail
  generalize w.alloc (.cells #[.int .u8 (p0 : Int), .int .u8 (p1 : Int)] 23) = W0 at *
  refine (lives10_any _).mono ?_
  rintro e W1 ⟨rfl, hb⟩
  have HB1 := Lib.hid (HB0.out.trans (hb.mono HB0.out.size))
  have HP1 := Lib.hid (kept HP0.out hb)
  clear hb HB0 HP0
  have q0 : W1.cell? ⟨w.heap.size, 0, none⟩ = some (.int .u8 (p0 : Int)) := by rw [Lib.cell_of_heap HP1.out]; rfl
  have q1 : W1.cell? ⟨w.heap.size, 1, none⟩ = some (.int .u8 (p1 : Int)) := by rw [Lib.cell_of_heap HP1.out]; rfl
  have r0 : IntKind.u8.wrap ((p0 : Int).tmod 3) = 2 := by rw [Int.tmod_eq_emod_of_nonneg (by omega), show (p0 : Int) % 3 = 2 by have := HPP.out; omega]; exact IntWalk.u8_in _ (by omega)
  have r4 : (p0 : Int) % 3 = 2 := by have := HPP.out; omega
  have r1 : IntKind.i64.wrap (p1 : Int) = (p1 : Int) := IntWalk.i64_in _ (by have := HPP.out; omega)
  have r2 : (p1 : Int) % 3 = 1 := by have := HPP.out; omega
  have r3 : (p1 : Int).tmod 3 = 1 := by rw [Int.tmod_eq_emod_of_nonneg (by omega)]; exact r2
  go_upto_region 5 with fail
  clear q0 q1 r0 r1 r2 r3 r4 gl gl' gm gm' HP1
  go_wp2_with fail
  refine (new_good 50000 (by omega) (by omega) _).mono ?_
  rintro e W2 ⟨sb, g, tb, rfl, hS, hB, l1, l2, l3⟩
  have HS2 := Lib.hid hS
  have HB2 := Lib.hid (HB1.out.trans (hB.mono HB1.out.size))
  have HL : Hid (w.heap.size ≤ sb ∧ w.heap.size ≤ g ∧ w.heap.size ≤ tb) := by have := HB1.out.size; exact ⟨by omega, by omega, by omega⟩
  clear hS hB l1 l2 l3 HB1
  go_wp2_with fail
  refine (enew_any HS2.out).mono ?_
  rintro e W3 ⟨mb, rfl, hmb, hme, hB3⟩
  have HM3 := Lib.hid hme
  have HB3 := Lib.hid (HB2.out.trans (hB3.mono HB2.out.size))
  have HAB : Hid (Abv w.heap.size sb g tb mb FbT.no) := by
    obtain ⟨a1, a2, a3⟩ := HL.out
    have := HB2.out.size
    exact ⟨by omega, by omega, by omega, by omega, fun b e => absurd e no_bl⟩
  have HRW : Hid (RowS W3 sb g tb ao other) := rowS_arg HRO.out HDO.out HB3.out HB3.out.size HAB.out.sb_ HAB.out.g_ HAB.out.tb_
  clear hmb hme hB3 HB2 HS2 HL HRO HDO
  go_wp2_with fail
  refine (bld10 HM3.out 4 (by omega) other HLL.out.2 HZ.out.2 ao capo HRW.out).mono ?_
  rintro e W4 ⟨g4, N4, hmx, hres⟩
  have HL4 : Hid (N4.length ≤ 87) := Nat.le_trans hmx.len (by decide)
  obtain ⟨y, rfl, hcy⟩ := bld_out hres (by have := HL4.out; omega)
  have HCY := Lib.hid hcy
  have HB4 := Lib.hid (HAB.out.below HB3.out HB3.out.size hmx)
  have HAB4 := Lib.hid (HAB.out.mx HB3.out.size hmx)
  have HM4 := Lib.hid hmx.me
  clear hres hcy hmx HM3 HRW HB3 HAB
  have HN4 := Lib.hid (enext_any HM4.out (n := 2) (p := 2) HCY.out.1 (by omega))
  go_wp2_with fail
  refine HN4.out.mono ?_
  rintro e W5 ⟨g5, N5, fb5, m5, hmx, hres⟩
  have HL5 : Hid (N5.length ≤ 452) := Nat.le_trans hmx.len (by have := HL4.out; have : cE 2 = 365 := rfl; omega)
  obtain ⟨z5, rfl, _, _⟩ := res_good hres (by have := HL5.out; omega)
  have HCY5 := Lib.hid (HCY.out.mx HM4.out.wf hmx)
  have HB5 := Lib.hid (HAB4.out.below HB4.out HB4.out.size hmx)
  have HAB5 := Lib.hid (HAB4.out.mx HB4.out.size hmx)
  have HM5 := Lib.hid hmx.me
  clear hres hmx HN4 HM4 HB4 HAB4 HL4 HCY
  have HN5 := Lib.hid (enext_any HM5.out (n := 2) (p := 1) HCY5.out.1 (by omega))
  go_wp2_with fail
  refine HN5.out.mono ?_
  rintro e W6 ⟨g6, N6, fb6, m6, hmx, hres⟩
  have HL6 : Hid (N6.length ≤ 817) := Nat.le_trans hmx.len (by have := HL5.out; have : cE 2 = 365 := rfl; omega)
  obtain ⟨z6, rfl, _, _⟩ := res_good hres (by have := HL6.out; omega)
  have HB6 := Lib.hid (HAB5.out.below HB5.out HB5.out.size hmx)
  have HAB6 := Lib.hid (HAB5.out.mx HB5.out.size hmx)
  have HM6 := Lib.hid hmx.me
  have HRW6 : Hid (RowS W6 sb g6 tb a l) := rowS_arg HR.out HD.out HB6.out HB6.out.size HAB6.out.sb_ HAB6.out.g_ HAB6.out.tb_
  clear hres hmx HN5 HM5 HB5 HAB5 HL5 HCY5
  go_wp2_with fail
  refine (bld10 HM6.out 4 (by omega) l HLL.out.1 HZ.out.1 a cap HRW6.out).mono ?_
  rintro e W7 ⟨g7, N7, hmx, hres⟩
  have HL7 : Hid (N7.length ≤ 902) := Nat.le_trans hmx.len (by have := HL6.out; have : bC 4 ≤ 85 := (by decide); omega)
  obtain ⟨x, rfl, hcx⟩ := bld_out hres (by have := HL7.out; omega)
  rw [show (2 : Nat) ^ 4 = 16 from rfl] at hcx
  have HCX := Lib.hid hcx
  have HB7 := Lib.hid (HAB6.out.below HB6.out HB6.out.size hmx)
  have HAB7 := Lib.hid (HAB6.out.mx HB6.out.size hmx)
  have HM7 := Lib.hid hmx.me
  clear hres hcx hmx HM6 HRW6 HB6 HAB6 HL6
  have HN7 := Lib.hid (enext_any HM7.out (n := 2) (p := 1) HCX.out.1 (by omega))
  go_wp2_with fail
  refine HN7.out.mono ?_
  rintro e W8 ⟨g8, N8, fb8, m8, hmx, hres⟩
  have HL8 : Hid (N8.length ≤ 1267) := Nat.le_trans hmx.len (by have := HL7.out; have : cE 2 ≤ 365 := (by decide); omega)
  obtain ⟨z, rfl, hz, hmz⟩ := res_good hres (by have := HL8.out; omega)
  have HCX8 := Lib.hid (HCX.out.mx HM7.out.wf hmx)
  have HZ8 := Lib.hid hz
  have HMZ := Lib.hid hmz
  have HB8 := Lib.hid (HAB7.out.below HB7.out HB7.out.size hmx)
  have HAB8 := Lib.hid (HAB7.out.mx HB7.out.size hmx)
  have HM8 := Lib.hid hmx.me
  clear hres hz hmz hmx HN7 HM7 HB7 HAB7 HL7 HCX
  obtain ⟨cs8, hs8⟩ := HM8.out.st
  have HS8 := Lib.hid hs8
  clear hs8
  go_wp2_with fail
  refine (len_any HS8.out).mono ?_
  rintro e W9 ⟨rfl, rfl⟩
  obtain ⟨kn, hkn, hkp⟩ := HM8.out.kn
  have hk0 := hkp _ _ HMZ.out
  have HKN := Lib.hid hkn
  obtain ⟨sv8, cl8, hth8, _⟩ := HM8.out.blk
  have HKC := Lib.hid (known_blk hth8 hkn)
  clear hkn hkp hth8
  go_wp2_with fail
  refine HKC.out.mono ?_
  rintro e W9 ⟨rfl, rfl⟩
  have HEK := Lib.hid (enext_known HM8.out HZ8.out HMZ.out)
  clear HKC
  go_wp2_with fail
  refine HEK.out.mono ?_
  rintro e W9 ⟨rfl, fb9, hmx⟩
  have HM9 := Lib.hid hmx.me
  have HB9 := Lib.hid (HAB8.out.below HB8.out HB8.out.size hmx)
  have HKN9 : Hid (KnS W9 fb9 m8 kn) := HKN.out.of HM9.out
  clear hmx HEK HM8 HB8 HAB8 HKN HS8 HMZ HL8
  have HCE := Lib.hid (cells10_any l HLL.out.1 HZ.out.1 a cap W9 (HR.out.later HD.out HB9.out) (fun hl b off e => Nat.lt_of_lt_of_le (HD.out hl b off e) HB9.out.size) 16 (by omega))
  go_wp2_with fail
  refine HCE.out.mono ?_
  rintro e Wa ⟨va, rfl, ho, hb⟩
  obtain ⟨la, lcap, hle, hlr, _⟩ := ho.ro
  subst hle
  have HRA := Lib.hid hlr
  have HBA := Lib.hid (HB9.out.trans (hb.mono HB9.out.size))
  have HMA := Lib.hid (HM9.out.later hb)
  have HKNA : Hid (KnS Wa fb9 m8 kn) := HKN9.out.of HMA.out
  have HPL := Lib.hid (plL_cellsU l 16)
  have HND : Hid ((cellsU l 16).Nodup) := nodup_rowsC l 16 16
  have HBX := Lib.hid (box_cells l 16)
  clear ho hlr hb HCE HM9 HKN9 HB9
  generalize cellsU l 16 = L0 at *
  go_wp2_with fail
  go_loopg [22, 96] 2 (fun mm v22 cnt wr => ∃ (j : Nat) (L : List (Int × Int)) (b : Option Addr) (cb : Nat), mm = 2 - j ∧ j ≤ 2 ∧ cnt = .int .i64 (j : Int) ∧ v22 = .slice b L.length cb ∧ Ro wr b L ∧ L.Nodup ∧ Box10 L j 16 ∧ plL L = gens j (plU l 16) ∧ Below Wa.heap.size Wa wr)
  case atStart => exact ⟨0, L0, la, lcap, rfl, Nat.zero_le _, rfl, rfl, HRA.out, HND.out, HBX.out, HPL.out, Below.refl _ _⟩
  case round =>
    obtain ⟨j, L, b, cb, hm, hj, rfl, rfl, hro, hnd, hbx, hpl, hb⟩ := hrel
    have HMM := Lib.hid hm
    have HRO := Lib.hid hro
    have HNDL := Lib.hid hnd
    have HBXL := Lib.hid hbx
    have HPLL := Lib.hid hpl
    have HBL := Lib.hid hb
    have hlen : L.length ≤ 1000 := hbx.len hnd (by omega) (by omega)
    clear hm hro hnd hbx hpl hb
    by_cases hlt : j < 2
    · have hgj : decide ((j : Int) < 2) = true := by simp; omega
      go_wp2_with fail
      refine (next_ref L b cb _ HRO.out (by omega) (HBXL.out.mid (by omega) (by omega))).mono ?_
      rintro e w5 ⟨v, L5, rfl, ho, hn5, hp5, _, hb5⟩
      obtain ⟨b5, cb5, hle, hlr, _⟩ := ho.ro
      subst hle
      have HR5 := Lib.hid hlr
      have HN5 := Lib.hid hn5
      have HX5 := Lib.hid (HBXL.out.next hp5)
      have HP5 : Hid (plL L5 = gens (j + 1) (plU l 16)) := by
        show _ = _
        rw [plL_next HNDL.out hp5, HPLL.out, gens_add j 1]; rfl
      have HB5 := Lib.hid (HBL.out.trans (hb5.mono HBL.out.size))
      clear ho hlr hn5 hp5 hb5 HBL HRO
      go_wp2_with fail
      go_roundg (2 - (j + 1))
      case measure => rw [HMM.out]; omega
      case rel => exact ⟨j + 1, L5, b5, cb5, rfl, by omega, by go_num, rfl, HR5.out, HN5.out, HX5.out, HP5.out, HB5.out⟩
    · obtain rfl : j = 2 := by omega
      have hgj : decide (((2 : Nat) : Int) < 2) = false := by simp
      have HMr := Lib.hid (HMA.out.later HBL.out)
      have HKNr : Hid (KnS wr fb9 m8 kn) := HKNA.out.of HMr.out
      have HBr := Lib.hid (HBA.out.trans (HBL.out.mono HBA.out.size))
      have HCZ : Hid (Con N8 3 z (shF (plL L) ((4 : Nat) : Int) ((4 : Nat) : Int))) := by
        have := HZ8.out.out _ HCX8.out
        rw [HPLL.out]
        exact this
      obtain ⟨csr, hsr⟩ := HMr.out.st
      obtain ⟨svr, clr, htr, _⟩ := HMr.out.blk
      have hzu := Sq.u32 hsr HCZ.out.1
      have HC1 := Lib.hid (fun z : Up wr => Up.callsE (fun W hW => len_any (hsr.later hW)) z)
      have HC2 := Lib.hid (fun z : Up wr => Up.callsE (fun W hW => known_blk (kept htr hW) (HKNr.out.of (HMr.out.later hW))) z)
      have HC3 := Lib.hid (fun z' : Up wr => Up.callsE (fun W hW => level_any (hsr.later hW) z hzu) z')
      rw [show lvZ N8 z = ((3 : Nat) : Int) from HCZ.out.1] at HC3
      have HC4 := Lib.hid (fun z' : Up wr => Up.calls (fun W hW => same10_any (hsr.later hW) (n := 3) (by omega) 4 8 (by omega) rfl L b cb (HRO.out.later hW) HNDL.out hlen HCZ.out) z')
      rw [show ((4 : Nat) : Int) = 4 from rfl, show ((8 : Nat) : Int) = 8 from rfl] at HC4
      have hkg : decide ((0 : Int) < (kn : Int)) = true := by simp; omega
      have hkg' : decide (0 < kn) = true := by simp; omega
      clear hsr hzu htr
      go_upto_region 19 with fail
      have hme := Up.me wr
      refine region_up rfl (by kernel_rfl) ?_
      repeat' (go_big_quiet_step ((first | (go_at_call 11; with_reducible exact HC1.out _) | (go_at_call 12; with_reducible exact HC2.out _) | (go_at_call 15; with_reducible exact HC3.out _) | (go_at_call 16; with_reducible exact HC4.out _) | fail)))
      refine wpQuiet_nil ?_
      rintro w2 ⟨⟨W2, hW2⟩, rfl⟩
      go_wp2_with fail
      go_ret
      exact ⟨rfl, HBr.out.trans (hW2.mono HBr.out.size)⟩
set_option maxHeartbeats 8000000 in
theorem enx_2_2 (l other : List Nat) (hl : l.length ≤ 4) (ho : other.length ≤ 4) (hz : ∀ z ∈ l, z < 18446744073709551616) (hzo : ∀ z ∈ other, z < 18446744073709551616) (p0 p1 : Nat) (hp0 : p0 < 256) (hp1 : p1 < 256) (h0 : p0 % 3 = 2) (h1 : p1 % 3 = 2) (a ao : Option Addr) (cap capo : Nat) (w : World)
    (h : RowU w a l) (hD : 0 < l.length → ∀ b off, a = some ⟨b, off, none⟩ → b < w.heap.size) (h' : RowU w ao other) (hD' : 0 < other.length → ∀ b off, ao = some ⟨b, off, none⟩ → b < w.heap.size) :
    Calls Try.prog 3 #[.slice a l.length cap, .agg #[.int .u8 (p0 : Int), .int .u8 (p1 : Int)], .slice ao other.length capo] w fun e w' => e = .returned (.bool true) ∧ Below w.heap.size w w' := by
  have HR := Lib.hid h
  have HD := Lib.hid hD
  have HRO := Lib.hid h'
  have HDO := Lib.hid hD'
  have HLL := Lib.hid (And.intro hl ho)
  have HZ := Lib.hid (And.intro hz hzo)
  have gl : decide ((4 : Int) < (l.length : Int)) = false := by simp; omega
  have gl' : decide (4 < l.length) = false := by simp; omega
  have gm : decide ((4 : Int) < (other.length : Int)) = false := by simp; omega
  have gm' : decide (4 < other.length) = false := by simp; omega
  have HB0 := Lib.hid (bel1 w (.cells #[.int .u8 (p0 : Int), .int .u8 (p1 : Int)] 23))
  have HP0 := Lib.hid (heap_alloc_new w (.cells #[.int .u8 (p0 : Int), .int .u8 (p1 : Int)] 23))
  have HPP := Lib.hid (And.intro hp0 (And.intro hp1 (And.intro h0 h1)))
  clear h hD h' hD' hl ho hz hzo hp0 hp1 h0 h1
  go_enter Try.func3, Try.ntmps3
  go_wp2_with fail
  generalize w.alloc (.cells #[.int .u8 (p0 : Int), .int .u8 (p1 : Int)] 23) = W0 at *
  refine (lives10_any _).mono ?_
  rintro e W1 ⟨rfl, hb⟩
  have HB1 := Lib.hid (HB0.out.trans (hb.mono HB0.out.size))
  have HP1 := Lib.hid (kept HP0.out hb)
  clear hb HB0 HP0
  have q0 : W1.cell? ⟨w.heap.size, 0, none⟩ = some (.int .u8 (p0 : Int)) := by rw [Lib.cell_of_heap HP1.out]; rfl
  have q1 : W1.cell? ⟨w.heap.size, 1, none⟩ = some (.int .u8 (p1 : Int)) := by rw [Lib.cell_of_heap HP1.out]; rfl
  have r0 : IntKind.u8.wrap ((p0 : Int).tmod 3) = 2 := by rw [Int.tmod_eq_emod_of_nonneg (by omega), show (p0 : Int) % 3 = 2 by have := HPP.out; omega]; exact IntWalk.u8_in _ (by omega)
  have r4 : (p0 : Int) % 3 = 2 := by have := HPP.out; omega
  have r1 : IntKind.i64.wrap (p1 : Int) = (p1 : Int) := IntWalk.i64_in _ (by have := HPP.out; omega)
  have r2 : (p1 : Int) % 3 = 2 := by have := HPP.out; omega
  have r3 : (p1 : Int).tmod 3 = 2 := by rw [Int.tmod_eq_emod_of_nonneg (by omega)]; exact r2
  go_upto_region 5 with fail
  clear q0 q1 r0 r1 r2 r3 r4 gl gl' gm gm' HP1
  go_wp2_with fail
  refine (new_good 50000 (by omega) (by omega) _).mono ?_
  rintro e W2 ⟨sb, g, tb, rfl, hS, hB, l1, l2, l3⟩
  have HS2 := Lib.hid hS
  have HB2 := Lib.hid (HB1.out.trans (hB.mono HB1.out.size))
  have HL : Hid (w.heap.size ≤ sb ∧ w.heap.size ≤ g ∧ w.heap.size ≤ tb) := by have := HB1.out.size; exact ⟨by omega, by omega, by omega⟩
  clear hS hB l1 l2 l3 HB1
  go_wp2_with fail
  refine (enew_any HS2.out).mono ?_
  rintro e W3 ⟨mb, rfl, hmb, hme, hB3⟩
  have HM3 := Lib.hid hme
  have HB3 := Lib.hid (HB2.out.trans (hB3.mono HB2.out.size))
  have HAB : Hid (Abv w.heap.size sb g tb mb FbT.no) := by
    obtain ⟨a1, a2, a3⟩ := HL.out
    have := HB2.out.size
    exact ⟨by omega, by omega, by omega, by omega, fun b e => absurd e no_bl⟩
  have HRW : Hid (RowS W3 sb g tb ao other) := rowS_arg HRO.out HDO.out HB3.out HB3.out.size HAB.out.sb_ HAB.out.g_ HAB.out.tb_
  clear hmb hme hB3 HB2 HS2 HL HRO HDO
  go_wp2_with fail
  refine (bld10 HM3.out 4 (by omega) other HLL.out.2 HZ.out.2 ao capo HRW.out).mono ?_
  rintro e W4 ⟨g4, N4, hmx, hres⟩
  have HL4 : Hid (N4.length ≤ 87) := Nat.le_trans hmx.len (by decide)
  obtain ⟨y, rfl, hcy⟩ := bld_out hres (by have := HL4.out; omega)
  have HCY := Lib.hid hcy
  have HB4 := Lib.hid (HAB.out.below HB3.out HB3.out.size hmx)
  have HAB4 := Lib.hid (HAB.out.mx HB3.out.size hmx)
  have HM4 := Lib.hid hmx.me
  clear hres hcy hmx HM3 HRW HB3 HAB
  have HN4 := Lib.hid (enext_any HM4.out (n := 2) (p := 2) HCY.out.1 (by omega))
  go_wp2_with fail
  refine HN4.out.mono ?_
  rintro e W5 ⟨g5, N5, fb5, m5, hmx, hres⟩
  have HL5 : Hid (N5.length ≤ 452) := Nat.le_trans hmx.len (by have := HL4.out; have : cE 2 = 365 := rfl; omega)
  obtain ⟨z5, rfl, _, _⟩ := res_good hres (by have := HL5.out; omega)
  have HCY5 := Lib.hid (HCY.out.mx HM4.out.wf hmx)
  have HB5 := Lib.hid (HAB4.out.below HB4.out HB4.out.size hmx)
  have HAB5 := Lib.hid (HAB4.out.mx HB4.out.size hmx)
  have HM5 := Lib.hid hmx.me
  clear hres hmx HN4 HM4 HB4 HAB4 HL4 HCY
  have HN5 := Lib.hid (enext_any HM5.out (n := 2) (p := 1) HCY5.out.1 (by omega))
  go_wp2_with fail
  refine HN5.out.mono ?_
  rintro e W6 ⟨g6, N6, fb6, m6, hmx, hres⟩
  have HL6 : Hid (N6.length ≤ 817) := Nat.le_trans hmx.len (by have := HL5.out; have : cE 2 = 365 := rfl; omega)
  obtain ⟨z6, rfl, _, _⟩ := res_good hres (by have := HL6.out; omega)
  have HB6 := Lib.hid (HAB5.out.below HB5.out HB5.out.size hmx)
  have HAB6 := Lib.hid (HAB5.out.mx HB5.out.size hmx)
  have HM6 := Lib.hid hmx.me
  have HRW6 : Hid (RowS W6 sb g6 tb a l) := rowS_arg HR.out HD.out HB6.out HB6.out.size HAB6.out.sb_ HAB6.out.g_ HAB6.out.tb_
  clear hres hmx HN5 HM5 HB5 HAB5 HL5 HCY5
  go_wp2_with fail
  refine (bld10 HM6.out 4 (by omega) l HLL.out.1 HZ.out.1 a cap HRW6.out).mono ?_
  rintro e W7 ⟨g7, N7, hmx, hres⟩
  have HL7 : Hid (N7.length ≤ 902) := Nat.le_trans hmx.len (by have := HL6.out; have : bC 4 ≤ 85 := (by decide); omega)
  obtain ⟨x, rfl, hcx⟩ := bld_out hres (by have := HL7.out; omega)
  rw [show (2 : Nat) ^ 4 = 16 from rfl] at hcx
  have HCX := Lib.hid hcx
  have HB7 := Lib.hid (HAB6.out.below HB6.out HB6.out.size hmx)
  have HAB7 := Lib.hid (HAB6.out.mx HB6.out.size hmx)
  have HM7 := Lib.hid hmx.me
  clear hres hcx hmx HM6 HRW6 HB6 HAB6 HL6
  have HN7 := Lib.hid (enext_any HM7.out (n := 2) (p := 2) HCX.out.1 (by omega))
  go_wp2_with fail
  refine HN7.out.mono ?_
  rintro e W8 ⟨g8, N8, fb8, m8, hmx, hres⟩
  have HL8 : Hid (N8.length ≤ 1267) := Nat.le_trans hmx.len (by have := HL7.out; have : cE 2 ≤ 365 := (by decide); omega)
  obtain ⟨z, rfl, hz, hmz⟩ := res_good hres (by have := HL8.out; omega)
  have HCX8 := Lib.hid (HCX.out.mx HM7.out.wf hmx)
  have HZ8 := Lib.hid hz
  have HMZ := Lib.hid hmz
  have HB8 := Lib.hid (HAB7.out.below HB7.out HB7.out.size hmx)
  have HAB8 := Lib.hid (HAB7.out.mx HB7.out.size hmx)
  have HM8 := Lib.hid hmx.me
  clear hres hz hmz hmx HN7 HM7 HB7 HAB7 HL7 HCX
  obtain ⟨cs8, hs8⟩ := HM8.out.st
  have HS8 := Lib.hid hs8
  clear hs8
  go_wp2_with fail
  refine (len_any HS8.out).mono ?_
  rintro e W9 ⟨rfl, rfl⟩
  obtain ⟨kn, hkn, hkp⟩ := HM8.out.kn
  have hk0 := hkp _ _ HMZ.out
  have HKN := Lib.hid hkn
  obtain ⟨sv8, cl8, hth8, _⟩ := HM8.out.blk
  have HKC := Lib.hid (known_blk hth8 hkn)
  clear hkn hkp hth8
  go_wp2_with fail
  refine HKC.out.mono ?_
  rintro e W9 ⟨rfl, rfl⟩
  have HEK := Lib.hid (enext_known HM8.out HZ8.out HMZ.out)
  clear HKC
  go_wp2_with fail
  refine HEK.out.mono ?_
  rintro e W9 ⟨rfl, fb9, hmx⟩
  have HM9 := Lib.hid hmx.me
  have HB9 := Lib.hid (HAB8.out.below HB8.out HB8.out.size hmx)
  have HKN9 : Hid (KnS W9 fb9 m8 kn) := HKN.out.of HM9.out
  clear hmx HEK HM8 HB8 HAB8 HKN HS8 HMZ HL8
  have HCE := Lib.hid (cells10_any l HLL.out.1 HZ.out.1 a cap W9 (HR.out.later HD.out HB9.out) (fun hl b off e => Nat.lt_of_lt_of_le (HD.out hl b off e) HB9.out.size) 16 (by omega))
  go_wp2_with fail
  refine HCE.out.mono ?_
  rintro e Wa ⟨va, rfl, ho, hb⟩
  obtain ⟨la, lcap, hle, hlr, _⟩ := ho.ro
  subst hle
  have HRA := Lib.hid hlr
  have HBA := Lib.hid (HB9.out.trans (hb.mono HB9.out.size))
  have HMA := Lib.hid (HM9.out.later hb)
  have HKNA : Hid (KnS Wa fb9 m8 kn) := HKN9.out.of HMA.out
  have HPL := Lib.hid (plL_cellsU l 16)
  have HND : Hid ((cellsU l 16).Nodup) := nodup_rowsC l 16 16
  have HBX := Lib.hid (box_cells l 16)
  clear ho hlr hb HCE HM9 HKN9 HB9
  generalize cellsU l 16 = L0 at *
  go_wp2_with fail
  go_loopg [22, 96] 4 (fun mm v22 cnt wr => ∃ (j : Nat) (L : List (Int × Int)) (b : Option Addr) (cb : Nat), mm = 4 - j ∧ j ≤ 4 ∧ cnt = .int .i64 (j : Int) ∧ v22 = .slice b L.length cb ∧ Ro wr b L ∧ L.Nodup ∧ Box10 L j 16 ∧ plL L = gens j (plU l 16) ∧ Below Wa.heap.size Wa wr)
  case atStart => exact ⟨0, L0, la, lcap, rfl, Nat.zero_le _, rfl, rfl, HRA.out, HND.out, HBX.out, HPL.out, Below.refl _ _⟩
  case round =>
    obtain ⟨j, L, b, cb, hm, hj, rfl, rfl, hro, hnd, hbx, hpl, hb⟩ := hrel
    have HMM := Lib.hid hm
    have HRO := Lib.hid hro
    have HNDL := Lib.hid hnd
    have HBXL := Lib.hid hbx
    have HPLL := Lib.hid hpl
    have HBL := Lib.hid hb
    have hlen : L.length ≤ 1000 := hbx.len hnd (by omega) (by omega)
    clear hm hro hnd hbx hpl hb
    by_cases hlt : j < 4
    · have hgj : decide ((j : Int) < 4) = true := by simp; omega
      go_wp2_with fail
      refine (next_ref L b cb _ HRO.out (by omega) (HBXL.out.mid (by omega) (by omega))).mono ?_
      rintro e w5 ⟨v, L5, rfl, ho, hn5, hp5, _, hb5⟩
      obtain ⟨b5, cb5, hle, hlr, _⟩ := ho.ro
      subst hle
      have HR5 := Lib.hid hlr
      have HN5 := Lib.hid hn5
      have HX5 := Lib.hid (HBXL.out.next hp5)
      have HP5 : Hid (plL L5 = gens (j + 1) (plU l 16)) := by
        show _ = _
        rw [plL_next HNDL.out hp5, HPLL.out, gens_add j 1]; rfl
      have HB5 := Lib.hid (HBL.out.trans (hb5.mono HBL.out.size))
      clear ho hlr hn5 hp5 hb5 HBL HRO
      go_wp2_with fail
      go_roundg (4 - (j + 1))
      case measure => rw [HMM.out]; omega
      case rel => exact ⟨j + 1, L5, b5, cb5, rfl, by omega, by go_num, rfl, HR5.out, HN5.out, HX5.out, HP5.out, HB5.out⟩
    · obtain rfl : j = 4 := by omega
      have hgj : decide (((4 : Nat) : Int) < 4) = false := by simp
      have HMr := Lib.hid (HMA.out.later HBL.out)
      have HKNr : Hid (KnS wr fb9 m8 kn) := HKNA.out.of HMr.out
      have HBr := Lib.hid (HBA.out.trans (HBL.out.mono HBA.out.size))
      have HCZ : Hid (Con N8 3 z (shF (plL L) ((4 : Nat) : Int) ((4 : Nat) : Int))) := by
        have := HZ8.out.out _ HCX8.out
        rw [HPLL.out]
        exact this
      obtain ⟨csr, hsr⟩ := HMr.out.st
      obtain ⟨svr, clr, htr, _⟩ := HMr.out.blk
      have hzu := Sq.u32 hsr HCZ.out.1
      have HC1 := Lib.hid (fun z : Up wr => Up.callsE (fun W hW => len_any (hsr.later hW)) z)
      have HC2 := Lib.hid (fun z : Up wr => Up.callsE (fun W hW => known_blk (kept htr hW) (HKNr.out.of (HMr.out.later hW))) z)
      have HC3 := Lib.hid (fun z' : Up wr => Up.callsE (fun W hW => level_any (hsr.later hW) z hzu) z')
      rw [show lvZ N8 z = ((3 : Nat) : Int) from HCZ.out.1] at HC3
      have HC4 := Lib.hid (fun z' : Up wr => Up.calls (fun W hW => same10_any (hsr.later hW) (n := 3) (by omega) 4 8 (by omega) rfl L b cb (HRO.out.later hW) HNDL.out hlen HCZ.out) z')
      rw [show ((4 : Nat) : Int) = 4 from rfl, show ((8 : Nat) : Int) = 8 from rfl] at HC4
      have hkg : decide ((0 : Int) < (kn : Int)) = true := by simp; omega
      have hkg' : decide (0 < kn) = true := by simp; omega
      clear hsr hzu htr
      go_upto_region 19 with fail
      have hme := Up.me wr
      refine region_up rfl (by kernel_rfl) ?_
      repeat' (go_big_quiet_step ((first | (go_at_call 11; with_reducible exact HC1.out _) | (go_at_call 12; with_reducible exact HC2.out _) | (go_at_call 15; with_reducible exact HC3.out _) | (go_at_call 16; with_reducible exact HC4.out _) | fail)))
      refine wpQuiet_nil ?_
      rintro w2 ⟨⟨W2, hW2⟩, rfl⟩
      go_wp2_with fail
      go_ret
      exact ⟨rfl, HBr.out.trans (hW2.mono HBr.out.size)⟩
end Go.Proofs.Ytaapkngpnlnjeaa
