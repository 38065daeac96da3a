/- The law EvolveTwice: its walk. -/
import Derived.Test.YtaapkngpnlnjeaaKn10
import Derived.Test.YtaapkngpnlnjeaaP12
namespace Go.Proofs.Ytaapkngpnlnjeaa
open Go.RowKit Go.Maps
set_option maxRecDepth 100000

/-- An argument's row, beside a store that lies above it. -/
theorem rowS_arg {w0 w : World} {D sb g tb : Nat} {a : Option Addr} {l : List Nat} (h : RowU w0 a l) (hD : 0 < l.length → ∀ b off, a = some ⟨b, off, none⟩ → b < D) (hb : Below D w0 w) (hs : D ≤ w.heap.size) (h1 : D ≤ sb) (h2 : D ≤ g) (h3 : D ≤ tb) : RowS w sb g tb a l :=
  ⟨h.later hD hb, fun hl b off e => by have := hD hl b off e; omega⟩
/-- Two generations, and two, are four: the squares in the middle. -/
theorem twice_mid {N : List Nd} (hw : Wf N) {x four two both : Nat} {F : Plane} (hx : Con N 4 x F) (h4 : Sc N 2 x 2 four) (h2 : Sc N 2 x 1 two) (hb : Sc N 1 two 1 both) : kidZ N both = midK N (kidZ N four) := by
  have c4 := h4.out F hx
  have c2 := h2.out F hx
  have cb := hb.out _ c2
  rw [gens_sh, shF_shF, ← gens_add] at cb
  have hF : Four N 2 (kidZ N four) (gens (2 ^ 2) F) (2 ^ 2) (2 ^ 2) := fun r b => by
    have := con_q hw c4 r b
    rw [shF_shF] at this
    exact this
  refine pick_ext fun r b => ?_
  have k1 := con_q hw cb r b
  rw [shF_shF] at k1
  have k2 := con_mid hw hF r b
  exact Con.inj hw k1 k2
theorem twice_at {N : List Nd} {four both : Nat} (h : kidZ N both = midK N (kidZ N four)) {i : Nat} (hi : i < 4) : kAt (kidZ N (kAt (kidZ N four) i)) (3 - i) = kAt (kidZ N both) i := by
  rw [h]; unfold midK; rw [kAt_mk4 _ hi]; rfl
theorem St.heap {w w' : World} {sb g tb cap most : Nat} {N : List Nd} (h : St w sb g tb cap most N) (e : w'.heap = w.heap) : St w' sb g tb cap most N := h.keep (by rw [e]) (by rw [e]) (by rw [e])
set_option maxHeartbeats 8000000 in
theorem etwice_any (l : List Nat) (hl : l.length ≤ 4) (hz : ∀ z ∈ l, z < 18446744073709551616) (a : Option Addr) (cap : Nat) (w : World) (h : RowU w a l) (hD : 0 < l.length → ∀ b off, a = some ⟨b, off, none⟩ → b < w.heap.size) :
    Calls Try.prog 4 #[.slice a l.length cap] w fun e w' => e = .returned (.bool true) ∧ Below w.heap.size w w' := by
  have HR := Lib.hid h
  have HD := Lib.hid hD
  have gl : decide ((4 : Int) < (l.length : Int)) = false := by simp; omega
  have gl' : decide (4 < l.length) = false := by simp; omega
  have HLL := Lib.hid hl
  clear h hD hl
  go_enter Try.func4, Try.ntmps4
  go_wp2_with fail
  refine (lives10_any _).mono ?_
  rintro e W1 ⟨rfl, hb⟩
  have HB1 := Lib.hid hb
  clear hb
  go_wp2_with fail
  refine (new_good 50000 (by omega) (by omega) _).mono ?_
  rintro e W2 ⟨sb, g, tb, rfl, hS, hB, l1, l2, l3⟩
  have HS2 := Lib.hid hS
  have HB2 := Lib.hid (HB1.out.trans (hB.mono HB1.out.size))
  have HL : Hid (w.heap.size ≤ sb ∧ w.heap.size ≤ g ∧ w.heap.size ≤ tb) := by have := HB1.out.size; exact ⟨by omega, by omega, by omega⟩
  clear hS hB l1 l2 l3 HB1 gl gl'
  go_wp2_with fail
  refine (enew_any HS2.out).mono ?_
  rintro e W3 ⟨mb, rfl, hmb, hme, hB3⟩
  have HM3 := Lib.hid hme
  have HB3 := Lib.hid (HB2.out.trans (hB3.mono HB2.out.size))
  have HAB : Hid (Abv w.heap.size sb g tb mb FbT.no) := by
    obtain ⟨a1, a2, a3⟩ := HL.out
    have := HB2.out.size
    exact ⟨by omega, by omega, by omega, by omega, fun b e => absurd e no_bl⟩
  have HRW : Hid (RowS W3 sb g tb a l) := rowS_arg HR.out HD.out HB3.out HB3.out.size HAB.out.sb_ HAB.out.g_ HAB.out.tb_
  clear hmb hme hB3 HB2 HS2 HL
  go_wp2_with fail
  refine (bld10 HM3.out 4 (by omega) l HLL.out hz a cap HRW.out).mono ?_
  rintro e W5 ⟨g5, N5, hmx, hres⟩
  have HL5 : Hid (N5.length ≤ 87) := Nat.le_trans hmx.len (by decide)
  obtain ⟨x, rfl, hcq⟩ := bld_out hres (by have := HL5.out; omega)
  have HC := Lib.hid hcq
  have HB5 := Lib.hid (HAB.out.below HB3.out HB3.out.size hmx)
  have HAB5 := Lib.hid (HAB.out.mx HB3.out.size hmx)
  have HM5 := Lib.hid hmx.me
  clear hres hcq hmx HM3 HRW HB3 HAB
  have HN5 := Lib.hid (enext_any HM5.out (n := 2) (p := 2) HC.out.1 (Nat.le_refl _))
  go_wp2_with fail
  refine HN5.out.mono ?_
  rintro e W6 ⟨g6, N6, fb6, m6, hmx, hres⟩
  have HL6 : Hid (N6.length ≤ 452) := Nat.le_trans hmx.len (by have := HL5.out; have : cE 2 = 365 := rfl; omega)
  obtain ⟨four, rfl, hy, _⟩ := res_good hres (by have := HL6.out; omega)
  have HC6 := Lib.hid (HC.out.mx HM5.out.wf hmx)
  have HF6 := Lib.hid hy
  have HB6 := Lib.hid (HAB5.out.below HB5.out HB5.out.size hmx)
  have HAB6 := Lib.hid (HAB5.out.mx HB5.out.size hmx)
  have HM6 := Lib.hid hmx.me
  clear hres hy hmx HN5 HM5 HB5 HAB5 HL5
  have HN6 := Lib.hid (enext_any HM6.out (n := 2) (p := 1) HC6.out.1 (by omega))
  go_wp2_with fail
  refine HN6.out.mono ?_
  rintro e W7 ⟨g7, N7, fb7, m7, hmx, hres⟩
  have HL7 : Hid (N7.length ≤ 817) := Nat.le_trans hmx.len (by have := HL6.out; have : cE 2 = 365 := rfl; omega)
  obtain ⟨two, rfl, hy, _⟩ := res_good hres (by have := HL7.out; omega)
  have HC7 := Lib.hid (HC6.out.mx HM6.out.wf hmx)
  have HF7 := Lib.hid (HF6.out.mx HM6.out.wf hmx)
  have HT7 := Lib.hid hy
  have HB7 := Lib.hid (HAB6.out.below HB6.out HB6.out.size hmx)
  have HAB7 := Lib.hid (HAB6.out.mx HB6.out.size hmx)
  have HM7 := Lib.hid hmx.me
  clear hres hy hmx HN6 HM6 HB6 HAB6 HL6 HF6 HC6
  have HN7 := Lib.hid (enext_any HM7.out (n := 1) (p := 1) HT7.out.zq (Nat.le_refl _))
  go_wp2_with fail
  refine HN7.out.mono ?_
  rintro e W8 ⟨g8, N8, fb8, m8, hmx, hres⟩
  have HL8 : Hid (N8.length ≤ 844) := Nat.le_trans hmx.len (by have := HL7.out; have : cE 1 = 27 := rfl; omega)
  obtain ⟨both, rfl, hy, _⟩ := res_good hres (by have := HL8.out; omega)
  have HC8 := Lib.hid (HC7.out.mx HM7.out.wf hmx)
  have HF8 := Lib.hid (HF7.out.mx HM7.out.wf hmx)
  have HT8 := Lib.hid (HT7.out.mx HM7.out.wf hmx)
  have HBO := Lib.hid hy
  have HB8 := Lib.hid (HAB7.out.below HB7.out HB7.out.size hmx)
  have HAB8 := Lib.hid (HAB7.out.mx HB7.out.size hmx)
  have HM8 := Lib.hid hmx.me
  clear hres hy hmx HN7 HM7 HB7 HAB7 HL7 HF7 HC7 HT7
  have HEQ := Lib.hid (fun i hi => twice_at (i := i) (twice_mid HM8.out.wf HC8.out HF8.out HT8.out HBO.out) hi)
  have HKF := Lib.hid (fo_iff.1 (HF8.out.zq.kid HM8.out.wf))
  obtain ⟨cs8, hs8⟩ := HM8.out.st
  have HS8 := Lib.hid hs8
  clear hs8 HT8
  go_wp2_with fail
  refine (of_sqk HS8.out HF8.out.zq).mono ?_
  rintro e W9 ⟨rfl, hb⟩
  generalize hk4 : kidZ N8 four = k4 at *
  have HK4 := Lib.hid hk4
  have hb1 := hb.trans ((bel1 W9 (.cells #[.int .u32 (k4.1 : Int), .int .u32 (k4.2.1 : Int), .int .u32 (k4.2.2.1 : Int), .int .u32 (k4.2.2.2 : Int)] 46)).mono hb.size)
  have HB9 := Lib.hid (HB8.out.trans (hb1.mono HB8.out.size))
  have HM9 := Lib.hid (HM8.out.later hb1)
  have HO9 : Hid (Oe (W9.alloc (.cells #[.int .u32 (k4.1 : Int), .int .u32 (k4.2.1 : Int), .int .u32 (k4.2.2.1 : Int), .int .u32 (k4.2.2.2 : Int)] 46)) sb g8 tb mb fb8 W9.heap.size (kO k4)) := Oe.new (HM8.out.later hb) _ _
  clear hb hb1 hk4 HB8 HM8 HS8
  go_wp2_with fail
  generalize W9.alloc (.cells #[.int .u32 (k4.1 : Int), .int .u32 (k4.2.1 : Int), .int .u32 (k4.2.2.1 : Int), .int .u32 (k4.2.2.2 : Int)] 46) = Wa at *
  generalize W9.heap.size = kb at *
  go_loopg [16, 17, 18, 19, 20, 82] 4 (fun mm v16 v17 v18 v19 v20 cnt wr => ∃ (j : Nat), mm = 4 - j ∧ j ≤ 4 ∧ cnt = .int .i64 (j : Int) ∧ Below Wa.heap.size Wa wr)
  case atStart => exact ⟨0, rfl, Nat.zero_le _, rfl, Below.refl _ _⟩
  case round =>
    obtain ⟨j, hm, hj, rfl, hb⟩ := hrel
    have HMM := Lib.hid hm
    have HBW := Lib.hid hb
    have HMr := Lib.hid (HM9.out.later hb)
    have HOr := Lib.hid (HO9.out.later hb)
    clear hm hb
    by_cases hlt : j < 4
    · have hgj : decide ((j : Int) < 4) = true := by simp; omega
      have HE := Lib.hid (HEQ.out j hlt)
      have HX := Lib.hid (HKF.out j hlt)
      obtain ⟨o0, o1⟩ := k_cell HOr.out.at_ hlt
      have i3 : (0 : Int) ≤ (j : Int) := by omega
      have i4 : (j : Int) < 4 := by omega
      obtain ⟨csr, hsr⟩ := HMr.out.st
      have HSr := Lib.hid hsr
      clear hsr
      go_wp2_with fail
      refine (of_sqk HSr.out HX.out).mono ?_
      rintro e w5 ⟨rfl, hb⟩
      generalize kidZ N8 (kAt k4 j) = k1 at *
      have hb5 := hb.trans ((bel1 w5 (.cells #[.int .u32 (k1.1 : Int), .int .u32 (k1.2.1 : Int), .int .u32 (k1.2.2.1 : Int), .int .u32 (k1.2.2.2 : Int)] 46)).mono hb.size)
      have HB5 := Lib.hid (HBW.out.trans (hb5.mono HBW.out.size))
      have HS5 := Lib.hid (HSr.out.later hb5)
      have HK5 : Hid ((w5.alloc (.cells #[.int .u32 (k1.1 : Int), .int .u32 (k1.2.1 : Int), .int .u32 (k1.2.2.1 : Int), .int .u32 (k1.2.2.2 : Int)] 46)).heap[w5.heap.size]? = some (kO k1)) := heap_alloc_new w5 _
      clear hb hb5 HBW HSr o0 o1
      go_wp2_with fail
      generalize w5.alloc (.cells #[.int .u32 (k1.1 : Int), .int .u32 (k1.2.1 : Int), .int .u32 (k1.2.2.1 : Int), .int .u32 (k1.2.2.2 : Int)] 46) = w6 at *
      generalize w5.heap.size = b5 at *
      refine (of_sqk HS5.out HBO.out.zq).mono ?_
      rintro e w7 ⟨rfl, hb⟩
      generalize kidZ N8 both = k2 at *
      have hb7 := hb.trans ((bel1 w7 (.cells #[.int .u32 (k2.1 : Int), .int .u32 (k2.2.1 : Int), .int .u32 (k2.2.2.1 : Int), .int .u32 (k2.2.2.2 : Int)] 46)).mono hb.size)
      have HB7 := Lib.hid (HB5.out.trans (hb7.mono HB5.out.size))
      have HK7 := Lib.hid (kept HK5.out hb7)
      have HL7 : Hid ((w7.alloc (.cells #[.int .u32 (k2.1 : Int), .int .u32 (k2.2.1 : Int), .int .u32 (k2.2.2.1 : Int), .int .u32 (k2.2.2.2 : Int)] 46)).heap[w7.heap.size]? = some (kO k2)) := heap_alloc_new w7 _
      clear hb hb7 HB5 HS5 HK5
      have i1 : (3 - (j : Int)) = ((3 - j : Nat) : Int) := by omega
      have w1 : IntKind.i64.wrap (3 - (j : Int)) = ((3 - j : Nat) : Int) := by rw [i1]; exact IntWalk.i64_in _ (by omega)
      go_upto_region 17 with fail
      generalize w7.alloc (.cells #[.int .u32 (k2.1 : Int), .int .u32 (k2.2.1 : Int), .int .u32 (k2.2.2.1 : Int), .int .u32 (k2.2.2.2 : Int)] 46) = w8 at *
      generalize w7.heap.size = b7 at *
      obtain ⟨p0, p1⟩ := k_cell HK7.out (show 3 - j < 4 by omega)
      obtain ⟨q0, q1⟩ := k_cell HL7.out hlt
      have hne : ((kAt k1 (3 - j) : Int) != (kAt k2 j : Int)) = false := by rw [HE.out]; simp
      have i5 : ((3 - j : Nat) : Int) < 4 := by omega
      have i6 : (0 : Int) ≤ ((3 - j : Nat) : Int) := by omega
      generalize 3 - j = jj at *
      go_quiet (fail)
      go_wp2_with fail
      go_roundg (4 - (j + 1))
      case measure => rw [HMM.out]; omega
      case rel => exact ⟨j + 1, rfl, by omega, by go_num, below_drewN HB7.out _⟩
    · obtain rfl : j = 4 := by omega
      have hgj : decide (((4 : Nat) : Int) < 4) = false := by simp
      have HBr := Lib.hid (HB9.out.trans (HBW.out.mono HB9.out.size))
      obtain ⟨csr, hsr⟩ := HMr.out.st
      have HSr := Lib.hid hsr
      clear hsr HOr HO9 HBW
      go_wp2_with fail
      refine (enew_any HSr.out).mono ?_
      rintro e wb ⟨mb2, rfl, hmb2, hme2, hBb⟩
      have HMb := Lib.hid hme2
      have HBb := Lib.hid (HBr.out.trans (hBb.mono HBr.out.size))
      have HABb : Hid (Abv w.heap.size sb g8 tb mb2 FbT.no) := ⟨HAB8.out.sb_, HAB8.out.g_, HAB8.out.tb_, by have := HBr.out.size; omega, fun b e => absurd e no_bl⟩
      have HMo : Hid (∃ sv cl, wb.heap[mb]? = some (meO sb fb8.f sv cl)) := by
        obtain ⟨sv, cl, ht, _⟩ := HMr.out.blk
        exact ⟨sv, cl, kept ht hBb⟩
      have HNE : Hid (mb ≠ sb ∧ mb ≠ g8 ∧ mb ≠ tb ∧ mb ≠ mb2) := ⟨HMr.out.ap.1, HMr.out.ap.2.1, HMr.out.ap.2.2, by have := HMr.out.mlt; omega⟩
      have HNb := Lib.hid (enext_any hme2 (n := 2) (p := 2) HC8.out.1 (Nat.le_refl _))
      clear hmb2 hme2 hBb HBr HMr HSr
      go_wp2_with fail
      refine HNb.out.mono ?_
      rintro e wc ⟨gc, Nc, fbc, mc, hmx, hres⟩
      have HLc : Hid (Nc.length ≤ 1209) := Nat.le_trans hmx.len (by have := HL8.out; have : cE 2 = 365 := rfl; omega)
      obtain ⟨again, rfl, hy, _⟩ := res_good hres (by have := HLc.out; omega)
      have hfc := HF8.out.mx HMb.out.wf hmx
      obtain rfl : again = four := hy.uniq hmx.me.wf hfc
      have HBc := Lib.hid (HABb.out.below HBb.out HBb.out.size hmx)
      have HMc : Hid (∃ sv cl, wc.heap[mb]? = some (meO sb fb8.f sv cl)) := by
        obtain ⟨sv, cl, ht⟩ := HMo.out
        obtain ⟨n1, n2, n3, n4⟩ := HNE.out
        exact ⟨sv, cl, by rw [hmx.frm.block mb (Array.getElem?_eq_some_iff.1 ht).1 (by simp only [List.mem_cons, not_or]; exact ⟨n1, n2, n3, n4, no_bl⟩)]; exact ht⟩
      obtain ⟨svc, clc, hth⟩ := HMc.out
      have HFG := Lib.hid (forget_blk hth)
      clear hres hy hmx HNb hth hfc
      go_wp2_with fail
      refine HFG.out.mono ?_
      rintro e wd ⟨rfl, hwd, hd⟩
      have HBd : Hid (Below w.heap.size w wd) := by
        show Below w.heap.size w wd
        exact HBc.out.trans (hwd.below (fun b hb => by rw [List.mem_singleton] at hb; rw [hb]; exact HAB8.out.mb_) HBc.out.size)
      have HKN := Lib.hid (known_blk (fb := FbT.no) hd (m := fun _ => none) (Or.inl ⟨rfl, rfl, fun _ => rfl⟩))
      clear hwd hd HFG
      go_wp2_with fail
      refine HKN.out.mono ?_
      rintro e we ⟨rfl, rfl⟩
      go_wp2_with fail
      go_ret
      exact ⟨rfl, HBd.out⟩
/-- Too many: the law says what lives says. -/
theorem etwice_many (n : Nat) (hl : 4 < n) (a : Option Addr) (cap : Nat) (w : World) : Calls Try.prog 4 #[.slice a n cap] w fun e w' => e = .returned (.bool true) ∧ Below w.heap.size w w' := by
  have gl : decide ((4 : Int) < (n : Int)) = true := by simp; omega
  have gl' : decide (4 < n) = true := by simp; omega
  go_enter Try.func4, Try.ntmps4
  go_wp2_with fail
  refine (lives10_any _).mono ?_
  rintro e W1 ⟨rfl, hb⟩
  have HB1 := Lib.hid hb
  clear hb
  go_wp2_with fail
  refine (lives10_any _).mono ?_
  rintro e W2 ⟨rfl, hb⟩
  have HB2 := Lib.hid (HB1.out.trans (hb.mono HB1.out.size))
  clear hb
  go_wp2_with fail
  go_ret
  exact ⟨rfl, HB2.out⟩
/-- A row of uint64 that came in. -/
theorem rowU_of {w : World} {a : Option Addr} {zs : List Int} (h : Row .u64 w w.heap.size a zs) (wz : ∀ z ∈ zs, (Lit.int .u64 z).wf = true) :
    RowU w a (zs.map Int.toNat) ∧ (0 < (zs.map Int.toNat).length → ∀ b off, a = some ⟨b, off, none⟩ → b < w.heap.size) ∧ ∀ z ∈ zs.map Int.toNat, z < 18446744073709551616 := by
  refine ⟨fun j c hj => ?_, fun hl b off e => ?_, fun z hz => ?_⟩
  · rw [List.getElem?_map] at hj
    obtain ⟨z, hz, rfl⟩ := Option.map_eq_some_iff.1 hj
    obtain ⟨b, off, e, _, hc⟩ := h j z hz
    obtain ⟨b0, b1⟩ := bounds_u64 (wz z (List.mem_of_getElem? hz))
    exact ⟨b, off, e, by rw [hc, show ((z.toNat : Nat) : Int) = z by omega]⟩
  · rw [List.length_map] at hl
    obtain ⟨b', off', e', hb, _⟩ := h 0 _ (List.getElem?_eq_getElem hl)
    rw [e] at e'
    cases e'
    exact hb
  · obtain ⟨y, hy, rfl⟩ := List.mem_map.1 hz
    obtain ⟨b0, b1⟩ := bounds_u64 (wz y hy)
    omega
theorem etwice_walk (zs : List Int) (wz : ∀ z ∈ zs, (Lit.int .u64 z).wf = true) (a : Option Addr) (n cap : Nat) (hn : zs.length = n) (_ : n ≤ maxLen) (w : World) (h : Row .u64 w w.heap.size a zs) :
    Calls Try.prog 4 #[.slice a n cap] w fun e w' => e = .returned (.bool true) ∧ Below w.heap.size w w' := by
  by_cases h4 : 4 < n
  · exact etwice_many n h4 a cap w
  · obtain ⟨h1, h2, h3⟩ := rowU_of h wz
    have := etwice_any (zs.map Int.toNat) (by rw [List.length_map]; omega) h3 a cap w h1 h2
    rw [List.length_map, hn] at this
    exact this
end Go.Proofs.Ytaapkngpnlnjeaa
