-- P11
import Derived.Test.YtaapkngpnlnjeaaGreatNz10
section
namespace Go.Proofs.YtaapkngpnlnjeaaGreat
open Go.RowKit Go.Maps
set_option maxRecDepth 100000

/-- A row of uint64. -/
def RowU (w : World) (a : Option Addr) (l : List Nat) : Prop := ∀ (j c : Nat), l[j]? = some c → ∃ b off, a = some ⟨b, off, none⟩ ∧ w.cell? ⟨b, off + j, none⟩ = some (.int .u64 (c : Int))
theorem RowU.later {w w' : World} {a : Option Addr} {l : List Nat} {D : Nat} (h : RowU w a l) (hD : 0 < l.length → ∀ b off, a = some ⟨b, off, none⟩ → b < D) (hb : Below D w w') : RowU w' a l := fun j c hj => by
  have hl : 0 < l.length := Nat.lt_of_le_of_lt (Nat.zero_le j) (List.getElem?_eq_some_iff.1 hj).1
  obtain ⟨b, off, e, hc⟩ := h j c hj
  exact ⟨b, off, e, by rw [hb.cell (show (⟨b, off + j, none⟩ : Addr).block < D from hD hl b off e)]; exact hc⟩
theorem and_u64 (a b : Nat) (ha : a < 18446744073709551616) (hb : b < 18446744073709551616) : bits .and .u64 (a : Int) (b : Int) = ((a &&& b : Nat) : Int) := by
  have t1 : (BitVec.ofInt 64 (a : Int)).toNat = a := by
    rw [BitVec.ofInt_natCast, BitVec.toNat_ofNat]; exact Nat.mod_eq_of_lt (by omega)
  have t2 : (BitVec.ofInt 64 (b : Int)).toNat = b := by
    rw [BitVec.ofInt_natCast, BitVec.toNat_ofNat]; exact Nat.mod_eq_of_lt (by omega)
  show IntKind.u64.wrap ((BitVec.ofInt 64 (a : Int) &&& BitVec.ofInt 64 (b : Int)).toNat : Nat) = _
  rw [BitVec.toNat_and, t1, t2]
  have : a &&& b ≤ a := Nat.and_le_left
  exact IntWalk.u64_in _ (by omega)
theorem bit_u64 (f k : Nat) (hf : f < 18446744073709551616) : (bits .and .u64 ((f : Int) / 2 ^ k) 1 == 1) = f.testBit k := by
  have e1 : (f : Int) / 2 ^ k = ((f / 2 ^ k : Nat) : Int) := by
    rw [show (2 : Int) ^ k = ((2 ^ k : Nat) : Int) by rw [Int.natCast_pow]; rfl]; norm_cast
  have hd : f / 2 ^ k ≤ f := Nat.div_le_self _ _
  rw [e1, show (1 : Int) = ((1 : Nat) : Int) from rfl, and_u64 _ _ (by omega) (by omega), Nat.and_one_is_mod, Nat.testBit_eq_decide_div_mod_eq]
  rw [Bool.eq_iff_iff]
  simp only [beq_iff_eq, decide_eq_true_eq]
  omega
/-- Is a cell alive? -/
def alvN (l : List Nat) (side x y : Nat) : Bool := (l.getD ((y / 8 * ((side + 7) / 8) + x / 8) % l.length) 0).testBit (8 * (y % 8) + x % 8)
set_option maxHeartbeats 1000000 in
theorem alive10_any (l : List Nat) (hl : 0 < l.length) (hl2 : l.length ≤ 4) (hz : ∀ z ∈ l, z < 18446744073709551616) (a : Option Addr) (cap : Nat) (w : World) (h : RowU w a l) (side x y : Nat) (hx : x < side) (hy : y < side) (hs : side ≤ 64) :
    Calls Tryz.prog 94 #[.slice a l.length cap, .int .i64 (x : Int), .int .i64 (y : Int), .int .i64 (side : Int)] w fun e w' => e = .returned (.bool (alvN l side x y)) ∧ w = w' := by
  obtain ⟨s8, hs8⟩ : ∃ s8 : Nat, s8 = (side + 7) / 8 := ⟨_, rfl⟩
  obtain ⟨P, hP⟩ : ∃ P : Nat, P = y / 8 * s8 := ⟨_, rfl⟩
  obtain ⟨I, hI⟩ : ∃ I : Nat, I = (P + x / 8) % l.length := ⟨_, rfl⟩
  obtain ⟨K, hK⟩ : ∃ K : Nat, K = 8 * (y % 8) + x % 8 := ⟨_, rfl⟩
  have hP2 : P ≤ 8 * 8 := by rw [hP]; exact Nat.mul_le_mul (by omega) (by omega)
  have hIl : I < l.length := by rw [hI]; exact Nat.mod_lt _ hl
  have hav : alvN l side x y = (l[I]'hIl).testBit K := by
    unfold alvN
    rw [← hs8, ← hP, ← hI, ← hK, List.getD_eq_getElem?_getD, List.getElem?_eq_getElem hIl]; rfl
  obtain ⟨b, off, rfl, hc⟩ := h I _ (List.getElem?_eq_getElem hIl)
  have hv := hz (l[I]'hIl) (List.getElem_mem hIl)
  rw [hav]
  have e1 : (((side : Int) + 7) / 8) = (s8 : Int) := by omega
  have e2 : (y : Int) / 8 * (s8 : Int) = (P : Int) := by
    rw [hP, Int.natCast_mul]
    rw [show (y : Int) / 8 = ((y / 8 : Nat) : Int) by omega]
  have e3 : ((P : Int) + (x : Int) / 8) % (l.length : Int) = (I : Int) := by
    rw [hI, Int.natCast_emod]
    rw [show ((P + x / 8 : Nat) : Int) = (P : Int) + (x : Int) / 8 by omega]
  have e4 : 8 * ((y : Int) % 8) + (x : Int) % 8 = (K : Int) := by omega
  have hbt := bit_u64 (l[I]'hIl) K hv
  have hK64 : K < 64 := by omega
  generalize l[I]'hIl = V at *
  have b1 : ((l.length : Int) == 0) = false := by rw [beq_eq_false_iff_ne]; omega
  have b2 : decide ((x : Int) < 0) = false := by simp
  have b3 : decide ((y : Int) < 0) = false := by simp
  have b4 : decide (side ≤ x) = false := by simp; omega
  have b5 : decide (side ≤ y) = false := by simp; omega
  have b6 : (0 : Int) ≤ (I : Int) := by omega
  have b7 : (I : Int) < (l.length : Int) := by omega
  have b8 : ¬ (l.length = 0) := by omega
  have b9 : (0 : Int) ≤ (K : Int) := by omega
  have HHS := Lib.hid hs8
  have HHP := Lib.hid hP
  have HHI := Lib.hid hI
  have HHK := Lib.hid hK
  have HAV := Lib.hid hav
  clear hs8 hP hI hK hav
  go_enter Tryz.func94, Tryz.ntmps94
  go_wp2_with fail
  go_ret
  exact ⟨rfl, rfl⟩
end Go.Proofs.YtaapkngpnlnjeaaGreat
end

section
namespace Go.Proofs.YtaapkngpnlnjeaaGreat
open Go.RowKit Go.Maps
set_option maxRecDepth 100000

theorem alive10_none (a : Option Addr) (cap : Nat) (w : World) (x y side : Int) : Calls Tryz.prog 94 #[.slice a 0 cap, .int .i64 x, .int .i64 y, .int .i64 side] w fun e w' => e = .returned (.bool false) ∧ w = w' := by
  go_enter Tryz.func94, Tryz.ntmps94
  go_wp2_with fail
  go_ret
  exact ⟨rfl, rfl⟩
def alv (l : List Nat) (side x y : Nat) : Bool := if l.length = 0 then false else alvN l side x y
theorem alive_all (l : List Nat) (hl2 : l.length ≤ 4) (hz : ∀ z ∈ l, z < 18446744073709551616) (a : Option Addr) (cap : Nat) (w : World) (h : RowU w a l) (side x y : Nat) (hx : x < side) (hy : y < side) (hs : side ≤ 64) :
    Calls Tryz.prog 94 #[.slice a l.length cap, .int .i64 (x : Int), .int .i64 (y : Int), .int .i64 (side : Int)] w fun e w' => e = .returned (.bool (alv l side x y)) ∧ w = w' := by
  unfold alv
  by_cases hl : l.length = 0
  · rw [if_pos hl, hl]; exact alive10_none a cap w _ _ _
  · rw [if_neg hl]; exact alive10_any l (by omega) hl2 hz a cap w h side x y hx hy hs
/-- The law's cells as a plane. -/
def plU (l : List Nat) (side : Nat) : Plane := fun X Y => if 0 ≤ X ∧ X < (side : Int) ∧ 0 ≤ Y ∧ Y < (side : Int) ∧ alv l side X.toNat Y.toNat = true then 1 else 0
theorem plU_at (l : List Nat) {side x y : Nat} (hx : x < side) (hy : y < side) : plU l side (x : Int) (y : Int) = if alv l side x y then 1 else 0 := by
  unfold plU
  have e1 : (x : Int).toNat = x := by omega
  have e2 : (y : Int).toNat = y := by omega
  rw [e1, e2]
  by_cases h : alv l side x y = true
  · rw [if_pos ⟨by omega, by omega, by omega, by omega, h⟩, if_pos h]
  · rw [if_neg (fun hh => h hh.2.2.2.2), if_neg h]
/-- A row beside a store. -/
def RowS (w : World) (sb g tb : Nat) (a : Option Addr) (l : List Nat) : Prop := RowU w a l ∧ (0 < l.length → ∀ b off, a = some ⟨b, off, none⟩ → b < w.heap.size ∧ b ≠ sb ∧ b ≠ g ∧ b ≠ tb)
theorem RowS.later {w w' : World} {sb g tb : Nat} {a : Option Addr} {l : List Nat} (h : RowS w sb g tb a l) (hb : Below w.heap.size w w') : RowS w' sb g tb a l :=
  ⟨h.1.later (fun hl b off e => (h.2 hl b off e).1) hb, fun hl b off e => by obtain ⟨h1, h2⟩ := h.2 hl b off e; exact ⟨Nat.lt_of_lt_of_le h1 hb.size, h2⟩⟩
theorem RowS.nx {w w' : World} {sb tb most g g' c : Nat} {N N' : List Nd} {a : Option Addr} {l : List Nat} (h : RowS w sb g tb a l) (hn : Nx sb tb most w g N c w' g' N') : RowS w' sb g' tb a l := by
  refine ⟨fun j c hj => ?_, fun hl b off e => ?_⟩
  · obtain ⟨b, off, e, hc⟩ := h.1 j c hj
    obtain ⟨h1, h2, h3, h4⟩ := h.2 (Nat.lt_of_le_of_lt (Nat.zero_le j) (List.getElem?_eq_some_iff.1 hj).1) b off e
    have hbl : w'.heap[b]? = w.heap[b]? := hn.frm.block b h1 (by simp; exact ⟨h2, h3, h4⟩)
    refine ⟨b, off, e, ?_⟩
    rw [← hc]
    simp only [World.cell?, hbl]
  · obtain ⟨h1, h2, h3, h4⟩ := h.2 hl b off e
    have := hn.frm.size
    refine ⟨by omega, h2, ?_, h4⟩
    rcases hn.gin with e | e <;> omega
theorem RowS.set {w : World} {sb g tb b i : Nat} {a : Option Addr} {l : List Nat} (h : RowS w sb g tb a l) (hb : 0 < l.length → ∀ b' off, a = some ⟨b', off, none⟩ → b' ≠ b) (v : Value) : RowS (w.setCell ⟨b, i, none⟩ v) sb g tb a l := by
  refine ⟨fun j c hj => ?_, fun hl b' off e => ?_⟩
  · obtain ⟨b', off, e, hc⟩ := h.1 j c hj
    refine ⟨b', off, e, ?_⟩
    rw [← hc]
    have : (w.setCell ⟨b, i, none⟩ v).heap[b']? = w.heap[b']? := Below.heap_setCell _ _ _ _ (hb (Nat.lt_of_le_of_lt (Nat.zero_le j) (List.getElem?_eq_some_iff.1 hj).1) b' off e)
    simp only [World.cell?, this]
  · obtain ⟨h1, h2⟩ := h.2 hl b' off e
    exact ⟨by simpa using h1, h2⟩
/-- How many squares are made. -/
def bC : Nat → Nat
  | 0 => 0
  | n + 1 => 4 * bC n + 1
def Bld (most : Nat) (e : Ending) (N' : List Nd) (n : Nat) (F : Plane) : Prop :=
  (∃ z : Nat, e = .returned (.tuple #[.int .u32 (z : Int), .nilIface]) ∧ Con N' n z F) ∨ (e = .returned (.tuple #[.int .u32 0, .iface 57 (.int .i64 7)]) ∧ most ≤ N'.length)
set_option maxHeartbeats 4000000 in
theorem part_any (sb tb most side : Nat) (hs : side ≤ 64) (l : List Nat) (hl2 : l.length ≤ 4) (hz : ∀ z ∈ l, z < 18446744073709551616) (a : Option Addr) (cap : Nat) : ∀ (n : Nat) {w : World} {g cs : Nat} {N : List Nd} (_ : St w sb g tb cs most N) (_ : RowS w sb g tb a l) (X Y : Nat) (_ : X + 2 ^ n ≤ side) (_ : Y + 2 ^ n ≤ side),
    Calls Tryz.prog 55 #[.pointer (some ⟨sb, 0, none⟩), .int .i64 (n : Int), .slice a l.length cap, .int .i64 (X : Int), .int .i64 (Y : Int), .int .i64 (side : Int)] w fun e w' => ∃ g' N', Nx sb tb most w g N (bC n) w' g' N' ∧ Bld most e N' n (shF (plU l side) (X : Int) (Y : Int)) := by
  intro n
  induction n with
  | zero =>
    intro w g cs N h hr X Y hX hY
    have HS := Lib.hid h
    have HA := Lib.hid (alive_all l hl2 hz a cap w hr.1 side X Y (by rw [Nat.pow_zero] at hX; omega) (by rw [Nat.pow_zero] at hY; omega) hs)
    have HV := Lib.hid (plU_at l (side := side) (x := X) (y := Y) (by rw [Nat.pow_zero] at hX; omega) (by rw [Nat.pow_zero] at hY; omega))
    clear h hr
    go_enter Tryz.func55, Tryz.ntmps55
    go_wp2_with fail
    refine HA.out.mono ?_
    rintro e w1 ⟨rfl, rfl⟩
    cases hv : alv l side X Y with
    | true =>
      rw [hv] at HV
      go_wp2_with fail
      go_ret2
      refine ⟨g, N, Nx.of_below HS.out (Below.refl _ _), Or.inl ⟨1, rfl, sq_alive HS.out.wf, fun a b ha hb => ?_⟩⟩
      have e0 : (2 : Int) ^ 0 = 1 := rfl
      rw [e0] at ha hb
      obtain rfl : a = 0 := by omega
      obtain rfl : b = 0 := by omega
      show 1 = plU l side (0 + (X : Int)) (0 + (Y : Int))
      rw [Int.zero_add, Int.zero_add, HV.out]; rfl
    | false =>
      rw [hv] at HV
      go_wp2_with fail
      go_ret2
      refine ⟨g, N, Nx.of_below HS.out (Below.refl _ _), Or.inl ⟨0, rfl, sq_dead HS.out.wf, fun a b ha hb => ?_⟩⟩
      have e0 : (2 : Int) ^ 0 = 1 := rfl
      rw [e0] at ha hb
      obtain rfl : a = 0 := by omega
      obtain rfl : b = 0 := by omega
      show 0 = plU l side (0 + (X : Int)) (0 + (Y : Int))
      rw [Int.zero_add, Int.zero_add, HV.out]; rfl
  | succ n ih =>
    intro w g cs N h hr X Y hX hY
    have hp2 : 2 ^ (n + 1) = 2 * 2 ^ n := by rw [Nat.pow_succ]; omega
    obtain ⟨H, hH⟩ : ∃ H : Nat, H = 2 ^ n := ⟨_, rfl⟩
    have hHi : (2 : Int) ^ n = (H : Int) := by rw [hH]; exact (pow_nat n).symm
    have hHp : 0 < H := by rw [hH]; exact Nat.pow_pos (by decide)
    rw [hp2, ← hH] at hX hY
    have HIH : Hid (∀ (w : World) (g cs : Nat) (N : List Nd), St w sb g tb cs most N → RowS w sb g tb a l → ∀ (X Y : Nat), X + H ≤ side → Y + H ≤ side → Calls Tryz.prog 55 #[.pointer (some ⟨sb, 0, none⟩), .int .i64 (n : Int), .slice a l.length cap, .int .i64 (X : Int), .int .i64 (Y : Int), .int .i64 (side : Int)] w fun e w' => ∃ g' N', Nx sb tb most w g N (bC n) w' g' N' ∧ Bld most e N' n (shF (plU l side) (X : Int) (Y : Int))) :=
      fun w g cs N h hr X Y hX hY => ih h hr X Y (by rw [← hH]; exact hX) (by rw [← hH]; exact hY)
    have HHI := Lib.hid hHi
    have HS := Lib.hid h
    have HR := Lib.hid hr
    have HB := Lib.hid (bel1 w (.cells #[.int .u32 0, .int .u32 0, .int .u32 0, .int .u32 0] 105))
    have HO := Lib.hid (Ob.new h #[.int .u32 0, .int .u32 0, .int .u32 0, .int .u32 0] 105)
    have hn62 : n < 62 := by
      have : 2 ^ n ≤ 2 ^ 6 := by rw [← hH]; show H ≤ 64; omega
      have := (Nat.pow_le_pow_iff_right (a := 2) (by decide)).1 this
      omega
    have g0 : ((n : Int) + 1 == 0) = false := by rw [beq_eq_false_iff_ne]; omega
    have g1 : wrap64 (2 ^ n) = (H : Int) := by rw [hHi]; exact IntWalk.wrap64_in _ (by omega)
    clear h hr ih hp2 hHi
    go_enter Tryz.func55, Tryz.ntmps55
    go_wp2_with fail
    generalize w.alloc (.cells #[.int .u32 0, .int .u32 0, .int .u32 0, .int .u32 0] 105) = W0 at *
    rw [g1]
    clear g0 g1
    have HH := Lib.hid hH
    clear hH
    go_loopg [16, 17, 18, 29] 4 (fun mm v16 v17 v18 cnt wr => ∃ (j gg : Nat) (M : List Nd) (q : Nat → Nat), mm = 4 - j ∧ j ≤ 4 ∧ cnt = .int .i64 (j : Int) ∧ Nx sb tb most w g N (j * bC n) wr gg M ∧ Ob wr sb gg tb w.heap.size (kO (mk4 q)) ∧ RowS wr sb gg tb a l ∧ (∀ i, i < j → Con M n (q i) (shF (plU l side) (((X + H * (i % 2) : Nat)) : Int) (((Y + H * (i / 2) : Nat)) : Int))))
    case atStart => exact ⟨0, g, N, fun _ => 0, rfl, Nat.zero_le _, rfl, (Nx.of_below HS.out HB.out).mono (Nat.zero_le _), HO.out, HR.out.later HB.out, fun i hi => by omega⟩
    case round =>
      clear HO HB
      obtain ⟨j, gg, M, q, hm, hj, rfl, hN, hO, hR, hq⟩ := hrel
      have HM := Lib.hid hm
      have HN := Lib.hid hN
      have HO := Lib.hid hO
      have HR1 := Lib.hid hR
      have HQ := Lib.hid hq
      clear hm hN hO hR hq
      obtain ⟨cap1, hS1⟩ := HN.out.st
      have HS1 := Lib.hid hS1
      clear hS1
      by_cases hlt : j < 4
      · have hgj : decide ((j : Int) < 4) = true := by simp; omega
        obtain ⟨r, hr⟩ : ∃ r : Nat, r = j % 2 := ⟨_, rfl⟩
        obtain ⟨d, hd⟩ : ∃ d : Nat, d = j / 2 := ⟨_, rfl⟩
        obtain ⟨HRr, hHR⟩ : ∃ k : Nat, k = H * r := ⟨_, rfl⟩
        obtain ⟨HRd, hHD⟩ : ∃ k : Nat, k = H * d := ⟨_, rfl⟩
        have hr1 : r ≤ 1 := by omega
        have hd1 : d ≤ 1 := by omega
        have hb1 : HRr ≤ H := by rw [hHR]; exact Nat.le_trans (Nat.mul_le_mul_left H hr1) (by omega)
        have hb2 : HRd ≤ H := by rw [hHD]; exact Nat.le_trans (Nat.mul_le_mul_left H hd1) (by omega)
        have e1 : (j : Int) % 2 = (r : Int) := by omega
        have e2 : (j : Int) / 2 = (d : Int) := by omega
        have e3 : (H : Int) * (r : Int) = (HRr : Int) := by rw [hHR, Int.natCast_mul]
        have e4 : (H : Int) * (d : Int) = (HRd : Int) := by rw [hHD, Int.natCast_mul]
        have HCL := Lib.hid (HIH.out _ _ _ _ HS1.out HR1.out (X + HRr) (Y + HRd) (by omega) (by omega))
        rw [show ((X + HRr : Nat) : Int) = (X : Int) + (HRr : Int) by omega, show ((Y + HRd : Nat) : Int) = (Y : Int) + (HRd : Int) by omega] at HCL
        have HE : Hid (X + HRr = X + H * (j % 2) ∧ Y + HRd = Y + H * (j / 2)) := ⟨by rw [hHR, hr], by rw [hHD, hd]⟩
        clear hr hd hHR hHD
        go_upto_region 11 with (first | (go_at_call 55; refine HCL.out.mono ?_; rintro e w6 ⟨g6, M6, hnx, hres⟩; obtain ⟨z, ev, rfl, hres2⟩ := two10 hres))
        have HN6 := Lib.hid (HN.out.trans hnx)
        have HO6 := Lib.hid (HO.out.nx hnx)
        have HR6 := Lib.hid (HR1.out.nx hnx)
        have HX6 : Hid (∃ E, M6 = M ++ E) := by
          obtain ⟨E, hE, _⟩ := hnx.ext
          exact ⟨E, hE⟩
        have HW := Lib.hid HN.out.wf
        clear hnx hres HCL HN HO HR1 e1 e2 e3 e4
        obtain ⟨t3, t4⟩ := k_cell HO6.out.at_ hlt
        have i3 : (0 : Int) ≤ (j : Int) := by omega
        have i4 : (j : Int) < 4 := by omega
        rcases hres2 with ⟨rfl, hz⟩ | ⟨rfl, rfl, hfull⟩
        · have HZ := Lib.hid hz
          clear hz
          go_wp2_with fail
          go_roundg (4 - (j + 1))
          case measure => rw [HM.out]; omega
          case rel =>
            refine ⟨j + 1, g6, M6, fun i => if i = j then z else q i, rfl, by omega, by go_num, ((HN6.out.mono (by rw [Nat.add_mul]; omega)).set HO6.out (Nat.le_refl _) _), ?_, ?_, fun i hi => ?_⟩
            · have := HO6.out.set hlt z
              rw [show (mk4 fun i => if i = j then z else kAt (mk4 q) i) = mk4 (fun i => if i = j then z else q i) from mk4_ext fun i hi => by show (if i = j then z else kAt (mk4 q) i) = _; rw [kAt_mk4 _ hi]] at this
              exact this
            · exact HR6.out.set (fun hl b' off e => by have := (HR.out.2 hl b' off e).1; omega) _
            · by_cases e : i = j
              · subst e
                simp only [if_true]
                have := HZ.out
                rw [← HE.out.1, ← HE.out.2]
                rw [show ((X + HRr : Nat) : Int) = (X : Int) + (HRr : Int) by omega, show ((Y + HRd : Nat) : Int) = (Y : Int) + (HRd : Int) by omega]
                exact this
              · simp only [if_neg e]
                obtain ⟨F, rfl⟩ := HX6.out
                exact (HQ.out i (by omega)).app HW.out F
        · have HF := Lib.hid hfull
          clear hfull
          go_wp2_with fail
          go_ret2
          refine ⟨g6, M6, HN6.out.mono ?_, Or.inr ⟨rfl, HF.out⟩⟩
          show j * bC n + bC n ≤ 4 * bC n + 1
          have := Nat.mul_le_mul_right (bC n) (show j + 1 ≤ 4 by omega)
          rw [Nat.add_mul, Nat.one_mul] at this
          omega
      · obtain rfl : j = 4 := by omega
        have hgj : decide (((4 : Nat) : Int) < 4) = false := by simp
        obtain ⟨c0, c1, c2, c3⟩ := k_cells HO.out.at_
        have HFO : Hid (Fo M n (mk4 q)) := by
          refine fo_iff.2 fun i hi => ?_
          rw [kAt_mk4 _ hi]
          exact (HQ.out i hi).1
        have HMK := Lib.hid (make_sq HS1.out hn62 HFO.out)
        have HW := Lib.hid HN.out.wf
        go_wp2_with fail
        refine HMK.out.mono ?_
        rintro e w6 ⟨g6, M6, hnx, hres⟩
        obtain ⟨r, ev, rfl, hres2⟩ := two_out9 hres
        clear hres
        have HN6 := Lib.hid ((HN.out.trans hnx).mono (show 4 * bC n + 1 ≤ bC (n + 1) by show _ ≤ 4 * bC n + 1; omega))
        have HX6 : Hid (∃ E, M6 = M ++ E) := by
          obtain ⟨E, hE, _⟩ := hnx.ext
          exact ⟨E, hE⟩
        clear hnx HMK
        rcases hres2 with ⟨rfl, hsq, hkd, _⟩ | ⟨rfl, rfl, hfull⟩
        · have HRR := Lib.hid (And.intro hsq hkd)
          clear hsq hkd
          go_wp2_with fail
          go_ret2
          refine ⟨g6, M6, HN6.out, Or.inl ⟨r, rfl, con_make2 HRR.out.1 HRR.out.2 fun r' b => ?_⟩⟩
          obtain ⟨F, rfl⟩ := HX6.out
          have hh := (HQ.out (pl r' b) (pl_lt _ _)).app HW.out F
          rw [pick_kAt, kAt_mk4 _ (pl_lt _ _)]
          have ex : ((X + H * (pl r' b % 2) : Nat) : Int) = (X : Int) + off n r' := by
            have := HHI.out
            cases r' <;> cases b <;> simp [pl, off] <;> omega
          have ey : ((Y + H * (pl r' b / 2) : Nat) : Int) = (Y : Int) + off n b := by
            have := HHI.out
            cases r' <;> cases b <;> simp [pl, off] <;> omega
          rw [ex, ey] at hh
          exact hh
        · have HF := Lib.hid hfull
          clear hfull
          go_wp2_with fail
          go_ret2
          exact ⟨g6, M6, HN6.out, Or.inr ⟨rfl, HF.out⟩⟩
set_option maxHeartbeats 1000000 in
/-- build: a square of a level, of the law's cells. -/
theorem build_any {w : World} {sb g tb cs most : Nat} {N : List Nd} (h : St w sb g tb cs most N) (n : Nat) (hn : n ≤ 6) (l : List Nat) (hl2 : l.length ≤ 4) (hz : ∀ z ∈ l, z < 18446744073709551616) (a : Option Addr) (cap : Nat) (hr : RowS w sb g tb a l) :
    Calls Tryz.prog 22 #[.pointer (some ⟨sb, 0, none⟩), .int .i64 (n : Int), .slice a l.length cap] w fun e w' => ∃ g' N', Nx sb tb most w g N (bC n) w' g' N' ∧ Bld most e N' n (plU l (2 ^ n)) := by
  have h64 : 2 ^ n ≤ 64 := Nat.pow_le_pow_right (n := 2) (by decide) hn
  have HP := Lib.hid (part_any sb tb most (2 ^ n) h64 l hl2 hz a cap n h hr 0 0 (by omega) (by omega))
  have hw : wrap64 (2 ^ n) = ((2 ^ n : Nat) : Int) := by
    rw [← pow_nat]
    generalize 2 ^ n = H at h64
    exact IntWalk.wrap64_in _ (by omega)
  rw [show ((0 : Nat) : Int) = 0 from rfl, shF_zero] at HP
  have HW := Lib.hid hw
  clear h hr hw
  go_enter Tryz.func22, Tryz.ntmps22
  go_wp2_with fail
  rw [HW.out]
  refine HP.out.mono ?_
  rintro e w6 ⟨g6, M6, hnx, hres⟩
  have HNX := Lib.hid hnx
  clear hnx HP
  obtain ⟨r, ev, rfl, hres2⟩ := two10 hres
  have HRS := Lib.hid hres
  clear hres hres2
  go_wp2_with fail
  go_ret2
  exact ⟨g6, M6, HNX.out, HRS.out⟩
end Go.Proofs.YtaapkngpnlnjeaaGreat
end

section
namespace Go.Proofs.YtaapkngpnlnjeaaGreat
open Go.RowKit Go.Maps
set_option maxRecDepth 100000

/-- How many are alive, of a square whose cells are known. -/
theorem ct_con {N : List Nd} (hw : Wf N) {n x : Nat} {F : Plane} (h : Con N n x F) {L : List (Int × Int)} (hd : L.Nodup) (hL : ∀ X Y, (X, Y) ∈ L ↔ (0 ≤ X ∧ X < 2 ^ n) ∧ (0 ≤ Y ∧ Y < 2 ^ n) ∧ F X Y = 1) : ctZ N x = min L.length topN := by
  rw [ct_cells hw h.1]
  have hp : (cellsQ N n x).Perm L := by
    refine (List.perm_ext_iff_of_nodup (nodup_cells N n x) hd).2 fun p => ?_
    obtain ⟨X, Y⟩ := p
    rw [mem_cells, hL]
    constructor
    · rintro ⟨h1, h2, h3⟩
      exact ⟨h1, h2, by rw [← h.2 X Y h1 h2]; exact h3⟩
    · rintro ⟨h1, h2, h3⟩
      exact ⟨h1, h2, by rw [h.2 X Y h1 h2]; exact h3⟩
  rw [hp.length_eq]
/-- A memo's blocks lie above a bound. -/
structure Abv (D sb g tb mb : Nat) (fb : FbT) : Prop where
  sb_ : D ≤ sb
  g_ : D ≤ g
  tb_ : D ≤ tb
  mb_ : D ≤ mb
  fb_ : ∀ b, b ∈ fb.bl → D ≤ b
theorem Abv.mx {D sb tb mb most g g' c : Nat} {w w' : World} {N N' : List Nd} {fb fb' : FbT} {m m' : Stp → Option Value} (h : Abv D sb g tb mb fb) (hD : D ≤ w.heap.size) (hn : Mx sb tb mb most w g N fb m c w' g' N' fb' m') : Abv D sb g' tb mb fb' := by
  refine ⟨h.sb_, ?_, h.tb_, h.mb_, fun b hb => ?_⟩
  · have := h.g_
    rcases hn.gin with e | e <;> omega
  · rcases hn.fin b hb with e | e
    · exact h.fb_ b e
    · omega
theorem Abv.below {D sb tb mb most g g' c : Nat} {w0 w w' : World} {N N' : List Nd} {fb fb' : FbT} {m m' : Stp → Option Value} (h : Abv D sb g tb mb fb) (hb : Below D w0 w) (hD : D ≤ w.heap.size) (hn : Mx sb tb mb most w g N fb m c w' g' N' fb' m') : Below D w0 w' := by
  refine hb.trans (hn.frm.below (fun b hbm => ?_) hD)
  simp only [List.mem_cons] at hbm
  rcases hbm with e | e | e | e | e
  · rw [e]; exact h.sb_
  · rw [e]; exact h.g_
  · rw [e]; exact h.tb_
  · rw [e]; exact h.mb_
  · exact h.fb_ b e
theorem rowS_new {w : World} {sb g tb cs most : Nat} {N : List Nd} (h : St w sb g tb cs most N) (c : Nat) (t : TypeId) : RowS (w.alloc (.cells #[.int .u64 (c : Int)] t)) sb g tb (some ⟨w.heap.size, 0, none⟩) [c] := by
  obtain ⟨l1, l2, l3⟩ := h.lt
  refine ⟨fun j d hj => ?_, fun _ b off e => ?_⟩
  · match j, hj with
    | 0, hj => 
      simp at hj; subst hj
      exact ⟨_, _, rfl, by rw [Lib.cell_of_heap (heap_alloc_new w _)]; rfl⟩
    | j + 1, hj => simp at hj
  · cases e
    exact ⟨by simp, by omega, by omega, by omega⟩
/-- build, beside a memo. -/
theorem bld10 {w : World} {sb g tb most mb : Nat} {N : List Nd} {fb : FbT} {m : Stp → Option Value} (h : Me w sb g tb most N mb fb m) (n : Nat) (hn : n ≤ 6) (l : List Nat) (hl2 : l.length ≤ 4) (hz : ∀ z ∈ l, z < 18446744073709551616) (a : Option Addr) (cap : Nat) (hr : RowS w sb g tb a l) :
    Calls Tryz.prog 22 #[.pointer (some ⟨sb, 0, none⟩), .int .i64 (n : Int), .slice a l.length cap] w fun e w' => ∃ g' N', Mx sb tb mb most w g N fb m (bC n) w' g' N' fb m ∧ Bld most e N' n (plU l (2 ^ n)) := by
  obtain ⟨cs, hs⟩ := h.st
  refine (build_any hs n hn l hl2 hz a cap hr).mono ?_
  rintro e w' ⟨g', N', h1, h2⟩
  exact ⟨g', N', Mx.of_nx h h1, h2⟩
theorem bld_out {most : Nat} {e : Ending} {N' : List Nd} {n : Nat} {F : Plane} (h : Bld most e N' n F) (hn : N'.length < most) : ∃ z : Nat, e = .returned (.tuple #[.int .u32 (z : Int), .nilIface]) ∧ Con N' n z F := by
  rcases h with h | ⟨_, h⟩
  · exact h
  · omega
theorem res_good {most : Nat} {e : Ending} {N' : List Nd} {m' : Stp → Option Value} {n x p : Nat} (h : Res10 most e N' m' n x p) (hn : N'.length < most) : ∃ z : Nat, e = .returned (.tuple #[.int .u32 (z : Int), .nilIface]) ∧ Sc N' n x p z ∧ m' ⟨x, p⟩ = some (.int .u32 (z : Int)) := by
  rcases h with h | ⟨_, h⟩
  · exact h
  · omega
theorem Mx.len {w w' : World} {sb tb mb most g g' c : Nat} {N N' : List Nd} {fb fb' : FbT} {m m' : Stp → Option Value} (h : Mx sb tb mb most w g N fb m c w' g' N' fb' m') : N'.length ≤ N.length + c := by
  obtain ⟨E, hE, hl⟩ := h.ext
  rw [hE, List.length_append]; omega
theorem Con.mx {w w' : World} {sb tb mb most g g' c n x : Nat} {N N' : List Nd} {fb fb' : FbT} {m m' : Stp → Option Value} {F : Plane} (hc : Con N n x F) (hw : Wf N) (h : Mx sb tb mb most w g N fb m c w' g' N' fb' m') : Con N' n x F := by
  obtain ⟨E, hE, hl⟩ := h.ext
  rw [hE]; exact hc.app hw E
theorem Sc.mx {w w' : World} {sb tb mb most g g' c n x p z : Nat} {N N' : List Nd} {fb fb' : FbT} {m m' : Stp → Option Value} (hc : Sc N n x p z) (hw : Wf N) (h : Mx sb tb mb most w g N fb m c w' g' N' fb' m') : Sc N' n x p z := by
  obtain ⟨E, hE, hl⟩ := h.ext
  rw [hE]; exact hc.app hw E
theorem lives_two : ∀ X Y : Fin 4, gens (2 ^ 1) (plU [103481868288] 8) ((X.val : Int) + 2) ((Y.val : Int) + 2) = if (X.val = 1 ∨ X.val = 2) ∧ (Y.val = 1 ∨ Y.val = 2) then 1 else 0 := by decide +kernel
theorem lives_one : ∀ X Y : Fin 4, gens (2 ^ 0) (plU [103481868288] 8) ((X.val : Int) + 2) ((Y.val : Int) + 2) = if (X.val = 1 ∨ X.val = 2) ∧ (Y.val = 1 ∨ Y.val = 2) then 1 else 0 := by decide +kernel
def bkF : Plane := fun X Y => if (X = 1 ∨ X = 2) ∧ (Y = 1 ∨ Y = 2) then 1 else 0
theorem lives_con {N : List Nd} {x y p : Nat} (hp : p = 0 ∨ p = 1) (hx : Con N 3 x (plU [103481868288] 8)) (h : Sc N 1 x p y) : Con N 2 y bkF := by
  refine (h.out _ hx).of fun X Y hX hY => ?_
  have e2 : (2 : Int) ^ (1 + 1) = 4 := rfl
  rw [e2] at hX hY
  have k : ∀ (q : Nat), (∀ X Y : Fin 4, gens (2 ^ q) (plU [103481868288] 8) ((X.val : Int) + 2) ((Y.val : Int) + 2) = if (X.val = 1 ∨ X.val = 2) ∧ (Y.val = 1 ∨ Y.val = 2) then 1 else 0) → shF (gens (2 ^ q) (plU [103481868288] 8)) (2 ^ 1) (2 ^ 1) X Y = bkF X Y := fun q hh => by
    have := hh ⟨X.toNat, by omega⟩ ⟨Y.toNat, by omega⟩
    simp only at this
    rw [show ((X.toNat : Nat) : Int) = X by omega, show ((Y.toNat : Nat) : Int) = Y by omega] at this
    show gens (2 ^ q) _ (X + 2 ^ 1) (Y + 2 ^ 1) = _
    rw [show (2 : Int) ^ 1 = 2 from rfl, this]
    unfold bkF
    have e1 : (X.toNat = 1 ∨ X.toNat = 2) ↔ (X = 1 ∨ X = 2) := by omega
    have e2 : (Y.toNat = 1 ∨ Y.toNat = 2) ↔ (Y = 1 ∨ Y = 2) := by omega
    simp only [e1, e2]
  rcases hp with rfl | rfl
  · exact k 0 lives_one
  · exact k 1 lives_two
theorem bk_ct {N : List Nd} (hw : Wf N) {y : Nat} (h : Con N 2 y bkF) : ctZ N y = 4 := by
  rw [ct_con hw h (L := [(1, 1), (2, 1), (1, 2), (2, 2)]) (by decide) (fun X Y => by
    have e2 : (2 : Int) ^ 2 = 4 := rfl
    rw [e2]
    unfold bkF
    simp only [List.mem_cons, Prod.mk.injEq, List.not_mem_nil, or_false]
    constructor
    · rintro (⟨rfl, rfl⟩ | ⟨rfl, rfl⟩ | ⟨rfl, rfl⟩ | ⟨rfl, rfl⟩) <;> decide
    · rintro ⟨h1, h2, h3⟩
      split at h3
      · omega
      · cases h3)]
  rfl
set_option maxHeartbeats 4000000 in
theorem lives10_any (w : World) : Calls Tryz.prog 19 #[] w fun e w' => e = .returned (.bool true) ∧ Below w.heap.size w w' := by
  go_enter Tryz.func19, Tryz.ntmps19
  go_wp2_with fail
  refine (new_good 999 (by omega) (by omega) _).mono ?_
  rintro e W2 ⟨sb, g, tb, rfl, hS, hB2, l1, l2, l3⟩
  have HS2 := Lib.hid hS
  have HB2 := Lib.hid hB2
  have HL := Lib.hid (And.intro l1 (And.intro l2 l3))
  clear hS hB2 l1 l2 l3
  go_wp2_with fail
  refine (enew_any HS2.out).mono ?_
  rintro e W3 ⟨mb, rfl, hmb, hme, hB3⟩
  have HM3 := Lib.hid (hme.later (bel1 W3 (.cells #[.int .u64 103481868288] 66)))
  have HB3 := Lib.hid ((HB2.out.trans (hB3.mono HB2.out.size)).trans ((bel1 W3 (.cells #[.int .u64 103481868288] 66)).mono (Nat.le_trans HB2.out.size hB3.size)))
  have HAB : Hid (Abv w.heap.size sb g tb mb FbT.no) := by
    obtain ⟨a1, a2, a3⟩ := HL.out
    have := HB2.out.size
    exact ⟨by omega, by omega, by omega, by omega, fun b e => absurd e no_bl⟩
  have HRW : Hid (RowS (W3.alloc (.cells #[.int .u64 103481868288] 66)) sb g tb (some ⟨W3.heap.size, 0, none⟩) [103481868288]) := by
    obtain ⟨cap, hs⟩ := hme.st
    exact rowS_new hs 103481868288 _
  clear hmb hme hB3 HB2 HS2 HL
  go_wp2_with fail
  generalize W3.alloc (.cells #[.int .u64 103481868288] 66) = W4 at *
  generalize W3.heap.size = rb at *
  refine (bld10 HM3.out 3 (by omega) [103481868288] (by decide) (by decide) _ 1 HRW.out).mono ?_
  rintro e W5 ⟨g5, N5, hmx, hres⟩
  have HL5 : Hid (N5.length ≤ 23) := Nat.le_trans hmx.len (by decide)
  obtain ⟨x, rfl, hc⟩ := bld_out hres (by have := HL5.out; omega)
  have HC := Lib.hid hc
  have HB5 := Lib.hid (HAB.out.below HB3.out HB3.out.size hmx)
  have HAB5 := Lib.hid (HAB.out.mx HB3.out.size hmx)
  have HM5 := Lib.hid hmx.me
  clear hres hc hmx HM3 HRW HB3 HAB
  have HN5 := Lib.hid (enext_any HM5.out (n := 1) (p := 1) HC.out.1 (Nat.le_refl _))
  go_wp2_with fail
  refine HN5.out.mono ?_
  rintro e W6 ⟨g6, N6, fb6, m6, hmx, hres⟩
  have HL6 : Hid (N6.length ≤ 50) := Nat.le_trans hmx.len (by have := HL5.out; have : cE 1 = 27 := rfl; omega)
  obtain ⟨y, rfl, hy, _⟩ := res_good hres (by have := HL6.out; omega)
  have HC6 := Lib.hid (HC.out.mx HM5.out.wf hmx)
  have HY := Lib.hid hy
  have HB6 := Lib.hid (HAB5.out.below HB5.out HB5.out.size hmx)
  have HAB6 := Lib.hid (HAB5.out.mx HB5.out.size hmx)
  have HM6 := Lib.hid hmx.me
  clear hres hy hmx HN5 HM5 HB5 HAB5 HL5
  have HN6 := Lib.hid (enext_any HM6.out (n := 1) (p := 0) HC6.out.1 (by omega))
  go_wp2_with fail
  refine HN6.out.mono ?_
  rintro e W7 ⟨g7, N7, fb7, m7, hmx, hres⟩
  have HL7 : Hid (N7.length ≤ 77) := Nat.le_trans hmx.len (by have := HL6.out; have : cE 1 = 27 := rfl; omega)
  obtain ⟨z, rfl, hz, _⟩ := res_good hres (by have := HL7.out; omega)
  have HC7 := Lib.hid (HC6.out.mx HM6.out.wf hmx)
  have HY7 := Lib.hid (HY.out.mx HM6.out.wf hmx)
  have HZ := Lib.hid hz
  have HB7 := Lib.hid (HAB6.out.below HB6.out HB6.out.size hmx)
  have HM7 := Lib.hid hmx.me
  have HCY := Lib.hid (lives_con (Or.inr rfl) HC7.out HY7.out)
  have HCZ := Lib.hid (lives_con (Or.inl rfl) HC7.out hz)
  obtain rfl : z = y := Con.inj HM7.out.wf HCZ.out HCY.out
  clear hres hz hmx HN6 HM6 HB6 HAB6 HL6
  obtain ⟨cs7, hs7⟩ := HM7.out.st
  have HS7 := Lib.hid hs7
  have hzu : z < 4294967296 := Sq.u32 hs7 HCY.out.1
  have HLV := Lib.hid (level_any hs7 z hzu)
  rw [show lvZ N7 z = ((2 : Nat) : Int) from HCY.out.1] at HLV
  have HCT := Lib.hid (count_any hs7 z hzu)
  rw [bk_ct HM7.out.wf HCY.out] at HCT
  clear hs7
  go_wp2_with fail
  refine HLV.out.mono ?_
  rintro e w8 ⟨rfl, rfl⟩
  go_wp2_with fail
  refine HCT.out.mono ?_
  rintro e w8 ⟨rfl, rfl⟩
  go_wp2_with fail
  go_ret
  exact ⟨rfl, HB7.out⟩
end Go.Proofs.YtaapkngpnlnjeaaGreat
end
