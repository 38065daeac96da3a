/- The laws of layer 10: part, build: contracts. -/
import Derived.Test.YtchbdkadoamikaaLa10
namespace Go.Proofs.Ytchbdkadoamikaa
open Go.RowKit Go.Maps
set_option maxRecDepth 100000

theorem alive10_none (a : Option Addr) (cap : Nat) (w : World) (x y side : Int) : Calls Try.prog 29 #[.slice a 0 cap, .int .i64 x, .int .i64 y, .int .i64 side] w fun e w' => e = .returned (.bool false) ∧ w = w' := by
  go_enter Try.func29, Try.ntmps29
  go_wp2_with fail
  go_ret
  exact ⟨rfl, rfl⟩
def alv (l : List Nat) (side x y : Nat) : Bool := if l.length = 0 then false else alvN l side x y
theorem alive_all (l : List Nat) (hl2 : l.length ≤ 4) (hz : ∀ z ∈ l, z < 18446744073709551616) (a : Option Addr) (cap : Nat) (w : World) (h : RowU w a l) (side x y : Nat) (hx : x < side) (hy : y < side) (hs : side ≤ 64) :
    Calls Try.prog 29 #[.slice a l.length cap, .int .i64 (x : Int), .int .i64 (y : Int), .int .i64 (side : Int)] w fun e w' => e = .returned (.bool (alv l side x y)) ∧ w = w' := by
  unfold alv
  by_cases hl : l.length = 0
  · rw [if_pos hl, hl]; exact alive10_none a cap w _ _ _
  · rw [if_neg hl]; exact alive10_any l (by omega) hl2 hz a cap w h side x y hx hy hs
/-- The law's cells as a plane. -/
def plU (l : List Nat) (side : Nat) : Plane := fun X Y => if 0 ≤ X ∧ X < (side : Int) ∧ 0 ≤ Y ∧ Y < (side : Int) ∧ alv l side X.toNat Y.toNat = true then 1 else 0
theorem plU_at (l : List Nat) {side x y : Nat} (hx : x < side) (hy : y < side) : plU l side (x : Int) (y : Int) = if alv l side x y then 1 else 0 := by
  unfold plU
  have e1 : (x : Int).toNat = x := by omega
  have e2 : (y : Int).toNat = y := by omega
  rw [e1, e2]
  by_cases h : alv l side x y = true
  · rw [if_pos ⟨by omega, by omega, by omega, by omega, h⟩, if_pos h]
  · rw [if_neg (fun hh => h hh.2.2.2.2), if_neg h]
/-- A row beside a store. -/
def RowS (w : World) (sb g tb : Nat) (a : Option Addr) (l : List Nat) : Prop := RowU w a l ∧ (0 < l.length → ∀ b off, a = some ⟨b, off, none⟩ → b < w.heap.size ∧ b ≠ sb ∧ b ≠ g ∧ b ≠ tb)
theorem RowS.later {w w' : World} {sb g tb : Nat} {a : Option Addr} {l : List Nat} (h : RowS w sb g tb a l) (hb : Below w.heap.size w w') : RowS w' sb g tb a l :=
  ⟨h.1.later (fun hl b off e => (h.2 hl b off e).1) hb, fun hl b off e => by obtain ⟨h1, h2⟩ := h.2 hl b off e; exact ⟨Nat.lt_of_lt_of_le h1 hb.size, h2⟩⟩
theorem RowS.nx {w w' : World} {sb tb most g g' c : Nat} {N N' : List Nd} {a : Option Addr} {l : List Nat} (h : RowS w sb g tb a l) (hn : Nx sb tb most w g N c w' g' N') : RowS w' sb g' tb a l := by
  refine ⟨fun j c hj => ?_, fun hl b off e => ?_⟩
  · obtain ⟨b, off, e, hc⟩ := h.1 j c hj
    obtain ⟨h1, h2, h3, h4⟩ := h.2 (Nat.lt_of_le_of_lt (Nat.zero_le j) (List.getElem?_eq_some_iff.1 hj).1) b off e
    have hbl : w'.heap[b]? = w.heap[b]? := hn.frm.block b h1 (by simp; exact ⟨h2, h3, h4⟩)
    refine ⟨b, off, e, ?_⟩
    rw [← hc]
    simp only [World.cell?, hbl]
  · obtain ⟨h1, h2, h3, h4⟩ := h.2 hl b off e
    have := hn.frm.size
    refine ⟨by omega, h2, ?_, h4⟩
    rcases hn.gin with e | e <;> omega
theorem RowS.set {w : World} {sb g tb b i : Nat} {a : Option Addr} {l : List Nat} (h : RowS w sb g tb a l) (hb : 0 < l.length → ∀ b' off, a = some ⟨b', off, none⟩ → b' ≠ b) (v : Value) : RowS (w.setCell ⟨b, i, none⟩ v) sb g tb a l := by
  refine ⟨fun j c hj => ?_, fun hl b' off e => ?_⟩
  · obtain ⟨b', off, e, hc⟩ := h.1 j c hj
    refine ⟨b', off, e, ?_⟩
    rw [← hc]
    have : (w.setCell ⟨b, i, none⟩ v).heap[b']? = w.heap[b']? := Below.heap_setCell _ _ _ _ (hb (Nat.lt_of_le_of_lt (Nat.zero_le j) (List.getElem?_eq_some_iff.1 hj).1) b' off e)
    simp only [World.cell?, this]
  · obtain ⟨h1, h2⟩ := h.2 hl b' off e
    exact ⟨by simpa using h1, h2⟩
/-- How many squares are made. -/
def bC : Nat → Nat
  | 0 => 0
  | n + 1 => 4 * bC n + 1
def Bld (most : Nat) (e : Ending) (N' : List Nd) (n : Nat) (F : Plane) : Prop :=
  (∃ z : Nat, e = .returned (.tuple #[.int .u32 (z : Int), .nilIface]) ∧ Con N' n z F) ∨ (e = .returned (.tuple #[.int .u32 0, .iface 56 (.int .i64 7)]) ∧ most ≤ N'.length)
set_option maxHeartbeats 4000000 in
theorem part_any (sb tb most side : Nat) (hs : side ≤ 64) (l : List Nat) (hl2 : l.length ≤ 4) (hz : ∀ z ∈ l, z < 18446744073709551616) (a : Option Addr) (cap : Nat) : ∀ (n : Nat) {w : World} {g cs : Nat} {N : List Nd} (_ : St w sb g tb cs most N) (_ : RowS w sb g tb a l) (X Y : Nat) (_ : X + 2 ^ n ≤ side) (_ : Y + 2 ^ n ≤ side),
    Calls Try.prog 26 #[.pointer (some ⟨sb, 0, none⟩), .int .i64 (n : Int), .slice a l.length cap, .int .i64 (X : Int), .int .i64 (Y : Int), .int .i64 (side : Int)] w fun e w' => ∃ g' N', Nx sb tb most w g N (bC n) w' g' N' ∧ Bld most e N' n (shF (plU l side) (X : Int) (Y : Int)) := by
  intro n
  induction n with
  | zero =>
    intro w g cs N h hr X Y hX hY
    have HS := Lib.hid h
    have HA := Lib.hid (alive_all l hl2 hz a cap w hr.1 side X Y (by rw [Nat.pow_zero] at hX; omega) (by rw [Nat.pow_zero] at hY; omega) hs)
    have HV := Lib.hid (plU_at l (side := side) (x := X) (y := Y) (by rw [Nat.pow_zero] at hX; omega) (by rw [Nat.pow_zero] at hY; omega))
    clear h hr
    go_enter Try.func26, Try.ntmps26
    go_wp2_with fail
    refine HA.out.mono ?_
    rintro e w1 ⟨rfl, rfl⟩
    cases hv : alv l side X Y with
    | true =>
      rw [hv] at HV
      go_wp2_with fail
      go_ret2
      refine ⟨g, N, Nx.of_below HS.out (Below.refl _ _), Or.inl ⟨1, rfl, sq_alive HS.out.wf, fun a b ha hb => ?_⟩⟩
      have e0 : (2 : Int) ^ 0 = 1 := rfl
      rw [e0] at ha hb
      obtain rfl : a = 0 := by omega
      obtain rfl : b = 0 := by omega
      show 1 = plU l side (0 + (X : Int)) (0 + (Y : Int))
      rw [Int.zero_add, Int.zero_add, HV.out]; rfl
    | false =>
      rw [hv] at HV
      go_wp2_with fail
      go_ret2
      refine ⟨g, N, Nx.of_below HS.out (Below.refl _ _), Or.inl ⟨0, rfl, sq_dead HS.out.wf, fun a b ha hb => ?_⟩⟩
      have e0 : (2 : Int) ^ 0 = 1 := rfl
      rw [e0] at ha hb
      obtain rfl : a = 0 := by omega
      obtain rfl : b = 0 := by omega
      show 0 = plU l side (0 + (X : Int)) (0 + (Y : Int))
      rw [Int.zero_add, Int.zero_add, HV.out]; rfl
  | succ n ih =>
    intro w g cs N h hr X Y hX hY
    have hp2 : 2 ^ (n + 1) = 2 * 2 ^ n := by rw [Nat.pow_succ]; omega
    obtain ⟨H, hH⟩ : ∃ H : Nat, H = 2 ^ n := ⟨_, rfl⟩
    have hHi : (2 : Int) ^ n = (H : Int) := by rw [hH]; exact (pow_nat n).symm
    have hHp : 0 < H := by rw [hH]; exact Nat.pow_pos (by decide)
    rw [hp2, ← hH] at hX hY
    have HIH : Hid (∀ (w : World) (g cs : Nat) (N : List Nd), St w sb g tb cs most N → RowS w sb g tb a l → ∀ (X Y : Nat), X + H ≤ side → Y + H ≤ side → Calls Try.prog 26 #[.pointer (some ⟨sb, 0, none⟩), .int .i64 (n : Int), .slice a l.length cap, .int .i64 (X : Int), .int .i64 (Y : Int), .int .i64 (side : Int)] w fun e w' => ∃ g' N', Nx sb tb most w g N (bC n) w' g' N' ∧ Bld most e N' n (shF (plU l side) (X : Int) (Y : Int))) :=
      fun w g cs N h hr X Y hX hY => ih h hr X Y (by rw [← hH]; exact hX) (by rw [← hH]; exact hY)
    have HHI := Lib.hid hHi
    have HS := Lib.hid h
    have HR := Lib.hid hr
    have HB := Lib.hid (bel1 w (.cells #[.int .u32 0, .int .u32 0, .int .u32 0, .int .u32 0] 46))
    have HO := Lib.hid (Ob.new h #[.int .u32 0, .int .u32 0, .int .u32 0, .int .u32 0] 46)
    have hn62 : n < 62 := by
      have : 2 ^ n ≤ 2 ^ 6 := by rw [← hH]; show H ≤ 64; omega
      have := (Nat.pow_le_pow_iff_right (a := 2) (by decide)).1 this
      omega
    have g0 : ((n : Int) + 1 == 0) = false := by rw [beq_eq_false_iff_ne]; omega
    have g1 : wrap64 (2 ^ n) = (H : Int) := by rw [hHi]; exact IntWalk.wrap64_in _ (by omega)
    clear h hr ih hp2 hHi
    go_enter Try.func26, Try.ntmps26
    go_wp2_with fail
    generalize w.alloc (.cells #[.int .u32 0, .int .u32 0, .int .u32 0, .int .u32 0] 46) = W0 at *
    rw [g1]
    clear g0 g1
    have HH := Lib.hid hH
    clear hH
    go_loopg [16, 17, 18, 29] 4 (fun mm v16 v17 v18 cnt wr => ∃ (j gg : Nat) (M : List Nd) (q : Nat → Nat), mm = 4 - j ∧ j ≤ 4 ∧ cnt = .int .i64 (j : Int) ∧ Nx sb tb most w g N (j * bC n) wr gg M ∧ Ob wr sb gg tb w.heap.size (kO (mk4 q)) ∧ RowS wr sb gg tb a l ∧ (∀ i, i < j → Con M n (q i) (shF (plU l side) (((X + H * (i % 2) : Nat)) : Int) (((Y + H * (i / 2) : Nat)) : Int))))
    case atStart => exact ⟨0, g, N, fun _ => 0, rfl, Nat.zero_le _, rfl, (Nx.of_below HS.out HB.out).mono (Nat.zero_le _), HO.out, HR.out.later HB.out, fun i hi => by omega⟩
    case round =>
      clear HO HB
      obtain ⟨j, gg, M, q, hm, hj, rfl, hN, hO, hR, hq⟩ := hrel
      have HM := Lib.hid hm
      have HN := Lib.hid hN
      have HO := Lib.hid hO
      have HR1 := Lib.hid hR
      have HQ := Lib.hid hq
      clear hm hN hO hR hq
      obtain ⟨cap1, hS1⟩ := HN.out.st
      have HS1 := Lib.hid hS1
      clear hS1
      by_cases hlt : j < 4
      · have hgj : decide ((j : Int) < 4) = true := by simp; omega
        obtain ⟨r, hr⟩ : ∃ r : Nat, r = j % 2 := ⟨_, rfl⟩
        obtain ⟨d, hd⟩ : ∃ d : Nat, d = j / 2 := ⟨_, rfl⟩
        obtain ⟨HRr, hHR⟩ : ∃ k : Nat, k = H * r := ⟨_, rfl⟩
        obtain ⟨HRd, hHD⟩ : ∃ k : Nat, k = H * d := ⟨_, rfl⟩
        have hr1 : r ≤ 1 := by omega
        have hd1 : d ≤ 1 := by omega
        have hb1 : HRr ≤ H := by rw [hHR]; exact Nat.le_trans (Nat.mul_le_mul_left H hr1) (by omega)
        have hb2 : HRd ≤ H := by rw [hHD]; exact Nat.le_trans (Nat.mul_le_mul_left H hd1) (by omega)
        have e1 : (j : Int) % 2 = (r : Int) := by omega
        have e2 : (j : Int) / 2 = (d : Int) := by omega
        have e3 : (H : Int) * (r : Int) = (HRr : Int) := by rw [hHR, Int.natCast_mul]
        have e4 : (H : Int) * (d : Int) = (HRd : Int) := by rw [hHD, Int.natCast_mul]
        have HCL := Lib.hid (HIH.out _ _ _ _ HS1.out HR1.out (X + HRr) (Y + HRd) (by omega) (by omega))
        rw [show ((X + HRr : Nat) : Int) = (X : Int) + (HRr : Int) by omega, show ((Y + HRd : Nat) : Int) = (Y : Int) + (HRd : Int) by omega] at HCL
        have HE : Hid (X + HRr = X + H * (j % 2) ∧ Y + HRd = Y + H * (j / 2)) := ⟨by rw [hHR, hr], by rw [hHD, hd]⟩
        clear hr hd hHR hHD
        go_upto_region 11 with (first | (go_at_call 26; refine HCL.out.mono ?_; rintro e w6 ⟨g6, M6, hnx, hres⟩; obtain ⟨z, ev, rfl, hres2⟩ := two10 hres))
        have HN6 := Lib.hid (HN.out.trans hnx)
        have HO6 := Lib.hid (HO.out.nx hnx)
        have HR6 := Lib.hid (HR1.out.nx hnx)
        have HX6 : Hid (∃ E, M6 = M ++ E) := by
          obtain ⟨E, hE, _⟩ := hnx.ext
          exact ⟨E, hE⟩
        have HW := Lib.hid HN.out.wf
        clear hnx hres HCL HN HO HR1 e1 e2 e3 e4
        obtain ⟨t3, t4⟩ := k_cell HO6.out.at_ hlt
        have i3 : (0 : Int) ≤ (j : Int) := by omega
        have i4 : (j : Int) < 4 := by omega
        rcases hres2 with ⟨rfl, hz⟩ | ⟨rfl, rfl, hfull⟩
        · have HZ := Lib.hid hz
          clear hz
          go_wp2_with fail
          go_roundg (4 - (j + 1))
          case measure => rw [HM.out]; omega
          case rel =>
            refine ⟨j + 1, g6, M6, fun i => if i = j then z else q i, rfl, by omega, by go_num, ((HN6.out.mono (by rw [Nat.add_mul]; omega)).set HO6.out (Nat.le_refl _) _), ?_, ?_, fun i hi => ?_⟩
            · have := HO6.out.set hlt z
              rw [show (mk4 fun i => if i = j then z else kAt (mk4 q) i) = mk4 (fun i => if i = j then z else q i) from mk4_ext fun i hi => by show (if i = j then z else kAt (mk4 q) i) = _; rw [kAt_mk4 _ hi]] at this
              exact this
            · exact HR6.out.set (fun hl b' off e => by have := (HR.out.2 hl b' off e).1; omega) _
            · by_cases e : i = j
              · subst e
                simp only [if_true]
                have := HZ.out
                rw [← HE.out.1, ← HE.out.2]
                rw [show ((X + HRr : Nat) : Int) = (X : Int) + (HRr : Int) by omega, show ((Y + HRd : Nat) : Int) = (Y : Int) + (HRd : Int) by omega]
                exact this
              · simp only [if_neg e]
                obtain ⟨F, rfl⟩ := HX6.out
                exact (HQ.out i (by omega)).app HW.out F
        · have HF := Lib.hid hfull
          clear hfull
          go_wp2_with fail
          go_ret2
          refine ⟨g6, M6, HN6.out.mono ?_, Or.inr ⟨rfl, HF.out⟩⟩
          show j * bC n + bC n ≤ 4 * bC n + 1
          have := Nat.mul_le_mul_right (bC n) (show j + 1 ≤ 4 by omega)
          rw [Nat.add_mul, Nat.one_mul] at this
          omega
      · obtain rfl : j = 4 := by omega
        have hgj : decide (((4 : Nat) : Int) < 4) = false := by simp
        obtain ⟨c0, c1, c2, c3⟩ := k_cells HO.out.at_
        have HFO : Hid (Fo M n (mk4 q)) := by
          refine fo_iff.2 fun i hi => ?_
          rw [kAt_mk4 _ hi]
          exact (HQ.out i hi).1
        have HMK := Lib.hid (make_sq HS1.out hn62 HFO.out)
        have HW := Lib.hid HN.out.wf
        go_wp2_with fail
        refine HMK.out.mono ?_
        rintro e w6 ⟨g6, M6, hnx, hres⟩
        obtain ⟨r, ev, rfl, hres2⟩ := two_out9 hres
        clear hres
        have HN6 := Lib.hid ((HN.out.trans hnx).mono (show 4 * bC n + 1 ≤ bC (n + 1) by show _ ≤ 4 * bC n + 1; omega))
        have HX6 : Hid (∃ E, M6 = M ++ E) := by
          obtain ⟨E, hE, _⟩ := hnx.ext
          exact ⟨E, hE⟩
        clear hnx HMK
        rcases hres2 with ⟨rfl, hsq, hkd, _⟩ | ⟨rfl, rfl, hfull⟩
        · have HRR := Lib.hid (And.intro hsq hkd)
          clear hsq hkd
          go_wp2_with fail
          go_ret2
          refine ⟨g6, M6, HN6.out, Or.inl ⟨r, rfl, con_make2 HRR.out.1 HRR.out.2 fun r' b => ?_⟩⟩
          obtain ⟨F, rfl⟩ := HX6.out
          have hh := (HQ.out (pl r' b) (pl_lt _ _)).app HW.out F
          rw [pick_kAt, kAt_mk4 _ (pl_lt _ _)]
          have ex : ((X + H * (pl r' b % 2) : Nat) : Int) = (X : Int) + off n r' := by
            have := HHI.out
            cases r' <;> cases b <;> simp [pl, off] <;> omega
          have ey : ((Y + H * (pl r' b / 2) : Nat) : Int) = (Y : Int) + off n b := by
            have := HHI.out
            cases r' <;> cases b <;> simp [pl, off] <;> omega
          rw [ex, ey] at hh
          exact hh
        · have HF := Lib.hid hfull
          clear hfull
          go_wp2_with fail
          go_ret2
          exact ⟨g6, M6, HN6.out, Or.inr ⟨rfl, HF.out⟩⟩
set_option maxHeartbeats 1000000 in
/-- build: a square of a level, of the law's cells. -/
theorem build_any {w : World} {sb g tb cs most : Nat} {N : List Nd} (h : St w sb g tb cs most N) (n : Nat) (hn : n ≤ 6) (l : List Nat) (hl2 : l.length ≤ 4) (hz : ∀ z ∈ l, z < 18446744073709551616) (a : Option Addr) (cap : Nat) (hr : RowS w sb g tb a l) :
    Calls Try.prog 10 #[.pointer (some ⟨sb, 0, none⟩), .int .i64 (n : Int), .slice a l.length cap] w fun e w' => ∃ g' N', Nx sb tb most w g N (bC n) w' g' N' ∧ Bld most e N' n (plU l (2 ^ n)) := by
  have h64 : 2 ^ n ≤ 64 := Nat.pow_le_pow_right (n := 2) (by decide) hn
  have HP := Lib.hid (part_any sb tb most (2 ^ n) h64 l hl2 hz a cap n h hr 0 0 (by omega) (by omega))
  have hw : wrap64 (2 ^ n) = ((2 ^ n : Nat) : Int) := by
    rw [← pow_nat]
    generalize 2 ^ n = H at h64
    exact IntWalk.wrap64_in _ (by omega)
  rw [show ((0 : Nat) : Int) = 0 from rfl, shF_zero] at HP
  have HW := Lib.hid hw
  clear h hr hw
  go_enter Try.func10, Try.ntmps10
  go_wp2_with fail
  rw [HW.out]
  refine HP.out.mono ?_
  rintro e w6 ⟨g6, M6, hnx, hres⟩
  have HNX := Lib.hid hnx
  clear hnx HP
  obtain ⟨r, ev, rfl, hres2⟩ := two10 hres
  have HRS := Lib.hid hres
  clear hres hres2
  go_wp2_with fail
  go_ret2
  exact ⟨g6, M6, HNX.out, HRS.out⟩
end Go.Proofs.Ytchbdkadoamikaa
