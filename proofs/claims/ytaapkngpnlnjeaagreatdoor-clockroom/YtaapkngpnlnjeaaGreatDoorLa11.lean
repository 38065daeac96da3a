/- Package clock: later: contract. -/
import Derived.Test.YtaapkngpnlnjeaaGreatDoorP13
import Derived.Test.YtaapkngpnlnjeaaGreatDoorP06
namespace Go.Proofs.YtaapkngpnlnjeaaGreatDoor
open Go.RowKit Go.Maps Go.Shelf
set_option maxRecDepth 100000

/-- Of the lowest level. -/
def Low11 (n : Nat) (H : Plane) : Prop := n = 2 ∨ ∃ a b, H a b = 1 ∧ ¬ (inS (n - 1) a = true ∧ inS (n - 1) b = true)
theorem Low11.le {n : Nat} {H : Plane} {j : Nat} (h : Low11 n H) (hw : Wid H (2 ^ j)) (hj : 1 ≤ j) : n ≤ j ∨ n = 2 := by
  rcases h with h | ⟨a, b, h1, h2⟩
  · exact Or.inr h
  · left
    apply Classical.byContradiction
    intro hn
    have hm := pow_mono (show j ≤ n - 1 by omega)
    have := hw a b h1
    exact h2 ⟨inS_iff.2 ⟨by omega, by omega⟩, inS_iff.2 ⟨by omega, by omega⟩⟩
theorem far_three {d : Nat} (h : Far 2 d 9 0) : d = 2 := by
  obtain ⟨_, h2, h3⟩ := h
  apply Classical.byContradiction
  intro hn
  rcases Nat.lt_or_ge d 2 with hd | hd
  · have : d = 0 ∨ d = 1 := by omega
    rcases this with rfl | rfl <;> revert h2 <;> decide
  · have := h3 2 (by omega)
    revert this; decide
/-- What later comes to; of one generation of cells near the middle it makes few squares. -/
def Later11 (sb tb mb most : Nat) (w : World) (g : Nat) (N : List Nd) (fb : FbT) (m : Stp → Option Value) (G : Plane) (r0 : Nat) (e : Ending) (w' : World) : Prop :=
  ∃ c g' N' fb' m', Mx sb tb mb most w g N fb m c w' g' N' fb' m' ∧ (r0 = 1 → Wid G 4 → N'.length ≤ N.length + 4772) ∧
    ((∃ n' r : Nat, e = .returned (.tuple #[plV sb r, .nilIface]) ∧ PG N' n' r (gens r0 G) ∧ Low11 n' (gens r0 G)) ∨ (e = .returned (.tuple #[.agg #[.pointer none, .int .u32 0], .iface 48 (.int .i64 7)]) ∧ most ≤ N'.length))
theorem low_dead {n : Nat} {H : Plane} (h : Low11 n H) (hz : ∀ p q, H p q ≠ 1) (K : Plane) : Low11 n K := by
  rcases h with h | ⟨a, b, h1, _⟩
  · exact Or.inl h
  · exact absurd h1 (hz a b)
/-- Between two leaps. -/
structure Lst11 (sb tb mb most : Nat) (w : World) (g : Nat) (N : List Nd) (fb : FbT) (m : Stp → Option Value) (G : Plane) (r0 rb pb r : Nat) (wr : World) (g1 : Nat) (N1 : List Nd) (fb1 : FbT) (m1 : Stp → Option Value) (n x : Nat) : Prop where
  le : r ≤ r0
  mx : ∃ c, Mx sb tb mb most w g N fb m c wr g1 N1 fb1 m1
  pg : PG N1 n x (gens (r0 - r) G)
  low : Low11 n (gens (r0 - r) G)
  pl : Oe wr sb g1 tb mb fb1 pb (plO sb x)
  res : Oe wr sb g1 tb mb fb1 rb (.cells #[.pointer none, .int .u32 0] 34 (0, 0))
  one : (r = r0 → N1.length ≤ N.length + 1) ∧ (r0 = 1 → Wid G 4 → N1.length ≤ N.length + 4772)
structure Lsf11 (sb tb mb most : Nat) (w : World) (g : Nat) (N : List Nd) (fb : FbT) (m : Stp → Option Value) (G : Plane) (r0 rb pb : Nat) (wr : World) (g1 : Nat) (N1 : List Nd) (fb1 : FbT) (m1 : Stp → Option Value) : Prop where
  mx : ∃ c, Mx sb tb mb most w g N fb m c wr g1 N1 fb1 m1
  pl : Oe wr sb g1 tb mb fb1 pb (.cells #[.pointer none, .int .u32 0] 34 (0, 0))
  res : Oe wr sb g1 tb mb fb1 rb (.cells #[.pointer none, .int .u32 0] 34 (0, 0))
  full : most ≤ N1.length
  one : r0 = 1 → Wid G 4 → N1.length ≤ N.length + 4772
/-- How far a leap goes. -/
theorem leap_far {n : Nat} {G : Plane} {r0 r : Nat} (hl : Low11 n (gens (r0 - r) G)) (hb : ∀ p q, G p q ≤ 1) (hG : Wid G 288230376151711744) (h0 : r0 < 288230376151711744) (hr : 0 < r) (hle : r ≤ r0) :
    (2 : Int) ^ n + 2 ^ (Lib.ctz 64 r) ≤ 1152921504606846976 ∧ ∃ d, Far n d (2 * (2 ^ n + 2 ^ (Lib.ctz 64 r)) - 1) 0 := by
  have h1 := (low_bit hr (by omega)).2.1
  have h2 := pow_nat (Lib.ctz 64 r)
  have hgw := Wid.gens (r0 - r) hb hG
  have hn : n ≤ 59 := by
    rcases hl.le (j := 59) (hgw.mono (by have : (2 : Int) ^ 59 = 576460752303423488 := by decide
                                         omega)) (by omega) with h | h <;> omega
  have hm := pow_mono hn
  have h59 : (2 : Int) ^ 59 = 576460752303423488 := by decide
  have h0n := pow_pos2 n
  have h0p := pow_pos2 (Lib.ctz 64 r)
  have hle2 : (2 : Int) ^ n + 2 ^ (Lib.ctz 64 r) ≤ 1152921504606846976 := by omega
  refine ⟨hle2, ?_⟩
  generalize (2 : Int) ^ (Lib.ctz 64 r) = Y at *
  generalize (2 : Int) ^ n = Z at *
  exact far_ex n (by omega) _ 0 (on_leap (by omega) (by omega))
/-- The loop's state: between two leaps, or a leap had no room. -/
def Lrel11 (sb tb mb most : Nat) (w : World) (g : Nat) (N : List Nd) (fb : FbT) (m : Stp → Option Value) (G : Plane) (r0 rb pb mm : Nat) (v2 v9 : Value) (wr : World) : Prop :=
  (∃ (r g1 : Nat) (N1 : List Nd) (fb1 : FbT) (m1 : Stp → Option Value) (n1 x1 : Nat), mm = r + 1 ∧ v2 = .int .u64 (r : Int) ∧ v9 = .nilIface ∧ Lst11 sb tb mb most w g N fb m G r0 rb pb r wr g1 N1 fb1 m1 n1 x1) ∨
  (∃ (r g1 : Nat) (N1 : List Nd) (fb1 : FbT) (m1 : Stp → Option Value), v2 = .int .u64 (r : Int) ∧ v9 = .iface 48 (.int .i64 7) ∧ Lsf11 sb tb mb most w g N fb m G r0 rb pb wr g1 N1 fb1 m1)
theorem Leaps.gen {most : Nat} {e : Ending} {N' : List Nd} {sb : Nat} {H : Plane} (h : Leaps most e N' sb H) : ∃ (r : Nat) (pa : Option Addr) (xi : Int) (ev : Value), e = .returned (.tuple #[.agg #[.pointer pa, .int .u32 xi], ev]) ∧ ((ev = .nilIface ∧ pa = some ⟨sb, 0, none⟩ ∧ xi = (r : Int) ∧ ∃ n', PG N' n' r H ∧ Low11 n' H) ∨ (ev = .iface 48 (.int .i64 7) ∧ pa = none ∧ xi = 0 ∧ most ≤ N'.length)) := by
  rcases h with ⟨n', r, rfl, h1, h2⟩ | ⟨rfl, h1⟩
  · exact ⟨r, _, _, _, rfl, Or.inl ⟨rfl, rfl, rfl, n', h1, h2⟩⟩
  · exact ⟨0, _, _, _, rfl, Or.inr ⟨rfl, rfl, rfl, h1⟩⟩
theorem mx_len11 {w w' : World} {sb tb mb most g g' c : Nat} {N N' : List Nd} {fb fb' : FbT} {m m' : Stp → Option Value} (h : Mx sb tb mb most w g N fb m c w' g' N' fb' m') : N'.length ≤ N.length + c := by
  obtain ⟨E, rfl, hE⟩ := h.ext
  rw [List.length_append]; omega
theorem sub_one {r : Nat} (h0 : 0 < r) (h : r < 18446744073709551616) : IntKind.u64.wrap ((r : Int) - 1) = ((r - 1 : Nat) : Int) := by rw [IntKind.wrap_u64]; omega
/-- One generation of cells near the middle: how many squares. -/
theorem one_bound {N : List Nd} {n x : Nat} {G : Plane} {d : Nat} (hp : PG N n x G) (hl : Low11 n G) (hG : Wid G 4) (hd : Far n d (2 * (2 ^ n + 2 ^ (Lib.ctz 64 1)) - 1) 0) : 5 * d + 1 + cE (n + d - 1) + 1 = 4771 := by
  have hn : n = 2 := by
    have := hp.two
    rcases hl.le (j := 2) hG (by omega) with h | h <;> omega
  subst hn
  have : d = 2 := far_three hd
  subst this
  decide
set_option maxHeartbeats 8000000 in
theorem later_clock {w : World} {sb g tb most mb : Nat} {N : List Nd} {fb : FbT} {m : Stp → Option Value} (h : Me w sb g tb most N mb fb m) {n x : Nat} {G : Plane} (hp : PG N n x G) (hG : Wid G 288230376151711744) (gen : Int) {r0 : Nat} (hr0 : r0 < 288230376151711744)
    {D : Nat} (hD : D ≤ w.heap.size) (hV : 0 < D) (hA : Abv D sb g tb mb fb) (hT : TabAt 0 Lib.deBruijn64tab w) :
    Calls Tryz.prog 26 #[.agg #[.pointer (some ⟨sb, 0, none⟩), .int .u32 (x : Int), .int .u64 gen], .pointer (some ⟨mb, 0, none⟩), .int .u64 (r0 : Int)] w fun e w' => Later11 sb tb mb most w g N fb m G r0 e w' := by
  have HPG := Lib.hid hp
  have HA := Lib.hid hA
  have HT := Lib.hid hT
  have HGW := Lib.hid hG
  have HBIN := Lib.hid hp.bin
  have hr0b : r0 < 288230376151711744 := hr0
  clear hr0
  have hbA := bel1 w (.cells #[.pointer (some ⟨sb, 0, none⟩), .int .u32 (x : Int), .int .u64 gen] 37)
  have hbB := bel1 (w.alloc (.cells #[.pointer (some ⟨sb, 0, none⟩), .int .u32 (x : Int), .int .u64 gen] 37)) (.cells #[.pointer none, .int .u32 0] 34)
  have HT0 : Hid (Oe ((w.alloc (.cells #[.pointer (some ⟨sb, 0, none⟩), .int .u32 (x : Int), .int .u64 gen] 37)).alloc (.cells #[.pointer none, .int .u32 0] 34)) sb g tb mb fb w.heap.size (.cells #[.pointer (some ⟨sb, 0, none⟩), .int .u32 (x : Int), .int .u64 gen] 37 (0, 0))) := (Oe.new h _ _).later hbB
  have hr1 := Oe.new (h.later hbA) #[.pointer none, .int .u32 0] 34
  rw [show (w.alloc (.cells #[.pointer (some ⟨sb, 0, none⟩), .int .u32 (x : Int), .int .u64 gen] 37)).heap.size = w.heap.size + 1 by simp] at hr1
  have HR0 := Lib.hid hr1
  have HM0 := Lib.hid (Mx.of_below h (bel2 w (.cells #[.pointer (some ⟨sb, 0, none⟩), .int .u32 (x : Int), .int .u64 gen] 37) (.cells #[.pointer none, .int .u32 0] 34)))
  have hsz0 : ((w.alloc (.cells #[.pointer (some ⟨sb, 0, none⟩), .int .u32 (x : Int), .int .u64 gen] 37)).alloc (.cells #[.pointer none, .int .u32 0] 34)).heap.size = w.heap.size + 1 + 1 := by simp
  have HTR : Hid (∀ W, Me W sb g tb most N mb fb m → Calls Tryz.prog 47 #[.agg #[.pointer (some ⟨sb, 0, none⟩), .int .u32 (x : Int)]] W fun e w' => ∃ g' N', Mx sb tb mb most W g N fb m 1 w' g' N' fb m ∧ Leaps most e N' sb G) := fun W hW => trim_pg hW HPG.out
  clear h hp hG hA hT hbA hbB hr1
  go_enter Tryz.func26, Tryz.ntmps26
  go_upto_region 1 with fail
  generalize (w.alloc (.cells #[.pointer (some ⟨sb, 0, none⟩), .int .u32 (x : Int), .int .u64 gen] 37)).alloc (.cells #[.pointer none, .int .u32 0] 34) = W0 at *
  have t0 : W0.cell? ⟨w.heap.size, 0, none⟩ = some (.pointer (some ⟨sb, 0, none⟩)) := by rw [Lib.cell_of_heap HT0.out.at_]; rfl
  have t1 : W0.cell? ⟨w.heap.size, 1, none⟩ = some (.int .u32 (x : Int)) := by rw [Lib.cell_of_heap HT0.out.at_]; rfl
  go_wp2_with fail
  refine (HTR.out W0 HM0.out.me).mono ?_
  rintro e w1 ⟨g1, N1, hmx, hlp⟩
  have HM1 := Lib.hid ((HM0.out.trans hmx).mono (show 0 + 1 ≤ 1 by omega))
  have HR1 := Lib.hid (HR0.out.mx hmx)
  have hsz1 : w.heap.size + 1 + 1 ≤ w1.heap.size := by have := hmx.frm.size; omega
  clear hmx HTR t0 t1 HT0 HR0 HM0
  obtain ⟨r1, pa, xi, ev, rfl, hcase⟩ := Leaps.gen hlp
  have HCS := Lib.hid hcase
  clear hlp hcase
  have hb2 := bel1 w1 (.cells #[.pointer pa, .int .u32 xi] 34)
  have HP2 : Hid (Oe (w1.alloc (.cells #[.pointer pa, .int .u32 xi] 34)) sb g1 tb mb fb w1.heap.size (.cells #[.pointer pa, .int .u32 xi] 34 (0, 0))) := Oe.new HM1.out.me _ _
  have HM2 := Lib.hid ((HM1.out.trans (Mx.of_below HM1.out.me hb2)).mono (show 1 + 0 ≤ 1 by omega))
  have HR2 := Lib.hid (HR1.out.later hb2)
  clear hb2 HM1 HR1
  go_wp2_with fail
  generalize w1.alloc (.cells #[.pointer pa, .int .u32 xi] 34) = w2 at *
  have hpbw : w.heap.size + 1 + 1 ≤ w1.heap.size := hsz1
  generalize w1.heap.size = pb at *
  go_loopg [2, 9] (r0 + 1) (fun mm v2 v9 wr => Lrel11 sb tb mb most w g N fb m G r0 (w.heap.size + 1) pb mm v2 v9 wr)
  case atStart =>
    rcases HCS.out with ⟨rfl, rfl, rfl, n', h1, h2⟩ | ⟨rfl, rfl, rfl, h1⟩
    · refine Or.inl ⟨r0, g1, N1, fb, m, n', r1, rfl, rfl, rfl, ⟨Nat.le_refl _, ⟨1, HM2.out⟩, by rw [Nat.sub_self]; exact h1, by rw [Nat.sub_self]; exact h2, HP2.out, HR2.out, ⟨fun _ => mx_len11 HM2.out, fun _ _ => by have := mx_len11 HM2.out; omega⟩⟩⟩
    · exact Or.inr ⟨r0, g1, N1, fb, m, rfl, rfl, ⟨⟨1, HM2.out⟩, HP2.out, HR2.out, h1, fun _ _ => by have := mx_len11 HM2.out; omega⟩⟩
  case round =>
    clear HCS HM2 HP2 HR2
    rcases hrel with ⟨r, g1, N1, fb1, m1, n1, x1, hmm, rfl, rfl, hL⟩ | ⟨r, g1, N1, fb1, m1, rfl, rfl, hF⟩
    · have HMM := Lib.hid hmm
      have HL := Lib.hid hL
      clear hmm hL
      obtain ⟨p0, p1⟩ := pl_cells HL.out.pl.at_
      by_cases hr : r = 0
      · subst hr
        have hg : decide ((0 : Int) < ((0 : Nat) : Int)) = false := by decide
        obtain ⟨q0, q1, qf0, qf1⟩ := res_cells HL.out.res.at_
        obtain ⟨c, hmx⟩ := HL.out.mx
        obtain ⟨W, hW, hMW, hRW⟩ := put_me hmx HL.out.res (Nat.le_succ _) (.pointer (some ⟨sb, 0, none⟩)) (.int .u32 ((x1 : Nat) : Int))
        go_wp2_with fail
        refine bodyPost_ret (pl_ret11 rfl rfl rfl hRW.at_) rfl ?_
        have hpg := HL.out.pg
        have hlow := HL.out.low
        rw [Nat.sub_zero] at hpg hlow
        exact ⟨c, g1, N1, fb1, m1, hMW, HL.out.one.2, Or.inl ⟨n1, x1, rfl, hpg, hlow⟩⟩
      have hr0 : 0 < r := Nat.pos_of_ne_zero hr
      have hg : decide ((0 : Int) < (r : Int)) = true := decide_eq_true (by omega)
      have hg' : decide (0 < r) = true := decide_eq_true hr0
      obtain ⟨c, hmx⟩ := HL.out.mx
      have HMX := Lib.hid hmx
      have hxu : x1 < 4294967296 := by obtain ⟨cap, hs⟩ := hmx.me.st; exact Sq.u32 hs HL.out.pg.sq
      have HCT : Hid (Calls Tryz.prog 20 #[.pointer (some ⟨sb, 0, none⟩), .int .u32 (x1 : Int)] wr fun e w' => e = .returned (.int .u64 (ctZ N1 x1 : Int)) ∧ wr = w') := by
        obtain ⟨cap, hs⟩ := hmx.me.st
        exact count_any hs x1 hxu
      have HCZ := Lib.hid (pg_ct hmx.me.wf HL.out.pg)
      clear hmx
      generalize ctZ N1 x1 = ct at *
      by_cases hc : ct = 0
      · have hc1 : decide ((0 : Int) < (ct : Int)) = false := decide_eq_false (by omega)
        have hc2 : decide (0 < ct) = false := decide_eq_false (by omega)
        obtain ⟨q0, q1, qf0, qf1⟩ := res_cells HL.out.res.at_
        obtain ⟨W, hW, hMW, hRW⟩ := put_me HMX.out HL.out.res (Nat.le_succ _) (.pointer (some ⟨sb, 0, none⟩)) (.int .u32 ((x1 : Nat) : Int))
        go_wp2_with fail
        refine HCT.out.mono ?_
        rintro e w3 ⟨rfl, rfl⟩
        go_wp2_with fail
        refine bodyPost_ret (pl_ret11 rfl rfl rfl hRW.at_) rfl ?_
        have hz := HCZ.out.1 hc
        have hpg := HL.out.pg.dead hz r
        rw [← gens_add, Nat.sub_add_cancel HL.out.le] at hpg
        exact ⟨c, g1, N1, fb1, m1, hMW, HL.out.one.2, Or.inl ⟨n1, x1, rfl, hpg, low_dead HL.out.low hz _⟩⟩
      have hc1 : decide ((0 : Int) < (ct : Int)) = true := decide_eq_true (by omega)
      have hc2 : decide (0 < ct) = true := decide_eq_true (by omega)
      have hr64 : r < 18446744073709551616 := by have := HL.out.le; omega
      obtain ⟨hfar1, d, hfar⟩ := leap_far HL.out.low HBIN.out HGW.out hr0b hr0 HL.out.le
      have HTW : Hid (TabAt 0 Lib.deBruijn64tab wr) := tab_below HT.out (HA.out.below (Below.refl D w) hD HMX.out) hV
      have HTZ := Lib.hid (tzN_any r hr0 hr64 wr.drew HTW.out)
      have HLE := Lib.hid (leap_any HMX.out.me.drew HL.out.pg hfar1 hfar)
      have HFD := Lib.hid hfar
      have HLB := Lib.hid (low_bit hr0 hr64)
      have hs1 := sub_one hr0 hr64
      have ha1 := and_low r hr0 hr64
      have HS1 := Lib.hid hs1
      have HA1 := Lib.hid ha1
      clear hs1 ha1 hfar hfar1 HTW HCZ
      go_wp2_with fail
      refine HCT.out.mono ?_
      rintro e w3 ⟨rfl, rfl⟩
      clear HCT
      have HC : Hid (∃ k, Lib.ctz 64 r = k) := ⟨_, rfl⟩
      obtain ⟨k, hk⟩ := HC.out
      rw [hk] at HTZ HLE HFD HLB HA1
      have HKE := Lib.hid hk
      clear HC hk
      go_upto_region 4 with fail
      refine region_sq 4 (fun W => W = wr.drew) [(0, 2), (1, 1), (2, 1), (3, 0), (4, 3), (5, 1), (6, 1), (7, 1), (8, 3), (9, 1)] (by kernel_rfl) (by kernel_rfl) rfl (by intro c a d v w h; cases d <;> exact h) (by kernel_rfl) rfl ?_
      refine ⟨_, ?_, rfl, by rfl, ?_, ?_⟩
      rotate_left
      · rintro W rfl
        skip
        go_simp; first | done | rfl
      conv => arg 6; simp only [Act.put, List.setIfInBounds_toArray, List.set_cons_zero, List.set_cons_succ]
      refine ⟨_, ?_, rfl, by rfl, ?_, ?_⟩
      rotate_left
      · intro W; go_simp; first | done | rfl
      conv => arg 6; simp only [Act.put, List.setIfInBounds_toArray, List.set_cons_zero, List.set_cons_succ]
      refine ⟨_, ?_, rfl, by rfl, ?_, ?_⟩
      rotate_left
      · intro W; go_simp; first | done | rfl
      conv => arg 6; simp only [Act.put, List.setIfInBounds_toArray, List.set_cons_zero, List.set_cons_succ]
      refine ⟨_, rfl, by rfl, fun K hK => ?_⟩
      go_simp
      refine HTZ.out.mono ?_
      rintro e w6 ⟨rfl, rfl⟩
      refine hK _ _ rfl ?_
      clear hK K
      conv => arg 6; simp only [Act.put, List.setIfInBounds_toArray, List.set_cons_zero, List.set_cons_succ]
      refine ⟨_, rfl, by rfl, fun K hK => ?_⟩
      go_simp
      refine HLE.out.mono ?_
      rintro e w7 ⟨g7, N7, fb7, m7, hmx7, hlp7⟩
      obtain ⟨r7, pa7, xi7, ev7, rfl, hcase⟩ := Leaps.gen hlp7
      have HCS := Lib.hid hcase
      have HM7 := Lib.hid (HMX.out.trans hmx7.undrew)
      have HP7 := Lib.hid (HL.out.pl.drew.mx hmx7)
      have HR7 := Lib.hid (HL.out.res.drew.mx hmx7)
      have HN7 := Lib.hid (mx_len11 hmx7)
      clear hcase hlp7 hmx7 HLE
      refine hK _ _ ?_
      clear hK K
      conv => arg 6; simp only [Act.put, List.setIfInBounds_toArray, List.set_cons_zero, List.set_cons_succ]
      refine ⟨_, ?_, rfl, by rfl, ?_, ?_⟩
      rotate_left
      · intro W; go_simp; first | done | rfl
      conv => arg 6; simp only [Act.put, List.setIfInBounds_toArray, List.set_cons_zero, List.set_cons_succ]
      refine ⟨_, ?_, rfl, by rfl, ?_, ?_⟩
      rotate_left
      · intro W; go_simp; first | done | rfl
      conv => arg 6; simp only [Act.put, List.setIfInBounds_toArray, List.set_cons_zero, List.set_cons_succ]
      refine ⟨_, ?_, rfl, by rfl, ?_, ?_⟩
      rotate_left
      · intro W; go_simp; first | done | rfl
      conv => arg 6; simp only [Act.put, List.setIfInBounds_toArray, List.set_cons_zero, List.set_cons_succ]
      refine ⟨_, rfl, by rfl, fun K hK => ?_⟩
      obtain ⟨s1, s2, s3, s4⟩ := res_cells HP7.out.at_
      go_simp
      refine hK _ _ ?_
      clear hK K s1 s2 s3 s4
      conv => arg 6; simp only [Act.put, List.setIfInBounds_toArray, List.set_cons_zero, List.set_cons_succ]
      refine ⟨_, ?_, rfl, by rfl, ?_, ?_⟩
      rotate_left
      · intro W; go_simp; first | done | rfl
      conv => arg 6; simp only [Act.put, List.setIfInBounds_toArray, List.set_cons_zero, List.set_cons_succ]
      unfold wpSq
      obtain ⟨W, hW, hMW, hPW⟩ := put_me HM7.out HP7.out (Nat.le_trans (by omega : w.heap.size ≤ w.heap.size + 1 + 1) hpbw) (.pointer pa7) (.int .u32 xi7)
      have HRW := Lib.hid ((HR7.out.other (p := ⟨pb, 0, none⟩) (by show pb ≠ _; omega) (.pointer pa7)).other (p := ⟨pb, 1, none⟩) (by show pb ≠ _; omega) (.int .u32 xi7))
      rw [hW] at HRW ⊢
      have HMW := Lib.hid hMW
      have HPW := Lib.hid hPW
      clear hW hMW hPW HM7 HP7 HR7 HTZ
      have hs1 := HS1.out
      have ha1 := HA1.out
      obtain ⟨r', hr'⟩ : ∃ r', r' = r - 2 ^ k := ⟨_, rfl⟩
      rw [← hr'] at ha1
      have HLE' : Hid (r' < r ∧ r' + 2 ^ k = r) := by
        have h1 := HLB.out.2.1
        have h2 := Nat.two_pow_pos k
        show _ ∧ _
        omega
      clear hr'
      have HONE : Hid (r0 = 1 → Wid G 4 → N7.length ≤ N.length + 4772) := fun h1 h2 => by
        have hle := HL.out.le
        have hrr : r = r0 := by omega
        have h3 := HL.out.one.1 hrr
        subst hrr
        subst h1
        have h4 := HFD.out
        rw [← HKE.out] at h4
        have hpg := HL.out.pg
        have hlw := HL.out.low
        rw [Nat.sub_self] at hpg hlw
        have h5 := one_bound hpg hlw h2 h4
        have h6 := HN7.out
        omega
      rcases HCS.out with ⟨rfl, rfl, rfl, n', h1, h2⟩ | ⟨rfl, rfl, rfl, h1⟩
      · have HP1 := Lib.hid h1
        have HP2 := Lib.hid h2
        clear h1 h2
        go_wp2_with fail
        go_roundg (r' + 1)
        case measure => rw [HMM.out]; have := HLE'.out.1; omega
        case rel =>
          have hle := HL.out.le
          have hq := HLE'.out
          have e1 : gens (2 ^ k) (gens (r0 - r) G) = gens (r0 - r') G := by rw [← gens_add, show r0 - r + 2 ^ k = r0 - r' by omega]
          have hp1 := HP1.out
          have hp2 := HP2.out
          rw [e1] at hp1 hp2
          exact Or.inl ⟨r', g7, N7, fb7, m7, n', r7, rfl, rfl, rfl, ⟨by omega, ⟨_, HMW.out⟩, hp1, hp2, HPW.out, HRW.out, ⟨fun h => by omega, HONE.out⟩⟩⟩
      · have HF := Lib.hid h1
        clear h1
        go_wp2_with fail
        go_roundg 0
        case measure => rw [HMM.out]; omega
        case rel => exact Or.inr ⟨r', g7, N7, fb7, m7, rfl, rfl, ⟨⟨_, HMW.out⟩, HPW.out, HRW.out, HF.out, HONE.out⟩⟩
    · have HF := Lib.hid hF
      clear hF
      obtain ⟨p0, p1, pf0, pf1⟩ := res_cells HF.out.pl.at_
      obtain ⟨q0, q1, qf0, qf1⟩ := res_cells HF.out.res.at_
      obtain ⟨c, hmx⟩ := HF.out.mx
      obtain ⟨W, hW, hMW, hRW⟩ := put_me hmx HF.out.res (Nat.le_succ _) (.pointer none) (.int .u32 0)
      go_wp2_with fail
      refine bodyPost_ret (pl_ret11 rfl rfl rfl hRW.at_) rfl ?_
      exact ⟨c, g1, N1, fb1, m1, hMW, HF.out.one, Or.inr ⟨rfl, HF.out.full⟩⟩
end Go.Proofs.YtaapkngpnlnjeaaGreatDoor
