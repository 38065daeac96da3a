-- M26
import Derived.Test.YtaapkngpnlnjeaaGreatM15
import Derived.Test.YtaapkngpnlnjeaaGreatBxr8
import Derived.Test.YtaapkngpnlnjeaaGreatM24
section
namespace Go.Proofs.YtaapkngpnlnjeaaGreat
open Go.RowKit

theorem loP_is : ∀ (r : List (Int × Int)) (c : Int × Int), ((r.foldl loP c).1 ≤ c.1 ∧ (r.foldl loP c).2 ≤ c.2) ∧ (∀ d ∈ r, (r.foldl loP c).1 ≤ d.1 ∧ (r.foldl loP c).2 ≤ d.2) ∧ (∃ d ∈ c :: r, (r.foldl loP c).1 = d.1) ∧ ∃ d ∈ c :: r, (r.foldl loP c).2 = d.2
  | [], c => ⟨⟨Int.le_refl _, Int.le_refl _⟩, (fun d hd => by cases hd), ⟨c, List.mem_cons_self, rfl⟩, c, List.mem_cons_self, rfl⟩
  | e :: r, c => by
    obtain ⟨⟨h1, h2⟩, h3, ⟨d, hd, h4⟩, d', hd', h5⟩ := loP_is r (loP c e)
    simp only [List.foldl_cons]
    have h1 : (r.foldl loP (loP c e)).1 ≤ min c.1 e.1 := h1
    have h2 : (r.foldl loP (loP c e)).2 ≤ min c.2 e.2 := h2
    refine ⟨⟨by omega, by omega⟩, fun x hx => ?_, ?_, ?_⟩
    · rcases List.mem_cons.1 hx with rfl | hx
      · exact ⟨by omega, by omega⟩
      · exact h3 x hx
    · rcases List.mem_cons.1 hd with rfl | hd
      · have h4 : (r.foldl loP (loP c e)).1 = min c.1 e.1 := h4
        by_cases hc : c.1 ≤ e.1
        · exact ⟨c, List.mem_cons_self, by rw [h4]; omega⟩
        · exact ⟨e, List.mem_cons_of_mem _ List.mem_cons_self, by rw [h4]; omega⟩
      · exact ⟨d, List.mem_cons_of_mem _ (List.mem_cons_of_mem _ hd), h4⟩
    · rcases List.mem_cons.1 hd' with rfl | hd'
      · have h5 : (r.foldl loP (loP c e)).2 = min c.2 e.2 := h5
        by_cases hc : c.2 ≤ e.2
        · exact ⟨c, List.mem_cons_self, by rw [h5]; omega⟩
        · exact ⟨e, List.mem_cons_of_mem _ List.mem_cons_self, by rw [h5]; omega⟩
      · exact ⟨d', List.mem_cons_of_mem _ (List.mem_cons_of_mem _ hd'), h5⟩
theorem hiP_is : ∀ (r : List (Int × Int)) (c : Int × Int), (c.1 ≤ (r.foldl hiP c).1 ∧ c.2 ≤ (r.foldl hiP c).2) ∧ (∀ d ∈ r, d.1 ≤ (r.foldl hiP c).1 ∧ d.2 ≤ (r.foldl hiP c).2) ∧ (∃ d ∈ c :: r, (r.foldl hiP c).1 = d.1) ∧ ∃ d ∈ c :: r, (r.foldl hiP c).2 = d.2
  | [], c => ⟨⟨Int.le_refl _, Int.le_refl _⟩, (fun d hd => by cases hd), ⟨c, List.mem_cons_self, rfl⟩, c, List.mem_cons_self, rfl⟩
  | e :: r, c => by
    obtain ⟨⟨h1, h2⟩, h3, ⟨d, hd, h4⟩, d', hd', h5⟩ := hiP_is r (hiP c e)
    simp only [List.foldl_cons]
    have h1 : max c.1 e.1 ≤ (r.foldl hiP (hiP c e)).1 := h1
    have h2 : max c.2 e.2 ≤ (r.foldl hiP (hiP c e)).2 := h2
    refine ⟨⟨by omega, by omega⟩, fun x hx => ?_, ?_, ?_⟩
    · rcases List.mem_cons.1 hx with rfl | hx
      · exact ⟨by omega, by omega⟩
      · exact h3 x hx
    · rcases List.mem_cons.1 hd with rfl | hd
      · have h4 : (r.foldl hiP (hiP c e)).1 = max c.1 e.1 := h4
        by_cases hc : e.1 ≤ c.1
        · exact ⟨c, List.mem_cons_self, by rw [h4]; omega⟩
        · exact ⟨e, List.mem_cons_of_mem _ List.mem_cons_self, by rw [h4]; omega⟩
      · exact ⟨d, List.mem_cons_of_mem _ (List.mem_cons_of_mem _ hd), h4⟩
    · rcases List.mem_cons.1 hd' with rfl | hd'
      · have h5 : (r.foldl hiP (hiP c e)).2 = max c.2 e.2 := h5
        by_cases hc : e.2 ≤ c.2
        · exact ⟨c, List.mem_cons_self, by rw [h5]; omega⟩
        · exact ⟨e, List.mem_cons_of_mem _ List.mem_cons_self, by rw [h5]; omega⟩
      · exact ⟨d', List.mem_cons_of_mem _ (List.mem_cons_of_mem _ hd'), h5⟩
/-- The least rectangle of cells in a list. -/
theorem isB_list (c : Int × Int) (r : List (Int × Int)) : IsB (fun X Y => (X, Y) ∈ c :: r) ⟨(r.foldl loP c).1, (r.foldl loP c).2, (r.foldl hiP c).1 + 1, (r.foldl hiP c).2 + 1⟩ := by
  obtain ⟨l1, l2, ⟨d1, m1, e1⟩, d2, m2, e2⟩ := loP_is r c
  obtain ⟨h1, h2, ⟨d3, m3, e3⟩, d4, m4, e4⟩ := hiP_is r c
  refine ⟨fun X Y hm => ?_, fun _ => ⟨⟨d1.2, ?_⟩, ⟨d3.2, ?_⟩, ⟨d2.1, ?_⟩, ⟨d4.1, ?_⟩⟩, fun h => absurd List.mem_cons_self (h c.1 c.2)⟩
  · rw [R4.has_iff]
    rcases List.mem_cons.1 hm with e | hm
    · have e1 : X = c.1 := congrArg Prod.fst e
      have e2 : Y = c.2 := congrArg Prod.snd e
      subst e1; subst e2
      simp only
      omega
    · have a := l2 _ hm
      have b := h2 _ hm
      simp only at a b ⊢
      omega
  · simp only [e1]; exact m1
  · simp only [Int.add_sub_cancel, e3]; exact m3
  · simp only [e2]; exact m2
  · simp only [Int.add_sub_cancel, e4]; exact m4
theorem box_nil8 {M : List Nd} (hw : Wf M) {n x : Nat} (h : Pl8 M n x []) : ctZ M x = 0 ∧ bxP M n x = zeR := by
  have h0 : ctZ M x = 0 := (ct_al hw h.sq).2 fun a b => by rw [h.al]; simp
  exact ⟨h0, by unfold bxP; rw [if_pos h0]⟩
theorem box_cons8 {M : List Nd} (hw : Wf M) {n x : Nat} {c : Int × Int} {r : List (Int × Int)} (h : Pl8 M n x (c :: r)) : ctZ M x ≠ 0 ∧ bxP M n x = ⟨(r.foldl loP c).1, (r.foldl loP c).2, (r.foldl hiP c).1 + 1, (r.foldl hiP c).2 + 1⟩ := by
  have hc : alK M n (kidZ M x) c.1 c.2 = true := by rw [h.al]; simp
  have hne : ctZ M x ≠ 0 := fun e => by
    have := (ct_al hw h.sq).1 e c.1 c.2
    rw [hc] at this; cases this
  refine ⟨hne, ?_⟩
  unfold bxP
  rw [if_neg hne]
  exact (isB_plane hw h.sq).uniq ((isB_list c r).of fun X Y => by rw [h.al]; simp) ⟨c.1, c.2, hc⟩
end Go.Proofs.YtaapkngpnlnjeaaGreat
end

section
namespace Go.Proofs.YtaapkngpnlnjeaaGreat
open Go.RowKit Go.Maps
set_option maxRecDepth 100000

set_option maxHeartbeats 8000000 in
theorem lives8_any (w : World) : Calls Tryz.prog 6 #[] w fun e w' => e = .returned (.bool true) ∧ Below w.heap.size w w' := by
  have HPN := Lib.hid (fun W => plane8_any W)
  have HRE := Lib.hid (fun W => rect8_any 0 0 3 2 (by unfold I64; omega) (by unfold I64; omega) W)
  rw [show (0 : Int) + 3 = 3 from rfl, show (0 : Int) + 2 = 2 from rfl] at HRE
  go_enter Tryz.func6, Tryz.ntmps6
  go_wp2_with fail
  refine (HPN.out _).mono ?_
  rintro e W1 ⟨sb, g, tb, cap, x, N, rfl, hS, hem, hlen, hB, l1, l2, l3⟩
  have hlp : Lp w sb g tb 131072 N W1 := ⟨⟨cap, hS⟩, hB, l1, l2, l3⟩
  have HLP := Lib.hid hlp
  have HEM := Lib.hid hem
  clear hS hem hB l1 l2 l3 hlp HPN
  have HP1 := Lib.hid (ob_new8 HLP.out #[.pointer (some ⟨sb, 0, none⟩), .int .u32 (x : Int)] 29)
  have HL1 := Lib.hid (HLP.out.later (bel1 W1 (.cells #[.pointer (some ⟨sb, 0, none⟩), .int .u32 (x : Int)] 29)))
  have HPB : Hid (w.heap.size ≤ W1.heap.size) := HLP.out.bel.size
  obtain ⟨p0, p1⟩ := pl_cells HP1.out.at_
  go_upto_region 4 with fail
  generalize W1.alloc (.cells #[.pointer (some ⟨sb, 0, none⟩), .int .u32 (x : Int)] 29) = W2 at *
  generalize W1.heap.size = pb at *
  clear HLP W1
  have hk : Lp w sb g tb 131072 N W2.drew := HL1.out.drew
  have hk2 : Lp w sb g tb 131072 N (W2.alloc (.cells #[.pointer none, .int .u32 0] 29)).drew := (HL1.out.later (bel1 _ _)).drew
  have hz0 : Ob (W2.alloc (.cells #[.pointer none, .int .u32 0] 29)).drew sb g tb W2.heap.size zeO8 := ob_drew8 (ob_new8 HL1.out _ _)
  have hp0 : Ob W2.drew sb g tb pb (plO sb x) := ob_drew8 HP1.out
  have hp2 : Ob (W2.alloc (.cells #[.pointer none, .int .u32 0] 29)).drew sb g tb pb (plO sb x) := ob_drew8 (HP1.out.later (bel1 _ _))
  have hlt2 := HP1.out.lt
  have hsz := HL1.out.bel.size
  have n1 : ¬ pb = W2.heap.size := by omega
  have n2 : ¬ W2.heap.size = pb := by omega
  have HFL : Hid (∀ W, Lp w sb g tb 131072 N W → Calls Tryz.prog 28 #[.agg #[.pointer (some ⟨sb, 0, none⟩), .int .u32 (x : Int)], .agg #[.int .i64 0, .int .i64 0, .int .i64 3, .int .i64 2], .bool true] W fun e w' => ∃ (g' n y : Nat) (N' : List Nd), e = .returned (.tuple #[.agg #[.pointer (some ⟨sb, 0, none⟩), .int .u32 (y : Int)], .nilIface]) ∧ Nx sb tb 131072 W g N 2016 w' g' N' ∧ Sq N' (n + 1) y ∧ 2 ≤ n ∧ n ≤ 61 ∧ (∀ a b, alK N' n (kidZ N' y) a b = (R4.mk 0 0 3 2).has a b)) := fun W hW => by
    obtain ⟨cap', hs⟩ := hW.st
    exact fill_law hs (n0 := 2) HEM.out (by omega) ⟨0, 0, 3, 2⟩ (by decide) (by omega)
  go_cut [2, 3] from 10 to 16 (fun v2 v3 wx => v3 = .nilIface ∧ ∃ (g' n y : Nat) (N' : List Nd), PlAt w sb g' tb 131072 N' y v2 wx ∧ Sq N' (n + 1) y ∧ 2 ≤ n ∧ n ≤ 61 ∧ (∀ a b, alK N' n (kidZ N' y) a b = (R4.mk 0 0 3 2).has a b))
  case first =>
    go_region_held3 (fun w' => w'.cell? ⟨pb, 0, none⟩ = some (.pointer (some ⟨sb, 0, none⟩)) ∧ w'.cell? ⟨pb, 1, none⟩ = some (.int .u32 (x : Int))) (go_keep)
      (first
        | (go_at_call 13; refine (HRE.out _).mono ?_; rintro e wl ⟨rfl, hb⟩; have hl : Lp w sb g tb 131072 N wl := Lp.later (by assumption) hb; have hpl : Ob wl sb g tb pb (plO sb x) := Ob.later (by assumption) hb; have k1 := pl_cells hpl.at_; have hll := hpl.lt; have hls := hl.bel.size; have m1 : ¬ pb = wl.heap.size := (by omega); have m2 : ¬ wl.heap.size = pb := (by omega); (first | (have hz1 : Ob wl sb g tb W2.heap.size zeO8 := Ob.later (by assumption) hb; have k2 := ze_cells8 hz1.at_) | skip); clear hb)
        | (go_at_call 28; refine (HFL.out _ (by first | exact hl | exact hl.later (bel1 _ _))).mono ?_; rintro e wm ⟨g9, n9, y9, M9, rfl, hnx, hfacts⟩; (first | have hm : Lp w sb g9 tb 131072 M9 wm := Lp.nx hl hnx | have hm : Lp w sb g9 tb 131072 M9 wm := Lp.nx (hl.later (bel1 _ _)) hnx); (first | have hpm : Ob wm sb g9 tb pb (plO sb x) := Ob.nx hpl hnx | have hpm : Ob wm sb g9 tb pb (plO sb x) := Ob.nx (hpl.later (bel1 _ _)) hnx); have k3 := pl_cells hpm.at_; have hmm := hpm.lt; have m3 : ¬ pb = wm.heap.size := (by omega); have m4 : ¬ wm.heap.size = pb := (by omega); (first | (have hz2 : Ob wm sb g9 tb W2.heap.size zeO8 := Ob.nx hz1 hnx; have k4 := ze_cells8 hz2.at_) | (have hz2 : Ob wm sb g9 tb wl.heap.size zeO8 := Ob.nx (ob_new8 hl _ _) hnx; have k4 := ze_cells8 hz2.at_) | skip)))
    all_goals go_wp2_with fail
    all_goals go_meet
    all_goals first | exact ⟨rfl, g9, n9, y9, M9, plAt_put hm hz2 (by omega) y9, hfacts⟩ | exact ⟨rfl, g9, n9, y9, M9, plAt_new hm y9, hfacts⟩
  case rest =>
    obtain ⟨rfl, g3, n, y, N3, ⟨qb, rfl, hqb, hlp, hpl⟩, hsq, hn2, hn61, hal⟩ := hcut
    have HL3 := Lib.hid hlp
    have HP3 := Lib.hid hpl
    have HSQ := Lib.hid hsq
    have HAL := Lib.hid hal
    have hwf : Wf N3 := by obtain ⟨_, hs⟩ := hlp.st; exact hs.wf
    obtain ⟨hbx, hct⟩ := bx_rect hwf hsq (r := ⟨0, 0, 3, 2⟩) (by decide) hal
    have hc6 : ctZ N3 y = 6 := by
      have := ct_list hwf hsq (l := [(0, 0), (1, 0), (2, 0), (0, 1), (1, 1), (2, 1)]) (by decide) (fun a b => by rw [hal]; exact six_rect a b)
      rw [this]; decide
    have hyu : y < 4294967296 := by obtain ⟨_, hs⟩ := hlp.st; exact Sq.u32 hs hsq
    clear hlp hpl hsq hal hk hk2 hz0 hp0 hp2 p0 p1 n1 n2 HFL HL1 HP1
    have HBX : Hid (∀ W, Lp w sb g3 tb 131072 N3 W → Calls Tryz.prog 11 #[.agg #[.pointer (some ⟨sb, 0, none⟩), .int .u32 (y : Int)]] W fun e w' => e = .returned (.tuple #[.agg #[.int .i64 0, .int .i64 0, .int .i64 3, .int .i64 2], .bool true]) ∧ Below W.heap.size W w') := fun W hW => by
      obtain ⟨cap', hs⟩ := hW.st
      have := box8_any hs HSQ.out hn2
      rw [hbx, hc6] at this
      exact this
    have HCT : Hid (∀ W, Lp w sb g3 tb 131072 N3 W → Calls Tryz.prog 29 #[.pointer (some ⟨sb, 0, none⟩), .int .u32 (y : Int)] W fun e w' => e = .returned (.int .u64 6) ∧ W = w') := fun W hW => by
      obtain ⟨cap', hs⟩ := hW.st
      have := count_any hs y hyu
      rw [hc6] at this
      exact this
    obtain ⟨p0, p1⟩ := pl_cells HP3.out.at_
    go_wp2_with fail
    refine (HBX.out _ HL3.out).mono ?_
    rintro e w4 ⟨rfl, hb⟩
    have HL4 := Lib.hid (HL3.out.later hb)
    have HP4 := Lib.hid (HP3.out.later hb)
    clear hb HL3 HP3 p0 p1 HBX
    have HBR := Lib.hid (bel1 w4 (.cells #[.int .i64 0, .int .i64 0, .int .i64 3, .int .i64 2] 42))
    have hr5 : (w4.alloc (.cells #[.int .i64 0, .int .i64 0, .int .i64 3, .int .i64 2] 42)).heap[w4.heap.size]? = some (rcO8 ⟨0, 0, 3, 2⟩) := heap_alloc_new w4 _
    have HL5 := Lib.hid (HL4.out.later HBR.out)
    have HP5 := Lib.hid (HP4.out.later HBR.out)
    obtain ⟨p0, p1⟩ := pl_cells HP5.out.at_
    obtain ⟨c0, c1, c2, c3⟩ := rc_cells8 hr5
    clear hr5
    go_upto_region 8 with fail
    generalize w4.alloc (.cells #[.int .i64 0, .int .i64 0, .int .i64 3, .int .i64 2] 42) = w5 at *
    generalize w4.heap.size = rb at *
    have hme := Up.me w5
    have HC9 := Lib.hid (fun z : Up w5 => Up.callsE (fun W hb => HCT.out W (HL5.out.later hb)) z)
    have HR9 := Lib.hid (fun z : Up w5 => Up.calls (fun W _ => HRE.out W) z)
    have heq := fun W => eqR8 0 0 3 2 0 0 3 2 W
    simp only [beq_self_eq_true, Bool.and_true] at heq
    have g0 := fun z : Up w5 => Up.cell p0 z
    have g1 := fun z : Up w5 => Up.cell p1 z
    have s0 := fun z : Up w5 => Up.cell c0 z
    have s1 := fun z : Up w5 => Up.cell c1 z
    have s2 := fun z : Up w5 => Up.cell c2 z
    have s3 := fun z : Up w5 => Up.cell c3 z
    refine region_up (by kernel_rfl) (by kernel_rfl) ?_
    repeat (go_big_quiet_step ((first | (go_at_call 29; with_reducible exact HC9.out _) | (go_at_call 13; with_reducible exact HR9.out _))))
    refine wpQuiet_nil ?_
    rintro w6 ⟨⟨W6, hW6⟩, rfl⟩
    go_wp2_with fail
    go_ret
    exact ⟨rfl, HL5.out.bel.trans (hW6.mono HL5.out.bel.size)⟩
end Go.Proofs.YtaapkngpnlnjeaaGreat
end
