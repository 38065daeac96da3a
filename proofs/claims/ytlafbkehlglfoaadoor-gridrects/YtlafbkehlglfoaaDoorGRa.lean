/- The law GridRects within its bounds: its walk. -/
import Derived.Test.YtlafbkehlglfoaaDoorGR
import Derived.Deep.QuietTactic
namespace Go.Proofs.YtlafbkehlglfoaaDoor
open Go.RowKit

theorem lt_le (p q : Int) : decide (p < q) = !decide (q ≤ p) := by
  by_cases h : p < q
  · rw [decide_eq_true h, decide_eq_false (by omega)]; rfl
  · rw [decide_eq_false h, decide_eq_true (by omega)]; rfl
theorem RS0.other {w W : World} {r o p : List Int} {b i : Nat} {v : Value} (h : RS0 w r o p W) (hb : w.heap.size + 1 + 1 < b) : RS0 w r o p (W.setCell ⟨b, i, none⟩ v) :=
  ⟨h.bel.setCell (p := ⟨b, i, none⟩) (by show w.heap.size ≤ b; omega) _, h.r.other (by omega), h.o.other (by omega), h.p.other (by omega)⟩
theorem andV_cases (x y X Y a b c d : Int) : (noPts (max x a) (max y b) (min X c) (min Y d) = true ∧ andV x y X Y a b c d = [0, 0, 0, 0] ∧ (decide (max x a < min X c) && decide (max y b < min Y d)) = false) ∨ (noPts (max x a) (max y b) (min X c) (min Y d) = false ∧ andV x y X Y a b c d = [max x a, max y b, min X c, min Y d] ∧ max x a < min X c ∧ max y b < min Y d) := by
  unfold andV
  cases h : noPts (max x a) (max y b) (min X c) (min Y d) with
  | true =>
    left
    refine ⟨rfl, rfl, ?_⟩
    unfold noPts at h
    simp only [Bool.or_eq_true, decide_eq_true_eq] at h
    simp only [Bool.and_eq_false_iff, decide_eq_false_iff_not]
    omega
  | false =>
    right
    refine ⟨rfl, rfl, ?_⟩
    unfold noPts at h
    simp only [Bool.or_eq_false_iff, decide_eq_false_iff_not] at h
    omega

theorem nums_new (w : World) (zs : List Int) (t : TypeId) : Nums (w.alloc (.cells (zs.map (Value.int .i64)).toArray t)) w.heap.size zs := by
  refine ⟨by simp, fun j z hz => ⟨?_, ?_⟩⟩
  · have := cell_of_row (w.alloc (.cells (zs.map (Value.int .i64)).toArray t)) w.heap.size j _ t (0, 0) (heap_alloc_new w _)
    rw [this]
    simp [hz]
  · simp
/-- The law's variables, and the loop's, in memory. -/
def RT (w : World) (r o p an oo : List Int) (b11 b13 sb : Nat) (s : List Int) (b15 : Nat) (e : List Int) : Type := { W : World // RS w r o p an oo b11 b13 W ∧ Nums W sb s ∧ Nums W b15 e }
theorem RT.calls {w : World} {r o p an oo : List Int} {b11 b13 sb : Nat} {s : List Int} {b15 : Nat} {e : List Int} {f : FuncId} {args : Array Value} {v : Value} (h : ∀ w, Calls Tryd.prog f args w fun e w' => e = .returned v ∧ Below w.heap.size w w') (z : RT w r o p an oo b11 b13 sb s b15 e) :
    Calls Tryd.prog f args z.1 fun e' w' => e' = .returned v ∧ ∃ z' : RT w r o p an oo b11 b13 sb s b15 e, w' = z'.1 :=
  (h z.1).mono fun _ w' ⟨h1, h2⟩ => ⟨h1, ⟨w', z.2.1.later h2, z.2.2.1.later h2, z.2.2.2.later h2⟩, rfl⟩
theorem region_cls {P : Program} {id : Nat} {Q : Exit → Act → World → Prop} {a : Act} {w : World} {l : List Oper} (C : World → Prop) (hm : P.follows .mixedOrders = true) (hB : Region.lexB .any l.toArray = true) (hC : C { w with drawn := w.drawn + 1 })
    (h : wpQuiet P l.toArray C (fun a' => ∀ w', C w' → Q .normal a' w') l a) : (Code.region id l.toArray true).wp P Q a w :=
  wp_region_quiet (C := C) hm hB hC (by simpa using h)
theorem four_in {e p q P Q : Int} (h : [p, q, P, Q].all (inB e) = true) : (-e ≤ p ∧ p ≤ e) ∧ (-e ≤ q ∧ q ≤ e) ∧ (-e ≤ P ∧ P ≤ e) ∧ (-e ≤ Q ∧ Q ≤ e) := by
  have h' := List.all_eq_true.1 h
  exact ⟨inB_true (h' p (by simp)), inB_true (h' q (by simp)), inB_true (h' P (by simp)), inB_true (h' Q (by simp))⟩
/-- What the loop asks of a rectangle. -/
def Good (o0 o1 o2 o3 p q P Q : Int) : Prop := [p, q, P, Q].all (inB 4611686018427387904) = true ∧ (noPts p q P Q = false → andV o0 o1 o2 o3 p q P Q = [p, q, P, Q])
theorem noPts_false {x y X Y : Int} (h : noPts x y X Y = false) : x < X ∧ y < Y := by
  unfold noPts at h
  simp only [Bool.or_eq_false_iff, decide_eq_false_iff_not] at h
  omega
theorem noPts_mk {x y X Y : Int} (h1 : x < X) (h2 : y < Y) : noPts x y X Y = false := by
  unfold noPts
  simp only [Bool.or_eq_false_iff, decide_eq_false_iff_not]
  omega
theorem good_of {o0 o1 o2 o3 p q P Q : Int} (hf : [p, q, P, Q].all (inB 4611686018427387904) = true) (h : noPts p q P Q = false → o0 ≤ p ∧ o1 ≤ q ∧ P ≤ o2 ∧ Q ≤ o3) : Good o0 o1 o2 o3 p q P Q := by
  refine ⟨hf, fun hn => ?_⟩
  obtain ⟨h0, h1, h2, h3⟩ := h hn
  obtain ⟨h4, h5⟩ := noPts_false hn
  unfold andV
  rw [show max o0 p = p by omega, show max o1 q = q by omega, show min o2 P = P by omega, show min o3 Q = Q by omega, hn]
  rfl
theorem good_r {x y X Y a b c d o0 o1 o2 o3 : Int} (hf : [x, y, X, Y].all (inB 4611686018427387904) = true) (ho : orV x y X Y a b c d = [o0, o1, o2, o3]) : Good o0 o1 o2 o3 x y X Y := by
  refine good_of hf fun hn => ?_
  unfold orV at ho
  rw [hn] at ho
  cases h2 : noPts a b c d <;> rw [h2] at ho <;> simp at ho <;> omega
theorem good_o {x y X Y a b c d o0 o1 o2 o3 : Int} (hf : [a, b, c, d].all (inB 4611686018427387904) = true) (ho : orV x y X Y a b c d = [o0, o1, o2, o3]) : Good o0 o1 o2 o3 a b c d := by
  refine good_of hf fun hn => ?_
  unfold orV at ho
  rw [hn] at ho
  cases h2 : noPts x y X Y <;> rw [h2] at ho <;> simp at ho <;> omega
theorem andV_four (x y X Y a b c d : Int) : ∃ m0 m1 m2 m3, andV x y X Y a b c d = [m0, m1, m2, m3] := by
  unfold andV
  cases noPts (max x a) (max y b) (min X c) (min Y d) <;> exact ⟨_, _, _, _, rfl⟩
theorem andV_comm (x y X Y a b c d : Int) : andV a b c d x y X Y = andV x y X Y a b c d := by
  unfold andV
  rw [Int.max_comm a x, Int.max_comm b y, Int.min_comm c X, Int.min_comm d Y]
theorem orV_comm (x y X Y a b c d : Int) : orV a b c d x y X Y = orV x y X Y a b c d := by
  unfold orV
  rw [Int.min_comm a x, Int.min_comm b y, Int.max_comm c X, Int.max_comm d Y]
  cases noPts x y X Y <;> cases noPts a b c d <;> rfl
theorem touch {n p q : Int} (h : n = p ∨ n = q) (w : World) : Calls Tryd.prog 23 #[.int .i64 n, .int .i64 p, .int .i64 q] w fun e w' => e = .returned (.bool true) ∧ Below w.heap.size w w' := by
  refine (touches_any n p q w).mono ?_
  rintro e w' ⟨rfl, rfl⟩
  refine ⟨?_, Below.refl _ _⟩
  rcases h with rfl | rfl <;> simp
/-- The law's variables behind its loop. -/
def RU (w : World) (r o p an oo : List Int) (b11 b13 : Nat) : Type := { W : World // RS w r o p an oo b11 b13 W }
theorem RU.calls {w : World} {r o p an oo : List Int} {b11 b13 : Nat} {f : FuncId} {args : Array Value} {v : Value} (h : ∀ w, Calls Tryd.prog f args w fun e w' => e = .returned v ∧ Below w.heap.size w w') (z : RU w r o p an oo b11 b13) :
    Calls Tryd.prog f args z.1 fun e' w' => e' = .returned v ∧ ∃ z' : RU w r o p an oo b11 b13, w' = z'.1 :=
  (h z.1).mono fun _ w' ⟨h1, h2⟩ => ⟨h1, ⟨w', z.2.later h2⟩, rfl⟩
theorem orV_four (x y X Y a b c d : Int) : ∃ o0 o1 o2 o3, orV x y X Y a b c d = [o0, o1, o2, o3] := by
  unfold orV
  cases noPts x y X Y <;> cases noPts a b c d <;> exact ⟨_, _, _, _, rfl⟩
set_option maxRecDepth 100000 in
set_option maxHeartbeats 40000000 in
theorem grects_in (x y X Y a b c d u v : Int) (w : World) (h : Tab16 w) (hf1 : [x, y, X, Y].all (inB 4611686018427387904) = true) (hf2 : [a, b, c, d].all (inB 4611686018427387904) = true) :
    Calls Tryd.prog 4 #[.agg #[.int .i64 x, .int .i64 y, .int .i64 X, .int .i64 Y], .agg #[.int .i64 a, .int .i64 b, .int .i64 c, .int .i64 d], .agg #[.int .i64 u, .int .i64 v]] w fun e w' => e = .returned (.bool true) ∧ Below w.heap.size w w' := by
  obtain ⟨W0, hW0, hh0⟩ := rs_start w x y X Y a b c d u v 34 23
  have H0 := Lib.hid hh0
  have HW := Lib.hid hW0
  have HT := Lib.hid h
  have HF1 := Lib.hid (fun w => fits_any x y X Y w)
  have HF2 := Lib.hid (fun w => fits_any a b c d w)
  rw [hf1] at HF1
  rw [hf2] at HF2
  have HI1 := Lib.hid hf1
  have HI2 := Lib.hid hf2
  clear hh0 hW0 h hf1 hf2
  go_enter Tryd.func4, Tryd.ntmps4
  go_wp2_with fail
  rw [HW.out]
  refine (lives4_any _ (HT.out.later H0.out.bel HT.out.lt)).mono ?_
  rintro e w1 ⟨rfl, hb⟩
  have HH1 := Lib.hid (H0.out.later hb)
  clear hb H0 HW W0
  obtain ⟨c0, c1, c2, c3, _⟩ := HH1.out.r.four
  go_wp2_with fail
  refine (HF1.out _).mono ?_
  rintro e w2 ⟨rfl, hb⟩
  have HH2 := Lib.hid (HH1.out.later hb)
  clear hb HH1 c0 c1 c2 c3
  obtain ⟨d0, d1, d2, d3, _⟩ := HH2.out.o.four
  go_wp2_with fail
  refine (HF2.out _).mono ?_
  rintro e w3 ⟨rfl, hb⟩
  have HH3 := Lib.hid (HH2.out.later hb)
  clear hb HH2 d0 d1 d2 d3 HF1 HF2
  obtain ⟨c0, c1, c2, c3, _⟩ := HH3.out.r.four
  obtain ⟨d0, d1, d2, d3, _⟩ := HH3.out.o.four
  go_wp2_with fail
  refine (line_any x X a c _).mono ?_
  rintro e w' ⟨rfl, rfl⟩
  go_wp2_with fail
  refine (line_any y Y b d _).mono ?_
  rintro e w' ⟨rfl, rfl⟩
  go_upto_region 6 with fail
  have HH4 : Hid (RS0 w [x, y, X, Y] [a, b, c, d] [u, v] (w3.alloc (.cells #[.int .i64 0, .int .i64 0, .int .i64 0, .int .i64 0] 34))) := HH3.out.later (bel1 _ _)
  have HA4 : Hid (Nums (w3.alloc (.cells #[.int .i64 0, .int .i64 0, .int .i64 0, .int .i64 0] 34)) w3.heap.size [0, 0, 0, 0]) := rc_new w3 0 0 0 0 _
  have hw3 : w.heap.size + 1 + 1 < w3.heap.size := HH3.out.p.1
  clear c0 c1 c2 c3 d0 d1 d2 d3 HH3
  generalize (w3.alloc (.cells #[.int .i64 0, .int .i64 0, .int .i64 0, .int .i64 0] 34)) = w4 at HH4 HA4 ⊢
  generalize w3.heap.size = b11 at hw3 HA4 ⊢
  go_cut [71] from 64 to 71 (fun q wx => q = .bool (!noPts (max x a) (max y b) (min X c) (min Y d)) ∧ wx = w4)
  case first =>
    -- DONE {
    by_cases h1 : max x a < min X c
    · go_wp2
      go_meet
      exact ⟨by unfold noPts; rw [decide_eq_false (by omega : ¬ min X c ≤ max x a), Bool.false_or]; exact congrArg Value.bool (lt_le (max y b) (min Y d)), rfl⟩
    · have hd : decide (max x a < min X c) = false := decide_eq_false h1
      go_wp2
      go_meet
      exact ⟨by unfold noPts; rw [decide_eq_true (by omega : min X c ≤ max x a)]; simp, rfl⟩
    -- }
  case rest =>
  obtain ⟨rfl, rfl⟩ := hcut
  go_upto_if 71 with fail
  go_cut [] from 71 to 78 (fun wx => RS0 w [x, y, X, Y] [a, b, c, d] [u, v] wx ∧ Nums wx b11 (andV x y X Y a b c d))
  case first =>
    -- DONE {
    obtain ⟨r0, r1, r2, r3, f0, f1, f2, f3⟩ := HA4.out.four
    rcases andV_cases x y X Y a b c d with ⟨h1, h2, _⟩ | ⟨h1, h2, _⟩
    · have HE := Lib.hid h2
      rw [h1, Bool.not_true]
      clear h2
      go_wp2
      go_meet
      exact ⟨HH4.out, by rw [HE.out]; exact HA4.out⟩
    · have HE := Lib.hid h2
      rw [h1, Bool.not_false]
      clear h2
      go_wp2
      go_meet
      obtain ⟨W', hW', hbw, hn⟩ := put_four HA4.out HH4.out.bel (by omega) (max x a) (max y b) (min X c) (min Y d)
      refine ⟨(((HH4.out.other hw3).other hw3).other hw3).other hw3, ?_⟩
      rw [HE.out, hW']
      exact hn
    -- }
  case rest =>
  obtain ⟨hr, ha⟩ := hcut
  have HH5 := Lib.hid hr
  have HA5 := Lib.hid ha
  clear hr ha
  obtain ⟨c0, c1, c2, c3, _⟩ := HH5.out.r.four
  obtain ⟨d0, d1, d2, d3, _⟩ := HH5.out.o.four
  go_wp2_with fail
  refine (or_any x y X Y a b c d _).mono ?_
  rintro e w6 ⟨rfl, hb⟩
  have HH6 := Lib.hid (HH5.out.later hb)
  have HA6 := Lib.hid (HA5.out.later hb)
  clear hb HH5 HA5 HH4 HA4 c0 c1 c2 c3 d0 d1 d2 d3
  obtain ⟨o0, o1, o2, o3, ho⟩ := orV_four x y X Y a b c d
  have HO := Lib.hid ho
  rw [show valOf (orV x y X Y a b c d) = .agg #[.int .i64 o0, .int .i64 o1, .int .i64 o2, .int .i64 o3] by rw [ho]; rfl]
  clear ho
  have hbl := bel1 w6 (.cells #[.int .i64 o0, .int .i64 o1, .int .i64 o2, .int .i64 o3] 34)
  have HH7 : Hid (RS w [x, y, X, Y] [a, b, c, d] [u, v] (andV x y X Y a b c d) [o0, o1, o2, o3] b11 w6.heap.size (w6.alloc (.cells #[.int .i64 o0, .int .i64 o1, .int .i64 o2, .int .i64 o3] 34))) :=
    let h := HH6.out.later hbl
    ⟨h.bel, h.r, h.o, h.p, HA6.out.later hbl, rc_new w6 o0 o1 o2 o3 _, by omega, HH6.out.bel.size⟩
  clear hbl
  obtain ⟨c0, c1, c2, c3, _⟩ := HH6.out.r.four
  obtain ⟨d0, d1, d2, d3, _⟩ := HH6.out.o.four
  have hlr := HH6.out.r.1
  have hlo := HH6.out.o.1
  have HS7 : Hid (Nums ((w6.alloc (.cells #[.int .i64 o0, .int .i64 o1, .int .i64 o2, .int .i64 o3] 34)).alloc (.cells #[.int .i64 x, .int .i64 y, .int .i64 X, .int .i64 Y, .int .i64 a, .int .i64 b, .int .i64 c, .int .i64 d] 34)) (w6.heap.size + 1) [x, y, X, Y, a, b, c, d]) := by
    have := nums_new (w6.alloc (.cells #[.int .i64 o0, .int .i64 o1, .int .i64 o2, .int .i64 o3] 34)) [x, y, X, Y, a, b, c, d] 34
    rw [World.size_alloc] at this
    exact this
  have HH8 := Lib.hid (HH7.out.later (bel1 _ (.cells #[.int .i64 x, .int .i64 y, .int .i64 X, .int .i64 Y, .int .i64 a, .int .i64 b, .int .i64 c, .int .i64 d] 34)))
  go_wp2_with fail
  clear c0 c1 c2 c3 d0 d1 d2 d3 HH6 HH7 HA6
  generalize hsb : w6.heap.size + 1 = sb at HS7 ⊢
  generalize (w6.alloc (.cells #[.int .i64 o0, .int .i64 o1, .int .i64 o2, .int .i64 o3] 34)).alloc (.cells #[.int .i64 x, .int .i64 y, .int .i64 X, .int .i64 Y, .int .i64 a, .int .i64 b, .int .i64 c, .int .i64 d] 34) = w8 at HH8 HS7 ⊢
  generalize w6.heap.size = b13 at HH8 ⊢
  generalize hAN : andV x y X Y a b c d = AN at HH8
  have HAN := Lib.hid hAN
  clear hAN
  clear hsb hlr hlo
  go_loopg [86] 2 (fun k i wr => ∃ j : Nat, k = 2 - j ∧ j ≤ 2 ∧ i = .int .i64 (j : Int) ∧ RS w [x, y, X, Y] [a, b, c, d] [u, v] AN [o0, o1, o2, o3] b11 b13 wr ∧ Nums wr sb [x, y, X, Y, a, b, c, d])
  case atStart => exact ⟨0, by omega, by omega, rfl, HH8.out, HS7.out⟩
  case round =>
    obtain ⟨j, hk, hj, rfl, hrs, hns⟩ := hrel
    have HK := Lib.hid hk
    have HR := Lib.hid hrs
    have HN := Lib.hid hns
    clear hk hrs hns HH8 HS7
    by_cases hlt : j < 2
    · go_upto_region 12 with fail
      go_cut [15] from 87 to 89 (fun s wx => ∃ b15 p q P Q, s = .pointer (some ⟨b15, 0, none⟩) ∧ Good o0 o1 o2 o3 p q P Q ∧ RS w [x, y, X, Y] [a, b, c, d] [u, v] AN [o0, o1, o2, o3] b11 b13 wx ∧ Nums wx sb [x, y, X, Y, a, b, c, d] ∧ Nums wx b15 [p, q, P, Q])
      case first =>
        -- DONE {
        have hz : ∀ i z, [x, y, X, Y, a, b, c, d][i]? = some z → wr.cell? ⟨sb, i, none⟩ = some (.int .i64 z) := fun i z h => (HN.out.2 i z h).1
        obtain rfl | rfl : j = 0 ∨ j = 1 := by omega
        · have e0 := hz 0 x rfl
          have e1 := hz 1 y rfl
          have e2 := hz 2 X rfl
          have e3 := hz 3 Y rfl
          clear hz
          go_wp2_with fail
          go_meet
          exact ⟨wr.heap.size, x, y, X, Y, rfl, good_r HI1.out HO.out, HR.out.later (bel1 _ _), HN.out.later (bel1 _ _), rc_new wr x y X Y _⟩
        · have e0 := hz 4 a rfl
          have e1 := hz 5 b rfl
          have e2 := hz 6 c rfl
          have e3 := hz 7 d rfl
          clear hz
          go_wp2_with fail
          go_meet
          exact ⟨wr.heap.size, a, b, c, d, rfl, good_o HI2.out HO.out, HR.out.later (bel1 _ _), HN.out.later (bel1 _ _), rc_new wr a b c d _⟩
        -- }
      case rest =>
      obtain ⟨b15, p, q, P, Q, rfl, hg, hrs, hns, hn15⟩ := hcut
      have HG := Lib.hid hg
      have HR1 := Lib.hid hrs
      have HN1 := Lib.hid hns
      have HE1 := Lib.hid hn15
      clear hg hrs hns hn15 HR HN
      go_upto_region 13 with fail
      go_cut [117] from 90 to 116 (fun s wx => s = .bool false ∧ RS w [x, y, X, Y] [a, b, c, d] [u, v] AN [o0, o1, o2, o3] b11 b13 wx ∧ Nums wx sb [x, y, X, Y, a, b, c, d] ∧ Nums wx b15 [p, q, P, Q])
      case first =>
        -- DONE {
        have HC : Hid (∀ (f : FuncId) (args : Array Value) (r : Value), (∀ w, Calls Tryd.prog f args w fun e w' => e = .returned r ∧ Below w.heap.size w w') → ∀ z : RT w [x, y, X, Y] [a, b, c, d] [u, v] AN [o0, o1, o2, o3] b11 b13 sb [x, y, X, Y, a, b, c, d] b15 [p, q, P, Q], Calls Tryd.prog f args z.1 fun e w' => e = .returned r ∧ ∃ z' : RT w [x, y, X, Y] [a, b, c, d] [u, v] AN [o0, o1, o2, o3] b11 b13 sb [x, y, X, Y, a, b, c, d] b15 [p, q, P, Q], w' = z'.1) := fun f args r h z => RT.calls h z
        have hne : Nonempty (RT w [x, y, X, Y] [a, b, c, d] [u, v] AN [o0, o1, o2, o3] b11 b13 sb [x, y, X, Y, a, b, c, d] b15 [p, q, P, Q]) := ⟨⟨wc, HR1.out, HN1.out, HE1.out⟩⟩
        have HX : Hid (RS w [x, y, X, Y] [a, b, c, d] [u, v] AN [o0, o1, o2, o3] b11 b13 wc.drew ∧ Nums wc.drew sb [x, y, X, Y, a, b, c, d] ∧ Nums wc.drew b15 [p, q, P, Q]) := ⟨HR1.out.drewN 1, HN1.out, HE1.out⟩
        have g0 : ∀ z : RT w [x, y, X, Y] [a, b, c, d] [u, v] AN [o0, o1, o2, o3] b11 b13 sb [x, y, X, Y, a, b, c, d] b15 [p, q, P, Q], z.1.cell? ⟨b15, 0, none⟩ = some (.int .i64 p) := fun z => z.2.2.2.four.1
        have g1 : ∀ z : RT w [x, y, X, Y] [a, b, c, d] [u, v] AN [o0, o1, o2, o3] b11 b13 sb [x, y, X, Y, a, b, c, d] b15 [p, q, P, Q], z.1.cell? ⟨b15, 1, none⟩ = some (.int .i64 q) := fun z => z.2.2.2.four.2.1
        have g2 : ∀ z : RT w [x, y, X, Y] [a, b, c, d] [u, v] AN [o0, o1, o2, o3] b11 b13 sb [x, y, X, Y, a, b, c, d] b15 [p, q, P, Q], z.1.cell? ⟨b15, 2, none⟩ = some (.int .i64 P) := fun z => z.2.2.2.four.2.2.1
        have g3 : ∀ z : RT w [x, y, X, Y] [a, b, c, d] [u, v] AN [o0, o1, o2, o3] b11 b13 sb [x, y, X, Y, a, b, c, d] b15 [p, q, P, Q], z.1.cell? ⟨b15, 3, none⟩ = some (.int .i64 Q) := fun z => z.2.2.2.four.2.2.2.1
        have HNR := Lib.hid (fun w => near_any p q P Q w)
        cases hnr : [p, q, P, Q].all (inB 2305843009213693952) with
        | false =>
          rw [hnr] at HNR
          clear hnr
          refine region_cls (fun w' => ∃ z : RT w [x, y, X, Y] [a, b, c, d] [u, v] AN [o0, o1, o2, o3] b11 b13 sb [x, y, X, Y, a, b, c, d] b15 [p, q, P, Q], w' = z.1) (by kernel_rfl) (by kernel_rfl) ⟨⟨_, HX.out⟩, rfl⟩ ?_
          repeat (go_big_quiet_step ((go_at_call 16; exact HC.out _ _ _ HNR.out _)))
          refine wpQuiet_nil ?_
          rintro w2 ⟨⟨W2, hW2⟩, rfl⟩
          go_wp2_with fail
          go_meet
          exact ⟨rfl, hW2⟩
        | true =>
          as_aux_lemma =>
          rw [hnr] at HNR
          obtain ⟨⟨k0, k1⟩, ⟨k2, k3⟩, ⟨k4, k5⟩, ⟨k6, k7⟩⟩ := four_in hnr
          clear hnr
          have HWD := Lib.hid (fun w => wide_any p q P Q k0 k1 k4 k5 w)
          have HHG := Lib.hid (fun w => high_any p q P Q k2 k3 k6 k7 w)
          have hi1 : (if P - p < 0 then 0 else P - p) = max 0 (P - p) := by omega
          have hi2 : (if Q - q < 0 then 0 else Q - q) = max 0 (Q - q) := by omega
          have hm1 : (max 0 (P - p) != max 0 (P - p)) = false := by simp
          have hm2 : (max 0 (Q - q) != max 0 (Q - q)) = false := by simp
          refine region_cls (fun w' => ∃ z : RT w [x, y, X, Y] [a, b, c, d] [u, v] AN [o0, o1, o2, o3] b11 b13 sb [x, y, X, Y, a, b, c, d] b15 [p, q, P, Q], w' = z.1) (by kernel_rfl) (by kernel_rfl) ⟨⟨_, HX.out⟩, rfl⟩ ?_
          repeat (go_big_quiet_step ((first | (go_at_call 16; exact HC.out _ _ _ HNR.out _) | (go_at_call 17; exact HC.out _ _ _ HWD.out _) | (go_at_call 18; exact HC.out _ _ _ HHG.out _))))
          refine wpQuiet_nil ?_
          rintro w2 ⟨⟨W2, hW2⟩, rfl⟩
          go_wp2_with fail
          go_meet
          exact ⟨rfl, hW2⟩
        -- }
      case rest =>
      obtain ⟨rfl, hrs, hns, hn15⟩ := hcut
      have HR2 := Lib.hid hrs
      have HN2 := Lib.hid hns
      have HE2 := Lib.hid hn15
      clear hrs hns hn15 HR1 HN1 HE1
      go_upto_region 15 with fail
      go_cut [159] from 118 to 158 (fun s wx => s = .bool false ∧ RS w [x, y, X, Y] [a, b, c, d] [u, v] AN [o0, o1, o2, o3] b11 b13 wx ∧ Nums wx sb [x, y, X, Y, a, b, c, d] ∧ Nums wx b15 [p, q, P, Q])
      case first =>
        -- DONE {
        have HC : Hid (∀ (f : FuncId) (args : Array Value) (r : Value), (∀ w, Calls Tryd.prog f args w fun e w' => e = .returned r ∧ Below w.heap.size w w') → ∀ z : RT w [x, y, X, Y] [a, b, c, d] [u, v] AN [o0, o1, o2, o3] b11 b13 sb [x, y, X, Y, a, b, c, d] b15 [p, q, P, Q], Calls Tryd.prog f args z.1 fun e w' => e = .returned r ∧ ∃ z' : RT w [x, y, X, Y] [a, b, c, d] [u, v] AN [o0, o1, o2, o3] b11 b13 sb [x, y, X, Y, a, b, c, d] b15 [p, q, P, Q], w' = z'.1) := fun f args r h z => RT.calls h z
        have hne : Nonempty (RT w [x, y, X, Y] [a, b, c, d] [u, v] AN [o0, o1, o2, o3] b11 b13 sb [x, y, X, Y, a, b, c, d] b15 [p, q, P, Q]) := ⟨⟨wc, HR2.out, HN2.out, HE2.out⟩⟩
        have HX : Hid (RS w [x, y, X, Y] [a, b, c, d] [u, v] AN [o0, o1, o2, o3] b11 b13 wc.drew ∧ Nums wc.drew sb [x, y, X, Y, a, b, c, d] ∧ Nums wc.drew b15 [p, q, P, Q]) := ⟨HR2.out.drewN 1, HN2.out, HE2.out⟩
        have g0 : ∀ z : RT w [x, y, X, Y] [a, b, c, d] [u, v] AN [o0, o1, o2, o3] b11 b13 sb [x, y, X, Y, a, b, c, d] b15 [p, q, P, Q], z.1.cell? ⟨b15, 0, none⟩ = some (.int .i64 p) := fun z => z.2.2.2.four.1
        have g1 : ∀ z : RT w [x, y, X, Y] [a, b, c, d] [u, v] AN [o0, o1, o2, o3] b11 b13 sb [x, y, X, Y, a, b, c, d] b15 [p, q, P, Q], z.1.cell? ⟨b15, 1, none⟩ = some (.int .i64 q) := fun z => z.2.2.2.four.2.1
        have g2 : ∀ z : RT w [x, y, X, Y] [a, b, c, d] [u, v] AN [o0, o1, o2, o3] b11 b13 sb [x, y, X, Y, a, b, c, d] b15 [p, q, P, Q], z.1.cell? ⟨b15, 2, none⟩ = some (.int .i64 P) := fun z => z.2.2.2.four.2.2.1
        have g3 : ∀ z : RT w [x, y, X, Y] [a, b, c, d] [u, v] AN [o0, o1, o2, o3] b11 b13 sb [x, y, X, Y, a, b, c, d] b15 [p, q, P, Q], z.1.cell? ⟨b15, 3, none⟩ = some (.int .i64 Q) := fun z => z.2.2.2.four.2.2.2.1
        have g4 : ∀ z : RT w [x, y, X, Y] [a, b, c, d] [u, v] AN [o0, o1, o2, o3] b11 b13 sb [x, y, X, Y, a, b, c, d] b15 [p, q, P, Q], z.1.cell? ⟨w.heap.size + 1 + 1, 0, none⟩ = some (.int .i64 u) := fun z => z.2.1.p.two.1
        have g5 : ∀ z : RT w [x, y, X, Y] [a, b, c, d] [u, v] AN [o0, o1, o2, o3] b11 b13 sb [x, y, X, Y, a, b, c, d] b15 [p, q, P, Q], z.1.cell? ⟨w.heap.size + 1 + 1, 1, none⟩ = some (.int .i64 v) := fun z => z.2.1.p.two.2.1
        have HEM := Lib.hid (fun w => empty_any p q P Q w)
        have HNO := Lib.hid (fun w => none_any p q P Q w)
        have HHS := Lib.hid (fun w => has_any p q P Q u v w)
        have hnn : (noPts p q P Q != noPts p q P Q) = false := by simp
        generalize noPts p q P Q = n at *
        by_cases h1 : p ≤ u
        · by_cases h2 : u < P
          · by_cases h3 : q ≤ v
            · by_cases h4 : v < Q
              · as_aux_lemma =>
                rw [decide_eq_true h1] at HHS
                rw [decide_eq_true h2] at HHS
                rw [decide_eq_true h3] at HHS
                rw [decide_eq_true h4] at HHS
                simp only [Bool.and_true] at HHS
                refine region_cls (fun w' => ∃ z : RT w [x, y, X, Y] [a, b, c, d] [u, v] AN [o0, o1, o2, o3] b11 b13 sb [x, y, X, Y, a, b, c, d] b15 [p, q, P, Q], w' = z.1) (by kernel_rfl) (by kernel_rfl) ⟨⟨_, HX.out⟩, rfl⟩ ?_
                repeat (go_big_quiet_step ((first | (go_at_call 19; exact HC.out _ _ _ HEM.out _) | (go_at_call 14; exact HC.out _ _ _ HNO.out _) | (go_at_call 20; exact HC.out _ _ _ HHS.out _))))
                refine wpQuiet_nil ?_
                rintro w2 ⟨⟨W2, hW2⟩, rfl⟩
                go_wp2_with fail
                go_meet
                exact ⟨rfl, hW2⟩
              · as_aux_lemma =>
                rw [decide_eq_true h1] at HHS
                rw [decide_eq_true h2] at HHS
                rw [decide_eq_true h3] at HHS
                rw [decide_eq_false h4] at HHS
                simp only [Bool.and_true, Bool.and_false] at HHS
                have hd : decide (v < Q) = false := decide_eq_false h4
                refine region_cls (fun w' => ∃ z : RT w [x, y, X, Y] [a, b, c, d] [u, v] AN [o0, o1, o2, o3] b11 b13 sb [x, y, X, Y, a, b, c, d] b15 [p, q, P, Q], w' = z.1) (by kernel_rfl) (by kernel_rfl) ⟨⟨_, HX.out⟩, rfl⟩ ?_
                repeat (go_big_quiet_step ((first | (go_at_call 19; exact HC.out _ _ _ HEM.out _) | (go_at_call 14; exact HC.out _ _ _ HNO.out _) | (go_at_call 20; exact HC.out _ _ _ HHS.out _))))
                refine wpQuiet_nil ?_
                rintro w2 ⟨⟨W2, hW2⟩, rfl⟩
                go_wp2_with fail
                go_meet
                exact ⟨rfl, hW2⟩
            · as_aux_lemma =>
              rw [decide_eq_true h1] at HHS
              rw [decide_eq_true h2] at HHS
              rw [decide_eq_false h3] at HHS
              simp only [Bool.and_true, Bool.and_false, Bool.false_and] at HHS
              have hd : decide (q ≤ v) = false := decide_eq_false h3
              refine region_cls (fun w' => ∃ z : RT w [x, y, X, Y] [a, b, c, d] [u, v] AN [o0, o1, o2, o3] b11 b13 sb [x, y, X, Y, a, b, c, d] b15 [p, q, P, Q], w' = z.1) (by kernel_rfl) (by kernel_rfl) ⟨⟨_, HX.out⟩, rfl⟩ ?_
              repeat (go_big_quiet_step ((first | (go_at_call 19; exact HC.out _ _ _ HEM.out _) | (go_at_call 14; exact HC.out _ _ _ HNO.out _) | (go_at_call 20; exact HC.out _ _ _ HHS.out _))))
              refine wpQuiet_nil ?_
              rintro w2 ⟨⟨W2, hW2⟩, rfl⟩
              go_wp2_with fail
              go_meet
              exact ⟨rfl, hW2⟩
          · as_aux_lemma =>
            rw [decide_eq_true h1] at HHS
            rw [decide_eq_false h2] at HHS
            simp only [Bool.and_false, Bool.false_and] at HHS
            have hd : decide (u < P) = false := decide_eq_false h2
            refine region_cls (fun w' => ∃ z : RT w [x, y, X, Y] [a, b, c, d] [u, v] AN [o0, o1, o2, o3] b11 b13 sb [x, y, X, Y, a, b, c, d] b15 [p, q, P, Q], w' = z.1) (by kernel_rfl) (by kernel_rfl) ⟨⟨_, HX.out⟩, rfl⟩ ?_
            repeat (go_big_quiet_step ((first | (go_at_call 19; exact HC.out _ _ _ HEM.out _) | (go_at_call 14; exact HC.out _ _ _ HNO.out _) | (go_at_call 20; exact HC.out _ _ _ HHS.out _))))
            refine wpQuiet_nil ?_
            rintro w2 ⟨⟨W2, hW2⟩, rfl⟩
            go_wp2_with fail
            go_meet
            exact ⟨rfl, hW2⟩
        · as_aux_lemma =>
          rw [decide_eq_false h1] at HHS
          simp only [Bool.false_and] at HHS
          have hd : decide (p ≤ u) = false := decide_eq_false h1
          refine region_cls (fun w' => ∃ z : RT w [x, y, X, Y] [a, b, c, d] [u, v] AN [o0, o1, o2, o3] b11 b13 sb [x, y, X, Y, a, b, c, d] b15 [p, q, P, Q], w' = z.1) (by kernel_rfl) (by kernel_rfl) ⟨⟨_, HX.out⟩, rfl⟩ ?_
          repeat (go_big_quiet_step ((first | (go_at_call 19; exact HC.out _ _ _ HEM.out _) | (go_at_call 14; exact HC.out _ _ _ HNO.out _) | (go_at_call 20; exact HC.out _ _ _ HHS.out _))))
          refine wpQuiet_nil ?_
          rintro w2 ⟨⟨W2, hW2⟩, rfl⟩
          go_wp2_with fail
          go_meet
          exact ⟨rfl, hW2⟩
        -- }
      case rest =>
      obtain ⟨rfl, hrs, hns, hn15⟩ := hcut
      have HR3 := Lib.hid hrs
      have HN3 := Lib.hid hns
      have HE3 := Lib.hid hn15
      clear hrs hns hn15 HR2 HN2 HE2
      go_upto_region 17 with fail
      go_cut [170] from 160 to 169 (fun s wx => s = .bool false ∧ RS w [x, y, X, Y] [a, b, c, d] [u, v] AN [o0, o1, o2, o3] b11 b13 wx ∧ Nums wx sb [x, y, X, Y, a, b, c, d] ∧ Nums wx b15 [p, q, P, Q])
      case first =>
        -- DONE {
        have HC : Hid (∀ (f : FuncId) (args : Array Value) (r : Value), (∀ w, Calls Tryd.prog f args w fun e w' => e = .returned r ∧ Below w.heap.size w w') → ∀ z : RT w [x, y, X, Y] [a, b, c, d] [u, v] AN [o0, o1, o2, o3] b11 b13 sb [x, y, X, Y, a, b, c, d] b15 [p, q, P, Q], Calls Tryd.prog f args z.1 fun e w' => e = .returned r ∧ ∃ z' : RT w [x, y, X, Y] [a, b, c, d] [u, v] AN [o0, o1, o2, o3] b11 b13 sb [x, y, X, Y, a, b, c, d] b15 [p, q, P, Q], w' = z'.1) := fun f args r h z => RT.calls h z
        have hne : Nonempty (RT w [x, y, X, Y] [a, b, c, d] [u, v] AN [o0, o1, o2, o3] b11 b13 sb [x, y, X, Y, a, b, c, d] b15 [p, q, P, Q]) := ⟨⟨wc, HR3.out, HN3.out, HE3.out⟩⟩
        have HX : Hid (RS w [x, y, X, Y] [a, b, c, d] [u, v] AN [o0, o1, o2, o3] b11 b13 wc.drew ∧ Nums wc.drew sb [x, y, X, Y, a, b, c, d] ∧ Nums wc.drew b15 [p, q, P, Q]) := ⟨HR3.out.drewN 1, HN3.out, HE3.out⟩
        have g0 : ∀ z : RT w [x, y, X, Y] [a, b, c, d] [u, v] AN [o0, o1, o2, o3] b11 b13 sb [x, y, X, Y, a, b, c, d] b15 [p, q, P, Q], z.1.cell? ⟨b15, 0, none⟩ = some (.int .i64 p) := fun z => z.2.2.2.four.1
        have g1 : ∀ z : RT w [x, y, X, Y] [a, b, c, d] [u, v] AN [o0, o1, o2, o3] b11 b13 sb [x, y, X, Y, a, b, c, d] b15 [p, q, P, Q], z.1.cell? ⟨b15, 1, none⟩ = some (.int .i64 q) := fun z => z.2.2.2.four.2.1
        have g2 : ∀ z : RT w [x, y, X, Y] [a, b, c, d] [u, v] AN [o0, o1, o2, o3] b11 b13 sb [x, y, X, Y, a, b, c, d] b15 [p, q, P, Q], z.1.cell? ⟨b15, 2, none⟩ = some (.int .i64 P) := fun z => z.2.2.2.four.2.2.1
        have g3 : ∀ z : RT w [x, y, X, Y] [a, b, c, d] [u, v] AN [o0, o1, o2, o3] b11 b13 sb [x, y, X, Y, a, b, c, d] b15 [p, q, P, Q], z.1.cell? ⟨b15, 3, none⟩ = some (.int .i64 Q) := fun z => z.2.2.2.four.2.2.2.1
        have g4 : ∀ z : RT w [x, y, X, Y] [a, b, c, d] [u, v] AN [o0, o1, o2, o3] b11 b13 sb [x, y, X, Y, a, b, c, d] b15 [p, q, P, Q], z.1.cell? ⟨b13, 0, none⟩ = some (.int .i64 o0) := fun z => z.2.1.oo.four.1
        have g5 : ∀ z : RT w [x, y, X, Y] [a, b, c, d] [u, v] AN [o0, o1, o2, o3] b11 b13 sb [x, y, X, Y, a, b, c, d] b15 [p, q, P, Q], z.1.cell? ⟨b13, 1, none⟩ = some (.int .i64 o1) := fun z => z.2.1.oo.four.2.1
        have g6 : ∀ z : RT w [x, y, X, Y] [a, b, c, d] [u, v] AN [o0, o1, o2, o3] b11 b13 sb [x, y, X, Y, a, b, c, d] b15 [p, q, P, Q], z.1.cell? ⟨b13, 2, none⟩ = some (.int .i64 o2) := fun z => z.2.1.oo.four.2.2.1
        have g7 : ∀ z : RT w [x, y, X, Y] [a, b, c, d] [u, v] AN [o0, o1, o2, o3] b11 b13 sb [x, y, X, Y, a, b, c, d] b15 [p, q, P, Q], z.1.cell? ⟨b13, 3, none⟩ = some (.int .i64 o3) := fun z => z.2.1.oo.four.2.2.2.1
        have HNO := Lib.hid (fun w => none_any p q P Q w)
        have HAN := Lib.hid (fun w => and_any o0 o1 o2 o3 p q P Q w)
        have HGG := Lib.hid HG.out.2
        cases hn : noPts p q P Q with
        | true =>
          rw [hn] at HNO
          clear hn HGG HAN
          refine region_cls (fun w' => ∃ z : RT w [x, y, X, Y] [a, b, c, d] [u, v] AN [o0, o1, o2, o3] b11 b13 sb [x, y, X, Y, a, b, c, d] b15 [p, q, P, Q], w' = z.1) (by kernel_rfl) (by kernel_rfl) ⟨⟨_, HX.out⟩, rfl⟩ ?_
          repeat (go_big_quiet_step ((go_at_call 14; exact HC.out _ _ _ HNO.out _)))
          refine wpQuiet_nil ?_
          rintro w2 ⟨⟨W2, hW2⟩, rfl⟩
          go_wp2_with fail
          go_meet
          exact ⟨rfl, hW2⟩
        | false =>
          rw [hn] at HNO
          rw [HGG.out hn, show valOf [p, q, P, Q] = .agg #[.int .i64 p, .int .i64 q, .int .i64 P, .int .i64 Q] from rfl] at HAN
          clear hn HGG
          refine region_cls (fun w' => ∃ z : RT w [x, y, X, Y] [a, b, c, d] [u, v] AN [o0, o1, o2, o3] b11 b13 sb [x, y, X, Y, a, b, c, d] b15 [p, q, P, Q], w' = z.1) (by kernel_rfl) (by kernel_rfl) ⟨⟨_, HX.out⟩, rfl⟩ ?_
          repeat (go_big_quiet_step ((first | (go_at_call 14; exact HC.out _ _ _ HNO.out _) | (go_at_call 21; exact HC.out _ _ _ HAN.out _))))
          refine wpQuiet_nil ?_
          rintro w2 ⟨⟨W2, hW2⟩, rfl⟩
          go_wp2_with fail
          go_meet
          exact ⟨rfl, hW2⟩
        -- }
      case rest =>
      obtain ⟨rfl, hrs, hns, hn15⟩ := hcut
      have HR4 := Lib.hid hrs
      have HN4 := Lib.hid hns
      have HE4 := Lib.hid hn15
      clear hrs hns hn15 HR3 HN3 HE3
      obtain ⟨⟨k0, k1⟩, ⟨k2, k3⟩, ⟨k4, k5⟩, ⟨k6, k7⟩⟩ := four_in HG.out.1
      go_upto_region 19 with fail
      go_cut [16] from 171 to 200 (fun s wx => s = .bool (rightR p q P Q) ∧ RS w [x, y, X, Y] [a, b, c, d] [u, v] AN [o0, o1, o2, o3] b11 b13 wx ∧ Nums wx sb [x, y, X, Y, a, b, c, d] ∧ Nums wx b15 [p, q, P, Q])
      case first =>
        -- DONE {
        obtain ⟨e0, e1, e2, e3, _⟩ := HE4.out.four
        have HNO := Lib.hid (fun w => none_any p q P Q w)
        cases hn : noPts p q P Q with
        | true =>
          have HV : Hid (rightR p q P Q = false) := by show _ = _; unfold rightR; rw [hn]; rfl
          rw [hn] at HNO
          clear hn
          go_wp2_with fail
          refine (HNO.out _).mono ?_
          rintro e w2 ⟨rfl, hb⟩
          have HD : Hid (RS w [x, y, X, Y] [a, b, c, d] [u, v] AN [o0, o1, o2, o3] b11 b13 w2 ∧ Nums w2 sb [x, y, X, Y, a, b, c, d] ∧ Nums w2 b15 [p, q, P, Q]) := ⟨HR4.out.later hb, HN4.out.later hb, HE4.out.later hb⟩
          clear hb
          go_wp2_with fail
          go_meet
          exact ⟨by rw [HV.out], HD.out⟩
        | false =>
          have HV : Hid (rightR p q P Q = ((onP p && onP q) && (onP (P - 1) && onP (Q - 1)))) := by show _ = _; unfold rightR; rw [hn]; rfl
          rw [hn] at HNO
          clear hn
          have HP0 := Lib.hid (fun w => rright_any p w)
          have HP1 := Lib.hid (fun w => rright_any q w)
          have HP2 := Lib.hid (fun w => rright_any (P - 1) w)
          have HP3 := Lib.hid (fun w => rright_any (Q - 1) w)
          generalize onP p = t0 at HV HP0
          generalize onP q = t1 at HV HP1
          generalize onP (P - 1) = t2 at HV HP2
          generalize onP (Q - 1) = t3 at HV HP3
          go_wp2_with fail
          refine (HNO.out _).mono ?_
          rintro e w2 ⟨rfl, hb⟩
          have HD : Hid (RS w [x, y, X, Y] [a, b, c, d] [u, v] AN [o0, o1, o2, o3] b11 b13 w2 ∧ Nums w2 sb [x, y, X, Y, a, b, c, d] ∧ Nums w2 b15 [p, q, P, Q]) := ⟨HR4.out.later hb, HN4.out.later hb, HE4.out.later hb⟩
          clear hb e0 e1 e2 e3
          obtain ⟨e0, e1, e2, e3, _⟩ := HD.out.2.2.four
          go_wp2_with fail
          refine (HP0.out _).mono ?_
          rintro e w' ⟨rfl, rfl⟩
          cases t0 with
          | false =>
            as_aux_lemma =>
            go_wp2_with fail
            go_meet
            exact ⟨by rw [HV.out]; rfl, HD.out⟩
          | true =>
          go_wp2_with fail
          refine (HP1.out _).mono ?_
          rintro e w' ⟨rfl, rfl⟩
          cases t1 with
          | false =>
            as_aux_lemma =>
            go_wp2_with fail
            go_meet
            exact ⟨by rw [HV.out]; rfl, HD.out⟩
          | true =>
          go_wp2_with fail
          refine (HP2.out _).mono ?_
          rintro e w' ⟨rfl, rfl⟩
          cases t2 with
          | false =>
            as_aux_lemma =>
            go_wp2_with fail
            go_meet
            exact ⟨by rw [HV.out]; rfl, HD.out⟩
          | true =>
          go_wp2_with fail
          refine (HP3.out _).mono ?_
          rintro e w' ⟨rfl, rfl⟩
          go_wp2_with fail
          go_meet
          exact ⟨by rw [HV.out]; rfl, HD.out⟩
        -- }
      case rest =>
      obtain ⟨rfl, hrs, hns, hn15⟩ := hcut
      have HR5 := Lib.hid hrs
      have HN5 := Lib.hid hns
      have HE5 := Lib.hid hn15
      clear hrs hns hn15 HR4 HN4 HE4
      have HRR := Lib.hid (fun w => rectRight_any p q P Q (by omega) (by omega) (by omega) (by omega) w)
      obtain ⟨e0, e1, e2, e3, _⟩ := HE5.out.four
      generalize rightR p q P Q = rr at HRR ⊢
      have hrr : (rr != rr) = false := by simp
      go_wp2_with fail
      refine (HRR.out _).mono ?_
      rintro e w2 ⟨rfl, hb⟩
      have HR6 := Lib.hid (HR5.out.later hb)
      have HN6 := Lib.hid (HN5.out.later hb)
      clear hb HR5 HN5 HE5 e0 e1 e2 e3
      go_wp2
      go_roundg (2 - (j + 1))
      case measure => rw [HK.out]; omega
      case rel => exact ⟨j + 1, rfl, by omega, by go_num, HR6.out, HN6.out⟩
    · obtain rfl : j = 2 := by omega
      clear HK hlt hj HN
      obtain ⟨m0, m1, m2, m3, hm⟩ := andV_four x y X Y a b c d
      obtain rfl : AN = [m0, m1, m2, m3] := by rw [← HAN.out, hm]
      clear hm
      obtain ⟨c0, c1, c2, c3, _⟩ := HR.out.r.four
      obtain ⟨d0, d1, d2, d3, _⟩ := HR.out.o.four
      have HN1 := Lib.hid (fun w => none_any x y X Y w)
      have HN2 := Lib.hid (fun w => none_any a b c d w)
      have HA1 := Lib.hid (fun w => and_any x y X Y a b c d w)
      rw [HAN.out, show valOf [m0, m1, m2, m3] = .agg #[.int .i64 m0, .int .i64 m1, .int .i64 m2, .int .i64 m3] from rfl] at HA1
      go_wp2_with fail
      refine (HN1.out _).mono ?_
      rintro e w2 ⟨rfl, hb⟩
      have HR2 := Lib.hid (HR.out.later hb)
      clear hb HR c0 c1 c2 c3 d0 d1 d2 d3
      obtain ⟨d0, d1, d2, d3, _⟩ := HR2.out.o.four
      cases hn1 : noPts x y X Y with
      | true =>
        rw [hn1] at HN1
        cases hn2 : noPts a b c d with
        | true =>
          as_aux_lemma =>
          rw [hn2] at HN2
          obtain ⟨rfl, rfl, rfl, rfl⟩ : 0 = o0 ∧ 0 = o1 ∧ 0 = o2 ∧ 0 = o3 := by have := HO.out; unfold orV at this; rw [hn1, hn2] at this; simpa using this
          clear hn1 hn2 HO HAN
          -- DONE {
          go_wp2_with fail
          have HC : Hid (∀ (f : FuncId) (args : Array Value) (r : Value), (∀ w, Calls Tryd.prog f args w fun e w' => e = .returned r ∧ Below w.heap.size w w') → ∀ z : RU w [x, y, X, Y] [a, b, c, d] [u, v] [m0, m1, m2, m3] [0, 0, 0, 0] b11 b13, Calls Tryd.prog f args z.1 fun e w' => e = .returned r ∧ ∃ z' : RU w [x, y, X, Y] [a, b, c, d] [u, v] [m0, m1, m2, m3] [0, 0, 0, 0] b11 b13, w' = z'.1) := fun f args r h z => RU.calls h z
          have hne : Nonempty (RU w [x, y, X, Y] [a, b, c, d] [u, v] [m0, m1, m2, m3] [0, 0, 0, 0] b11 b13) := ⟨⟨w2, HR2.out⟩⟩
          have g0 : ∀ z : RU w [x, y, X, Y] [a, b, c, d] [u, v] [m0, m1, m2, m3] [0, 0, 0, 0] b11 b13, z.1.cell? ⟨w.heap.size, 0, none⟩ = some (.int .i64 x) := fun z => z.2.r.four.1
          have g1 : ∀ z : RU w [x, y, X, Y] [a, b, c, d] [u, v] [m0, m1, m2, m3] [0, 0, 0, 0] b11 b13, z.1.cell? ⟨w.heap.size, 1, none⟩ = some (.int .i64 y) := fun z => z.2.r.four.2.1
          have g2 : ∀ z : RU w [x, y, X, Y] [a, b, c, d] [u, v] [m0, m1, m2, m3] [0, 0, 0, 0] b11 b13, z.1.cell? ⟨w.heap.size, 2, none⟩ = some (.int .i64 X) := fun z => z.2.r.four.2.2.1
          have g3 : ∀ z : RU w [x, y, X, Y] [a, b, c, d] [u, v] [m0, m1, m2, m3] [0, 0, 0, 0] b11 b13, z.1.cell? ⟨w.heap.size, 3, none⟩ = some (.int .i64 Y) := fun z => z.2.r.four.2.2.2.1
          have g4 : ∀ z : RU w [x, y, X, Y] [a, b, c, d] [u, v] [m0, m1, m2, m3] [0, 0, 0, 0] b11 b13, z.1.cell? ⟨w.heap.size + 1, 0, none⟩ = some (.int .i64 a) := fun z => z.2.o.four.1
          have g5 : ∀ z : RU w [x, y, X, Y] [a, b, c, d] [u, v] [m0, m1, m2, m3] [0, 0, 0, 0] b11 b13, z.1.cell? ⟨w.heap.size + 1, 1, none⟩ = some (.int .i64 b) := fun z => z.2.o.four.2.1
          have g6 : ∀ z : RU w [x, y, X, Y] [a, b, c, d] [u, v] [m0, m1, m2, m3] [0, 0, 0, 0] b11 b13, z.1.cell? ⟨w.heap.size + 1, 2, none⟩ = some (.int .i64 c) := fun z => z.2.o.four.2.2.1
          have g7 : ∀ z : RU w [x, y, X, Y] [a, b, c, d] [u, v] [m0, m1, m2, m3] [0, 0, 0, 0] b11 b13, z.1.cell? ⟨w.heap.size + 1, 3, none⟩ = some (.int .i64 d) := fun z => z.2.o.four.2.2.2.1
          have g8 : ∀ z : RU w [x, y, X, Y] [a, b, c, d] [u, v] [m0, m1, m2, m3] [0, 0, 0, 0] b11 b13, z.1.cell? ⟨b11, 0, none⟩ = some (.int .i64 m0) := fun z => z.2.an.four.1
          have g9 : ∀ z : RU w [x, y, X, Y] [a, b, c, d] [u, v] [m0, m1, m2, m3] [0, 0, 0, 0] b11 b13, z.1.cell? ⟨b11, 1, none⟩ = some (.int .i64 m1) := fun z => z.2.an.four.2.1
          have g10 : ∀ z : RU w [x, y, X, Y] [a, b, c, d] [u, v] [m0, m1, m2, m3] [0, 0, 0, 0] b11 b13, z.1.cell? ⟨b11, 2, none⟩ = some (.int .i64 m2) := fun z => z.2.an.four.2.2.1
          have g11 : ∀ z : RU w [x, y, X, Y] [a, b, c, d] [u, v] [m0, m1, m2, m3] [0, 0, 0, 0] b11 b13, z.1.cell? ⟨b11, 3, none⟩ = some (.int .i64 m3) := fun z => z.2.an.four.2.2.2.1
          have g12 : ∀ z : RU w [x, y, X, Y] [a, b, c, d] [u, v] [m0, m1, m2, m3] [0, 0, 0, 0] b11 b13, z.1.cell? ⟨b13, 0, none⟩ = some (.int .i64 0) := fun z => z.2.oo.four.1
          have g13 : ∀ z : RU w [x, y, X, Y] [a, b, c, d] [u, v] [m0, m1, m2, m3] [0, 0, 0, 0] b11 b13, z.1.cell? ⟨b13, 1, none⟩ = some (.int .i64 0) := fun z => z.2.oo.four.2.1
          have g14 : ∀ z : RU w [x, y, X, Y] [a, b, c, d] [u, v] [m0, m1, m2, m3] [0, 0, 0, 0] b11 b13, z.1.cell? ⟨b13, 2, none⟩ = some (.int .i64 0) := fun z => z.2.oo.four.2.2.1
          have g15 : ∀ z : RU w [x, y, X, Y] [a, b, c, d] [u, v] [m0, m1, m2, m3] [0, 0, 0, 0] b11 b13, z.1.cell? ⟨b13, 3, none⟩ = some (.int .i64 0) := fun z => z.2.oo.four.2.2.2.1
          refine region_cls (fun w' => ∃ z : RU w [x, y, X, Y] [a, b, c, d] [u, v] [m0, m1, m2, m3] [0, 0, 0, 0] b11 b13, w' = z.1) (by kernel_rfl) (by kernel_rfl) ⟨⟨_, HR2.out.drewN 1⟩, rfl⟩ ?_
          repeat (go_big_quiet_step ((first | (go_at_call 21; with_reducible exact HC.out _ _ _ HA1.out _) | (go_at_call 14; with_reducible exact HC.out _ _ _ HN1.out _) | (go_at_call 14; with_reducible exact HC.out _ _ _ HN2.out _))))
          refine wpQuiet_nil ?_
          rintro w9 ⟨⟨W9, hW9⟩, rfl⟩
          go_wp2
          go_ret
          exact ⟨rfl, hW9.bel⟩
          -- }
        | false =>
          as_aux_lemma =>
          rw [hn2] at HN2
          obtain ⟨rfl, rfl, rfl, rfl⟩ : a = o0 ∧ b = o1 ∧ c = o2 ∧ d = o3 := by have := HO.out; unfold orV at this; rw [hn1, hn2] at this; simpa using this
          clear hn1 hn2 HO HAN
          -- DONE {
          go_wp2_with fail
          have HC : Hid (∀ (f : FuncId) (args : Array Value) (r : Value), (∀ w, Calls Tryd.prog f args w fun e w' => e = .returned r ∧ Below w.heap.size w w') → ∀ z : RU w [x, y, X, Y] [a, b, c, d] [u, v] [m0, m1, m2, m3] [a, b, c, d] b11 b13, Calls Tryd.prog f args z.1 fun e w' => e = .returned r ∧ ∃ z' : RU w [x, y, X, Y] [a, b, c, d] [u, v] [m0, m1, m2, m3] [a, b, c, d] b11 b13, w' = z'.1) := fun f args r h z => RU.calls h z
          have hne : Nonempty (RU w [x, y, X, Y] [a, b, c, d] [u, v] [m0, m1, m2, m3] [a, b, c, d] b11 b13) := ⟨⟨w2, HR2.out⟩⟩
          have g0 : ∀ z : RU w [x, y, X, Y] [a, b, c, d] [u, v] [m0, m1, m2, m3] [a, b, c, d] b11 b13, z.1.cell? ⟨w.heap.size, 0, none⟩ = some (.int .i64 x) := fun z => z.2.r.four.1
          have g1 : ∀ z : RU w [x, y, X, Y] [a, b, c, d] [u, v] [m0, m1, m2, m3] [a, b, c, d] b11 b13, z.1.cell? ⟨w.heap.size, 1, none⟩ = some (.int .i64 y) := fun z => z.2.r.four.2.1
          have g2 : ∀ z : RU w [x, y, X, Y] [a, b, c, d] [u, v] [m0, m1, m2, m3] [a, b, c, d] b11 b13, z.1.cell? ⟨w.heap.size, 2, none⟩ = some (.int .i64 X) := fun z => z.2.r.four.2.2.1
          have g3 : ∀ z : RU w [x, y, X, Y] [a, b, c, d] [u, v] [m0, m1, m2, m3] [a, b, c, d] b11 b13, z.1.cell? ⟨w.heap.size, 3, none⟩ = some (.int .i64 Y) := fun z => z.2.r.four.2.2.2.1
          have g4 : ∀ z : RU w [x, y, X, Y] [a, b, c, d] [u, v] [m0, m1, m2, m3] [a, b, c, d] b11 b13, z.1.cell? ⟨w.heap.size + 1, 0, none⟩ = some (.int .i64 a) := fun z => z.2.o.four.1
          have g5 : ∀ z : RU w [x, y, X, Y] [a, b, c, d] [u, v] [m0, m1, m2, m3] [a, b, c, d] b11 b13, z.1.cell? ⟨w.heap.size + 1, 1, none⟩ = some (.int .i64 b) := fun z => z.2.o.four.2.1
          have g6 : ∀ z : RU w [x, y, X, Y] [a, b, c, d] [u, v] [m0, m1, m2, m3] [a, b, c, d] b11 b13, z.1.cell? ⟨w.heap.size + 1, 2, none⟩ = some (.int .i64 c) := fun z => z.2.o.four.2.2.1
          have g7 : ∀ z : RU w [x, y, X, Y] [a, b, c, d] [u, v] [m0, m1, m2, m3] [a, b, c, d] b11 b13, z.1.cell? ⟨w.heap.size + 1, 3, none⟩ = some (.int .i64 d) := fun z => z.2.o.four.2.2.2.1
          have g8 : ∀ z : RU w [x, y, X, Y] [a, b, c, d] [u, v] [m0, m1, m2, m3] [a, b, c, d] b11 b13, z.1.cell? ⟨b11, 0, none⟩ = some (.int .i64 m0) := fun z => z.2.an.four.1
          have g9 : ∀ z : RU w [x, y, X, Y] [a, b, c, d] [u, v] [m0, m1, m2, m3] [a, b, c, d] b11 b13, z.1.cell? ⟨b11, 1, none⟩ = some (.int .i64 m1) := fun z => z.2.an.four.2.1
          have g10 : ∀ z : RU w [x, y, X, Y] [a, b, c, d] [u, v] [m0, m1, m2, m3] [a, b, c, d] b11 b13, z.1.cell? ⟨b11, 2, none⟩ = some (.int .i64 m2) := fun z => z.2.an.four.2.2.1
          have g11 : ∀ z : RU w [x, y, X, Y] [a, b, c, d] [u, v] [m0, m1, m2, m3] [a, b, c, d] b11 b13, z.1.cell? ⟨b11, 3, none⟩ = some (.int .i64 m3) := fun z => z.2.an.four.2.2.2.1
          have g12 : ∀ z : RU w [x, y, X, Y] [a, b, c, d] [u, v] [m0, m1, m2, m3] [a, b, c, d] b11 b13, z.1.cell? ⟨b13, 0, none⟩ = some (.int .i64 a) := fun z => z.2.oo.four.1
          have g13 : ∀ z : RU w [x, y, X, Y] [a, b, c, d] [u, v] [m0, m1, m2, m3] [a, b, c, d] b11 b13, z.1.cell? ⟨b13, 1, none⟩ = some (.int .i64 b) := fun z => z.2.oo.four.2.1
          have g14 : ∀ z : RU w [x, y, X, Y] [a, b, c, d] [u, v] [m0, m1, m2, m3] [a, b, c, d] b11 b13, z.1.cell? ⟨b13, 2, none⟩ = some (.int .i64 c) := fun z => z.2.oo.four.2.2.1
          have g15 : ∀ z : RU w [x, y, X, Y] [a, b, c, d] [u, v] [m0, m1, m2, m3] [a, b, c, d] b11 b13, z.1.cell? ⟨b13, 3, none⟩ = some (.int .i64 d) := fun z => z.2.oo.four.2.2.2.1
          refine region_cls (fun w' => ∃ z : RU w [x, y, X, Y] [a, b, c, d] [u, v] [m0, m1, m2, m3] [a, b, c, d] b11 b13, w' = z.1) (by kernel_rfl) (by kernel_rfl) ⟨⟨_, HR2.out.drewN 1⟩, rfl⟩ ?_
          repeat (go_big_quiet_step ((first | (go_at_call 21; with_reducible exact HC.out _ _ _ HA1.out _) | (go_at_call 14; with_reducible exact HC.out _ _ _ HN1.out _) | (go_at_call 14; with_reducible exact HC.out _ _ _ HN2.out _))))
          refine wpQuiet_nil ?_
          rintro w9 ⟨⟨W9, hW9⟩, rfl⟩
          go_wp2
          go_ret
          exact ⟨rfl, hW9.bel⟩
          -- }
      | false =>
        rw [hn1] at HN1
        go_wp2_with fail
        refine (HN2.out _).mono ?_
        rintro e w3 ⟨rfl, hb⟩
        have HR3 := Lib.hid (HR2.out.later hb)
        clear hb HR2 d0 d1 d2 d3
        cases hn2 : noPts a b c d with
        | true =>
          as_aux_lemma =>
          rw [hn2] at HN2
          obtain ⟨rfl, rfl, rfl, rfl⟩ : x = o0 ∧ y = o1 ∧ X = o2 ∧ Y = o3 := by have := HO.out; unfold orV at this; rw [hn1, hn2] at this; simpa using this
          clear hn1 hn2 HO HAN
          -- DONE {
          go_wp2_with fail
          have HC : Hid (∀ (f : FuncId) (args : Array Value) (r : Value), (∀ w, Calls Tryd.prog f args w fun e w' => e = .returned r ∧ Below w.heap.size w w') → ∀ z : RU w [x, y, X, Y] [a, b, c, d] [u, v] [m0, m1, m2, m3] [x, y, X, Y] b11 b13, Calls Tryd.prog f args z.1 fun e w' => e = .returned r ∧ ∃ z' : RU w [x, y, X, Y] [a, b, c, d] [u, v] [m0, m1, m2, m3] [x, y, X, Y] b11 b13, w' = z'.1) := fun f args r h z => RU.calls h z
          have hne : Nonempty (RU w [x, y, X, Y] [a, b, c, d] [u, v] [m0, m1, m2, m3] [x, y, X, Y] b11 b13) := ⟨⟨w3, HR3.out⟩⟩
          have g0 : ∀ z : RU w [x, y, X, Y] [a, b, c, d] [u, v] [m0, m1, m2, m3] [x, y, X, Y] b11 b13, z.1.cell? ⟨w.heap.size, 0, none⟩ = some (.int .i64 x) := fun z => z.2.r.four.1
          have g1 : ∀ z : RU w [x, y, X, Y] [a, b, c, d] [u, v] [m0, m1, m2, m3] [x, y, X, Y] b11 b13, z.1.cell? ⟨w.heap.size, 1, none⟩ = some (.int .i64 y) := fun z => z.2.r.four.2.1
          have g2 : ∀ z : RU w [x, y, X, Y] [a, b, c, d] [u, v] [m0, m1, m2, m3] [x, y, X, Y] b11 b13, z.1.cell? ⟨w.heap.size, 2, none⟩ = some (.int .i64 X) := fun z => z.2.r.four.2.2.1
          have g3 : ∀ z : RU w [x, y, X, Y] [a, b, c, d] [u, v] [m0, m1, m2, m3] [x, y, X, Y] b11 b13, z.1.cell? ⟨w.heap.size, 3, none⟩ = some (.int .i64 Y) := fun z => z.2.r.four.2.2.2.1
          have g4 : ∀ z : RU w [x, y, X, Y] [a, b, c, d] [u, v] [m0, m1, m2, m3] [x, y, X, Y] b11 b13, z.1.cell? ⟨w.heap.size + 1, 0, none⟩ = some (.int .i64 a) := fun z => z.2.o.four.1
          have g5 : ∀ z : RU w [x, y, X, Y] [a, b, c, d] [u, v] [m0, m1, m2, m3] [x, y, X, Y] b11 b13, z.1.cell? ⟨w.heap.size + 1, 1, none⟩ = some (.int .i64 b) := fun z => z.2.o.four.2.1
          have g6 : ∀ z : RU w [x, y, X, Y] [a, b, c, d] [u, v] [m0, m1, m2, m3] [x, y, X, Y] b11 b13, z.1.cell? ⟨w.heap.size + 1, 2, none⟩ = some (.int .i64 c) := fun z => z.2.o.four.2.2.1
          have g7 : ∀ z : RU w [x, y, X, Y] [a, b, c, d] [u, v] [m0, m1, m2, m3] [x, y, X, Y] b11 b13, z.1.cell? ⟨w.heap.size + 1, 3, none⟩ = some (.int .i64 d) := fun z => z.2.o.four.2.2.2.1
          have g8 : ∀ z : RU w [x, y, X, Y] [a, b, c, d] [u, v] [m0, m1, m2, m3] [x, y, X, Y] b11 b13, z.1.cell? ⟨b11, 0, none⟩ = some (.int .i64 m0) := fun z => z.2.an.four.1
          have g9 : ∀ z : RU w [x, y, X, Y] [a, b, c, d] [u, v] [m0, m1, m2, m3] [x, y, X, Y] b11 b13, z.1.cell? ⟨b11, 1, none⟩ = some (.int .i64 m1) := fun z => z.2.an.four.2.1
          have g10 : ∀ z : RU w [x, y, X, Y] [a, b, c, d] [u, v] [m0, m1, m2, m3] [x, y, X, Y] b11 b13, z.1.cell? ⟨b11, 2, none⟩ = some (.int .i64 m2) := fun z => z.2.an.four.2.2.1
          have g11 : ∀ z : RU w [x, y, X, Y] [a, b, c, d] [u, v] [m0, m1, m2, m3] [x, y, X, Y] b11 b13, z.1.cell? ⟨b11, 3, none⟩ = some (.int .i64 m3) := fun z => z.2.an.four.2.2.2.1
          have g12 : ∀ z : RU w [x, y, X, Y] [a, b, c, d] [u, v] [m0, m1, m2, m3] [x, y, X, Y] b11 b13, z.1.cell? ⟨b13, 0, none⟩ = some (.int .i64 x) := fun z => z.2.oo.four.1
          have g13 : ∀ z : RU w [x, y, X, Y] [a, b, c, d] [u, v] [m0, m1, m2, m3] [x, y, X, Y] b11 b13, z.1.cell? ⟨b13, 1, none⟩ = some (.int .i64 y) := fun z => z.2.oo.four.2.1
          have g14 : ∀ z : RU w [x, y, X, Y] [a, b, c, d] [u, v] [m0, m1, m2, m3] [x, y, X, Y] b11 b13, z.1.cell? ⟨b13, 2, none⟩ = some (.int .i64 X) := fun z => z.2.oo.four.2.2.1
          have g15 : ∀ z : RU w [x, y, X, Y] [a, b, c, d] [u, v] [m0, m1, m2, m3] [x, y, X, Y] b11 b13, z.1.cell? ⟨b13, 3, none⟩ = some (.int .i64 Y) := fun z => z.2.oo.four.2.2.2.1
          refine region_cls (fun w' => ∃ z : RU w [x, y, X, Y] [a, b, c, d] [u, v] [m0, m1, m2, m3] [x, y, X, Y] b11 b13, w' = z.1) (by kernel_rfl) (by kernel_rfl) ⟨⟨_, HR3.out.drewN 1⟩, rfl⟩ ?_
          repeat (go_big_quiet_step ((first | (go_at_call 21; with_reducible exact HC.out _ _ _ HA1.out _) | (go_at_call 14; with_reducible exact HC.out _ _ _ HN1.out _) | (go_at_call 14; with_reducible exact HC.out _ _ _ HN2.out _))))
          refine wpQuiet_nil ?_
          rintro w9 ⟨⟨W9, hW9⟩, rfl⟩
          go_wp2
          go_ret
          exact ⟨rfl, hW9.bel⟩
          -- }
        | false =>
          as_aux_lemma =>
          rw [hn2] at HN2
          obtain ⟨h0, h1, h2, h3⟩ : o0 = min x a ∧ o1 = min y b ∧ o2 = max X c ∧ o3 = max Y d := by have := HO.out; unfold orV at this; rw [hn1, hn2] at this; simpa [eq_comm] using this
          have HA2 := Lib.hid (fun w => and_any a b c d x y X Y w)
          rw [andV_comm, HAN.out, show valOf [m0, m1, m2, m3] = .agg #[.int .i64 m0, .int .i64 m1, .int .i64 m2, .int .i64 m3] from rfl] at HA2
          have HO2 := Lib.hid (fun w => or_any a b c d x y X Y w)
          rw [orV_comm, HO.out, show valOf [o0, o1, o2, o3] = .agg #[.int .i64 o0, .int .i64 o1, .int .i64 o2, .int .i64 o3] from rfl] at HO2
          have HT0 : Hid (∀ w, Calls Tryd.prog 23 #[.int .i64 o0, .int .i64 x, .int .i64 a] w fun e w' => e = .returned (.bool true) ∧ Below w.heap.size w w') := fun w => touch (by omega) w
          have HT1 : Hid (∀ w, Calls Tryd.prog 23 #[.int .i64 o1, .int .i64 y, .int .i64 b] w fun e w' => e = .returned (.bool true) ∧ Below w.heap.size w w') := fun w => touch (by omega) w
          have HT2 : Hid (∀ w, Calls Tryd.prog 23 #[.int .i64 o2, .int .i64 X, .int .i64 c] w fun e w' => e = .returned (.bool true) ∧ Below w.heap.size w w') := fun w => touch (by omega) w
          have HT3 : Hid (∀ w, Calls Tryd.prog 23 #[.int .i64 o3, .int .i64 Y, .int .i64 d] w fun e w' => e = .returned (.bool true) ∧ Below w.heap.size w w') := fun w => touch (by omega) w
          clear hn1 hn2 HO HAN h0 h1 h2 h3
          -- DONE {
          go_wp2_with fail
          have HC : Hid (∀ (f : FuncId) (args : Array Value) (r : Value), (∀ w, Calls Tryd.prog f args w fun e w' => e = .returned r ∧ Below w.heap.size w w') → ∀ z : RU w [x, y, X, Y] [a, b, c, d] [u, v] [m0, m1, m2, m3] [o0, o1, o2, o3] b11 b13, Calls Tryd.prog f args z.1 fun e w' => e = .returned r ∧ ∃ z' : RU w [x, y, X, Y] [a, b, c, d] [u, v] [m0, m1, m2, m3] [o0, o1, o2, o3] b11 b13, w' = z'.1) := fun f args r h z => RU.calls h z
          have hne : Nonempty (RU w [x, y, X, Y] [a, b, c, d] [u, v] [m0, m1, m2, m3] [o0, o1, o2, o3] b11 b13) := ⟨⟨w3, HR3.out⟩⟩
          have g0 : ∀ z : RU w [x, y, X, Y] [a, b, c, d] [u, v] [m0, m1, m2, m3] [o0, o1, o2, o3] b11 b13, z.1.cell? ⟨w.heap.size, 0, none⟩ = some (.int .i64 x) := fun z => z.2.r.four.1
          have g1 : ∀ z : RU w [x, y, X, Y] [a, b, c, d] [u, v] [m0, m1, m2, m3] [o0, o1, o2, o3] b11 b13, z.1.cell? ⟨w.heap.size, 1, none⟩ = some (.int .i64 y) := fun z => z.2.r.four.2.1
          have g2 : ∀ z : RU w [x, y, X, Y] [a, b, c, d] [u, v] [m0, m1, m2, m3] [o0, o1, o2, o3] b11 b13, z.1.cell? ⟨w.heap.size, 2, none⟩ = some (.int .i64 X) := fun z => z.2.r.four.2.2.1
          have g3 : ∀ z : RU w [x, y, X, Y] [a, b, c, d] [u, v] [m0, m1, m2, m3] [o0, o1, o2, o3] b11 b13, z.1.cell? ⟨w.heap.size, 3, none⟩ = some (.int .i64 Y) := fun z => z.2.r.four.2.2.2.1
          have g4 : ∀ z : RU w [x, y, X, Y] [a, b, c, d] [u, v] [m0, m1, m2, m3] [o0, o1, o2, o3] b11 b13, z.1.cell? ⟨w.heap.size + 1, 0, none⟩ = some (.int .i64 a) := fun z => z.2.o.four.1
          have g5 : ∀ z : RU w [x, y, X, Y] [a, b, c, d] [u, v] [m0, m1, m2, m3] [o0, o1, o2, o3] b11 b13, z.1.cell? ⟨w.heap.size + 1, 1, none⟩ = some (.int .i64 b) := fun z => z.2.o.four.2.1
          have g6 : ∀ z : RU w [x, y, X, Y] [a, b, c, d] [u, v] [m0, m1, m2, m3] [o0, o1, o2, o3] b11 b13, z.1.cell? ⟨w.heap.size + 1, 2, none⟩ = some (.int .i64 c) := fun z => z.2.o.four.2.2.1
          have g7 : ∀ z : RU w [x, y, X, Y] [a, b, c, d] [u, v] [m0, m1, m2, m3] [o0, o1, o2, o3] b11 b13, z.1.cell? ⟨w.heap.size + 1, 3, none⟩ = some (.int .i64 d) := fun z => z.2.o.four.2.2.2.1
          have g8 : ∀ z : RU w [x, y, X, Y] [a, b, c, d] [u, v] [m0, m1, m2, m3] [o0, o1, o2, o3] b11 b13, z.1.cell? ⟨b11, 0, none⟩ = some (.int .i64 m0) := fun z => z.2.an.four.1
          have g9 : ∀ z : RU w [x, y, X, Y] [a, b, c, d] [u, v] [m0, m1, m2, m3] [o0, o1, o2, o3] b11 b13, z.1.cell? ⟨b11, 1, none⟩ = some (.int .i64 m1) := fun z => z.2.an.four.2.1
          have g10 : ∀ z : RU w [x, y, X, Y] [a, b, c, d] [u, v] [m0, m1, m2, m3] [o0, o1, o2, o3] b11 b13, z.1.cell? ⟨b11, 2, none⟩ = some (.int .i64 m2) := fun z => z.2.an.four.2.2.1
          have g11 : ∀ z : RU w [x, y, X, Y] [a, b, c, d] [u, v] [m0, m1, m2, m3] [o0, o1, o2, o3] b11 b13, z.1.cell? ⟨b11, 3, none⟩ = some (.int .i64 m3) := fun z => z.2.an.four.2.2.2.1
          have g12 : ∀ z : RU w [x, y, X, Y] [a, b, c, d] [u, v] [m0, m1, m2, m3] [o0, o1, o2, o3] b11 b13, z.1.cell? ⟨b13, 0, none⟩ = some (.int .i64 o0) := fun z => z.2.oo.four.1
          have g13 : ∀ z : RU w [x, y, X, Y] [a, b, c, d] [u, v] [m0, m1, m2, m3] [o0, o1, o2, o3] b11 b13, z.1.cell? ⟨b13, 1, none⟩ = some (.int .i64 o1) := fun z => z.2.oo.four.2.1
          have g14 : ∀ z : RU w [x, y, X, Y] [a, b, c, d] [u, v] [m0, m1, m2, m3] [o0, o1, o2, o3] b11 b13, z.1.cell? ⟨b13, 2, none⟩ = some (.int .i64 o2) := fun z => z.2.oo.four.2.2.1
          have g15 : ∀ z : RU w [x, y, X, Y] [a, b, c, d] [u, v] [m0, m1, m2, m3] [o0, o1, o2, o3] b11 b13, z.1.cell? ⟨b13, 3, none⟩ = some (.int .i64 o3) := fun z => z.2.oo.four.2.2.2.1
          simp only [List.append]
          refine region_cls (fun w' => ∃ z : RU w [x, y, X, Y] [a, b, c, d] [u, v] [m0, m1, m2, m3] [o0, o1, o2, o3] b11 b13, w' = z.1) (by kernel_rfl) (by kernel_rfl) ⟨⟨_, HR3.out.drewN 1⟩, rfl⟩ ?_
          repeat (go_big_quiet_step ((first | (go_at_call 21; with_reducible exact HC.out _ _ _ HA1.out _) | (go_at_call 21; with_reducible exact HC.out _ _ _ HA2.out _) | (go_at_call 15; with_reducible exact HC.out _ _ _ HO2.out _) | (go_at_call 23; with_reducible exact HC.out _ _ _ HT0.out _) | (go_at_call 23; with_reducible exact HC.out _ _ _ HT1.out _) | (go_at_call 23; with_reducible exact HC.out _ _ _ HT2.out _) | (go_at_call 23; with_reducible exact HC.out _ _ _ HT3.out _))))
          refine wpQuiet_nil ?_
          rintro w9 ⟨⟨W9, hW9⟩, rfl⟩
          go_wp2
          go_ret
          exact ⟨rfl, hW9.bel⟩
          -- }
end Go.Proofs.YtlafbkehlglfoaaDoor
