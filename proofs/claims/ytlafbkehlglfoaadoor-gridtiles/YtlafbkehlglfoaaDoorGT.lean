/- The law GridTiles: its walk. -/
import Derived.Test.YtlafbkehlglfoaaDoorGr4
import Derived.Deep.QuietTactic
namespace Go.Proofs.YtlafbkehlglfoaaDoor
open Go.RowKit

theorem wide_fit (x y X Y D : Int) (hD : X - x = D) (h0 : 0 ≤ D) (h1 : D ≤ 9223372036854775807) (w : World) :
    Calls Tryd.prog 17 #[.agg #[.int .i64 x, .int .i64 y, .int .i64 X, .int .i64 Y]] w fun e w' => e = .returned (.int .i64 D) ∧ Below w.heap.size w w' := by
  go_enter Tryd.func17, Tryd.ntmps17
  go_wp2
  all_goals
    go_ret
    exact ⟨ret_i (by omega), by go_grown⟩
theorem high_fit (x y X Y D : Int) (hD : Y - y = D) (h0 : 0 ≤ D) (h1 : D ≤ 9223372036854775807) (w : World) :
    Calls Tryd.prog 18 #[.agg #[.int .i64 x, .int .i64 y, .int .i64 X, .int .i64 Y]] w fun e w' => e = .returned (.int .i64 D) ∧ Below w.heap.size w w' := by
  go_enter Tryd.func18, Tryd.ntmps18
  go_wp2
  all_goals
    go_ret
    exact ⟨ret_i (by omega), by go_grown⟩

/-- The law's parameters, in memory. -/
structure TS (w : World) (x y s0 s1 : Int) (W : World) : Prop where
  bel : Below w.heap.size w W
  p : Nums W w.heap.size [x, y]
  lt : w.heap.size + 1 < W.heap.size
  a0 : W.cell? ⟨w.heap.size + 1, 0, none⟩ = some (.int .u16 s0)
  a1 : W.cell? ⟨w.heap.size + 1, 1, none⟩ = some (.int .u16 s1)
theorem TS.later {w W W' : World} {x y s0 s1 : Int} (h : TS w x y s0 s1 W) (hb : Below W.heap.size W W') : TS w x y s0 s1 W' :=
  ⟨h.bel.trans (hb.mono h.bel.size), h.p.later hb, Nat.lt_of_lt_of_le h.lt hb.size, by rw [hb.cell (p := ⟨w.heap.size + 1, 0, none⟩) h.lt]; exact h.a0, by rw [hb.cell (p := ⟨w.heap.size + 1, 1, none⟩) h.lt]; exact h.a1⟩
theorem TS.drewN {w W : World} {x y s0 s1 : Int} (h : TS w x y s0 s1 W) (q : Nat) : TS w x y s0 s1 (W.drewN q) :=
  ⟨⟨h.bel.os, h.bel.tape, h.bel.output, h.bel.size, h.bel.block⟩, h.p, h.lt, h.a0, h.a1⟩
theorem ts_start (w : World) (x y s0 s1 : Int) (t t' : TypeId) : ∃ W, (w.alloc (.cells #[.int .i64 x, .int .i64 y] t)).alloc (.cells #[.int .u16 s0, .int .u16 s1] t') = W ∧ TS w x y s0 s1 W := by
  refine ⟨_, rfl, by go_grown, (pt_new w x y t).later (bel1 _ _), by simp, ?_, ?_⟩
  · have := cell_of_row ((w.alloc (.cells #[.int .i64 x, .int .i64 y] t)).alloc (.cells #[.int .u16 s0, .int .u16 s1] t')) (w.heap.size + 1) 0 _ t' (0, 0) (by have := heap_alloc_new (w.alloc (.cells #[.int .i64 x, .int .i64 y] t)) (.cells #[.int .u16 s0, .int .u16 s1] t'); rw [World.size_alloc] at this; exact this)
    rw [this]; rfl
  · have := cell_of_row ((w.alloc (.cells #[.int .i64 x, .int .i64 y] t)).alloc (.cells #[.int .u16 s0, .int .u16 s1] t')) (w.heap.size + 1) 1 _ t' (0, 0) (by have := heap_alloc_new (w.alloc (.cells #[.int .i64 x, .int .i64 y] t)) (.cells #[.int .u16 s0, .int .u16 s1] t'); rw [World.size_alloc] at this; exact this)
    rw [this]; rfl

set_option maxRecDepth 100000 in
set_option maxHeartbeats 1000000 in
theorem gtiles_out (x y zm s0 s1 : Int) (w : World) (h : Tab16 w) (hp : (onP x && onP y) = false) :
    Calls Tryd.prog 6 #[.agg #[.int .i64 x, .int .i64 y], .int .u8 zm, .agg #[.int .u16 s0, .int .u16 s1]] w fun e w' => e = .returned (.bool true) ∧ Below w.heap.size w w' := by
  obtain ⟨W0, hW0, hh0⟩ := ts_start w x y s0 s1 23 47
  have H0 := Lib.hid hh0
  have HW := Lib.hid hW0
  have HT := Lib.hid h
  have HR := Lib.hid (fun w => pright_any x y w)
  rw [hp] at HR
  clear hh0 hW0 h hp
  go_enter Tryd.func6, Tryd.ntmps6
  go_wp2_with fail
  rw [HW.out]
  refine (lives4_any _ (HT.out.later H0.out.bel HT.out.lt)).mono ?_
  rintro e w1 ⟨rfl, hb⟩
  have HH1 := Lib.hid (H0.out.later hb)
  clear hb H0 HW W0
  obtain ⟨c0, c1, _⟩ := HH1.out.p.two
  go_wp2_with fail
  refine (HR.out _).mono ?_
  rintro e w2 ⟨rfl, hb⟩
  have HH2 := Lib.hid (HH1.out.later hb)
  clear hb HH1 c0 c1
  go_wp2_with fail
  refine (lives4_any _ (HT.out.later HH2.out.bel HT.out.lt)).mono ?_
  rintro e w3 ⟨rfl, hb⟩
  have HH3 := Lib.hid (HH2.out.later hb)
  clear hb
  go_wp2
  go_ret
  exact ⟨rfl, HH3.out.bel⟩

/-- The law's variables t and a too. -/
def TT (w : World) (x y s0 s1 : Int) (b9 b10 : Nat) (t a : List Int) : Type := { W : World // TS w x y s0 s1 W ∧ Nums W b9 t ∧ Nums W b10 a }
theorem TT.calls {w : World} {x y s0 s1 : Int} {b9 b10 : Nat} {t a : List Int} {f : FuncId} {args : Array Value} {v : Value} (h : ∀ w, Calls Tryd.prog f args w fun e w' => e = .returned v ∧ Below w.heap.size w w') (z : TT w x y s0 s1 b9 b10 t a) :
    Calls Tryd.prog f args z.1 fun e' w' => e' = .returned v ∧ ∃ z' : TT w x y s0 s1 b9 b10 t a, w' = z'.1 :=
  (h z.1).mono fun _ w' ⟨h1, h2⟩ => ⟨h1, ⟨w', z.2.1.later h2, z.2.2.1.later h2, z.2.2.2.later h2⟩, rfl⟩
theorem region_clsT {P : Program} {id : Nat} {Q : Exit → Act → World → Prop} {a : Act} {w : World} {l : List Oper} (C : World → Prop) (hm : P.follows .mixedOrders = true) (hB : Region.lexB .any l.toArray = true) (hC : C { w with drawn := w.drawn + 1 })
    (h : wpQuiet P l.toArray C (fun a' => ∀ w', C w' → Q .normal a' w') l a) : (Code.region id l.toArray true).wp P Q a w :=
  wp_region_quiet (C := C) hm hB hC (by simpa using h)

set_option maxRecDepth 100000 in
set_option maxHeartbeats 4000000 in
theorem gtiles_in (x y zm s0 s1 S tx ty A B lx ly : Int) (z : Nat) (w : World) (h : Tab16 w) (hx : onP x = true) (hy : onP y = true) (hz : z ≤ 16) (hzm : zm % 17 = (z : Int)) (z0 : 0 ≤ zm) (z1 : zm ≤ 255)
    (hS : (2 : Int) ^ (4 + z) = S) (htx : x / S = tx) (hty : y / S = ty) (hA : tx * S = A) (hB : ty * S = B) (s00 : 0 ≤ s0) (s01 : s0 ≤ 65535) (s10 : 0 ≤ s1) (s11 : s1 ≤ 65535) (hlx : (x + s0 - 1) / S = lx) (hly : (y + s1 - 1) / S = ly) :
    Calls Tryd.prog 6 #[.agg #[.int .i64 x, .int .i64 y], .int .u8 zm, .agg #[.int .u16 s0, .int .u16 s1]] w fun e w' => e = .returned (.bool true) ∧ Below w.heap.size w w' := by
  obtain ⟨W0, hW0, hh0⟩ := ts_start w x y s0 s1 23 47
  obtain ⟨x0, x1⟩ := onP_bounds2 hx
  obtain ⟨y0, y1⟩ := onP_bounds2 hy
  obtain ⟨S0, S1⟩ := side_bounds hz hS
  obtain ⟨A0, A1, tx0, tx1⟩ := floor_room htx hA S0 S1 x0 x1
  obtain ⟨B0, B1, ty0, ty1⟩ := floor_room hty hB S0 S1 y0 y1
  have H0 := Lib.hid hh0
  have HW := Lib.hid hW0
  have HT := Lib.hid h
  have HR := Lib.hid (fun w => pright_any x y w)
  rw [hx, hy] at HR
  have HSD := Lib.hid (fun w => rside_any z hz S hS w)
  have HTI := Lib.hid (fun w h => tileS x y S z hz hS w h)
  rw [htx, hty] at HTI
  have HAR := Lib.hid (fun w h => area_any tx ty S A B z hz hS hA hB (by omega) (by omega) (by omega) (by omega) (by omega) (by omega) (by omega) (by omega) w h)
  have HFX : Hid (∀ w, Calls Tryd.prog 28 #[.int .i64 x, .int .i64 S] w fun e w' => e = .returned (.int .i64 tx) ∧ Below w.heap.size w w') := fun w => by
    have := floor_any x S (by omega) (by omega) (by omega) w
    rw [htx] at this
    exact this.mono fun e w' ⟨h1, h2⟩ => ⟨h1, by rw [h2]; exact Below.refl _ _⟩
  have HFY : Hid (∀ w, Calls Tryd.prog 28 #[.int .i64 y, .int .i64 S] w fun e w' => e = .returned (.int .i64 ty) ∧ Below w.heap.size w w') := fun w => by
    have := floor_any y S (by omega) (by omega) (by omega) w
    rw [hty] at this
    exact this.mono fun e w' ⟨h1, h2⟩ => ⟨h1, by rw [h2]; exact Below.refl _ _⟩
  have HHS := Lib.hid (fun w => has_any A B (A + S) (B + S) x y w)
  rw [decide_eq_true (by omega : A ≤ x), decide_eq_true (by omega : x < A + S), decide_eq_true (by omega : B ≤ y), decide_eq_true (by omega : y < B + S)] at HHS
  have HWD := Lib.hid (fun w => wide_fit A B (A + S) (B + S) S (by omega) (by omega) (by omega) w)
  have HHG := Lib.hid (fun w => high_fit A B (A + S) (B + S) S (by omega) (by omega) (by omega) w)
  have HM := Lib.hid (show _ ∧ _ ∧ _ ∧ _ ∧ _ from ⟨htx, hty, hlx, hly, hS⟩)
  clear hh0 hW0 h hx hy htx hty hlx hly hS
  go_enter Tryd.func6, Tryd.ntmps6
  go_wp2_with fail
  rw [HW.out]
  refine (lives4_any _ (HT.out.later H0.out.bel HT.out.lt)).mono ?_
  rintro e w1 ⟨rfl, hb⟩
  have HH1 := Lib.hid (H0.out.later hb)
  clear hb H0 HW W0
  obtain ⟨c0, c1, _⟩ := HH1.out.p.two
  go_wp2_with fail
  refine (HR.out _).mono ?_
  rintro e w2 ⟨rfl, hb⟩
  have HH2 := Lib.hid (HH1.out.later hb)
  clear hb HH1 c0 c1 HR
  obtain ⟨c0, c1, _⟩ := HH2.out.p.two
  go_wp2_with fail
  refine (HSD.out _).mono ?_
  rintro e w' ⟨rfl, rfl⟩
  go_wp2_with fail
  refine (HTI.out _ (HT.out.later HH2.out.bel HT.out.lt)).mono ?_
  rintro e w3 ⟨rfl, hb⟩
  have HH3 := Lib.hid ((HH2.out.later hb).later (bel1 w3 (.cells #[.int .i64 tx, .int .i64 ty] 23)))
  have HN3 : Hid (Nums (w3.alloc (.cells #[.int .i64 tx, .int .i64 ty] 23)) w3.heap.size [tx, ty]) := pt_new w3 tx ty _
  clear hb HH2 c0 c1 HSD HTI
  go_wp2_with fail
  generalize w3.alloc (.cells #[.int .i64 tx, .int .i64 ty] 23) = w4 at HH3 HN3 ⊢
  generalize w3.heap.size = b9 at HN3 ⊢
  refine (HAR.out _ (HT.out.later HH3.out.bel HT.out.lt)).mono ?_
  rintro e w5 ⟨rfl, hb⟩
  have hal := bel1 w5 (.cells #[.int .i64 A, .int .i64 B, .int .i64 (A + S), .int .i64 (B + S)] 34)
  have HH5 := Lib.hid ((HH3.out.later hb).later hal)
  have HN5 := Lib.hid ((HN3.out.later hb).later hal)
  have HE5 : Hid (Nums (w5.alloc (.cells #[.int .i64 A, .int .i64 B, .int .i64 (A + S), .int .i64 (B + S)] 34)) w5.heap.size [A, B, A + S, B + S]) := rc_new w5 A B (A + S) (B + S) _
  clear hb hal HH3 HN3 HAR
  go_upto_region 7 with fail
  generalize w5.alloc (.cells #[.int .i64 A, .int .i64 B, .int .i64 (A + S), .int .i64 (B + S)] 34) = w6 at HH5 HN5 HE5 ⊢
  generalize w5.heap.size = b10 at HE5 ⊢
  go_cut [81] from 33 to 80 (fun s wx => s = .bool false ∧ TS w x y s0 s1 wx ∧ Nums wx b9 [tx, ty] ∧ Nums wx b10 [A, B, A + S, B + S])
  case first =>
    -- DONE {
    have HC : Hid (∀ (f : FuncId) (args : Array Value) (r : Value), (∀ w, Calls Tryd.prog f args w fun e w' => e = .returned r ∧ Below w.heap.size w w') → ∀ z : TT w x y s0 s1 b9 b10 [tx, ty] [A, B, A + S, B + S], Calls Tryd.prog f args z.1 fun e w' => e = .returned r ∧ ∃ z' : TT w x y s0 s1 b9 b10 [tx, ty] [A, B, A + S, B + S], w' = z'.1) := fun f args r h z => TT.calls h z
    have hne : Nonempty (TT w x y s0 s1 b9 b10 [tx, ty] [A, B, A + S, B + S]) := ⟨⟨w6, HH5.out, HN5.out, HE5.out⟩⟩
    have HX : Hid (TS w x y s0 s1 w6.drew ∧ Nums w6.drew b9 [tx, ty] ∧ Nums w6.drew b10 [A, B, A + S, B + S]) := ⟨HH5.out.drewN 1, HN5.out, HE5.out⟩
    have g0 : ∀ z : TT w x y s0 s1 b9 b10 [tx, ty] [A, B, A + S, B + S], z.1.cell? ⟨w.heap.size, 0, none⟩ = some (.int .i64 x) := fun z => z.2.1.p.two.1
    have g1 : ∀ z : TT w x y s0 s1 b9 b10 [tx, ty] [A, B, A + S, B + S], z.1.cell? ⟨w.heap.size, 1, none⟩ = some (.int .i64 y) := fun z => z.2.1.p.two.2.1
    have g2 : ∀ z : TT w x y s0 s1 b9 b10 [tx, ty] [A, B, A + S, B + S], z.1.cell? ⟨b9, 0, none⟩ = some (.int .i64 tx) := fun z => z.2.2.1.two.1
    have g3 : ∀ z : TT w x y s0 s1 b9 b10 [tx, ty] [A, B, A + S, B + S], z.1.cell? ⟨b9, 1, none⟩ = some (.int .i64 ty) := fun z => z.2.2.1.two.2.1
    have g4 : ∀ z : TT w x y s0 s1 b9 b10 [tx, ty] [A, B, A + S, B + S], z.1.cell? ⟨b10, 0, none⟩ = some (.int .i64 A) := fun z => z.2.2.2.four.1
    have g5 : ∀ z : TT w x y s0 s1 b9 b10 [tx, ty] [A, B, A + S, B + S], z.1.cell? ⟨b10, 1, none⟩ = some (.int .i64 B) := fun z => z.2.2.2.four.2.1
    have g6 : ∀ z : TT w x y s0 s1 b9 b10 [tx, ty] [A, B, A + S, B + S], z.1.cell? ⟨b10, 2, none⟩ = some (.int .i64 (A + S)) := fun z => z.2.2.2.four.2.2.1
    have g7 : ∀ z : TT w x y s0 s1 b9 b10 [tx, ty] [A, B, A + S, B + S], z.1.cell? ⟨b10, 3, none⟩ = some (.int .i64 (B + S)) := fun z => z.2.2.2.four.2.2.2.1
    have m1 : (S != S) = false := by simp
    have m2 : (A != A) = false := by simp
    have m3 : (B != B) = false := by simp
    have m4 : IntKind.i64.wrap A = A := IntWalk.i64_in _ (by omega)
    have m5 : IntKind.i64.wrap B = B := IntWalk.i64_in _ (by omega)
    refine region_clsT (fun w' => ∃ z : TT w x y s0 s1 b9 b10 [tx, ty] [A, B, A + S, B + S], w' = z.1) (by kernel_rfl) (by kernel_rfl) ⟨⟨_, HX.out⟩, rfl⟩ ?_
    repeat (go_big_quiet_step ((first | (go_at_call 28; with_reducible exact HC.out _ _ _ HFX.out _) | (go_at_call 28; with_reducible exact HC.out _ _ _ HFY.out _) | (go_at_call 20; with_reducible exact HC.out _ _ _ HHS.out _) | (go_at_call 17; with_reducible exact HC.out _ _ _ HWD.out _) | (go_at_call 18; with_reducible exact HC.out _ _ _ HHG.out _))))
    refine wpQuiet_nil ?_
    rintro w2 ⟨⟨W2, hW2⟩, rfl⟩
    go_wp2_with fail
    go_meet
    exact ⟨rfl, hW2⟩
    -- }
  case rest =>
  obtain ⟨rfl, hts, hn9, hn10⟩ := hcut
  have HH7 := Lib.hid hts
  have HN7 := Lib.hid hn9
  clear hts hn9 hn10 HH5 HN5 HE5 HFX HFY HHS HWD HHG
  obtain ⟨c0, c1, _⟩ := HH7.out.p.two
  have ca0 := HH7.out.a0
  have ca1 := HH7.out.a1
  have hlt := HH7.out.lt
  have hlt0 := HH7.out.p.1
  have hlt9 := HN7.out.1
  go_upto_region 10 with fail
  have hal := bel1 wc (.cells #[.int .i64 x, .int .i64 y, .int .i64 (x + s0), .int .i64 (y + s1)] 34)
  have HH8 := Lib.hid (HH7.out.later hal)
  have HN8 := Lib.hid (HN7.out.later hal)
  have HE8 : Hid (Nums (wc.alloc (.cells #[.int .i64 x, .int .i64 y, .int .i64 (x + s0), .int .i64 (y + s1)] 34)) wc.heap.size [x, y, x + s0, y + s1]) := rc_new wc x y (x + s0) (y + s1) _
  clear hal HH7 HN7 c0 c1 ca0 ca1 hlt hlt0 hlt9
  generalize wc.alloc (.cells #[.int .i64 x, .int .i64 y, .int .i64 (x + s0), .int .i64 (y + s1)] 34) = w8 at HH8 HN8 HE8 ⊢
  generalize wc.heap.size = b11 at HE8 ⊢
  obtain ⟨e0, e1, e2, e3, _⟩ := HE8.out.four
  by_cases he : s0 = 0 ∨ s1 = 0
  · as_aux_lemma =>
    have hn : noPts x y (x + s0) (y + s1) = true := by
      unfold noPts
      simp only [Bool.or_eq_true, decide_eq_true_eq]
      omega
    have HTN := Lib.hid (fun w => tiles_none x y (x + s0) (y + s1) z hn w)
    clear hn
    go_wp2_with fail
    refine (HTN.out _).mono ?_
    rintro e w9 ⟨rfl, hb⟩
    have HH9 := Lib.hid ((HH8.out.later hb).later (bel1 w9 (.cells #[.int .i64 0, .int .i64 0, .int .i64 0, .int .i64 0] 34)))
    have HE9 : Hid (Nums (w9.alloc (.cells #[.int .i64 0, .int .i64 0, .int .i64 0, .int .i64 0] 34)) w9.heap.size [0, 0, 0, 0]) := rc_new w9 0 0 0 0 _
    clear hb HH8 HN8 HE8 e0 e1 e2 e3 HTN
    go_upto_region 11 with fail
    generalize w9.alloc (.cells #[.int .i64 0, .int .i64 0, .int .i64 0, .int .i64 0] 34) = w10 at HH9 HE9 ⊢
    generalize w9.heap.size = b12 at HE9 ⊢
    obtain ⟨e0, e1, e2, e3, _⟩ := HE9.out.four
    have ca0 := HH9.out.a0
    have ca1 := HH9.out.a1
    by_cases h0 : s0 = 0
    · subst h0
      go_wp2
      go_ret
      exact ⟨rfl, HH9.out.bel⟩
    · obtain rfl : s1 = 0 := by omega
      have hd : (s0 == 0) = false := by simpa using h0
      go_wp2
      go_ret
      exact ⟨rfl, HH9.out.bel⟩
  · as_aux_lemma =>
    have hn : noPts x y (x + s0) (y + s1) = false := by
      unfold noPts
      simp only [Bool.or_eq_false_iff, decide_eq_false_iff_not]
      omega
    obtain ⟨htx, hty, hlx, hly, hS⟩ := HM.out
    have hts := fun w h => tiles_some x y (x + s0) (y + s1) S z hz hS hn (by omega) (by omega) (by omega) (by omega) w h
    rw [htx, hty, hlx, hly] at hts
    have HTS := Lib.hid hts
    have HFX := Lib.hid (fun w => floor_any (x + s0 - 1) S (by omega) (by omega) (by omega) w)
    have HFY := Lib.hid (fun w => floor_any (y + s1 - 1) S (by omega) (by omega) (by omega) w)
    rw [hlx] at HFX
    rw [hly] at HFY
    have hd1 := div_bounds (n := x + s0 - 1) (b := S) (by omega)
    have hd2 := div_bounds (n := y + s1 - 1) (b := S) (by omega)
    rw [hlx] at hd1
    rw [hly] at hd2
    have X2 : -4611686018427387905 ≤ lx := by by_cases h : 0 ≤ x + s0 - 1 <;> omega
    have X3 : lx ≤ 4611686018427387904 := by by_cases h : 0 ≤ x + s0 - 1 <;> omega
    have Y2 : -4611686018427387905 ≤ ly := by by_cases h : 0 ≤ y + s1 - 1 <;> omega
    have Y3 : ly ≤ 4611686018427387904 := by by_cases h : 0 ≤ y + s1 - 1 <;> omega
    have h0 : (s0 == 0) = false := by simp; omega
    have h1 : (s1 == 0) = false := by simp; omega
    clear hn htx hty hlx hly hS hts hd1 hd2 HM he
    go_wp2_with fail
    refine (HTS.out _ (HT.out.later HH8.out.bel HT.out.lt)).mono ?_
    rintro e w9 ⟨rfl, hb⟩
    have hal := bel1 w9 (.cells #[.int .i64 tx, .int .i64 ty, .int .i64 (lx + 1), .int .i64 (ly + 1)] 34)
    have HH9 := Lib.hid ((HH8.out.later hb).later hal)
    have HN9 := Lib.hid ((HN8.out.later hb).later hal)
    have HR9 := Lib.hid ((HE8.out.later hb).later hal)
    have HE9 : Hid (Nums (w9.alloc (.cells #[.int .i64 tx, .int .i64 ty, .int .i64 (lx + 1), .int .i64 (ly + 1)] 34)) w9.heap.size [tx, ty, lx + 1, ly + 1]) := rc_new w9 tx ty (lx + 1) (ly + 1) _
    clear hb hal HH8 HN8 HE8 e0 e1 e2 e3 HTS
    go_upto_region 11 with fail
    generalize w9.alloc (.cells #[.int .i64 tx, .int .i64 ty, .int .i64 (lx + 1), .int .i64 (ly + 1)] 34) = w10 at HH9 HN9 HR9 HE9 ⊢
    generalize w9.heap.size = b12 at HE9 ⊢
    have ca0 := HH9.out.a0
    have ca1 := HH9.out.a1
    go_upto_region 13 with fail
    clear ca0 ca1
    obtain ⟨e0, e1, e2, e3, _⟩ := HR9.out.four
    have q1 : IntKind.i64.wrap (lx + 1) = lx + 1 := IntWalk.i64_in _ (by omega)
    have q2 : IntKind.i64.wrap (ly + 1) = ly + 1 := IntWalk.i64_in _ (by omega)
    have q3 : IntKind.i64.wrap (x + s0 - 1) = x + s0 - 1 := IntWalk.i64_in _ (by omega)
    have q4 : IntKind.i64.wrap (y + s1 - 1) = y + s1 - 1 := IntWalk.i64_in _ (by omega)
    have l11 := HR9.out.1
    go_cut [13] from 111 to 125 (fun s wx => ∃ b13, s = .pointer (some ⟨b13, 0, none⟩) ∧ TS w x y s0 s1 wx ∧ Nums wx b9 [tx, ty] ∧ Nums wx b12 [tx, ty, lx + 1, ly + 1] ∧ Nums wx b13 [lx + 1, ly + 1])
    case first =>
      go_region_held3 (fun w' => w'.cell? ⟨b11, 2, none⟩ = some (.int .i64 (x + s0)) ∧ w'.cell? ⟨b11, 3, none⟩ = some (.int .i64 (y + s1))) (go_keep)
        (first
          | (go_at_call 28; with_reducible refine (HFX.out _).mono ?_; rintro e wl ⟨rfl, rfl⟩)
          | (go_at_call 28; with_reducible refine (HFY.out _).mono ?_; rintro e wl ⟨rfl, rfl⟩))
      all_goals go_wp2_with fail
      all_goals go_meet
      all_goals exact ⟨w10.heap.size, rfl, (HH9.out.later (bel1 w10 _)).drewN 1, HN9.out.later (bel1 w10 _).drew, HE9.out.later (bel1 w10 _).drew, pt_new w10 (lx + 1) (ly + 1) _⟩
    case rest =>
    obtain ⟨b13, rfl, hts, hn9, hn12, hn13⟩ := hcut
    have HB := Lib.hid hts.bel
    obtain ⟨t0, t1, _⟩ := hn9.two
    obtain ⟨u0, u1, u2, u3, _⟩ := hn12.four
    obtain ⟨v0, v1, _⟩ := hn13.two
    clear hts hn9 hn12 hn13
    go_wp2
    go_ret
    exact ⟨rfl, HB.out⟩

theorem gtiles_any (x y zm s0 s1 : Int) (w : World) (h : Tab16 w) (z0 : 0 ≤ zm) (z1 : zm ≤ 255) (s00 : 0 ≤ s0) (s01 : s0 ≤ 65535) (s10 : 0 ≤ s1) (s11 : s1 ≤ 65535) :
    Calls Tryd.prog 6 #[.agg #[.int .i64 x, .int .i64 y], .int .u8 zm, .agg #[.int .u16 s0, .int .u16 s1]] w fun e w' => e = .returned (.bool true) ∧ Below w.heap.size w w' := by
  cases hp : onP x && onP y with
  | false => exact gtiles_out x y zm s0 s1 w h hp
  | true =>
    have hp' : onP x = true ∧ onP y = true := by simpa using hp
    have e : zm % 17 = ((zm % 17).toNat : Int) := by omega
    exact gtiles_in x y zm s0 s1 _ _ _ _ _ _ _ (zm % 17).toNat w h hp'.1 hp'.2 (by omega) e z0 z1 rfl rfl rfl rfl rfl s00 s01 s10 s11 rfl rfl
end Go.Proofs.YtlafbkehlglfoaaDoor
