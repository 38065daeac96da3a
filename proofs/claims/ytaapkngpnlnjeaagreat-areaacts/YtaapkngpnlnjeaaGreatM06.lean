-- M06
import Derived.Test.YtaapkngpnlnjeaaGreatM02
import Derived.Test.YtaapkngpnlnjeaaGreatQm
import Derived.Test.YtaapkngpnlnjeaaGreatGr8
import Derived.Laws.StructEq
section
namespace Go.Proofs.YtaapkngpnlnjeaaGreat
open Go.RowKit Go.Maps
set_option maxRecDepth 100000

theorem pow_62 {n : Nat} (h : n ≤ 62) : (2 : Int) ^ n ≤ 4611686018427387904 := by
  have h1 : (2 : Nat) ^ n ≤ 2 ^ 62 := Nat.pow_le_pow_right (by decide) h
  have h2 : ((2 ^ n : Nat) : Int) ≤ ((2 ^ 62 : Nat) : Int) := Int.ofNat_le.2 h1
  rw [Int.natCast_pow] at h2
  exact h2
theorem side8_any (n : Nat) (h : n ≤ 62) (w : World) : Calls Tryz.prog 84 #[.int .i64 (n : Int)] w fun e w' => e = .returned (.int .i64 (2 ^ n)) ∧ w = w' := by
  have h0 := pow_pos2 n
  have h1 := pow_62 h
  have e1 : wrap64 (2 ^ n) = 2 ^ n := IntWalk.wrap64_in _ (by omega)
  go_enter Tryz.func84, Tryz.ntmps84
  go_wp2
  go_ret
  exact ⟨rfl, rfl⟩
/-- The same, at a level that is one less. -/
theorem side8_pred (n : Nat) (h : n ≤ 62) (w : World) : Calls Tryz.prog 84 #[.int .i64 ((n : Int) + 1 - 1)] w fun e w' => e = .returned (.int .i64 (2 ^ n)) ∧ w = w' := by
  rw [Int.add_sub_cancel]; exact side8_any n h w
theorem first_any (n : Nat) (h : n < 62) (c d : Bool) (w : World) : Calls Tryz.prog 82 #[.int .i64 ((n : Int) + 1), .int .i64 (pl c d : Int)] w fun e w' => e = .returned (.agg #[.int .i64 (off n c), .int .i64 (off n d)]) ∧ Below w.heap.size w w' := by
  have h0 := pow_pos2 n
  have h1 := pow_61 h
  have e1 : wrap64 (2 ^ n) = 2 ^ n := IntWalk.wrap64_in _ (by omega)
  have HSD := Lib.hid (side8_any n (by omega))
  cases c <;> cases d <;> simp only [pl, off, Bool.false_eq_true, if_false, if_true]
  all_goals
    go_enter Tryz.func82, Tryz.ntmps82
    go_wp2_with fail
    refine (HSD.out _).mono ?_
    rintro e W1 ⟨rfl, rfl⟩
    go_wp2
    refine bodyPost_ret (v := _) (by simp [results, Tryz.results82, go_sem]; rfl) rfl ?_
    exact ⟨rfl, by go_grown⟩
theorem span8_any (n : Nat) (h : n < 62) (w : World) : Calls Tryz.prog 46 #[.int .i64 ((n : Int) + 1)] w fun e w' => e = .returned (.agg #[.int .i64 (-2 ^ n), .int .i64 (-2 ^ n), .int .i64 (2 ^ n), .int .i64 (2 ^ n)]) ∧ Below w.heap.size w w' := by
  have h0 := pow_pos2 n
  have h1 := pow_61 h
  have e1 : wrap64 (2 ^ n) = 2 ^ n := IntWalk.wrap64_in _ (by omega)
  have e2 : wrap64 (-2 ^ n) = -2 ^ n := IntWalk.wrap64_in _ (by omega)
  have HSD := Lib.hid (side8_any n (by omega))
  go_enter Tryz.func46, Tryz.ntmps46
  go_wp2_with fail
  refine (HSD.out _).mono ?_
  rintro e W1 ⟨rfl, rfl⟩
  go_wp2
  refine bodyPost_ret (v := _) (by simp [results, Tryz.results46, go_sem]; rfl) rfl ?_
  exact ⟨rfl, by go_grown⟩
/-- Within int64. -/
def I64 (z : Int) : Prop := -9223372036854775808 ≤ z ∧ z ≤ 9223372036854775807
theorem plus_any (x y a b : Int) (h1 : I64 (x + a)) (h2 : I64 (y + b)) (w : World) : Calls Tryz.prog 83 #[.agg #[.int .i64 x, .int .i64 y], .agg #[.int .i64 a, .int .i64 b]] w fun e w' => e = .returned (.agg #[.int .i64 (x + a), .int .i64 (y + b)]) ∧ Below w.heap.size w w' := by
  have e1 : wrap64 (x + a) = x + a := IntWalk.wrap64_in _ (by unfold I64 at h1; omega)
  have e2 : wrap64 (y + b) = y + b := IntWalk.wrap64_in _ (by unfold I64 at h2; omega)
  clear h1 h2
  go_enter Tryz.func83, Tryz.ntmps83
  go_wp2
  go_returns
  exact ⟨rfl, by go_grown⟩
theorem minus_any (x y : Int) (h1 : I64 (-x)) (h2 : I64 (-y)) (w : World) : Calls Tryz.prog 49 #[.agg #[.int .i64 x, .int .i64 y]] w fun e w' => e = .returned (.agg #[.int .i64 (-x), .int .i64 (-y)]) ∧ Below w.heap.size w w' := by
  have e1 : wrap64 (-x) = -x := IntWalk.wrap64_in _ (by unfold I64 at h1; omega)
  have e2 : wrap64 (-y) = -y := IntWalk.wrap64_in _ (by unfold I64 at h2; omega)
  clear h1 h2
  go_enter Tryz.func49, Tryz.ntmps49
  go_wp2
  go_returns
  exact ⟨rfl, by go_grown⟩
theorem isPlane_any {w : World} {sb g tb cap most : Nat} {N : List Nd} (h : St w sb g tb cap most N) (x : Nat) (hx : x < 4294967296) : Calls Tryz.prog 42 #[.agg #[.pointer (some ⟨sb, 0, none⟩), .int .u32 (x : Int)]] w fun e w' => e = .returned (.bool (decide (3 ≤ lvZ N x))) ∧ Below w.heap.size w w' := by
  have HB := Lib.hid (bel1 w (.cells #[.pointer (some ⟨sb, 0, none⟩), .int .u32 (x : Int)] 29))
  have HS := Lib.hid (h.later HB.out)
  clear h
  go_enter Tryz.func42, Tryz.ntmps42
  go_wp2_with fail
  refine (level_any HS.out x hx).mono ?_
  rintro e W1 ⟨rfl, rfl⟩
  go_wp2
  go_ret
  exact ⟨rfl, HB.out⟩
theorem isPlane_nil (w : World) : Calls Tryz.prog 42 #[.agg #[.pointer none, .int .u32 0]] w fun e w' => e = .returned (.bool false) ∧ Below w.heap.size w w' := by
  have HLV := Lib.hid (fun w => level_nil 0 (by omega) w)
  go_enter Tryz.func42, Tryz.ntmps42
  go_wp2_with fail
  refine (HLV.out _).mono ?_
  rintro e W1 ⟨rfl, rfl⟩
  go_wp2
  go_ret
  exact ⟨rfl, by go_grown⟩
end Go.Proofs.YtaapkngpnlnjeaaGreat
end

section
namespace Go.Proofs.YtaapkngpnlnjeaaGreat
open Go.RowKit Go.Maps
set_option maxRecDepth 100000

/-- The blocks of moved: a rectangle, a point, the result. -/
structure Hm (w : World) (x y X Y a b : Int) (W : World) : Prop where
  bel : Below w.heap.size w W
  one : Nums W w.heap.size [x, y, X, Y]
  two : Nums W (w.heap.size + 1) [a, b]
  res : Nums W (w.heap.size + 1 + 1) [0, 0, 0, 0]
theorem Hm.later {w W W' : World} {x y X Y a b : Int} (h : Hm w x y X Y a b W) (hb : Below W.heap.size W W') : Hm w x y X Y a b W' :=
  ⟨h.bel.trans (hb.mono h.bel.size), h.one.later hb, h.two.later hb, h.res.later hb⟩
theorem Hm.drewN {w W : World} {x y X Y a b : Int} (h : Hm w x y X Y a b W) (q : Nat) : Hm w x y X Y a b (W.drewN q) :=
  ⟨⟨h.bel.os, h.bel.tape, h.bel.output, h.bel.size, h.bel.block⟩, h.one, h.two, h.res⟩
theorem hm_start (w : World) (x y X Y a b : Int) : ∃ W, ((w.alloc (.cells #[.int .i64 x, .int .i64 y, .int .i64 X, .int .i64 Y] 42)).alloc (.cells #[.int .i64 a, .int .i64 b] 34)).alloc (.cells #[.int .i64 0, .int .i64 0, .int .i64 0, .int .i64 0] 42) = W ∧ Hm w x y X Y a b W := by
  refine ⟨_, rfl, by go_grown, ((rc_new w x y X Y _).later (bel1 _ _)).later (bel1 _ _), ?_, ?_⟩
  · have := (pt_new (w.alloc (.cells #[.int .i64 x, .int .i64 y, .int .i64 X, .int .i64 Y] 42)) a b 34).later (bel1 _ (.cells #[.int .i64 0, .int .i64 0, .int .i64 0, .int .i64 0] 42))
    simpa using this
  · have := rc_new ((w.alloc (.cells #[.int .i64 x, .int .i64 y, .int .i64 X, .int .i64 Y] 42)).alloc (.cells #[.int .i64 a, .int .i64 b] 34)) 0 0 0 0 42
    simpa using this
theorem hm_done {w W : World} {x y X Y a b : Int} (h : Hm w x y X Y a b W) {s0 s1 s2 s3 : Int} : Below w.heap.size w ((((W.setCell ⟨w.heap.size + 1 + 1, 0, none⟩ (.int .i64 s0)).setCell ⟨w.heap.size + 1 + 1, 1, none⟩ (.int .i64 s1)).setCell ⟨w.heap.size + 1 + 1, 2, none⟩ (.int .i64 s2)).setCell ⟨w.heap.size + 1 + 1, 3, none⟩ (.int .i64 s3)) ∧ Nums ((((W.setCell ⟨w.heap.size + 1 + 1, 0, none⟩ (.int .i64 s0)).setCell ⟨w.heap.size + 1 + 1, 1, none⟩ (.int .i64 s1)).setCell ⟨w.heap.size + 1 + 1, 2, none⟩ (.int .i64 s2)).setCell ⟨w.heap.size + 1 + 1, 3, none⟩ (.int .i64 s3)) (w.heap.size + 1 + 1) [s0, s1, s2, s3] := by
  obtain ⟨W', hW', hb, hn⟩ := put_four h.res h.bel (by omega) s0 s1 s2 s3
  rw [hW']
  exact ⟨hb, hn⟩
set_option maxHeartbeats 4000000 in
theorem moved_any (x y X Y a b : Int) (h1 : I64 (x + a)) (h2 : I64 (y + b)) (h3 : I64 (X + a)) (h4 : I64 (Y + b)) (w : World) : Calls Tryz.prog 45 #[.agg #[.int .i64 x, .int .i64 y, .int .i64 X, .int .i64 Y], .agg #[.int .i64 a, .int .i64 b]] w fun e w' => e = .returned (.agg #[.int .i64 (x + a), .int .i64 (y + b), .int .i64 (X + a), .int .i64 (Y + b)]) ∧ Below w.heap.size w w' := by
  obtain ⟨W0, hW0, hh0⟩ := hm_start w x y X Y a b
  have H0 := Lib.hid hh0
  have HW := Lib.hid hW0
  clear hh0 hW0
  go_enter Tryz.func45, Tryz.ntmps45
  go_upto_region 1 with fail
  rw [HW.out]
  clear HW
  have hh := H0.out.drewN 1
  obtain ⟨c0, c1, c2, c3, _⟩ := H0.out.one.four
  obtain ⟨d0, d1, _⟩ := H0.out.two.two
  have n1 : ¬ w.heap.size = w.heap.size + 1 + 1 := by omega
  have n2 : ¬ w.heap.size + 1 + 1 = w.heap.size := by omega
  go_cut [] from 0 to 0 (fun wx => Below w.heap.size w wx ∧ Nums wx (w.heap.size + 1 + 1) [x + a, y + b, X + a, Y + b])
  case first =>
    go_region_held3 (fun w' => w'.cell? ⟨w.heap.size, 0, none⟩ = some (.int .i64 x) ∧ w'.cell? ⟨w.heap.size, 1, none⟩ = some (.int .i64 y) ∧ w'.cell? ⟨w.heap.size, 2, none⟩ = some (.int .i64 X) ∧ w'.cell? ⟨w.heap.size, 3, none⟩ = some (.int .i64 Y) ∧ w'.cell? ⟨w.heap.size + 1, 0, none⟩ = some (.int .i64 a) ∧ w'.cell? ⟨w.heap.size + 1, 1, none⟩ = some (.int .i64 b)) (go_keep)
      (first
        | (go_at_call 83; refine (plus_any _ _ _ _ (by assumption) (by assumption) _).mono ?_; rintro e wl ⟨rfl, hb⟩; have hl := Hm.later (by assumption) hb; have k1 := hl.one.four; have k2 := hl.two.two; have k3 := hl.res.four; clear hb))
    all_goals go_wp2_with fail
    all_goals go_meet
    all_goals first | exact hm_done hl | exact hm_done (by assumption)
  case rest =>
  obtain ⟨hbw, hn⟩ := hcut
  obtain ⟨q0, q1, q2, q3, _⟩ := hn.four
  go_wp2
  refine bodyPost_ret (v := _) (by simp [results, Tryz.results45, go_sem, q0, q1, q2, q3]; rfl) rfl ?_
  exact ⟨rfl, hbw⟩
end Go.Proofs.YtaapkngpnlnjeaaGreat
end

section
namespace Go.Proofs.YtaapkngpnlnjeaaGreat
open Go.RowKit Go.Maps
set_option maxRecDepth 100000

theorem and_cut (r : R4) (p q h : Int) (hp : 0 ≤ p ∧ p ≤ 2305843009213693952) (hq : 0 ≤ q ∧ q ≤ 2305843009213693952) (hh : 0 < h ∧ h ≤ 2305843009213693952) : ∃ A B C D, andV r.x r.y r.X r.Y p q (p + h) (q + h) = [A, B, C, D] ∧ cutR r p q h = ⟨A + -p, B + -q, C + -p, D + -q⟩ ∧ I64 (A + -p) ∧ I64 (B + -q) ∧ I64 (C + -p) ∧ I64 (D + -q) := by
  unfold andV cutR I64
  show ∃ A B C D, (if (R4.mk (max r.x p) (max r.y q) (min r.X (p + h)) (min r.Y (q + h))).no then _ else _) = _ ∧ _
  by_cases hm : (R4.mk (max r.x p) (max r.y q) (min r.X (p + h)) (min r.Y (q + h))).no = true
  · simp only [hm, if_true]
    refine ⟨0, 0, 0, 0, rfl, by simp, ?_⟩
    omega
  · simp only [hm]
    have := R4.no_not.1 (Bool.not_eq_true _ ▸ hm)
    simp only at this
    refine ⟨_, _, _, _, rfl, ?_, ?_⟩
    · simp only [Int.sub_eq_add_neg]; rfl
    · omega
structure Hq (w : World) (r : R4) (p q h : Int) (fb qb : Nat) (W : World) : Prop where
  bel : Below w.heap.size w W
  one : Nums W w.heap.size [r.x, r.y, r.X, r.Y]
  res : Nums W (w.heap.size + 1) [0, 0, 0, 0]
  fr : Nums W fb [p, q]
  qu : Nums W qb [p, q, p + h, q + h]
theorem Hq.later {w W W' : World} {r : R4} {p q h : Int} {fb qb : Nat} (hh : Hq w r p q h fb qb W) (hb : Below W.heap.size W W') : Hq w r p q h fb qb W' :=
  ⟨hh.bel.trans (hb.mono hh.bel.size), hh.one.later hb, hh.res.later hb, hh.fr.later hb, hh.qu.later hb⟩
theorem Hq.drewN {w W : World} {r : R4} {p q h : Int} {fb qb : Nat} (hh : Hq w r p q h fb qb W) (k : Nat) : Hq w r p q h fb qb (W.drewN k) :=
  ⟨⟨hh.bel.os, hh.bel.tape, hh.bel.output, hh.bel.size, hh.bel.block⟩, hh.one, hh.res, hh.fr, hh.qu⟩
theorem hq_done {w W : World} {r : R4} {p q h : Int} {fb qb : Nat} (hh : Hq w r p q h fb qb W) {s0 s1 s2 s3 : Int} : Below w.heap.size w ((((W.setCell ⟨w.heap.size + 1, 0, none⟩ (.int .i64 s0)).setCell ⟨w.heap.size + 1, 1, none⟩ (.int .i64 s1)).setCell ⟨w.heap.size + 1, 2, none⟩ (.int .i64 s2)).setCell ⟨w.heap.size + 1, 3, none⟩ (.int .i64 s3)) ∧ Nums ((((W.setCell ⟨w.heap.size + 1, 0, none⟩ (.int .i64 s0)).setCell ⟨w.heap.size + 1, 1, none⟩ (.int .i64 s1)).setCell ⟨w.heap.size + 1, 2, none⟩ (.int .i64 s2)).setCell ⟨w.heap.size + 1, 3, none⟩ (.int .i64 s3)) (w.heap.size + 1) [s0, s1, s2, s3] := by
  obtain ⟨W', hW', hb, hn⟩ := put_four hh.res hh.bel (by omega) s0 s1 s2 s3
  rw [hW']
  exact ⟨hb, hn⟩
/-- A rectangle as a value. -/
def rV (r : R4) : Value := .agg #[.int .i64 r.x, .int .i64 r.y, .int .i64 r.X, .int .i64 r.Y]
set_option maxHeartbeats 4000000 in
theorem quarter8_any (r : R4) (n : Nat) (hn : n < 62) (c d : Bool) (w : World) : Calls Tryz.prog 111 #[.agg #[.int .i64 r.x, .int .i64 r.y, .int .i64 r.X, .int .i64 r.Y], .int .i64 ((n : Int) + 1), .int .i64 (pl c d : Int)] w fun e w' => e = .returned (.agg #[.int .i64 (qR r n c d).x, .int .i64 (qR r n c d).y, .int .i64 (qR r n c d).X, .int .i64 (qR r n c d).Y]) ∧ Below w.heap.size w w' := by
  have h0 := pow_pos2 n
  have h1 := pow_61 hn
  have o1 := off_rng n c
  have o2 := off_rng n d
  obtain ⟨A, B, C, D, hand, hcut', i1, i2, i3, i4⟩ := and_cut r (off n c) (off n d) (2 ^ n) (by omega) (by omega) (by omega)
  have HQ : Hid (qR r n c d = ⟨A + -off n c, B + -off n d, C + -off n c, D + -off n d⟩) := hcut'
  have HA : Hid (∀ W, Calls Tryz.prog 48 #[.agg #[.int .i64 r.x, .int .i64 r.y, .int .i64 r.X, .int .i64 r.Y], .agg #[.int .i64 (off n c), .int .i64 (off n d), .int .i64 (off n c + 2 ^ n), .int .i64 (off n d + 2 ^ n)]] W fun e w' => e = .returned (.agg #[.int .i64 A, .int .i64 B, .int .i64 C, .int .i64 D]) ∧ Below W.heap.size W w') := fun W => by
    have := and_any r.x r.y r.X r.Y (off n c) (off n d) (off n c + 2 ^ n) (off n d + 2 ^ n) W
    rw [hand] at this
    exact this
  have HM : Hid (∀ W, Calls Tryz.prog 45 #[.agg #[.int .i64 0, .int .i64 0, .int .i64 (2 ^ n), .int .i64 (2 ^ n)], .agg #[.int .i64 (off n c), .int .i64 (off n d)]] W fun e w' => e = .returned (.agg #[.int .i64 (off n c), .int .i64 (off n d), .int .i64 (off n c + 2 ^ n), .int .i64 (off n d + 2 ^ n)]) ∧ Below W.heap.size W w') := fun W => by
    have := moved_any 0 0 (2 ^ n) (2 ^ n) (off n c) (off n d) (by unfold I64; omega) (by unfold I64; omega) (by unfold I64; omega) (by unfold I64; omega) W
    rw [Int.zero_add, Int.zero_add, Int.add_comm (2 ^ n) (off n c), Int.add_comm (2 ^ n) (off n d)] at this
    exact this
  have HM2 := Lib.hid (moved_any A B C D (-off n c) (-off n d) i1 i2 i3 i4)
  have HMI := Lib.hid (minus_any (off n c) (off n d) (by unfold I64; omega) (by unfold I64; omega))
  have HF := Lib.hid (first_any n hn c d)
  have HSD := Lib.hid (side8_any n (by omega))
  rw [HQ.out]
  clear HQ hand hcut' i1 i2 i3 i4 o1 o2 h0 h1
  generalize off n c = p at *
  generalize off n d = q at *
  generalize (2 : Int) ^ n = h at *
  go_enter Tryz.func111, Tryz.ntmps111
  go_wp2_with fail
  refine (HF.out _).mono ?_
  rintro e W1 ⟨rfl, hb⟩
  have HB1 : Hid (Below w.heap.size w W1) := (bel2 w _ _).trans (hb.mono (by simp; omega))
  have HR1 := Lib.hid (((rc_new w r.x r.y r.X r.Y 42).later (bel1 _ (.cells #[.int .i64 0, .int .i64 0, .int .i64 0, .int .i64 0] 42))).later hb)
  have hz1 := (rc_new (w.alloc (.cells #[.int .i64 r.x, .int .i64 r.y, .int .i64 r.X, .int .i64 r.Y] 42)) 0 0 0 0 42).later hb
  rw [show (w.alloc (.cells #[.int .i64 r.x, .int .i64 r.y, .int .i64 r.X, .int .i64 r.Y] 42)).heap.size = w.heap.size + 1 by simp] at hz1
  have HZ1 := Lib.hid hz1
  clear hb hz1
  go_wp2_with fail
  refine (HSD.out _).mono ?_
  rintro e W2 ⟨rfl, rfl⟩
  have HF1 := Lib.hid (pt_new W1 p q 34)
  have HB2 := Lib.hid (HB1.out.trans ((bel1 W1 (.cells #[.int .i64 p, .int .i64 q] 34)).mono HB1.out.size))
  have HR2 := Lib.hid (HR1.out.later (bel1 W1 (.cells #[.int .i64 p, .int .i64 q] 34)))
  have HZ2 := Lib.hid (HZ1.out.later (bel1 W1 (.cells #[.int .i64 p, .int .i64 q] 34)))
  have nf1 : ¬ w.heap.size + 1 = W1.heap.size := by have := HZ1.out.1; omega
  have nf2 : ¬ W1.heap.size = w.heap.size + 1 := by omega
  clear HB1 HR1 HZ1
  go_wp2_with fail
  generalize W1.alloc (.cells #[.int .i64 p, .int .i64 q] 34) = W3 at *
  generalize W1.heap.size = fb at *
  refine (HM.out _).mono ?_
  rintro e W4 ⟨rfl, hb⟩
  have HB4 := Lib.hid (HB2.out.trans (hb.mono HB2.out.size))
  have HR4 := Lib.hid (HR2.out.later hb)
  have HZ4 := Lib.hid (HZ2.out.later hb)
  have HF4 := Lib.hid (HF1.out.later hb)
  clear hb HB2 HR2 HZ2 HF1
  have HH : Hid (Hq w r p q h fb W4.heap.size (W4.alloc (.cells #[.int .i64 p, .int .i64 q, .int .i64 (p + h), .int .i64 (q + h)] 42))) := 
    ⟨HB4.out.trans ((bel1 W4 _).mono HB4.out.size), HR4.out.later (bel1 W4 _), HZ4.out.later (bel1 W4 _), HF4.out.later (bel1 W4 _), rc_new W4 _ _ _ _ _⟩
  have nk1 : ¬ w.heap.size + 1 = W4.heap.size := by have := HZ4.out.1; omega
  have nk2 : ¬ W4.heap.size = w.heap.size + 1 := by omega
  clear HB4 HR4 HZ4 HF4
  go_upto_region 3 with fail
  generalize W4.alloc (.cells #[.int .i64 p, .int .i64 q, .int .i64 (p + h), .int .i64 (q + h)] 42) = W5 at *
  generalize W4.heap.size = kb at *
  have hh := HH.out.drewN 1
  obtain ⟨c0, c1, c2, c3, _⟩ := HH.out.one.four
  obtain ⟨d0, d1, _⟩ := HH.out.fr.two
  obtain ⟨e0, e1, e2, e3, _⟩ := HH.out.qu.four
  obtain ⟨r0, r1, r2, r3, f0, f1, f2, f3⟩ := HH.out.res.four
  go_cut [] from 0 to 0 (fun wx => Below w.heap.size w wx ∧ Nums wx (w.heap.size + 1) [A + -p, B + -q, C + -p, D + -q])
  case first =>
    go_region_held3 (fun w' => (w'.cell? ⟨w.heap.size, 0, none⟩ = some (.int .i64 r.x) ∧ w'.cell? ⟨w.heap.size, 1, none⟩ = some (.int .i64 r.y) ∧ w'.cell? ⟨w.heap.size, 2, none⟩ = some (.int .i64 r.X) ∧ w'.cell? ⟨w.heap.size, 3, none⟩ = some (.int .i64 r.Y)) ∧ w'.cell? ⟨fb, 0, none⟩ = some (.int .i64 p) ∧ w'.cell? ⟨fb, 1, none⟩ = some (.int .i64 q) ∧ w'.cell? ⟨kb, 0, none⟩ = some (.int .i64 p) ∧ w'.cell? ⟨kb, 1, none⟩ = some (.int .i64 q) ∧ w'.cell? ⟨kb, 2, none⟩ = some (.int .i64 (p + h)) ∧ w'.cell? ⟨kb, 3, none⟩ = some (.int .i64 (q + h))) (go_keep)
      (first
        | (go_at_call 48; refine (HA.out _).mono ?_; rintro e wl ⟨rfl, hb⟩; have hl := Hq.later (by assumption) hb; have k1 := hl.one.four; have k2 := hl.fr.two; have k3 := hl.res.four; have k4 := hl.qu.four; clear hb)
        | (go_at_call 49; refine (HMI.out _).mono ?_; rintro e wl ⟨rfl, hb⟩; have hl := Hq.later (by assumption) hb; have k1 := hl.one.four; have k2 := hl.fr.two; have k3 := hl.res.four; have k4 := hl.qu.four; clear hb)
        | (go_at_call 45; refine (HM2.out _).mono ?_; rintro e wl ⟨rfl, hb⟩; have hl := Hq.later (by assumption) hb; have k1 := hl.one.four; have k2 := hl.fr.two; have k3 := hl.res.four; have k4 := hl.qu.four; clear hb))
    all_goals go_wp2_with fail
    all_goals go_meet
    all_goals first | exact hq_done hl | exact hq_done (by assumption)
  case rest =>
  obtain ⟨hbw, hn'⟩ := hcut
  obtain ⟨q0, q1, q2, q3, _⟩ := hn'.four
  go_wp2
  refine bodyPost_ret (v := _) (by simp [results, Tryz.results111, go_sem, q0, q1, q2, q3]; rfl) rfl ?_
  exact ⟨rfl, hbw⟩
/-- Rectangles compared. -/
theorem Tryz.fieldsPt8 : ((Tryz.prog.fieldsOf 34).toList.map fun f => (f.name, f.type, f.offset)) = [("X", 2, 0), ("Y", 2, 1)] := by kernel_rfl
theorem Tryz.fieldsRc8 : ((Tryz.prog.fieldsOf 42).toList.map fun f => (f.name, f.type, f.offset)) = [("From", 34, 0), ("To", 34, 2)] := by kernel_rfl
end Go.Proofs.YtaapkngpnlnjeaaGreat
end

section
namespace Go.Proofs.YtaapkngpnlnjeaaGreat
open Go.RowKit Go.Maps

/-- A map's types, and its keys. -/
structure Mk (k e t : TypeId) (α : Type) where
  keyed : Keyed Tryz.prog k
  ht : Tryz.prog.underlying t = some (.map k e)
  kv : α → Value
  ok : α → Prop
  kl : α → Lit
  hkey : ∀ a, ok a → keyOf Tryz.prog k (kv a) = some (kl a)
  inj : ∀ a b, ok a → ok b → kl a = kl b → a = b
  zero : Value
  hz : ∀ w, (zeroValue e).run Tryz.prog w = .ok zero w
  few : ∀ ks : List α, ks.Nodup → (∀ a ∈ ks, ok a) → ks.length < maxLen
/-- An element, as it is. -/
def heldR (v : Value) : Option (DataW Value × List MemPlace) := some (.held v, [])
theorem owns_exact {w : World} {k : TypeId} {R : Value → Option (DataW Value × List MemPlace)} {b n : Nat} {D : DataW Value} (h : w.ownsMap Tryz.prog k R b n D) : w.ownsMap Tryz.prog k R b (Maps.size D) D := by
  obtain ⟨es, clock, hb, F, _, rfl⟩ := h
  exact ⟨es, clock, hb, F, by simp [Maps.size, length_sorted], rfl⟩
/-- Block b holds a map that is this function. -/
def GMap {k e t : TypeId} {α : Type} (K : Mk k e t α) (w : World) (b : Nat) (m : α → Option Value) : Prop :=
  ∃ (D : DataW Value) (ks : List α), w.ownsMap Tryz.prog k heldR b (Maps.size D) D ∧ Maps.size D = ks.length ∧ ks.Nodup ∧ (∀ a ∈ ks, K.ok a) ∧ (∀ a, a ∈ ks ↔ (m a).isSome = true) ∧
    ∀ a, K.ok a → (∀ v, m a = some v → Maps.has D (K.kl a) = true ∧ ∀ z, D.atKey (K.kl a) z = .held v) ∧ (m a = none → Maps.has D (K.kl a) = false)
section
variable {k e t : TypeId} {α : Type} {K : Mk k e t α}
theorem GMap.lt {w : World} {b : Nat} {m : α → Option Value} (h : GMap K w b m) : b < w.heap.size := by
  obtain ⟨D, ks, h, _⟩ := h
  exact h.lt
theorem GMap.blk {w w' : World} {b : Nat} {m : α → Option Value} (h : GMap K w b m) (hb : w'.heap[b]? = w.heap[b]?) : GMap K w' b m := by
  obtain ⟨D, ks, ⟨es, clock, h1, h2⟩, r⟩ := h
  exact ⟨D, ks, ⟨es, clock, hb.trans h1, h2⟩, r⟩
theorem GMap.is_map {w : World} {b : Nat} {m : α → Option Value} (h : GMap K w b m) : ∃ es clock, w.heap[b]? = some (.map es clock) := by
  obtain ⟨D, ks, ⟨es, clock, h1, h2⟩, r⟩ := h
  exact ⟨es, clock, h1⟩
theorem GMap.later {w w' : World} {b : Nat} {m : α → Option Value} (h : GMap K w b m) (hb : Below w.heap.size w w') : GMap K w' b m := h.blk (hb.block b h.lt)
theorem GMap.drewN {w : World} {b : Nat} {m : α → Option Value} (h : GMap K w b m) (q : Nat) : GMap K (w.drewN q) b m := h.blk rfl
theorem gmap_new (K : Mk k e t α) (w : World) : GMap K (w.alloc (.map #[] 0)) w.heap.size (fun _ => none) := by
  refine ⟨.map [], [], World.ownsMap_made w _ _ _, rfl, List.nodup_nil, by simp, by simp, fun a _ => ⟨fun v h => by simp at h, fun _ => by simp [Maps.has]⟩⟩
theorem GMap.look {w : World} {b : Nat} {m : α → Option Value} (h : GMap K w b m) (a : α) (ha : K.ok a) :
    (∀ v, m a = some v → (Instr.lookup t (.map (some b)) (K.kv a) true).run Tryz.prog w = .ok (.tuple #[v, .bool true]) w) ∧
    (m a = none → (Instr.lookup t (.map (some b)) (K.kv a) true).run Tryz.prog w = .ok (.tuple #[K.zero, .bool false]) w) := by
  obtain ⟨D, ks, ho, hs, hnd, hok, hmem, hval⟩ := h
  obtain ⟨v, ps, hr, hv⟩ := ho.look_ok K.keyed K.ht (K.hz w) (zd := .held K.zero) (zp := []) rfl (K.hkey a ha)
  obtain ⟨g1, g2⟩ := hval a ha
  simp only [heldR, Option.some.injEq, Prod.mk.injEq] at hv
  refine ⟨fun u hu => ?_, fun hn => ?_⟩
  · obtain ⟨h1, h2⟩ := g1 u hu
    rw [h2] at hv
    rw [hr, h1]
    have := hv.1
    simp only [DataW.held.injEq] at this
    rw [this]
  · have h1 := g2 hn
    rw [Maps.atKey_of_not_has h1] at hv
    rw [hr, h1]
    have := hv.1
    simp only [DataW.held.injEq] at this
    rw [this]
theorem GMap.put [DecidableEq α] {w : World} {b : Nat} {m : α → Option Value} (h : GMap K w b m) (a : α) (ha : K.ok a) (v : Value) :
    ∃ w', (Instr.mapUpdate t (.map (some b)) (K.kv a) v).run Tryz.prog w = .ok () w' ∧ GMap K w' b (fun x => if x = a then some v else m x) ∧ w.grownBy w' (some b) := by
  obtain ⟨D, ks, ho, hs, hnd, hok, hmem, hval⟩ := h
  obtain ⟨w', r1, r2, r3⟩ := ho.update K.keyed K.ht (by rw [hs]; exact K.few ks hnd hok) (K.hkey a ha) (d := .held v) (ps := []) rfl
  have hkl : WideAt.IsKeyLit (K.kl a) := K.keyed.key (K.hkey a ha)
  have hsz := Maps.size_put (k := K.kl a) (ho.tidy K.keyed) (.held v)
  refine ⟨w', r1, ⟨D.put (K.kl a) (.held v), if a ∈ ks then ks else a :: ks, owns_exact r2, ?_, ?_, ?_, fun x => ?_, fun x hx => ?_⟩, r3⟩
  · rw [hsz]
    by_cases hm : a ∈ ks
    · rw [if_pos hm]
      obtain ⟨u, hu⟩ := Option.isSome_iff_exists.1 ((hmem a).1 hm)
      rw [((hval a ha).1 u hu).1, if_pos rfl, hs]
    · rw [if_neg hm]
      have hn : m a = none := by
        cases hma : m a with
        | none => rfl
        | some u => exact absurd ((hmem a).2 (by rw [hma]; rfl)) hm
      rw [(hval a ha).2 hn]
      simp [hs]
  · split
    · exact hnd
    · rename_i hm
      exact List.nodup_cons.2 ⟨hm, hnd⟩
  · split
    · exact hok
    · intro x hx
      rcases List.mem_cons.1 hx with rfl | hx
      · exact ha
      · exact hok x hx
  · by_cases hxa : x = a
    · subst hxa
      simp only [if_true, Option.isSome_some, iff_true]
      split
      · assumption
      · exact List.mem_cons_self
    · simp only [if_neg hxa]
      rw [← hmem]
      split
      · exact Iff.rfl
      · simp [hxa]
  · by_cases hxa : x = a
    · subst hxa
      simp only [if_true]
      refine ⟨fun u hu => ?_, fun hn => by simp at hn⟩
      obtain rfl := Option.some.inj hu
      exact ⟨Maps.has_put_same ho.isMap hkl _, fun z => Maps.atKey_put_same ho.isMap hkl _ _⟩
    · simp only [if_neg hxa]
      have hne : K.kl x ≠ K.kl a := fun hh => hxa (K.inj _ _ hx ha hh)
      refine ⟨fun u hu => ?_, fun hn => ?_⟩
      · obtain ⟨h1, h2⟩ := (hval x hx).1 u hu
        exact ⟨by rw [Maps.has_put_other hne]; exact h1, fun z => by rw [Maps.atKey_put_other hne]; exact h2 z⟩
      · rw [Maps.has_put_other hne]; exact (hval x hx).2 hn
end
/-- Numbers below a bound, each once, are no more than it. -/
theorem nat_few : ∀ (M : Nat) (l : List Nat), l.Nodup → (∀ x ∈ l, x < M) → l.length ≤ M
  | 0, l, _, h => by
    cases l with
    | nil => simp
    | cons x r => exact absurd (h x List.mem_cons_self) (by omega)
  | M + 1, l, hn, h => by
    have h1 := nat_few M (l.filter (· != M)) (hn.filter _) (fun x hx => by
      obtain ⟨h1, h2⟩ := List.mem_filter.1 hx
      have := h x h1
      simp at h2
      omega)
    have h2 : l.length ≤ (l.filter (· != M)).length + 1 := by
      clear h1 h
      induction l with
      | nil => simp
      | cons x r ih =>
        obtain ⟨hx, hr⟩ := List.nodup_cons.1 hn
        by_cases e : x = M
        · subst e
          rw [List.filter_cons_of_neg (by simp)]
          have : r.filter (· != x) = r := List.filter_eq_self.2 fun y hy => by
            simp
            rintro rfl
            exact hx hy
          rw [this]; simp
        · rw [List.filter_cons_of_pos (by simp [e])]
          have := ih hr
          simp
          omega
    omega
theorem map_nodup {α : Type} {f : α → Nat} : ∀ {l : List α}, l.Nodup → (∀ x ∈ l, ∀ y ∈ l, f x = f y → x = y) → (l.map f).Nodup
  | [], _, _ => List.nodup_nil
  | x :: r, hn, h => by
    obtain ⟨hx, hr⟩ := List.nodup_cons.1 hn
    rw [List.map_cons, List.nodup_cons]
    refine ⟨fun hm => ?_, map_nodup hr fun a ha b hb => h a (List.mem_cons_of_mem _ ha) b (List.mem_cons_of_mem _ hb)⟩
    obtain ⟨y, hy, e⟩ := List.mem_map.1 hm
    exact hx (by rw [← h y (List.mem_cons_of_mem _ hy) x List.mem_cons_self e]; exact hy)
/-- A stock of keys, by their codes. -/
theorem few_of {α : Type} {ok : α → Prop} (f : α → Nat) (M : Nat) (hM : M < maxLen) (hf : ∀ a, ok a → f a < M) (hi : ∀ a b, ok a → ok b → f a = f b → a = b) (ks : List α) (hn : ks.Nodup) (h : ∀ a ∈ ks, ok a) : ks.length < maxLen := by
  have h1 := nat_few M (ks.map f) (map_nodup hn fun x hx y hy e => hi x y (h x hx) (h y hy) e) (fun x hx => by
    obtain ⟨y, hy, rfl⟩ := List.mem_map.1 hx
    exact hf y (h y hy))
  rw [List.length_map] at h1
  omega
end Go.Proofs.YtaapkngpnlnjeaaGreat
end
