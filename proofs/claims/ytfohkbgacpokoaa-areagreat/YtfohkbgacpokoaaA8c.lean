/- Package area: quarter, whole: contracts. -/
import Derived.Test.YtfohkbgacpokoaaA8b
namespace Go.Proofs.Ytfohkbgacpokoaa
open Go.RowKit Go.Maps
set_option maxRecDepth 100000

theorem and_cut (r : R4) (p q h : Int) (hp : 0 ≤ p ∧ p ≤ 2305843009213693952) (hq : 0 ≤ q ∧ q ≤ 2305843009213693952) (hh : 0 < h ∧ h ≤ 2305843009213693952) : ∃ A B C D, andV r.x r.y r.X r.Y p q (p + h) (q + h) = [A, B, C, D] ∧ cutR r p q h = ⟨A + -p, B + -q, C + -p, D + -q⟩ ∧ I64 (A + -p) ∧ I64 (B + -q) ∧ I64 (C + -p) ∧ I64 (D + -q) := by
  unfold andV cutR I64
  show ∃ A B C D, (if (R4.mk (max r.x p) (max r.y q) (min r.X (p + h)) (min r.Y (q + h))).no then _ else _) = _ ∧ _
  by_cases hm : (R4.mk (max r.x p) (max r.y q) (min r.X (p + h)) (min r.Y (q + h))).no = true
  · simp only [hm, if_true]
    refine ⟨0, 0, 0, 0, rfl, by simp, ?_⟩
    omega
  · simp only [hm]
    have := R4.no_not.1 (Bool.not_eq_true _ ▸ hm)
    simp only at this
    refine ⟨_, _, _, _, rfl, ?_, ?_⟩
    · simp only [Int.sub_eq_add_neg]; rfl
    · omega
structure Hq (w : World) (r : R4) (p q h : Int) (fb qb : Nat) (W : World) : Prop where
  bel : Below w.heap.size w W
  one : Nums W w.heap.size [r.x, r.y, r.X, r.Y]
  res : Nums W (w.heap.size + 1) [0, 0, 0, 0]
  fr : Nums W fb [p, q]
  qu : Nums W qb [p, q, p + h, q + h]
theorem Hq.later {w W W' : World} {r : R4} {p q h : Int} {fb qb : Nat} (hh : Hq w r p q h fb qb W) (hb : Below W.heap.size W W') : Hq w r p q h fb qb W' :=
  ⟨hh.bel.trans (hb.mono hh.bel.size), hh.one.later hb, hh.res.later hb, hh.fr.later hb, hh.qu.later hb⟩
theorem Hq.drewN {w W : World} {r : R4} {p q h : Int} {fb qb : Nat} (hh : Hq w r p q h fb qb W) (k : Nat) : Hq w r p q h fb qb (W.drewN k) :=
  ⟨⟨hh.bel.os, hh.bel.tape, hh.bel.output, hh.bel.size, hh.bel.block⟩, hh.one, hh.res, hh.fr, hh.qu⟩
theorem hq_done {w W : World} {r : R4} {p q h : Int} {fb qb : Nat} (hh : Hq w r p q h fb qb W) {s0 s1 s2 s3 : Int} : Below w.heap.size w ((((W.setCell ⟨w.heap.size + 1, 0, none⟩ (.int .i64 s0)).setCell ⟨w.heap.size + 1, 1, none⟩ (.int .i64 s1)).setCell ⟨w.heap.size + 1, 2, none⟩ (.int .i64 s2)).setCell ⟨w.heap.size + 1, 3, none⟩ (.int .i64 s3)) ∧ Nums ((((W.setCell ⟨w.heap.size + 1, 0, none⟩ (.int .i64 s0)).setCell ⟨w.heap.size + 1, 1, none⟩ (.int .i64 s1)).setCell ⟨w.heap.size + 1, 2, none⟩ (.int .i64 s2)).setCell ⟨w.heap.size + 1, 3, none⟩ (.int .i64 s3)) (w.heap.size + 1) [s0, s1, s2, s3] := by
  obtain ⟨W', hW', hb, hn⟩ := put_four hh.res hh.bel (by omega) s0 s1 s2 s3
  rw [hW']
  exact ⟨hb, hn⟩
/-- A rectangle as a value. -/
def rV (r : R4) : Value := .agg #[.int .i64 r.x, .int .i64 r.y, .int .i64 r.X, .int .i64 r.Y]
set_option maxHeartbeats 4000000 in
theorem quarter8_any (r : R4) (n : Nat) (hn : n < 62) (c d : Bool) (w : World) : Calls Try.prog 63 #[.agg #[.int .i64 r.x, .int .i64 r.y, .int .i64 r.X, .int .i64 r.Y], .int .i64 ((n : Int) + 1), .int .i64 (pl c d : Int)] w fun e w' => e = .returned (.agg #[.int .i64 (qR r n c d).x, .int .i64 (qR r n c d).y, .int .i64 (qR r n c d).X, .int .i64 (qR r n c d).Y]) ∧ Below w.heap.size w w' := by
  have h0 := pow_pos2 n
  have h1 := pow_61 hn
  have o1 := off_rng n c
  have o2 := off_rng n d
  obtain ⟨A, B, C, D, hand, hcut', i1, i2, i3, i4⟩ := and_cut r (off n c) (off n d) (2 ^ n) (by omega) (by omega) (by omega)
  have HQ : Hid (qR r n c d = ⟨A + -off n c, B + -off n d, C + -off n c, D + -off n d⟩) := hcut'
  have HA : Hid (∀ W, Calls Try.prog 36 #[.agg #[.int .i64 r.x, .int .i64 r.y, .int .i64 r.X, .int .i64 r.Y], .agg #[.int .i64 (off n c), .int .i64 (off n d), .int .i64 (off n c + 2 ^ n), .int .i64 (off n d + 2 ^ n)]] W fun e w' => e = .returned (.agg #[.int .i64 A, .int .i64 B, .int .i64 C, .int .i64 D]) ∧ Below W.heap.size W w') := fun W => by
    have := and_any r.x r.y r.X r.Y (off n c) (off n d) (off n c + 2 ^ n) (off n d + 2 ^ n) W
    rw [hand] at this
    exact this
  have HM : Hid (∀ W, Calls Try.prog 32 #[.agg #[.int .i64 0, .int .i64 0, .int .i64 (2 ^ n), .int .i64 (2 ^ n)], .agg #[.int .i64 (off n c), .int .i64 (off n d)]] W fun e w' => e = .returned (.agg #[.int .i64 (off n c), .int .i64 (off n d), .int .i64 (off n c + 2 ^ n), .int .i64 (off n d + 2 ^ n)]) ∧ Below W.heap.size W w') := fun W => by
    have := moved_any 0 0 (2 ^ n) (2 ^ n) (off n c) (off n d) (by unfold I64; omega) (by unfold I64; omega) (by unfold I64; omega) (by unfold I64; omega) W
    rw [Int.zero_add, Int.zero_add, Int.add_comm (2 ^ n) (off n c), Int.add_comm (2 ^ n) (off n d)] at this
    exact this
  have HM2 := Lib.hid (moved_any A B C D (-off n c) (-off n d) i1 i2 i3 i4)
  have HMI := Lib.hid (minus_any (off n c) (off n d) (by unfold I64; omega) (by unfold I64; omega))
  have HF := Lib.hid (first_any n hn c d)
  have HSD := Lib.hid (side8_any n (by omega))
  rw [HQ.out]
  clear HQ hand hcut' i1 i2 i3 i4 o1 o2 h0 h1
  generalize off n c = p at *
  generalize off n d = q at *
  generalize (2 : Int) ^ n = h at *
  go_enter Try.func63, Try.ntmps63
  go_wp2_with fail
  refine (HF.out _).mono ?_
  rintro e W1 ⟨rfl, hb⟩
  have HB1 : Hid (Below w.heap.size w W1) := (bel2 w _ _).trans (hb.mono (by simp; omega))
  have HR1 := Lib.hid (((rc_new w r.x r.y r.X r.Y 26).later (bel1 _ (.cells #[.int .i64 0, .int .i64 0, .int .i64 0, .int .i64 0] 26))).later hb)
  have hz1 := (rc_new (w.alloc (.cells #[.int .i64 r.x, .int .i64 r.y, .int .i64 r.X, .int .i64 r.Y] 26)) 0 0 0 0 26).later hb
  rw [show (w.alloc (.cells #[.int .i64 r.x, .int .i64 r.y, .int .i64 r.X, .int .i64 r.Y] 26)).heap.size = w.heap.size + 1 by simp] at hz1
  have HZ1 := Lib.hid hz1
  clear hb hz1
  go_wp2_with fail
  refine (HSD.out _).mono ?_
  rintro e W2 ⟨rfl, rfl⟩
  have HF1 := Lib.hid (pt_new W1 p q 23)
  have HB2 := Lib.hid (HB1.out.trans ((bel1 W1 (.cells #[.int .i64 p, .int .i64 q] 23)).mono HB1.out.size))
  have HR2 := Lib.hid (HR1.out.later (bel1 W1 (.cells #[.int .i64 p, .int .i64 q] 23)))
  have HZ2 := Lib.hid (HZ1.out.later (bel1 W1 (.cells #[.int .i64 p, .int .i64 q] 23)))
  have nf1 : ¬ w.heap.size + 1 = W1.heap.size := by have := HZ1.out.1; omega
  have nf2 : ¬ W1.heap.size = w.heap.size + 1 := by omega
  clear HB1 HR1 HZ1
  go_wp2_with fail
  generalize W1.alloc (.cells #[.int .i64 p, .int .i64 q] 23) = W3 at *
  generalize W1.heap.size = fb at *
  refine (HM.out _).mono ?_
  rintro e W4 ⟨rfl, hb⟩
  have HB4 := Lib.hid (HB2.out.trans (hb.mono HB2.out.size))
  have HR4 := Lib.hid (HR2.out.later hb)
  have HZ4 := Lib.hid (HZ2.out.later hb)
  have HF4 := Lib.hid (HF1.out.later hb)
  clear hb HB2 HR2 HZ2 HF1
  have HH : Hid (Hq w r p q h fb W4.heap.size (W4.alloc (.cells #[.int .i64 p, .int .i64 q, .int .i64 (p + h), .int .i64 (q + h)] 26))) := 
    ⟨HB4.out.trans ((bel1 W4 _).mono HB4.out.size), HR4.out.later (bel1 W4 _), HZ4.out.later (bel1 W4 _), HF4.out.later (bel1 W4 _), rc_new W4 _ _ _ _ _⟩
  have nk1 : ¬ w.heap.size + 1 = W4.heap.size := by have := HZ4.out.1; omega
  have nk2 : ¬ W4.heap.size = w.heap.size + 1 := by omega
  clear HB4 HR4 HZ4 HF4
  go_upto_region 3 with fail
  generalize W4.alloc (.cells #[.int .i64 p, .int .i64 q, .int .i64 (p + h), .int .i64 (q + h)] 26) = W5 at *
  generalize W4.heap.size = kb at *
  have hh := HH.out.drewN 1
  obtain ⟨c0, c1, c2, c3, _⟩ := HH.out.one.four
  obtain ⟨d0, d1, _⟩ := HH.out.fr.two
  obtain ⟨e0, e1, e2, e3, _⟩ := HH.out.qu.four
  obtain ⟨r0, r1, r2, r3, f0, f1, f2, f3⟩ := HH.out.res.four
  go_cut [] from 0 to 0 (fun wx => Below w.heap.size w wx ∧ Nums wx (w.heap.size + 1) [A + -p, B + -q, C + -p, D + -q])
  case first =>
    go_region_held3 (fun w' => (w'.cell? ⟨w.heap.size, 0, none⟩ = some (.int .i64 r.x) ∧ w'.cell? ⟨w.heap.size, 1, none⟩ = some (.int .i64 r.y) ∧ w'.cell? ⟨w.heap.size, 2, none⟩ = some (.int .i64 r.X) ∧ w'.cell? ⟨w.heap.size, 3, none⟩ = some (.int .i64 r.Y)) ∧ w'.cell? ⟨fb, 0, none⟩ = some (.int .i64 p) ∧ w'.cell? ⟨fb, 1, none⟩ = some (.int .i64 q) ∧ w'.cell? ⟨kb, 0, none⟩ = some (.int .i64 p) ∧ w'.cell? ⟨kb, 1, none⟩ = some (.int .i64 q) ∧ w'.cell? ⟨kb, 2, none⟩ = some (.int .i64 (p + h)) ∧ w'.cell? ⟨kb, 3, none⟩ = some (.int .i64 (q + h))) (go_keep)
      (first
        | (go_at_call 36; refine (HA.out _).mono ?_; rintro e wl ⟨rfl, hb⟩; have hl := Hq.later (by assumption) hb; have k1 := hl.one.four; have k2 := hl.fr.two; have k3 := hl.res.four; have k4 := hl.qu.four; clear hb)
        | (go_at_call 37; refine (HMI.out _).mono ?_; rintro e wl ⟨rfl, hb⟩; have hl := Hq.later (by assumption) hb; have k1 := hl.one.four; have k2 := hl.fr.two; have k3 := hl.res.four; have k4 := hl.qu.four; clear hb)
        | (go_at_call 32; refine (HM2.out _).mono ?_; rintro e wl ⟨rfl, hb⟩; have hl := Hq.later (by assumption) hb; have k1 := hl.one.four; have k2 := hl.fr.two; have k3 := hl.res.four; have k4 := hl.qu.four; clear hb))
    all_goals go_wp2_with fail
    all_goals go_meet
    all_goals first | exact hq_done hl | exact hq_done (by assumption)
  case rest =>
  obtain ⟨hbw, hn'⟩ := hcut
  obtain ⟨q0, q1, q2, q3, _⟩ := hn'.four
  go_wp2
  refine bodyPost_ret (v := _) (by simp [results, Try.results63, go_sem, q0, q1, q2, q3]; rfl) rfl ?_
  exact ⟨rfl, hbw⟩
/-- Rectangles compared. -/
theorem Try.fieldsPt8 : ((Try.prog.fieldsOf 23).toList.map fun f => (f.name, f.type, f.offset)) = [("X", 2, 0), ("Y", 2, 1)] := by kernel_rfl
theorem Try.fieldsRc8 : ((Try.prog.fieldsOf 26).toList.map fun f => (f.name, f.type, f.offset)) = [("From", 23, 0), ("To", 23, 2)] := by kernel_rfl
end Go.Proofs.Ytfohkbgacpokoaa
