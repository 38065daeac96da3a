/- Package evolve: what a memo has seen: sure, wasOther, note: contracts. -/
import Derived.Test.YtaapkngpnlnjeaaGreatDoorP10
import Derived.Test.YtaapkngpnlnjeaaGreatDoorP06
import Derived.Deep.MidRow
namespace Go.Proofs.YtaapkngpnlnjeaaGreatDoor
open Go.RowKit Go.Maps
set_option maxRecDepth 100000

theorem arrQ_equal {t e : TypeId} (hu : Tryz.prog.underlying t = some (.array 4 e)) (hv : Tryz.prog.underlying e = some (.int .u32)) (hs : ∀ w, (sizeOf e).run Tryz.prog w = .ok 1 w)
    (hp : ∀ (a b c d : Value) (w : World), (part e #[a, b, c, d] 0).run Tryz.prog w = .ok a w ∧ (part e #[a, b, c, d] 1).run Tryz.prog w = .ok b w ∧ (part e #[a, b, c, d] 2).run Tryz.prog w = .ok c w ∧ (part e #[a, b, c, d] 3).run Tryz.prog w = .ok d w)
    (a b c d a' b' c' d' : Int) (W : World) (q : Nat) : (Op.equalIn (q + 2) t (.agg #[.int .u32 a, .int .u32 b, .int .u32 c, .int .u32 d]) (.agg #[.int .u32 a', .int .u32 b', .int .u32 c', .int .u32 d'])).run Tryz.prog W = .ok (a == a' && (b == b' && (c == c' && d == d'))) W := by
  have h1 : ∀ (q : Nat) (x y : Int) (w : World), (Op.equalIn (q + 1) e (.int .u32 x) (.int .u32 y)).run Tryz.prog w = .ok (x == y) w := fun q x y w => by
    simp [Op.equalIn, run_underlying hv]
  have p0 := fun x y z t w => (hp x y z t w).1
  have p1 := fun x y z t w => (hp x y z t w).2.1
  have p2 := fun x y z t w => (hp x y z t w).2.2.1
  have p3 := fun x y z t w => (hp x y z t w).2.2.2
  rw [Op.equalIn]
  simp only [Sem.run_bind, run_underlying hu, Result.andThen_ok, hs, Std.Legacy.Range.forIn_eq_forIn_range', Std.Legacy.Range.size, List.range', List.forIn_cons, List.forIn_nil, Nat.mul_one, Nat.zero_add, Nat.reduceAdd, p0, h1]
  by_cases e1 : a = a' <;> by_cases e2 : b = b' <;> by_cases e3 : c = c' <;> by_cases e4 : d = d' <;> simp [p1, p2, p3, h1, Sem.run_bind, e1, e2, e3, e4]
theorem arrQ_ne (k : K4) (W : World) : (binOp .neq 63 (.agg #[.int .u32 (k.1 : Int), .int .u32 (k.2.1 : Int), .int .u32 (k.2.2.1 : Int), .int .u32 (k.2.2.2 : Int)]) (.agg #[.int .u32 (k.1 : Int), .int .u32 (k.2.1 : Int), .int .u32 (k.2.2.1 : Int), .int .u32 (k.2.2.2 : Int)])).run Tryz.prog W = .ok (.bool false) W := by
  simp only [binOp]
  simp [Op.equal, Op.maxDepth, arrQ_equal Tryz.underlying63 Tryz.underlying32 Tryz.sizeOf32 (fun a b c d w => ⟨by kernel_rfl, by kernel_rfl, by kernel_rfl, by kernel_rfl⟩) k.1 k.2.1 k.2.2.1 k.2.2.2 k.1 k.2.1 k.2.2.1 k.2.2.2 W 9998]
def seO (x p : Nat) : Obj := .cells #[.int .u32 (x : Int), .int .i64 (p : Int)] 140 (0, 0)
theorem se_cells {w : World} {b x p : Nat} (h : w.heap[b]? = some (seO x p)) : w.cell? ⟨b, 0, none⟩ = some (.int .u32 (x : Int)) ∧ w.cell? ⟨b, 1, none⟩ = some (.int .i64 (p : Int)) :=
  ⟨by rw [Lib.cell_of_heap h]; rfl, by rw [Lib.cell_of_heap h]; rfl⟩
/-- The row's form. -/
theorem row_form {w : World} {B : Nat} {e : TypeId} {size n : Nat} {v : Value} {xs : List Value} (h : w.ownsRow B e size v n xs) : ∃ (A : Option Addr) (c : Nat), v = .slice A n c ∧ (0 < n → ∃ g, A = some ⟨g, 0, none⟩) := by
  rcases h.2 with ⟨rfl, rfl⟩ | ⟨g, cap, cur, rfl, _⟩
  · exact ⟨none, 0, rfl, fun h => by omega⟩
  · exact ⟨_, cap, rfl, fun _ => ⟨g, rfl⟩⟩
theorem snL_cons (s : K4 × Int) (S : List (K4 × Int)) : snL (s :: S) = [.int .u32 (s.1.1 : Int), .int .u32 (s.1.2.1 : Int), .int .u32 (s.1.2.2.1 : Int), .int .u32 (s.1.2.2.2 : Int), .int .i64 s.2] ++ snL S := rfl
theorem snL_len : ∀ S : List (K4 × Int), (snL S).length = S.length * 5
  | [] => rfl
  | s :: S => by rw [snL_cons, List.length_append, snL_len S, List.length_cons]; simp only [List.length_cons, List.length_nil]; omega
theorem snL_at : ∀ (S : List (K4 × Int)) {j : Nat} {s : K4 × Int}, S[j]? = some s → (snL S)[j * 5]? = some (.int .u32 (s.1.1 : Int)) ∧ (snL S)[j * 5 + 1]? = some (.int .u32 (s.1.2.1 : Int)) ∧ (snL S)[j * 5 + 2]? = some (.int .u32 (s.1.2.2.1 : Int)) ∧ (snL S)[j * 5 + 3]? = some (.int .u32 (s.1.2.2.2 : Int)) ∧ (snL S)[j * 5 + 4]? = some (.int .i64 s.2)
  | s' :: S, 0, s, h => by
    have e : s' = s := Option.some.inj h
    subst e
    rw [snL_cons]
    exact ⟨rfl, rfl, rfl, rfl, rfl⟩
  | s' :: S, j + 1, s, h => by
    obtain ⟨h0, h1, h2, h3, h4⟩ := snL_at S (j := j) (s := s) (by simpa using h)
    rw [snL_cons]
    have e : ∀ k, ([.int .u32 (s'.1.1 : Int), .int .u32 (s'.1.2.1 : Int), .int .u32 (s'.1.2.2.1 : Int), .int .u32 (s'.1.2.2.2 : Int), .int .i64 s'.2] ++ snL S : List Value)[(j + 1) * 5 + k]? = (snL S)[j * 5 + k]? := fun k => by
      rw [List.getElem?_append_right (by simp only [List.length_cons, List.length_nil]; omega)]
      congr 1
      simp only [List.length_cons, List.length_nil]; omega
    have e0 := e 0
    rw [Nat.add_zero, Nat.add_zero] at e0
    exact ⟨e0.trans h0, (e 1).trans h1, (e 2).trans h2, (e 3).trans h3, (e 4).trans h4⟩
/-- What is seen of a square, in the world. -/
theorem sight_cells {w : World} {B g cap : Nat} {S : List (K4 × Int)} (h : w.ownsRow B 160 5 (.slice (some ⟨g, 0, none⟩) S.length cap) S.length (snL S)) {j : Nat} {s : K4 × Int} (hj : S[j]? = some s) :
    w.cell? ⟨g, j * 5, none⟩ = some (.int .u32 (s.1.1 : Int)) ∧ w.cell? ⟨g, j * 5 + 1, none⟩ = some (.int .u32 (s.1.2.1 : Int)) ∧ w.cell? ⟨g, j * 5 + 2, none⟩ = some (.int .u32 (s.1.2.2.1 : Int)) ∧ w.cell? ⟨g, j * 5 + 3, none⟩ = some (.int .u32 (s.1.2.2.2 : Int)) ∧ w.cell? ⟨g, j * 5 + 4, none⟩ = some (.int .i64 s.2) := by
  have hl := (List.getElem?_eq_some_iff.1 hj).1
  obtain ⟨h0, h1, h2, h3, h4⟩ := snL_at S hj
  exact ⟨by rw [h.cellAt (j * 5) (by omega)]; exact h0, by rw [h.cellAt (j * 5 + 1) (by omega)]; exact h1, by rw [h.cellAt (j * 5 + 2) (by omega)]; exact h2, by rw [h.cellAt (j * 5 + 3) (by omega)]; exact h3, by rw [h.cellAt (j * 5 + 4) (by omega)]; exact h4⟩
set_option maxHeartbeats 2000000 in
theorem sure_any {w : World} {sb g tb most mb : Nat} {N : List Nd} {fb : FbT} {m : Stp → Option Value} (h : Me w sb g tb most N mb fb m) {n x : Nat} (hx : Sq N n x) :
    Calls Tryz.prog 90 #[.pointer (some ⟨mb, 0, none⟩), .int .u32 (x : Int)] w fun e w' => ∃ b : Bool, e = .returned (.bool b) ∧ Below w.heap.size w w' ∧ (b = false → 0 < n) := by
  have hxu : x < 4294967296 := by obtain ⟨cap, hs⟩ := h.st; exact Sq.u32 hs hx
  obtain ⟨sv, cl, ⟨S, hrow, hq, hSl, hS⟩, m0, m1, mv, m2, mt, m3⟩ := h.cells
  have hwf := h.wf
  have hlt := hx.lt
  have hml : S.length ≤ 9223372036854775807 := by obtain ⟨cap, hs⟩ := h.st; have h2 := hs.room; have h3 := hs.most_le; omega
  have w1 : IntKind.i64.wrap (x : Int) = (x : Int) := IntWalk.i64_in _ (by omega)
  obtain ⟨A, c, rfl, hA⟩ := row_form hrow
  clear m0 m1 mt m3
  by_cases h1 : x ≤ 1
  · have g1 : decide (x ≤ 1) = true := decide_eq_true h1
    have g1' : decide ((x : Int) ≤ 1) = true := decide_eq_true (by omega)
    clear hrow mv m2 hA h
    go_enter Tryz.func90, Tryz.ntmps90
    go_upto_region 1 with fail
    have hne := Up.me w
    refine region_up (by kernel_rfl) (by kernel_rfl) ?_
    repeat (go_big_quiet_step (fail))
    refine wpQuiet_nil ?_
    rintro w2 ⟨⟨W2, hW2⟩, rfl⟩
    go_wp2_with fail
    go_ret
    exact ⟨true, rfl, hW2, fun h => by cases h⟩
  have hn : 0 < n := by
    rcases Nat.eq_zero_or_pos n with rfl | h
    · have := hx.zero hwf; omega
    · exact h
  have g1 : decide (x ≤ 1) = false := decide_eq_false h1
  have g1' : decide ((x : Int) ≤ 1) = false := decide_eq_false (by omega)
  by_cases h2 : x < S.length
  · have g2 : decide (x < S.length) = true := decide_eq_true h2
    have g2' : decide ((x : Int) < (S.length : Int)) = true := decide_eq_true (by omega)
    obtain ⟨gq, rfl⟩ := hA (by omega)
    obtain ⟨s, hs⟩ : ∃ s, S[x]? = some s := ⟨S[x], List.getElem?_eq_getElem h2⟩
    obtain ⟨_, _, _, _, s4⟩ := sight_cells hrow hs
    have i1 : (0 : Int) ≤ (x : Int) := by omega
    have i2 : (x : Int) < (S.length : Int) := by omega
    clear hrow hA h hs
    generalize hgl : S.length = sl at *
    generalize s.2 = sc at *
    go_enter Tryz.func90, Tryz.ntmps90
    go_upto_region 1 with fail
    have hne := Up.me w
    have c0 := fun z : Up w => Up.cell mv z
    have c1 := fun z : Up w => Up.cell m2 z
    have c2 := fun z : Up w => Up.cell s4 z
    refine region_up (by kernel_rfl) (by kernel_rfl) ?_
    repeat (go_big_quiet_step (fail))
    refine wpQuiet_nil ?_
    rintro w2 ⟨⟨W2, hW2⟩, rfl⟩
    go_wp2_with fail
    go_ret
    exact ⟨_, rfl, hW2, fun _ => hn⟩
  · have g2 : decide (x < S.length) = false := decide_eq_false h2
    have g2' : decide ((x : Int) < (S.length : Int)) = false := decide_eq_false (by omega)
    clear hrow hA h m2
    generalize hgl : S.length = sl at *
    go_enter Tryz.func90, Tryz.ntmps90
    go_upto_region 1 with fail
    have hne := Up.me w
    have c0 := fun z : Up w => Up.cell mv z
    refine region_up (by kernel_rfl) (by kernel_rfl) ?_
    repeat (go_big_quiet_step (fail))
    refine wpQuiet_nil ?_
    rintro w2 ⟨⟨W2, hW2⟩, rfl⟩
    go_wp2_with fail
    go_ret
    exact ⟨false, rfl, hW2, fun _ => hn⟩
set_option maxHeartbeats 2000000 in
theorem other_any {w : World} {sb g tb most mb : Nat} {N : List Nd} {fb : FbT} {m : Stp → Option Value} (h : Me w sb g tb most N mb fb m) {n x : Nat} (hx : Sq N n x) (k : K4) (hk : kidZ N x = k) :
    Calls Tryz.prog 96 #[.pointer (some ⟨mb, 0, none⟩), .int .u32 (x : Int), .agg #[.int .u32 (k.1 : Int), .int .u32 (k.2.1 : Int), .int .u32 (k.2.2.1 : Int), .int .u32 (k.2.2.2 : Int)]] w fun e w' => e = .returned (.bool false) ∧ Below w.heap.size w w' := by
  have hxu : x < 4294967296 := by obtain ⟨cap, hs⟩ := h.st; exact Sq.u32 hs hx
  have HB := Lib.hid (bel1 w (.cells #[.int .u32 (k.1 : Int), .int .u32 (k.2.1 : Int), .int .u32 (k.2.2.1 : Int), .int .u32 (k.2.2.2 : Int)] 63))
  have hkb : (w.alloc (.cells #[.int .u32 (k.1 : Int), .int .u32 (k.2.1 : Int), .int .u32 (k.2.2.1 : Int), .int .u32 (k.2.2.2 : Int)] 63)).heap[w.heap.size]? = some (kO k) := heap_alloc_new w _
  obtain ⟨k0, k1, k2, k3⟩ := k_cells hkb
  obtain ⟨sv, cl, ⟨S, hrow, hq, hSl, hS⟩, m0, m1, mv, m2, mt, m3⟩ := (h.later HB.out).cells
  have hml : S.length ≤ 9223372036854775807 := by obtain ⟨cap, hs⟩ := h.st; have h2 := hs.room; have h3 := hs.most_le; omega
  have w1 : IntKind.i64.wrap (x : Int) = (x : Int) := IntWalk.i64_in _ (by omega)
  obtain ⟨A, c, rfl, hA⟩ := row_form hrow
  clear m0 m1 m2 mt m3 hkb h
  go_enter Tryz.func96, Tryz.ntmps96
  go_upto_region 1 with fail
  generalize w.alloc (.cells #[.int .u32 (k.1 : Int), .int .u32 (k.2.1 : Int), .int .u32 (k.2.2.1 : Int), .int .u32 (k.2.2.2 : Int)] 63) = W0 at *
  have hne := Up.me W0
  have c0 := fun z : Up W0 => Up.cell mv z
  have d0 := fun z : Up W0 => Up.cell k0 z
  have d1 := fun z : Up W0 => Up.cell k1 z
  have d2 := fun z : Up W0 => Up.cell k2 z
  have d3 := fun z : Up W0 => Up.cell k3 z
  clear k0 k1 k2 k3
  by_cases h2 : x < S.length
  · have g2 : decide (x < S.length) = true := decide_eq_true h2
    have g2' : decide ((x : Int) < (S.length : Int)) = true := decide_eq_true (by omega)
    obtain ⟨gq, rfl⟩ := hA (by omega)
    obtain ⟨s, hs⟩ : ∃ s, S[x]? = some s := ⟨S[x], List.getElem?_eq_getElem h2⟩
    obtain ⟨s0, s1, s2, s3, s4⟩ := sight_cells hrow hs
    have hT := hS x s hs
    have i1 : (0 : Int) ≤ (x : Int) := by omega
    have i2 : (x : Int) < (S.length : Int) := by omega
    clear hrow hA hs hS mv
    have c4 := fun z : Up W0 => Up.cell s4 z
    by_cases h3 : 0 < s.2
    · have hsk : s.1 = k := (hT h3).trans hk
      rw [hsk] at s0 s1 s2 s3
      have c5 := fun z : Up W0 => Up.cell s0 z
      have c6 := fun z : Up W0 => Up.cell s1 z
      have c7 := fun z : Up W0 => Up.cell s2 z
      have c8 := fun z : Up W0 => Up.cell s3 z
      have g3 : decide (0 < s.2) = true := decide_eq_true h3
      have hnq := arrQ_ne k
      clear s0 s1 s2 s3 s4 hT hsk hk
      generalize hgl : S.length = sl at *
      generalize s.2 = sc at *
      refine region_up (by kernel_rfl) (by kernel_rfl) ?_
      repeat (go_big_quiet_step (fail))
      refine wpQuiet_nil ?_
      rintro w2 ⟨⟨W2, hW2⟩, rfl⟩
      go_wp2_with fail
      go_ret
      exact ⟨rfl, HB.out.trans (hW2.mono HB.out.size)⟩
    · have g3 : decide (0 < s.2) = false := decide_eq_false h3
      clear s0 s1 s2 s3 s4 hT hk
      generalize hgl : S.length = sl at *
      generalize s.2 = sc at *
      refine region_up (by kernel_rfl) (by kernel_rfl) ?_
      repeat (go_big_quiet_step (fail))
      refine wpQuiet_nil ?_
      rintro w2 ⟨⟨W2, hW2⟩, rfl⟩
      go_wp2_with fail
      go_ret
      exact ⟨rfl, HB.out.trans (hW2.mono HB.out.size)⟩
  · have g2 : decide (x < S.length) = false := decide_eq_false h2
    have g2' : decide ((x : Int) < (S.length : Int)) = false := decide_eq_false (by omega)
    clear hrow hA hS mv
    generalize hgl : S.length = sl at *
    refine region_up (by kernel_rfl) (by kernel_rfl) ?_
    repeat (go_big_quiet_step (fail))
    refine wpQuiet_nil ?_
    rintro w2 ⟨⟨W2, hW2⟩, rfl⟩
    go_wp2_with fail
    go_ret
    exact ⟨rfl, HB.out.trans (hW2.mono HB.out.size)⟩
end Go.Proofs.YtaapkngpnlnjeaaGreatDoor
