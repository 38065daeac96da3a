-- M07
import Derived.Test.YtaapkngpnlnjeaaGreatM06
import Derived.Test.YtaapkngpnlnjeaaGreatM02
import Derived.Laws.StructEq
import Derived.Test.YtaapkngpnlnjeaaGreatQm
section
namespace Go.Proofs.YtaapkngpnlnjeaaGreat
open Go.RowKit Go.Maps
set_option maxRecDepth 100000

/-- A part: a square, its level, the rectangle of its cells that matter. -/
structure Part where
  x : Nat
  n : Nat
  r : R4
  deriving DecidableEq
/-- A part, as a value. -/
def pV (a : Part) : Value := .agg #[.int .u32 (a.x : Int), .int .i64 (a.n : Int), .int .i64 a.r.x, .int .i64 a.r.y, .int .i64 a.r.X, .int .i64 a.r.Y]
/-- A part that comes of a rectangle's. -/
def PtOk (P : R4) (a : Part) : Prop := a.x < 1048576 ∧ a.n ≤ 62 ∧ a.r.no = false ∧ RIn a.n a.r ∧ Pr P a.n a.r
def b2n (b : Bool) : Nat := if b then 1 else 0
def codeP (a : Part) : Nat := a.x + 1048576 * (a.n + 64 * (b2n (decide (a.r.x = 0)) + 2 * (b2n (decide (a.r.X = 2 ^ a.n)) + 2 * (b2n (decide (a.r.y = 0)) + 2 * b2n (decide (a.r.Y = 2 ^ a.n))))))
theorem b2n_le (b : Bool) : b2n b ≤ 1 := by cases b <;> decide
theorem b2n_inj {a b : Bool} (h : b2n a = b2n b) : a = b := by cases a <;> cases b <;> first | rfl | simp [b2n] at h
theorem codeP_lt {P : R4} {a : Part} (h : PtOk P a) : codeP a < 1073741824 := by
  unfold codeP
  have := h.1
  have := h.2.1
  have := b2n_le (decide (a.r.x = 0))
  have := b2n_le (decide (a.r.X = 2 ^ a.n))
  have := b2n_le (decide (a.r.y = 0))
  have := b2n_le (decide (a.r.Y = 2 ^ a.n))
  omega
theorem codeP_inj {P : R4} {a b : Part} (ha : PtOk P a) (hb : PtOk P b) (h : codeP a = codeP b) : a = b := by
  obtain ⟨a1, a2, a3, a4, a5⟩ := ha
  obtain ⟨b1, b2, b3, b4, b5⟩ := hb
  obtain ⟨p1, p2, p3, p4⟩ := a5.resolve_left (by rw [a3]; decide)
  obtain ⟨q1, q2, q3, q4⟩ := b5.resolve_left (by rw [b3]; decide)
  unfold codeP at h
  have c1 := b2n_le (decide (a.r.x = 0))
  have c2 := b2n_le (decide (a.r.X = 2 ^ a.n))
  have c3 := b2n_le (decide (a.r.y = 0))
  have c4 := b2n_le (decide (a.r.Y = 2 ^ a.n))
  have d1 := b2n_le (decide (b.r.x = 0))
  have d2 := b2n_le (decide (b.r.X = 2 ^ b.n))
  have d3 := b2n_le (decide (b.r.y = 0))
  have d4 := b2n_le (decide (b.r.Y = 2 ^ b.n))
  have hx : a.x = b.x := by omega
  have hn : a.n = b.n := by omega
  have h1 := b2n_inj (show b2n (decide (a.r.x = 0)) = b2n (decide (b.r.x = 0)) by omega)
  have h2 := b2n_inj (show b2n (decide (a.r.X = 2 ^ a.n)) = b2n (decide (b.r.X = 2 ^ b.n)) by omega)
  have h3 := b2n_inj (show b2n (decide (a.r.y = 0)) = b2n (decide (b.r.y = 0)) by omega)
  have h4 := b2n_inj (show b2n (decide (a.r.Y = 2 ^ a.n)) = b2n (decide (b.r.Y = 2 ^ b.n)) by omega)
  obtain ⟨ax, an, ⟨rx, ry, rX, rY⟩⟩ := a
  obtain ⟨bx, bn, ⟨sx, sy, sX, sY⟩⟩ := b
  simp only at hx hn h1 h2 h3 h4 p1 p2 p3 p4 q1 q2 q3 q4
  subst hx hn
  rw [decide_eq_decide] at h1 h2 h3 h4
  have e1 : rx = sx := by
    rcases p1 with p | p <;> rcases q1 with q | q
    · rw [p, q]
    · rw [h1.1 p, p]
    · rw [q, h1.2 q]
    · rw [p, q]
  have e2 : rX = sX := by
    rcases p2 with p | p <;> rcases q2 with q | q
    · rw [p, q]
    · rw [h2.1 p, p]
    · rw [q, h2.2 q]
    · rw [p, q]
  have e3 : ry = sy := by
    rcases p3 with p | p <;> rcases q3 with q | q
    · rw [p, q]
    · rw [h3.1 p, p]
    · rw [q, h3.2 q]
    · rw [p, q]
  have e4 : rY = sY := by
    rcases p4 with p | p <;> rcases q4 with q | q
    · rw [p, q]
    · rw [h4.1 p, p]
    · rw [q, h4.2 q]
    · rw [p, q]
  rw [e1, e2, e3, e4]
theorem Tryz.cellsI8 : Tryz.prog.cellsOf 2 = 1 := by kernel_rfl
theorem Tryz.cellsInt8 : Tryz.prog.cellsOf 3 = 1 := by kernel_rfl
theorem Tryz.cellsPtG : Tryz.prog.cellsOf 34 = 2 := by kernel_rfl
theorem Tryz.cellsRcG : Tryz.prog.cellsOf 42 = 4 := by kernel_rfl
theorem Tryz.cellsPart : Tryz.prog.cellsOf 97 = 6 := by kernel_rfl
theorem i64_wf {x : Int} (h : -9223372036854775808 ≤ x ∧ x ≤ 9223372036854775807) : (Lit.int .i64 x).wf = true := by
  simp [Lit.wf, IntKind.min, IntKind.max, IntKind.bits, IntKind.signed]; omega
theorem lits_i64 (d : Nat) (x : Int) (h : (Lit.int .i64 x).wf = true) : Tryz.prog.keyLits (d + 1) 2 [.int .i64 x] = some [.int .i64 x] := by
  unfold Program.keyLits
  rw [Tryz.underlying2]
  simp only [h, and_self, if_true]
theorem lits_int8 (d : Nat) (x : Int) (h : (Lit.int .i64 x).wf = true) : Tryz.prog.keyLits (d + 1) 3 [.int .i64 x] = some [.int .i64 x] := by
  unfold Program.keyLits
  rw [Tryz.underlying3]
  simp only [h, and_self, if_true]
theorem lits_ptG (d : Nat) (x y : Int) (h1 : (Lit.int .i64 x).wf = true) (h2 : (Lit.int .i64 y).wf = true) : Tryz.prog.keyLits (d + 1 + 1) 34 [.int .i64 x, .int .i64 y] = some [.int .i64 x, .int .i64 y] := by
  have e1 := lits_i64 d x h1
  have e2 := lits_i64 d y h2
  unfold Program.keyLits
  rw [Tryz.underlying34]
  simp only [Tryz.cellsPtG]
  rw [if_pos ⟨rfl, by simp⟩]
  simp only [List.mapM_cons, List.mapM_nil, Tryz.cellsI8, List.drop, List.take, e1, e2]
  rfl
theorem lits_rcG (d : Nat) (x y X Y : Int) (h1 : (Lit.int .i64 x).wf = true) (h2 : (Lit.int .i64 y).wf = true) (h3 : (Lit.int .i64 X).wf = true) (h4 : (Lit.int .i64 Y).wf = true) :
    Tryz.prog.keyLits (d + 1 + 1 + 1) 42 [.int .i64 x, .int .i64 y, .int .i64 X, .int .i64 Y] = some [.int .i64 x, .int .i64 y, .int .i64 X, .int .i64 Y] := by
  have e1 := lits_ptG d x y h1 h2
  have e2 := lits_ptG d X Y h3 h4
  unfold Program.keyLits
  rw [Tryz.underlying42]
  simp only [Tryz.cellsRcG]
  rw [if_pos ⟨rfl, by simp⟩]
  simp only [List.mapM_cons, List.mapM_nil, Tryz.cellsPtG, List.drop, List.take, e1, e2]
  rfl
theorem lits_part (d : Nat) (s n x y X Y : Int) (hs : (Lit.int .u32 s).wf = true) (hn : (Lit.int .i64 n).wf = true) (h1 : (Lit.int .i64 x).wf = true) (h2 : (Lit.int .i64 y).wf = true) (h3 : (Lit.int .i64 X).wf = true) (h4 : (Lit.int .i64 Y).wf = true) :
    Tryz.prog.keyLits (d + 1 + 1 + 1 + 1) 97 [.int .u32 s, .int .i64 n, .int .i64 x, .int .i64 y, .int .i64 X, .int .i64 Y] = some [.int .u32 s, .int .i64 n, .int .i64 x, .int .i64 y, .int .i64 X, .int .i64 Y] := by
  have e1 := lits_id (d + 1 + 1) s hs
  have e2 := lits_int8 (d + 1 + 1) n hn
  have e3 := lits_rcG d x y X Y h1 h2 h3 h4
  unfold Program.keyLits
  rw [Tryz.underlying97]
  simp only [Tryz.cellsPart]
  rw [if_pos ⟨rfl, by simp⟩]
  simp only [List.mapM_cons, List.mapM_nil, Tryz.cellsRcG, Tryz.cellsID, Tryz.cellsInt8, List.drop, List.take, e1, e2, e3]
  rfl
theorem Tryz.keyDeepP8 : Tryz.prog.keyTypeAt (Tryz.prog.types.size + 1) 97 = true := by kernel_rfl
theorem Tryz.keyRowP8 : (97 : TypeId) < Tryz.prog.types.size := of_decide_eq_true (by kernel_rfl)
theorem Tryz.keyWideP8 : (match Tryz.prog.underlying 97 with | some (.array _ _) | some (.struct _) => true | _ => false) = true := by rw [Tryz.underlying97]
theorem Tryz.keyedP8 : Keyed Tryz.prog 97 := Keyed.of_law (deep_law_laid Tryz.laidOutT (m := 4) (by omega) Tryz.keyRowP8 (by kernel_rfl) Tryz.keyWideP8)
noncomputable def klP (a : Part) : Lit := (keyOf Tryz.prog 97 (pV a)).getD (.bool false)
/-- Within int64, all. -/
def FitP (a : Part) : Prop := a.x < 4294967296 ∧ a.n ≤ 62 ∧ (-9223372036854775808 ≤ a.r.x ∧ a.r.x ≤ 9223372036854775807) ∧ (-9223372036854775808 ≤ a.r.y ∧ a.r.y ≤ 9223372036854775807) ∧ (-9223372036854775808 ≤ a.r.X ∧ a.r.X ≤ 9223372036854775807) ∧ (-9223372036854775808 ≤ a.r.Y ∧ a.r.Y ≤ 9223372036854775807)
theorem PtOk.fit {P : R4} {a : Part} (h : PtOk P a) : FitP a := by
  obtain ⟨h1, h2, h3, h4, _⟩ := h
  obtain ⟨i1, i2, i3, i4⟩ := h4.resolve_left (by rw [h3]; decide)
  have hlt := R4.no_not.1 h3
  have hp : (2 : Int) ^ a.n ≤ 4611686018427387904 := by
    have h1 : (2 : Nat) ^ a.n ≤ 2 ^ 62 := Nat.pow_le_pow_right (by decide) h2
    have h2 : ((2 ^ a.n : Nat) : Int) ≤ ((2 ^ 62 : Nat) : Int) := Int.ofNat_le.2 h1
    rw [Int.natCast_pow] at h2
    exact h2
  unfold FitP
  omega
theorem keyP (a : Part) (h : FitP a) : keyOf Tryz.prog 97 (pV a) = some (klP a) := by
  obtain ⟨h1, h2, h3, h4, h5, h6⟩ := h
  have hk : Tryz.prog.keyType 97 = true := Tryz.keyDeepP8
  have hf : (pV a).formed Tryz.prog 97 = true := by simp [pV, Value.formed, Tryz.underlying97, Tryz.cellsPart]
  have hl : Tryz.prog.keyLits (Tryz.prog.types.size + 1) 97 [.int .u32 (a.x : Int), .int .i64 (a.n : Int), .int .i64 a.r.x, .int .i64 a.r.y, .int .i64 a.r.X, .int .i64 a.r.Y] = some [.int .u32 (a.x : Int), .int .i64 (a.n : Int), .int .i64 a.r.x, .int .i64 a.r.y, .int .i64 a.r.X, .int .i64 a.r.Y] := by
    have hsz : Tryz.prog.types.size = 299 := by kernel_rfl
    obtain ⟨d, hd⟩ : ∃ d, Tryz.prog.types.size + 1 = d + 1 + 1 + 1 + 1 := ⟨Tryz.prog.types.size - 3, (by omega)⟩
    rw [hd]
    exact lits_part d _ _ _ _ _ _ (u32_wf h1) (i64_wf (by omega)) (i64_wf h3) (i64_wf h4) (i64_wf h5) (i64_wf h6)
  have : ∃ l, keyOf Tryz.prog 97 (pV a) = some l := by
    unfold keyOf
    rw [Tryz.underlying97]
    simp only [hk, hf, Bool.and_self, if_true]
    refine ⟨.string (keyBytes [.int .u32 (a.x : Int), .int .i64 (a.n : Int), .int .i64 a.r.x, .int .i64 a.r.y, .int .i64 a.r.X, .int .i64 a.r.Y]), ?_⟩
    show Option.map _ (Tryz.prog.keyLits (Tryz.prog.types.size + 1) 97 [.int .u32 (a.x : Int), .int .i64 (a.n : Int), .int .i64 a.r.x, .int .i64 a.r.y, .int .i64 a.r.X, .int .i64 a.r.Y]) = _
    rw [hl]; rfl
  obtain ⟨l, hl⟩ := this
  unfold klP
  rw [hl]; rfl
theorem klP_inj {a b : Part} (ha : FitP a) (hb : FitP b) (h : klP a = klP b) : a = b := by
  have := Tryz.keyedP8.inj (keyP a ha) (by rw [h]; exact keyP b hb)
  obtain ⟨ax, an, ⟨rx, ry, rX, rY⟩⟩ := a
  obtain ⟨bx, bn, ⟨sx, sy, sX, sY⟩⟩ := b
  simp only [pV, Value.agg.injEq, Array.mk.injEq, List.cons.injEq, Value.int.injEq, and_true, true_and] at this
  obtain ⟨h1, h2, h3, h4, h5, h6⟩ := this
  have e1 : ax = bx := by omega
  have e2 : an = bn := by omega
  rw [e1, e2, h3, h4, h5, h6]
/-- A painter's map, of one rectangle's parts. -/
noncomputable def mkP (P : R4) : Mk 97 27 173 Part where
  keyed := Tryz.keyedP8
  ht := Tryz.underlying173
  kv := pV
  ok := PtOk P
  kl := klP
  hkey := fun a h => keyP a h.fit
  inj := fun a b ha hb h => klP_inj ha.fit hb.fit h
  zero := .int .u32 0
  hz := Tryz.zeroID
  few := fun ks hn h => few_of (ok := PtOk P) codeP 1073741824 (by decide) (fun a ha => codeP_lt ha) (fun a b ha hb e => codeP_inj ha hb e) ks hn h
end Go.Proofs.YtaapkngpnlnjeaaGreat
end

section
namespace Go.Proofs.YtaapkngpnlnjeaaGreat
open Go.RowKit Go.Maps
set_option maxRecDepth 100000

theorem Tryz.partI8a (a b : Value) (w : World) : (part 2 #[a, b] 0).run Tryz.prog w = .ok a w := by kernel_rfl
theorem Tryz.partI8b (a b : Value) (w : World) : (part 2 #[a, b] 1).run Tryz.prog w = .ok b w := by kernel_rfl
theorem Tryz.partP8a (a b c d : Value) (w : World) : (part 34 #[a, b, c, d] 0).run Tryz.prog w = .ok (.agg #[a, b]) w := by kernel_rfl
theorem Tryz.partP8b (a b c d : Value) (w : World) : (part 34 #[a, b, c, d] 2).run Tryz.prog w = .ok (.agg #[c, d]) w := by kernel_rfl
theorem eqInP8 (f : Nat) (x y a b : Int) (w : World) : (Op.equalIn (f + 1 + 1) 34 (.agg #[.int .i64 x, .int .i64 y]) (.agg #[.int .i64 a, .int .i64 b])).run Tryz.prog w = .ok (x == a && y == b) w := by
  rw [run_equalIn_agg w (f + 1) 34 _ _ (by kernel_rfl) (by kernel_rfl)]
  have hm := Tryz.fieldsPt8
  generalize (Tryz.prog.fieldsOf 34).toList = l at *
  have hl : l.length = 2 := by have := congrArg List.length hm; simpa using this
  match l, hl, hm with
  | [f1, g], _, hm =>
    simp only [List.map_cons, List.map_nil, List.cons.injEq, Prod.mk.injEq, and_true] at hm
    obtain ⟨⟨n1, t1, o1⟩, n2, t2, o2⟩ := hm
    simp only [Op.eqFields, n1, t1, o1, n2, t2, o2, Sem.run_bind, Sem.run_ite, Tryz.partI8a, Tryz.partI8b, Result.andThen_ok, run_equalIn_int w f _ .i64 .i64 _ _ Tryz.underlying2]
    cases h1 : (x == a) <;> cases h2 : (y == b) <;> simp
theorem eqInR8 (x y X Y a b c d : Int) (w : World) : (Op.equalIn 10000 42 (.agg #[.int .i64 x, .int .i64 y, .int .i64 X, .int .i64 Y]) (.agg #[.int .i64 a, .int .i64 b, .int .i64 c, .int .i64 d])).run Tryz.prog w = .ok ((x == a && y == b) && (X == c && Y == d)) w := by
  rw [run_equalIn_agg w 9999 42 _ _ (by kernel_rfl) (by kernel_rfl)]
  have hm := Tryz.fieldsRc8
  generalize (Tryz.prog.fieldsOf 42).toList = l at *
  have hl : l.length = 2 := by have := congrArg List.length hm; simpa using this
  match l, hl, hm with
  | [f1, g], _, hm =>
    simp only [List.map_cons, List.map_nil, List.cons.injEq, Prod.mk.injEq, and_true] at hm
    obtain ⟨⟨n1, t1, o1⟩, n2, t2, o2⟩ := hm
    simp only [Op.eqFields, n1, t1, o1, n2, t2, o2, Sem.run_bind, Sem.run_ite, Tryz.partP8a, Tryz.partP8b, Result.andThen_ok, eqInP8 9997]
    cases h1 : (x == a && y == b) <;> cases h2 : (X == c && Y == d) <;> simp
theorem eqR8 (x y X Y a b c d : Int) (w : World) : (binOp .eql 42 (.agg #[.int .i64 x, .int .i64 y, .int .i64 X, .int .i64 Y]) (.agg #[.int .i64 a, .int .i64 b, .int .i64 c, .int .i64 d])).run Tryz.prog w = .ok (.bool ((x == a && y == b) && (X == c && Y == d))) w := by
  rw [run_eql_struct, eqInR8]; rfl
theorem neR8 (x y X Y a b c d : Int) (w : World) : (binOp .neq 42 (.agg #[.int .i64 x, .int .i64 y, .int .i64 X, .int .i64 Y]) (.agg #[.int .i64 a, .int .i64 b, .int .i64 c, .int .i64 d])).run Tryz.prog w = .ok (.bool (!((x == a && y == b) && (X == c && Y == d)))) w := by
  rw [run_neq_struct, eqInR8]; rfl
/-- Does all of the square matter? -/
def wholeB (a : Part) : Bool := (a.r.x == 0 && a.r.y == 0) && (a.r.X == 2 ^ a.n && a.r.Y == 2 ^ a.n)
def ptO8 (a : Part) : Obj := .cells #[.int .u32 (a.x : Int), .int .i64 (a.n : Int), .int .i64 a.r.x, .int .i64 a.r.y, .int .i64 a.r.X, .int .i64 a.r.Y] 97 (0, 0)
theorem pt_cells8 {w : World} {b : Nat} {a : Part} (h : w.heap[b]? = some (ptO8 a)) : w.cell? ⟨b, 0, none⟩ = some (.int .u32 (a.x : Int)) ∧ w.cell? ⟨b, 1, none⟩ = some (.int .i64 (a.n : Int)) ∧ w.cell? ⟨b, 2, none⟩ = some (.int .i64 a.r.x) ∧ w.cell? ⟨b, 3, none⟩ = some (.int .i64 a.r.y) ∧ w.cell? ⟨b, 4, none⟩ = some (.int .i64 a.r.X) ∧ w.cell? ⟨b, 5, none⟩ = some (.int .i64 a.r.Y) :=
  ⟨by rw [Lib.cell_of_heap h]; rfl, by rw [Lib.cell_of_heap h]; rfl, by rw [Lib.cell_of_heap h]; rfl, by rw [Lib.cell_of_heap h]; rfl, by rw [Lib.cell_of_heap h]; rfl, by rw [Lib.cell_of_heap h]; rfl⟩
set_option maxHeartbeats 2000000 in
theorem whole_any (a : Part) (hn : a.n ≤ 62) (w : World) : Calls Tryz.prog 87 #[.agg #[.int .u32 (a.x : Int), .int .i64 (a.n : Int), .int .i64 a.r.x, .int .i64 a.r.y, .int .i64 a.r.X, .int .i64 a.r.Y]] w fun e w' => e = .returned (.bool (wholeB a)) ∧ Below w.heap.size w w' := by
  obtain ⟨xx, n, ⟨x, y, X, Y⟩⟩ := a
  simp only at hn ⊢
  have HE : Hid (wholeB ⟨xx, n, ⟨x, y, X, Y⟩⟩ = ((x == 0 && y == 0) && (X == 2 ^ n && Y == 2 ^ n))) := rfl
  rw [HE.out]
  have HB := Lib.hid (bel1 w (.cells #[.int .u32 (xx : Int), .int .i64 (n : Int), .int .i64 x, .int .i64 y, .int .i64 X, .int .i64 Y] 97))
  have h0 : (w.alloc (.cells #[.int .u32 (xx : Int), .int .i64 (n : Int), .int .i64 x, .int .i64 y, .int .i64 X, .int .i64 Y] 97)).heap[w.heap.size]? = some (ptO8 ⟨xx, n, ⟨x, y, X, Y⟩⟩) := heap_alloc_new w _
  obtain ⟨_, c1, c2, c3, c4, c5⟩ := pt_cells8 h0
  simp only at c1 c2 c3 c4 c5
  clear h0
  have HSD := Lib.hid (side8_any n hn)
  generalize hG : (2 : Int) ^ n = G at *
  clear hG
  go_enter Tryz.func87, Tryz.ntmps87
  go_upto_region 1 with fail
  generalize w.alloc (.cells #[.int .u32 (xx : Int), .int .i64 (n : Int), .int .i64 x, .int .i64 y, .int .i64 X, .int .i64 Y] 97) = W0 at *
  have hne := Up.me W0
  have HS := Lib.hid (fun z : Up W0 => Up.callsE (fun W _ => HSD.out W) z)
  have g1 := fun z : Up W0 => Up.cell c1 z
  have g2 := fun z : Up W0 => Up.cell c2 z
  have g3 := fun z : Up W0 => Up.cell c3 z
  have g4 := fun z : Up W0 => Up.cell c4 z
  have g5 := fun z : Up W0 => Up.cell c5 z
  have HQ := fun W => eqR8 x y X Y 0 0 G G W
  refine region_up (by kernel_rfl) (by kernel_rfl) ?_
  repeat (go_big_quiet_step ((first | (go_at_call 84; with_reducible exact HS.out _))))
  refine wpQuiet_nil ?_
  rintro w2 ⟨⟨W2, hW2⟩, rfl⟩
  go_wp2_with fail
  go_ret
  exact ⟨rfl, HB.out.trans (hW2.mono HB.out.size)⟩
end Go.Proofs.YtaapkngpnlnjeaaGreat
end

section
namespace Go.Proofs.YtaapkngpnlnjeaaGreat
open Go.RowKit Go.Maps
set_option maxRecDepth 100000

theorem kept {w w' : World} {b : Nat} {o : Obj} (h : w.heap[b]? = some o) (hb : Below w.heap.size w w') : w'.heap[b]? = some o := by
  rw [hb.block b (Array.getElem?_eq_some_iff.1 h).1]; exact h
theorem new_2 (w : World) (o1 o2 : Obj) : ((w.alloc o1).alloc o2).heap[w.heap.size + 1]? = some o2 := by
  have := heap_alloc_new (w.alloc o1) o2
  rw [show (w.alloc o1).heap.size = w.heap.size + 1 by simp] at this
  exact this
theorem new_3 (w : World) (o1 o2 o3 : Obj) : (((w.alloc o1).alloc o2).alloc o3).heap[w.heap.size + 1 + 1]? = some o3 := by
  have := heap_alloc_new ((w.alloc o1).alloc o2) o3
  rw [show ((w.alloc o1).alloc o2).heap.size = w.heap.size + 1 + 1 by simp] at this
  exact this
theorem k_res2 {w W : World} {B b : Nat} {k : K4} (hb : Below B w W) (hB : B ≤ b) (h : W.heap[b]? = some (kO k)) (d : K4) :
    ∃ W', ((((W.setCell ⟨b, 0, none⟩ (.int .u32 (d.1 : Int))).setCell ⟨b, 1, none⟩ (.int .u32 (d.2.1 : Int))).setCell ⟨b, 2, none⟩ (.int .u32 (d.2.2.1 : Int))).setCell ⟨b, 3, none⟩ (.int .u32 (d.2.2.2 : Int))) = W' ∧ Below B w W' ∧ W'.heap[b]? = some (kO d) :=
  ⟨_, rfl, (((hb.setCell (p := ⟨b, 0, none⟩) hB _).setCell (p := ⟨b, 1, none⟩) hB _).setCell (p := ⟨b, 2, none⟩) hB _).setCell (p := ⟨b, 3, none⟩) hB _, KAt.put h d⟩
theorem of_sqk {w : World} {sb g tb cap most : Nat} {N : List Nd} (h : St w sb g tb cap most N) {n x : Nat} (hx : Sq N (n + 1) x) :
    Calls Tryz.prog 74 #[.pointer (some ⟨sb, 0, none⟩), .int .u32 (x : Int)] w fun e w' => e = .returned (.tuple #[.agg #[.int .u32 ((kidZ N x).1 : Int), .int .u32 ((kidZ N x).2.1 : Int), .int .u32 ((kidZ N x).2.2.1 : Int), .int .u32 ((kidZ N x).2.2.2 : Int)], .bool true]) ∧ Below w.heap.size w w' := of_sq h hx
set_option maxHeartbeats 2000000 in
theorem middle_any {w : World} {sb g tb cap most : Nat} {N : List Nd} (h : St w sb g tb cap most N) {n : Nat} {k : K4} (hk : Fo N (n + 1) k) :
    Calls Tryz.prog 76 #[.pointer (some ⟨sb, 0, none⟩), .agg #[.int .u32 (k.1 : Int), .int .u32 (k.2.1 : Int), .int .u32 (k.2.2.1 : Int), .int .u32 (k.2.2.2 : Int)]] w fun e w' => e = .returned (.agg #[.int .u32 ((midK N k).1 : Int), .int .u32 ((midK N k).2.1 : Int), .int .u32 ((midK N k).2.2.1 : Int), .int .u32 ((midK N k).2.2.2 : Int)]) ∧ Below w.heap.size w w' := by
  have HS := Lib.hid h
  have HK := Lib.hid hk
  clear h hk
  go_enter Tryz.func76, Tryz.ntmps76
  go_wp2_with fail
  go_loopg [6, 7, 8, 9, 11] 4 (fun m v6 v7 v8 v9 cnt wr => ∃ (j : Nat) (f : Nat → Nat), m = 4 - j ∧ j ≤ 4 ∧ cnt = .int .i64 (j : Int) ∧ wr.heap[w.heap.size + 1 + 1]? = some (kO (mk4 f)) ∧ (∀ i, i < j → f i = midF N k i) ∧ Below w.heap.size w wr ∧ wr.heap[w.heap.size + 1]? = some (kO (0, 0, 0, 0)))
  case atStart =>
    refine ⟨0, fun _ => 0, rfl, Nat.zero_le _, rfl, ?_, fun i hi => by omega, bel3 _ _ _ _, ?_⟩
    · exact new_3 _ _ _ _
    · exact kept (new_2 _ _ _) (bel1 _ _)
  case round =>
    obtain ⟨j, f, hm, hj, rfl, hb, hf, hB, hr⟩ := hrel
    have HM := Lib.hid hm
    have HBK := Lib.hid hb
    have HF := Lib.hid hf
    have HB := Lib.hid hB
    have HR := Lib.hid hr
    have HS1 := Lib.hid (HS.out.later hB)
    clear hm hb hf hB hr
    by_cases hlt : j < 4
    · have hgj : decide ((j : Int) < 4) = true := by simp; omega
      have hix := kix k hlt
      have HX := Lib.hid (fo_iff.1 HK.out j hlt)
      go_wp2_with fail
      refine (of_sqk HS1.out HX.out).mono ?_
      rintro e w5 ⟨rfl, hb⟩
      have HB5 := Lib.hid (HB.out.trans (hb.mono HB.out.size))
      have HBK5 := Lib.hid (kept HBK.out hb)
      have HR5 := Lib.hid (kept HR.out hb)
      clear hb HB HBK HR
      go_wp2_with fail
      refine (across_any j hlt _).mono ?_
      rintro e w6 ⟨rfl, rfl⟩
      have hk6 := k_cell (i := 3 - j) (k := kidZ N (kAt k j)) (heap_alloc_new w5 (.cells #[.int .u32 ((kidZ N (kAt k j)).1 : Int), .int .u32 ((kidZ N (kAt k j)).2.1 : Int), .int .u32 ((kidZ N (kAt k j)).2.2.1 : Int), .int .u32 ((kidZ N (kAt k j)).2.2.2 : Int)] 105)) (by omega)
      have HB6 := Lib.hid (HB5.out.trans ((bel1 w5 (.cells #[.int .u32 ((kidZ N (kAt k j)).1 : Int), .int .u32 ((kidZ N (kAt k j)).2.1 : Int), .int .u32 ((kidZ N (kAt k j)).2.2.1 : Int), .int .u32 ((kidZ N (kAt k j)).2.2.2 : Int)] 105)).mono HB5.out.size))
      have HBK6 := Lib.hid (kept HBK5.out (bel1 w5 (.cells #[.int .u32 ((kidZ N (kAt k j)).1 : Int), .int .u32 ((kidZ N (kAt k j)).2.1 : Int), .int .u32 ((kidZ N (kAt k j)).2.2.1 : Int), .int .u32 ((kidZ N (kAt k j)).2.2.2 : Int)] 105)))
      have HR6 := Lib.hid (kept HR5.out (bel1 w5 (.cells #[.int .u32 ((kidZ N (kAt k j)).1 : Int), .int .u32 ((kidZ N (kAt k j)).2.1 : Int), .int .u32 ((kidZ N (kAt k j)).2.2.1 : Int), .int .u32 ((kidZ N (kAt k j)).2.2.2 : Int)] 105)))
      have hm6 := k_cell HBK6.out hlt
      generalize w5.alloc (.cells #[.int .u32 ((kidZ N (kAt k j)).1 : Int), .int .u32 ((kidZ N (kAt k j)).2.1 : Int), .int .u32 ((kidZ N (kAt k j)).2.2.1 : Int), .int .u32 ((kidZ N (kAt k j)).2.2.2 : Int)] 105) = W6 at *
      clear HBK5 HR5 HB5
      have hcast : (3 : Int) - (j : Int) = ((3 - j : Nat) : Int) := by omega
      obtain ⟨t1, t2⟩ := hk6
      obtain ⟨t3, t4⟩ := hm6
      have i1 : (0 : Int) ≤ ((3 - j : Nat) : Int) := by omega
      have i2 : ((3 - j : Nat) : Int) < 4 := by omega
      have i3 : (0 : Int) ≤ (j : Int) := by omega
      have i4 : (j : Int) < 4 := by omega
      rw [hcast]
      clear hcast
      have HV : Hid (kAt (kidZ N (kAt k j)) (3 - j) = midF N k j) := rfl
      generalize kAt (kidZ N (kAt k j)) (3 - j) = v at *
      generalize 3 - j = q at *
      go_wp2_with fail
      go_roundg (4 - (j + 1))
      case measure => rw [HM.out]; omega
      case rel =>
        refine ⟨j + 1, fun i => if i = j then v else f i, rfl, by omega, by go_num, ?_, fun i hi => ?_, HB6.out.setCell (p := ⟨w.heap.size + 1 + 1, j, none⟩) (by show _ ≤ _ + 1 + 1; omega) _, ?_⟩
        · rw [k_set HBK6.out hlt v]
          refine congrArg some (congrArg kO (mk4_ext fun i hi => ?_))
          show (if i = j then v else kAt (mk4 f) i) = _
          rw [kAt_mk4 _ hi]
        · show (if i = j then v else f i) = _
          by_cases e : i = j
          · subst e; rw [if_pos rfl]; exact HV.out
          · rw [if_neg e]; exact HF.out i (by omega)
        · rw [Below.heap_setCell _ _ _ _ (by simp)]; exact HR6.out
    · obtain rfl : j = 4 := by omega
      have hgj : decide (((4 : Nat) : Int) < 4) = false := by simp
      have HE : Hid (mk4 f = midK N k) := mk4_ext HF.out
      rw [HE.out] at HBK
      obtain ⟨c0, c1, c2, c3⟩ := k_cells HBK.out
      obtain ⟨r0, r1, r2, r3, q0, q1, q2, q3⟩ := KAt.cells (k := (0, 0, 0, 0)) HR.out
      go_wp2_with fail
      obtain ⟨W, hW, hb, hk⟩ := k_res2 HB.out (by omega) HR.out (midK N k)
      rw [hW]
      obtain ⟨t0, t1, t2, t3⟩ := k_cells hk
      refine bodyPost_ret (v := _) (by simp [results, Tryz.results76, go_sem, t0, t1, t2, t3]; rfl) rfl ?_
      exact ⟨rfl, hb⟩
end Go.Proofs.YtaapkngpnlnjeaaGreat
end

section
namespace Go.Proofs.YtaapkngpnlnjeaaGreat
open Go.RowKit Go.Maps
set_option maxRecDepth 100000

/-- What a painter remembers is true. -/
def Mem (N : List Nd) (c : Nat) (m : Part → Option Value) : Prop := ∀ a v, m a = some v → Sq0 N a.n a.x ∧ ∃ y : Nat, v = .int .u32 (y : Int) ∧ Con N a.n y (Tc N a.n a.x a.r c [])
theorem Mem.app {N E : List Nd} {c : Nat} {m : Part → Option Value} (hw : Wf N) (hw' : Wf (N ++ E)) (h : Mem N c m) : Mem (N ++ E) c m := fun a v hv => by
  obtain ⟨h1, y, rfl, h2⟩ := h a v hv
  exact ⟨h1.app E, y, rfl, by rw [Tc_app hw E hw' h1]; exact h2.app hw E⟩
def pnO (sb c mb : Nat) : Obj := .cells #[.pointer (some ⟨sb, 0, none⟩), .int .u32 (c : Int), .map (some mb)] 175 (0, 0)
theorem pn_cells {w : World} {b sb c mb : Nat} (h : w.heap[b]? = some (pnO sb c mb)) : w.cell? ⟨b, 0, none⟩ = some (.pointer (some ⟨sb, 0, none⟩)) ∧ w.cell? ⟨b, 1, none⟩ = some (.int .u32 (c : Int)) ∧ w.cell? ⟨b, 2, none⟩ = some (.map (some mb)) :=
  ⟨by rw [Lib.cell_of_heap h]; rfl, by rw [Lib.cell_of_heap h]; rfl, by rw [Lib.cell_of_heap h]; rfl⟩
/-- A painter: its store, its block, its memory. -/
structure Pn (w : World) (sb g tb mb ab most : Nat) (N : List Nd) (P : R4) (c : Nat) : Prop where
  st : ∃ cap, St w sb g tb cap most N
  pt : w.heap[ab]? = some (pnO sb c mb)
  mm : ∃ m, GMap (mkP P) w mb m ∧ Mem N c m
  mb_ : sb ≠ mb ∧ g ≠ mb ∧ tb ≠ mb
  ab_ : ab ≠ sb ∧ ab ≠ g ∧ ab ≠ tb
theorem Pn.wf {w : World} {sb g tb mb ab most c : Nat} {N : List Nd} {P : R4} (h : Pn w sb g tb mb ab most N P c) : Wf N := by obtain ⟨_, hs⟩ := h.st; exact hs.wf
theorem Pn.mlt {w : World} {sb g tb mb ab most c : Nat} {N : List Nd} {P : R4} (h : Pn w sb g tb mb ab most N P c) : mb < w.heap.size := by obtain ⟨m, h1, _⟩ := h.mm; exact h1.lt
theorem Pn.alt {w : World} {sb g tb mb ab most c : Nat} {N : List Nd} {P : R4} (h : Pn w sb g tb mb ab most N P c) : ab < w.heap.size := (Array.getElem?_eq_some_iff.1 h.pt).1
theorem Pn.am {w : World} {sb g tb mb ab most c : Nat} {N : List Nd} {P : R4} (h : Pn w sb g tb mb ab most N P c) : ab ≠ mb := by
  obtain ⟨m, h1, _⟩ := h.mm
  obtain ⟨es, cl, h2⟩ := h1.is_map
  intro e
  have := h.pt
  rw [e, h2] at this
  cases this
theorem Pn.later {w w' : World} {sb g tb mb ab most c : Nat} {N : List Nd} {P : R4} (h : Pn w sb g tb mb ab most N P c) (hb : Below w.heap.size w w') : Pn w' sb g tb mb ab most N P c := by
  obtain ⟨cap, hs⟩ := h.st
  obtain ⟨m, h1, h2⟩ := h.mm
  exact ⟨⟨cap, hs.later hb⟩, by rw [hb.block ab h.alt]; exact h.pt, ⟨m, h1.later hb, h2⟩, h.mb_, h.ab_⟩
theorem Pn.drew {w : World} {sb g tb mb ab most c : Nat} {N : List Nd} {P : R4} (h : Pn w sb g tb mb ab most N P c) : Pn w.drew sb g tb mb ab most N P c := by
  obtain ⟨cap, hs⟩ := h.st
  obtain ⟨m, h1, h2⟩ := h.mm
  exact ⟨⟨cap, hs.drew⟩, h.pt, ⟨m, h1.drewN 1, h2⟩, h.mb_, h.ab_⟩
/-- A painter has gone on: the squares stay. -/
structure Px (sb tb mb ab most : Nat) (P : R4) (c : Nat) (w : World) (g : Nat) (N : List Nd) (w' : World) (g' : Nat) (N' : List Nd) : Prop where
  pn : Pn w' sb g' tb mb ab most N' P c
  frm : Frm [sb, g, tb, mb] w w'
  gin : g' = g ∨ w.heap.size ≤ g'
  ext : ∃ E, N' = N ++ E
theorem Px.of_below {w w' : World} {sb g tb mb ab most c : Nat} {N : List Nd} {P : R4} (h : Pn w sb g tb mb ab most N P c) (hb : Below w.heap.size w w') : Px sb tb mb ab most P c w g N w' g N :=
  ⟨h.later hb, Frm.of_below hb, Or.inl rfl, [], by simp⟩
theorem Px.trans {w w' w'' : World} {sb tb mb ab most c g g' g'' : Nat} {N N' N'' : List Nd} {P : R4} (h : Px sb tb mb ab most P c w g N w' g' N') (h' : Px sb tb mb ab most P c w' g' N' w'' g'' N'') : Px sb tb mb ab most P c w g N w'' g'' N'' := by
  refine ⟨h'.pn, h.frm.trans h'.frm (fun b hb => ?_), ?_, ?_⟩
  · simp only [List.mem_cons, List.not_mem_nil, or_false] at hb
    rcases hb with e | e | e | e
    · exact Or.inl (by simp [e])
    · rcases h.gin with e' | e'
      · exact Or.inl (by simp [e, e'])
      · exact Or.inr (by omega)
    · exact Or.inl (by simp [e])
    · exact Or.inl (by simp [e])
  · rcases h'.gin with e | e
    · rw [e]; exact h.gin
    · exact Or.inr (Nat.le_trans h.frm.size e)
  · obtain ⟨E, e1⟩ := h.ext
    obtain ⟨F, f1⟩ := h'.ext
    exact ⟨E ++ F, by rw [f1, e1, List.append_assoc]⟩
/-- The store alone has gone on. -/
theorem Px.of_st {w w' : World} {sb g g' tb mb ab most c cap' : Nat} {N N' : List Nd} {P : R4} (h : Pn w sb g tb mb ab most N P c) (hs : St w' sb g' tb cap' most N') (hf : Frm [sb, g, tb] w w') (hg : g' = g ∨ w.heap.size ≤ g') (he : ∃ E, N' = N ++ E) : Px sb tb mb ab most P c w g N w' g' N' := by
  have hml := h.mlt
  have hal := h.alt
  obtain ⟨m1, m2, m3⟩ := h.mb_
  obtain ⟨a1, a2, a3⟩ := h.ab_
  have hwf := h.wf
  obtain ⟨m, h1, h2⟩ := h.mm
  refine ⟨⟨⟨cap', hs⟩, ?_, ⟨m, h1.blk (hf.block mb hml (by simp; omega)), ?_⟩, ⟨m1, ?_, m3⟩, a1, ?_, a3⟩, ?_, hg, he⟩
  · rw [hf.block ab hal (by simp; omega)]; exact h.pt
  · obtain ⟨E, rfl⟩ := he
    exact h2.app hwf hs.wf
  · rcases hg with e | e
    · rw [e]; exact m2
    · omega
  · rcases hg with e | e
    · rw [e]; exact a2
    · omega
  · exact ⟨hf.os, hf.tape, hf.output, hf.size, fun b hb hn => hf.block b hb (fun hm => hn (by simp only [List.mem_cons, List.not_mem_nil, or_false] at hm ⊢; omega))⟩
theorem Px.undrew {w w' : World} {sb tb mb ab most c g g' : Nat} {N N' : List Nd} {P : R4} (h : Px sb tb mb ab most P c w.drew g N w' g' N') : Px sb tb mb ab most P c w g N w' g' N' :=
  ⟨h.pn, ⟨h.frm.os, h.frm.tape, h.frm.output, h.frm.size, h.frm.block⟩, h.gin, h.ext⟩
theorem Px.drew {w w' : World} {sb tb mb ab most c g g' : Nat} {N N' : List Nd} {P : R4} (h : Px sb tb mb ab most P c w g N w' g' N') : Px sb tb mb ab most P c w g N w'.drew g' N' :=
  ⟨h.pn.drew, ⟨h.frm.os, h.frm.tape, h.frm.output, h.frm.size, h.frm.block⟩, h.gin, h.ext⟩
theorem Px.wf {w w' : World} {sb tb mb ab most c g g' : Nat} {N N' : List Nd} {P : R4} (h : Px sb tb mb ab most P c w g N w' g' N') : Wf N' := h.pn.wf
/-- A block of one's own, beside a painter. -/
structure Oc (w : World) (sb g tb mb b : Nat) (o : Obj) : Prop where
  at_ : w.heap[b]? = some o
  sb_ : b ≠ sb
  g_ : b ≠ g
  tb_ : b ≠ tb
  mb_ : b ≠ mb
theorem Oc.lt {w : World} {sb g tb mb b : Nat} {o : Obj} (h : Oc w sb g tb mb b o) : b < w.heap.size := (Array.getElem?_eq_some_iff.1 h.at_).1
theorem Oc.later {w w' : World} {sb g tb mb b : Nat} {o : Obj} (h : Oc w sb g tb mb b o) (hb : Below w.heap.size w w') : Oc w' sb g tb mb b o := ⟨by rw [hb.block b h.lt]; exact h.at_, h.sb_, h.g_, h.tb_, h.mb_⟩
theorem Oc.drew {w : World} {sb g tb mb b : Nat} {o : Obj} (h : Oc w sb g tb mb b o) : Oc w.drew sb g tb mb b o := ⟨h.at_, h.sb_, h.g_, h.tb_, h.mb_⟩
theorem Oc.new {w : World} {sb g tb mb ab most c : Nat} {N : List Nd} {P : R4} (h : Pn w sb g tb mb ab most N P c) (cs : Array Value) (t : TypeId) : Oc (w.alloc (.cells cs t)) sb g tb mb w.heap.size (.cells cs t (0, 0)) := by
  obtain ⟨cap, hs⟩ := h.st
  obtain ⟨l1, l2, l3⟩ := hs.lt
  have := h.mlt
  exact ⟨heap_alloc_new w _, by omega, by omega, by omega, by omega⟩
theorem Oc.px {w w' : World} {sb tb mb ab most c g g' b : Nat} {N N' : List Nd} {P : R4} {o : Obj} (h : Oc w sb g tb mb b o) (hn : Px sb tb mb ab most P c w g N w' g' N') : Oc w' sb g' tb mb b o := by
  refine ⟨by rw [hn.frm.block b h.lt (by simp [h.sb_, h.g_, h.tb_, h.mb_])]; exact h.at_, h.sb_, ?_, h.tb_, h.mb_⟩
  rcases hn.gin with e | e
  · rw [e]; exact h.g_
  · have := h.lt; omega
theorem Oc.other {w : World} {sb g tb mb b : Nat} {o : Obj} (h : Oc w sb g tb mb b o) {p : Addr} (hp : p.block ≠ b) (v : Value) : Oc (w.setCell p v) sb g tb mb b o :=
  ⟨by rw [Below.heap_setCell _ _ _ _ (Ne.symm hp)]; exact h.at_, h.sb_, h.g_, h.tb_, h.mb_⟩
theorem Oc.set {w : World} {sb g tb mb b : Nat} {k : K4} (h : Oc w sb g tb mb b (kO k)) {i : Nat} (hi : i < 4) (v : Nat) : Oc (w.setCell ⟨b, i, none⟩ (.int .u32 (v : Int))) sb g tb mb b (kO (mk4 fun j => if j = i then v else kAt k j)) :=
  ⟨k_set h.at_ hi v, h.sb_, h.g_, h.tb_, h.mb_⟩
theorem Pn.set {w : World} {sb g tb mb ab most c b i : Nat} {N : List Nd} {P : R4} {o : Obj} (h : Pn w sb g tb mb ab most N P c) (hb : Oc w sb g tb mb b o) (ha : b ≠ ab) (v : Value) : Pn (w.setCell ⟨b, i, none⟩ v) sb g tb mb ab most N P c := by
  obtain ⟨cap, hs⟩ := h.st
  obtain ⟨m, h1, h2⟩ := h.mm
  exact ⟨⟨cap, hs.keep (Below.heap_setCell _ _ _ _ (Ne.symm hb.sb_)) (Below.heap_setCell _ _ _ _ (Ne.symm hb.g_)) (Below.heap_setCell _ _ _ _ (Ne.symm hb.tb_))⟩, by rw [Below.heap_setCell _ _ _ _ (Ne.symm ha)]; exact h.pt, ⟨m, h1.blk (Below.heap_setCell _ _ _ _ (Ne.symm hb.mb_)), h2⟩, h.mb_, h.ab_⟩
/-- A store into a block that was not there. -/
theorem Px.set {w w' : World} {sb tb mb ab most c g g' b i : Nat} {N N' : List Nd} {P : R4} {o : Obj} (h : Px sb tb mb ab most P c w g N w' g' N') (hb : Oc w' sb g' tb mb b o) (ha : b ≠ ab) (hw : w.heap.size ≤ b) (v : Value) : Px sb tb mb ab most P c w g N (w'.setCell ⟨b, i, none⟩ v) g' N' := by
  refine ⟨h.pn.set hb ha v, ⟨h.frm.os, h.frm.tape, h.frm.output, by simpa using h.frm.size, fun b' hb' hn => ?_⟩, h.gin, h.ext⟩
  rw [Below.heap_setCell _ _ _ _ (by show b' ≠ b; omega)]
  exact h.frm.block b' hb' hn
/-- What a painter's call comes to. -/
def Res8 (most : Nat) (e : Ending) (N : List Nd) (n : Nat) (f : Int → Int → Nat) (N' : List Nd) : Prop :=
  New8 N n f N' ∧ ((∃ r : Nat, e = .returned (.tuple #[.int .u32 (r : Int), .nilIface]) ∧ Con N' n r f) ∨ (e = .returned (.tuple #[.int .u32 0, .iface 57 (.int .i64 7)]) ∧ most ≤ N'.length))
theorem Res8.of {most : Nat} {e : Ending} {N : List Nd} {n : Nat} {f f' : Int → Int → Nat} {N' : List Nd} (h : Res8 most e N n f N') (hf : ∀ X Y, 0 ≤ X ∧ X < 2 ^ n → 0 ≤ Y ∧ Y < 2 ^ n → f X Y = f' X Y) : Res8 most e N n f' N' := by
  obtain ⟨h1, h2⟩ := h
  refine ⟨h1.of hf, h2.imp ?_ id⟩
  rintro ⟨r, e1, e2⟩
  exact ⟨r, e1, e2.of hf⟩
theorem make_con {w : World} {sb g tb mb ab most c : Nat} {N : List Nd} {P : R4} (h : Pn w sb g tb mb ab most N P c) {n : Nat} (hn : n < 62) {k : K4} {f : Int → Int → Nat} (hk : ∀ r b, Con N n (pick k r b) (qF f n r b)) :
    Calls Tryz.prog 95 #[.pointer (some ⟨sb, 0, none⟩), .agg #[.int .u32 (k.1 : Int), .int .u32 (k.2.1 : Int), .int .u32 (k.2.2.1 : Int), .int .u32 (k.2.2.2 : Int)]] w fun e w' => ∃ g' N', Px sb tb mb ab most P c w g N w' g' N' ∧ Res8 most e N (n + 1) f N' := by
  obtain ⟨cap, hs⟩ := h.st
  have hfo : Fo N n k := fun r b => (hk r b).1
  have hin : InK k := by
    have h' := fo_iff.1 hfo
    exact ⟨Sq.u32 hs (h' 0 (by omega)), Sq.u32 hs (h' 1 (by omega)), Sq.u32 hs (h' 2 (by omega)), Sq.u32 hs (h' 3 (by omega))⟩
  refine (make_any hs k hin).mono ?_
  rintro e w' ⟨g', cap', rfl, hS, hF, hg⟩
  rcases mk_con (most := most) hs.wf hn hk with ⟨hm, hfull⟩ | ⟨N', r, hm, hc, hnew⟩
  · rw [hm] at hS ⊢
    exact ⟨g', N, Px.of_st h hS hF hg ⟨[], by simp⟩, New8.refl _ _ _, Or.inr ⟨rfl, hfull⟩⟩
  · rw [hm] at hS ⊢
    exact ⟨g', N', Px.of_st h hS hF hg hnew.1, hnew, Or.inl ⟨r, rfl, hc⟩⟩
theorem empty_con {w : World} {sb g tb mb ab most c : Nat} {N : List Nd} {P : R4} (h : Pn w sb g tb mb ab most N P c) {n : Nat} (hn : n ≤ 62) :
    Calls Tryz.prog 64 #[.pointer (some ⟨sb, 0, none⟩), .int .i64 (n : Int)] w fun e w' => ∃ g' N', Px sb tb mb ab most P c w g N w' g' N' ∧ Res8 most e N n (fun _ _ => 0) N' := by
  obtain ⟨cap, hs⟩ := h.st
  refine (empty_any hs n hn).mono ?_
  rintro e w' ⟨g', cap', rfl, hS, hF, hg⟩
  have h0 : Con N 0 0 (fun _ _ => 0) := ⟨sq_dead hs.wf, fun _ _ _ _ => rfl⟩
  rcases em_con (most := most) n hs.wf hs.room h0 (by omega) with ⟨N', hm, hnew, hfull, _⟩ | ⟨N', r, hm, hc, hnew, _⟩
  · rw [hm] at hS ⊢
    rw [Nat.zero_add] at hnew
    exact ⟨g', N', Px.of_st h hS hF hg hnew.1, hnew, Or.inr ⟨rfl, hfull⟩⟩
  · rw [hm] at hS ⊢
    rw [Nat.zero_add] at hnew hc
    exact ⟨g', N', Px.of_st h hS hF hg hnew.1, hnew, Or.inl ⟨r, rfl, hc⟩⟩
set_option maxHeartbeats 1000000 in
theorem real_any {w : World} {sb g tb mb ab most c : Nat} {N : List Nd} {P : R4} (h : Pn w sb g tb mb ab most N P c) {n x : Nat} (hn : n ≤ 62) (hx : Sq0 N n x) :
    Calls Tryz.prog 175 #[.pointer (some ⟨ab, 0, none⟩), .int .u32 (x : Int), .int .i64 (n : Int)] w fun e w' => ∃ g' N', Px sb tb mb ab most P c w g N w' g' N' ∧ Res8 most e N n (getZ N n x) N' := by
  have HP := Lib.hid h
  obtain ⟨p0, p1, p2⟩ := pn_cells h.pt
  by_cases h0 : x = 0
  · subst h0
    have HE := Lib.hid (empty_con h hn)
    have HWF := Lib.hid h.wf
    clear h hx
    go_enter Tryz.func175, Tryz.ntmps175
    go_wp2_with fail
    refine HE.out.mono ?_
    rintro e w' ⟨g', N', hpx, hres⟩
    have HR : Hid (Res8 most e N n (getZ N n 0) N') := hres.of fun X Y _ _ => (get_dead HWF.out n X Y).symm
    have HPX := Lib.hid hpx
    clear hpx hres
    rcases HR.out.2 with ⟨r, rfl, hc⟩ | ⟨rfl, hf⟩
    · have HC := Lib.hid hc
      clear hc
      go_wp2_with fail
      go_ret2
      exact ⟨g', N', HPX.out, HR.out⟩
    · have HC := Lib.hid hf
      clear hf
      go_wp2_with fail
      go_ret2
      exact ⟨g', N', HPX.out, HR.out⟩
  · have hsq : Sq N n x := hx.resolve_left h0
    have e0 : ((x : Int) == 0) = false := by rw [beq_eq_false_iff_ne]; omega
    have HR : Hid (Con N n x (getZ N n x)) := ⟨hsq, fun _ _ _ _ => rfl⟩
    clear h hx hsq p0 p1 p2
    go_enter Tryz.func175, Tryz.ntmps175
    go_wp2
    go_ret2
    exact ⟨g, N, Px.of_below HP.out (Below.refl _ _), New8.refl _ _ _, Or.inl ⟨x, rfl, HR.out⟩⟩
set_option maxHeartbeats 1000000 in
theorem four_any {w : World} {sb g tb mb ab most c : Nat} {N : List Nd} {P : R4} (h : Pn w sb g tb mb ab most N P c) {n x : Nat} (hx : Sq0 N (n + 1) x) :
    Calls Tryz.prog 160 #[.pointer (some ⟨ab, 0, none⟩), .int .u32 (x : Int)] w fun e w' => e = .returned (.agg #[.int .u32 ((kidZ N x).1 : Int), .int .u32 ((kidZ N x).2.1 : Int), .int .u32 ((kidZ N x).2.2.1 : Int), .int .u32 ((kidZ N x).2.2.2 : Int)]) ∧ Below w.heap.size w w' := by
  have HB := Lib.hid (bel1 w (.cells #[.int .u32 0, .int .u32 0, .int .u32 0, .int .u32 0] 105))
  have HP := Lib.hid (h.later HB.out)
  have hk0 : KAt (w.alloc (.cells #[.int .u32 0, .int .u32 0, .int .u32 0, .int .u32 0] 105)) w.heap.size (0, 0, 0, 0) := k_new w (0, 0, 0, 0)
  have HK := Lib.hid hk0
  clear hk0
  obtain ⟨p0, p1, p2⟩ := pn_cells HP.out.pt
  obtain ⟨cap, hs⟩ := HP.out.st
  by_cases h0 : x = 0
  · subst h0
    have hkz : kidZ N 0 = (0, 0, 0, 0) := by unfold kidZ; rw [h.wf.dead]
    rw [hkz]
    have hO := of_bad hs 0 (by omega) (by unfold lvZ; rw [h.wf.dead]; simp)
    unfold kv at hO
    rw [show (((0 : Nat) : Int)) = 0 from rfl] at hO
    have HO := Lib.hid hO
    clear hO
    rw [show (((0 : Nat) : Int)) = 0 from rfl]
    clear h hx hs hkz
    go_enter Tryz.func160, Tryz.ntmps160
    go_wp2_with fail
    refine HO.out.mono ?_
    rintro e w2 ⟨rfl, hb⟩
    have HB2 := Lib.hid (HB.out.trans (hb.mono HB.out.size))
    have HK2 := Lib.hid (HK.out.later hb)
    clear hb HK HB p0 p1 p2
    obtain ⟨c0, c1, c2, c3, f0, f1, f2, f3⟩ := (HK2.out.later (bel1 w2 (.cells #[.int .u32 0, .int .u32 0, .int .u32 0, .int .u32 0] 105))).cells
    go_wp2_with fail
    obtain ⟨W', hW', hb', hk'⟩ := k_res2 (HB2.out.trans ((bel1 w2 (.cells #[.int .u32 0, .int .u32 0, .int .u32 0, .int .u32 0] 105)).mono HB2.out.size)) (Nat.le_refl _) (HK2.out.later (bel1 w2 (.cells #[.int .u32 0, .int .u32 0, .int .u32 0, .int .u32 0] 105))) (0, 0, 0, 0)
    rw [show (((((w2.alloc (.cells #[.int .u32 0, .int .u32 0, .int .u32 0, .int .u32 0] 105)).setCell ⟨w.heap.size, 0, none⟩ (.int .u32 0)).setCell ⟨w.heap.size, 1, none⟩ (.int .u32 0)).setCell ⟨w.heap.size, 2, none⟩ (.int .u32 0)).setCell ⟨w.heap.size, 3, none⟩ (.int .u32 0)) = W' from hW']
    obtain ⟨q0, q1, q2, q3⟩ := k_cells hk'
    refine bodyPost_ret (v := _) (by simp [results, Tryz.results160, go_sem, q0, q1, q2, q3]; rfl) rfl ?_
    exact ⟨rfl, hb'⟩
  · have hsq : Sq N (n + 1) x := hx.resolve_left h0
    have HO := Lib.hid (of_sqk hs hsq)
    clear h hx hs hsq
    generalize kidZ N x = k at *
    go_enter Tryz.func160, Tryz.ntmps160
    go_wp2_with fail
    refine HO.out.mono ?_
    rintro e w2 ⟨rfl, hb⟩
    have HB2 := Lib.hid (HB.out.trans (hb.mono HB.out.size))
    have HK2 := Lib.hid (HK.out.later hb)
    clear hb HK HB p0 p1 p2
    obtain ⟨c0, c1, c2, c3, f0, f1, f2, f3⟩ := (HK2.out.later (bel1 w2 (.cells #[.int .u32 (k.1 : Int), .int .u32 (k.2.1 : Int), .int .u32 (k.2.2.1 : Int), .int .u32 (k.2.2.2 : Int)] 105))).cells
    have hk9 := k_new w2 k
    obtain ⟨d0, d1, d2, d3, _⟩ := hk9.cells
    go_wp2_with fail
    obtain ⟨W', hW', hb', hk'⟩ := k_res2 (HB2.out.trans ((bel1 w2 (.cells #[.int .u32 (k.1 : Int), .int .u32 (k.2.1 : Int), .int .u32 (k.2.2.1 : Int), .int .u32 (k.2.2.2 : Int)] 105)).mono HB2.out.size)) (Nat.le_refl _) (HK2.out.later (bel1 w2 (.cells #[.int .u32 (k.1 : Int), .int .u32 (k.2.1 : Int), .int .u32 (k.2.2.1 : Int), .int .u32 (k.2.2.2 : Int)] 105))) k
    rw [hW']
    obtain ⟨q0, q1, q2, q3⟩ := k_cells hk'
    refine bodyPost_ret (v := _) (by simp [results, Tryz.results160, go_sem, q0, q1, q2, q3]; rfl) rfl ?_
    exact ⟨rfl, hb'⟩
end Go.Proofs.YtaapkngpnlnjeaaGreat
end
