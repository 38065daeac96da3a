/- Parts of squares as keys of maps. -/
import Derived.Test.YtfohkbgacpokoaaGm
import Derived.Test.YtfohkbgacpokoaaS8
namespace Go.Proofs.Ytfohkbgacpokoaa
open Go.RowKit Go.Maps
set_option maxRecDepth 100000

/-- A part: a square, its level, the rectangle of its cells that matter. -/
structure Part where
  x : Nat
  n : Nat
  r : R4
  deriving DecidableEq
/-- A part, as a value. -/
def pV (a : Part) : Value := .agg #[.int .u32 (a.x : Int), .int .i64 (a.n : Int), .int .i64 a.r.x, .int .i64 a.r.y, .int .i64 a.r.X, .int .i64 a.r.Y]
/-- A part that comes of a rectangle's. -/
def PtOk (P : R4) (a : Part) : Prop := a.x < 1048576 ∧ a.n ≤ 62 ∧ a.r.no = false ∧ RIn a.n a.r ∧ Pr P a.n a.r
def b2n (b : Bool) : Nat := if b then 1 else 0
def codeP (a : Part) : Nat := a.x + 1048576 * (a.n + 64 * (b2n (decide (a.r.x = 0)) + 2 * (b2n (decide (a.r.X = 2 ^ a.n)) + 2 * (b2n (decide (a.r.y = 0)) + 2 * b2n (decide (a.r.Y = 2 ^ a.n))))))
theorem b2n_le (b : Bool) : b2n b ≤ 1 := by cases b <;> decide
theorem b2n_inj {a b : Bool} (h : b2n a = b2n b) : a = b := by cases a <;> cases b <;> first | rfl | simp [b2n] at h
theorem codeP_lt {P : R4} {a : Part} (h : PtOk P a) : codeP a < 1073741824 := by
  unfold codeP
  have := h.1
  have := h.2.1
  have := b2n_le (decide (a.r.x = 0))
  have := b2n_le (decide (a.r.X = 2 ^ a.n))
  have := b2n_le (decide (a.r.y = 0))
  have := b2n_le (decide (a.r.Y = 2 ^ a.n))
  omega
theorem codeP_inj {P : R4} {a b : Part} (ha : PtOk P a) (hb : PtOk P b) (h : codeP a = codeP b) : a = b := by
  obtain ⟨a1, a2, a3, a4, a5⟩ := ha
  obtain ⟨b1, b2, b3, b4, b5⟩ := hb
  obtain ⟨p1, p2, p3, p4⟩ := a5.resolve_left (by rw [a3]; decide)
  obtain ⟨q1, q2, q3, q4⟩ := b5.resolve_left (by rw [b3]; decide)
  unfold codeP at h
  have c1 := b2n_le (decide (a.r.x = 0))
  have c2 := b2n_le (decide (a.r.X = 2 ^ a.n))
  have c3 := b2n_le (decide (a.r.y = 0))
  have c4 := b2n_le (decide (a.r.Y = 2 ^ a.n))
  have d1 := b2n_le (decide (b.r.x = 0))
  have d2 := b2n_le (decide (b.r.X = 2 ^ b.n))
  have d3 := b2n_le (decide (b.r.y = 0))
  have d4 := b2n_le (decide (b.r.Y = 2 ^ b.n))
  have hx : a.x = b.x := by omega
  have hn : a.n = b.n := by omega
  have h1 := b2n_inj (show b2n (decide (a.r.x = 0)) = b2n (decide (b.r.x = 0)) by omega)
  have h2 := b2n_inj (show b2n (decide (a.r.X = 2 ^ a.n)) = b2n (decide (b.r.X = 2 ^ b.n)) by omega)
  have h3 := b2n_inj (show b2n (decide (a.r.y = 0)) = b2n (decide (b.r.y = 0)) by omega)
  have h4 := b2n_inj (show b2n (decide (a.r.Y = 2 ^ a.n)) = b2n (decide (b.r.Y = 2 ^ b.n)) by omega)
  obtain ⟨ax, an, ⟨rx, ry, rX, rY⟩⟩ := a
  obtain ⟨bx, bn, ⟨sx, sy, sX, sY⟩⟩ := b
  simp only at hx hn h1 h2 h3 h4 p1 p2 p3 p4 q1 q2 q3 q4
  subst hx hn
  rw [decide_eq_decide] at h1 h2 h3 h4
  have e1 : rx = sx := by
    rcases p1 with p | p <;> rcases q1 with q | q
    · rw [p, q]
    · rw [h1.1 p, p]
    · rw [q, h1.2 q]
    · rw [p, q]
  have e2 : rX = sX := by
    rcases p2 with p | p <;> rcases q2 with q | q
    · rw [p, q]
    · rw [h2.1 p, p]
    · rw [q, h2.2 q]
    · rw [p, q]
  have e3 : ry = sy := by
    rcases p3 with p | p <;> rcases q3 with q | q
    · rw [p, q]
    · rw [h3.1 p, p]
    · rw [q, h3.2 q]
    · rw [p, q]
  have e4 : rY = sY := by
    rcases p4 with p | p <;> rcases q4 with q | q
    · rw [p, q]
    · rw [h4.1 p, p]
    · rw [q, h4.2 q]
    · rw [p, q]
  rw [e1, e2, e3, e4]
theorem Try.cellsI8 : Try.prog.cellsOf 2 = 1 := by kernel_rfl
theorem Try.cellsInt8 : Try.prog.cellsOf 3 = 1 := by kernel_rfl
theorem Try.cellsPtG : Try.prog.cellsOf 23 = 2 := by kernel_rfl
theorem Try.cellsRcG : Try.prog.cellsOf 26 = 4 := by kernel_rfl
theorem Try.cellsPart : Try.prog.cellsOf 85 = 6 := by kernel_rfl
theorem i64_wf {x : Int} (h : -9223372036854775808 ≤ x ∧ x ≤ 9223372036854775807) : (Lit.int .i64 x).wf = true := by
  simp [Lit.wf, IntKind.min, IntKind.max, IntKind.bits, IntKind.signed]; omega
theorem lits_i64 (d : Nat) (x : Int) (h : (Lit.int .i64 x).wf = true) : Try.prog.keyLits (d + 1) 2 [.int .i64 x] = some [.int .i64 x] := by
  unfold Program.keyLits
  rw [Try.underlying2]
  simp only [h, and_self, if_true]
theorem lits_int8 (d : Nat) (x : Int) (h : (Lit.int .i64 x).wf = true) : Try.prog.keyLits (d + 1) 3 [.int .i64 x] = some [.int .i64 x] := by
  unfold Program.keyLits
  rw [Try.underlying3]
  simp only [h, and_self, if_true]
theorem lits_ptG (d : Nat) (x y : Int) (h1 : (Lit.int .i64 x).wf = true) (h2 : (Lit.int .i64 y).wf = true) : Try.prog.keyLits (d + 1 + 1) 23 [.int .i64 x, .int .i64 y] = some [.int .i64 x, .int .i64 y] := by
  have e1 := lits_i64 d x h1
  have e2 := lits_i64 d y h2
  unfold Program.keyLits
  rw [Try.underlying23]
  simp only [Try.cellsPtG]
  rw [if_pos ⟨rfl, by simp⟩]
  simp only [List.mapM_cons, List.mapM_nil, Try.cellsI8, List.drop, List.take, e1, e2]
  rfl
theorem lits_rcG (d : Nat) (x y X Y : Int) (h1 : (Lit.int .i64 x).wf = true) (h2 : (Lit.int .i64 y).wf = true) (h3 : (Lit.int .i64 X).wf = true) (h4 : (Lit.int .i64 Y).wf = true) :
    Try.prog.keyLits (d + 1 + 1 + 1) 26 [.int .i64 x, .int .i64 y, .int .i64 X, .int .i64 Y] = some [.int .i64 x, .int .i64 y, .int .i64 X, .int .i64 Y] := by
  have e1 := lits_ptG d x y h1 h2
  have e2 := lits_ptG d X Y h3 h4
  unfold Program.keyLits
  rw [Try.underlying26]
  simp only [Try.cellsRcG]
  rw [if_pos ⟨rfl, by simp⟩]
  simp only [List.mapM_cons, List.mapM_nil, Try.cellsPtG, List.drop, List.take, e1, e2]
  rfl
theorem lits_part (d : Nat) (s n x y X Y : Int) (hs : (Lit.int .u32 s).wf = true) (hn : (Lit.int .i64 n).wf = true) (h1 : (Lit.int .i64 x).wf = true) (h2 : (Lit.int .i64 y).wf = true) (h3 : (Lit.int .i64 X).wf = true) (h4 : (Lit.int .i64 Y).wf = true) :
    Try.prog.keyLits (d + 1 + 1 + 1 + 1) 85 [.int .u32 s, .int .i64 n, .int .i64 x, .int .i64 y, .int .i64 X, .int .i64 Y] = some [.int .u32 s, .int .i64 n, .int .i64 x, .int .i64 y, .int .i64 X, .int .i64 Y] := by
  have e1 := lits_id (d + 1 + 1) s hs
  have e2 := lits_int8 (d + 1 + 1) n hn
  have e3 := lits_rcG d x y X Y h1 h2 h3 h4
  unfold Program.keyLits
  rw [Try.underlying85]
  simp only [Try.cellsPart]
  rw [if_pos ⟨rfl, by simp⟩]
  simp only [List.mapM_cons, List.mapM_nil, Try.cellsRcG, Try.cellsID, Try.cellsInt8, List.drop, List.take, e1, e2, e3]
  rfl
theorem Try.keyDeepP8 : Try.prog.keyTypeAt (Try.prog.types.size + 1) 85 = true := by kernel_rfl
theorem Try.keyRowP8 : (85 : TypeId) < Try.prog.types.size := of_decide_eq_true (by kernel_rfl)
theorem Try.keyWideP8 : (match Try.prog.underlying 85 with | some (.array _ _) | some (.struct _) => true | _ => false) = true := by rw [Try.underlying85]
theorem Try.keyedP8 : Keyed Try.prog 85 := Keyed.of_law (deep_law_laid Try.laidOutT (m := 4) (by omega) Try.keyRowP8 (by kernel_rfl) Try.keyWideP8)
noncomputable def klP (a : Part) : Lit := (keyOf Try.prog 85 (pV a)).getD (.bool false)
/-- Within int64, all. -/
def FitP (a : Part) : Prop := a.x < 4294967296 ∧ a.n ≤ 62 ∧ (-9223372036854775808 ≤ a.r.x ∧ a.r.x ≤ 9223372036854775807) ∧ (-9223372036854775808 ≤ a.r.y ∧ a.r.y ≤ 9223372036854775807) ∧ (-9223372036854775808 ≤ a.r.X ∧ a.r.X ≤ 9223372036854775807) ∧ (-9223372036854775808 ≤ a.r.Y ∧ a.r.Y ≤ 9223372036854775807)
theorem PtOk.fit {P : R4} {a : Part} (h : PtOk P a) : FitP a := by
  obtain ⟨h1, h2, h3, h4, _⟩ := h
  obtain ⟨i1, i2, i3, i4⟩ := h4.resolve_left (by rw [h3]; decide)
  have hlt := R4.no_not.1 h3
  have hp : (2 : Int) ^ a.n ≤ 4611686018427387904 := by
    have h1 : (2 : Nat) ^ a.n ≤ 2 ^ 62 := Nat.pow_le_pow_right (by decide) h2
    have h2 : ((2 ^ a.n : Nat) : Int) ≤ ((2 ^ 62 : Nat) : Int) := Int.ofNat_le.2 h1
    rw [Int.natCast_pow] at h2
    exact h2
  unfold FitP
  omega
theorem keyP (a : Part) (h : FitP a) : keyOf Try.prog 85 (pV a) = some (klP a) := by
  obtain ⟨h1, h2, h3, h4, h5, h6⟩ := h
  have hk : Try.prog.keyType 85 = true := Try.keyDeepP8
  have hf : (pV a).formed Try.prog 85 = true := by simp [pV, Value.formed, Try.underlying85, Try.cellsPart]
  have hl : Try.prog.keyLits (Try.prog.types.size + 1) 85 [.int .u32 (a.x : Int), .int .i64 (a.n : Int), .int .i64 a.r.x, .int .i64 a.r.y, .int .i64 a.r.X, .int .i64 a.r.Y] = some [.int .u32 (a.x : Int), .int .i64 (a.n : Int), .int .i64 a.r.x, .int .i64 a.r.y, .int .i64 a.r.X, .int .i64 a.r.Y] := by
    have hsz : Try.prog.types.size = 196 := by kernel_rfl
    obtain ⟨d, hd⟩ : ∃ d, Try.prog.types.size + 1 = d + 1 + 1 + 1 + 1 := ⟨Try.prog.types.size - 3, (by omega)⟩
    rw [hd]
    exact lits_part d _ _ _ _ _ _ (u32_wf h1) (i64_wf (by omega)) (i64_wf h3) (i64_wf h4) (i64_wf h5) (i64_wf h6)
  have : ∃ l, keyOf Try.prog 85 (pV a) = some l := by
    unfold keyOf
    rw [Try.underlying85]
    simp only [hk, hf, Bool.and_self, if_true]
    refine ⟨.string (keyBytes [.int .u32 (a.x : Int), .int .i64 (a.n : Int), .int .i64 a.r.x, .int .i64 a.r.y, .int .i64 a.r.X, .int .i64 a.r.Y]), ?_⟩
    show Option.map _ (Try.prog.keyLits (Try.prog.types.size + 1) 85 [.int .u32 (a.x : Int), .int .i64 (a.n : Int), .int .i64 a.r.x, .int .i64 a.r.y, .int .i64 a.r.X, .int .i64 a.r.Y]) = _
    rw [hl]; rfl
  obtain ⟨l, hl⟩ := this
  unfold klP
  rw [hl]; rfl
theorem klP_inj {a b : Part} (ha : FitP a) (hb : FitP b) (h : klP a = klP b) : a = b := by
  have := Try.keyedP8.inj (keyP a ha) (by rw [h]; exact keyP b hb)
  obtain ⟨ax, an, ⟨rx, ry, rX, rY⟩⟩ := a
  obtain ⟨bx, bn, ⟨sx, sy, sX, sY⟩⟩ := b
  simp only [pV, Value.agg.injEq, Array.mk.injEq, List.cons.injEq, Value.int.injEq, and_true, true_and] at this
  obtain ⟨h1, h2, h3, h4, h5, h6⟩ := this
  have e1 : ax = bx := by omega
  have e2 : an = bn := by omega
  rw [e1, e2, h3, h4, h5, h6]
/-- A painter's map, of one rectangle's parts. -/
noncomputable def mkP (P : R4) : Mk 85 29 96 Part where
  keyed := Try.keyedP8
  ht := Try.underlying96
  kv := pV
  ok := PtOk P
  kl := klP
  hkey := fun a h => keyP a h.fit
  inj := fun a b ha hb h => klP_inj ha.fit hb.fit h
  zero := .int .u32 0
  hz := Try.zeroID
  few := fun ks hn h => few_of (ok := PtOk P) codeP 1073741824 (by decide) (fun a ha => codeP_lt ha) (fun a b ha hb e => codeP_inj ha hb e) ks hn h
end Go.Proofs.Ytfohkbgacpokoaa
