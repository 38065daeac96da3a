/- Package area: whole, and the painter's four and real: contracts. -/
import Derived.Test.YtfohkbgacpokoaaA8c
import Derived.Test.YtfohkbgacpokoaaPk
import Derived.Laws.StructEq
namespace Go.Proofs.Ytfohkbgacpokoaa
open Go.RowKit Go.Maps
set_option maxRecDepth 100000

theorem Try.partI8a (a b : Value) (w : World) : (part 2 #[a, b] 0).run Try.prog w = .ok a w := by kernel_rfl
theorem Try.partI8b (a b : Value) (w : World) : (part 2 #[a, b] 1).run Try.prog w = .ok b w := by kernel_rfl
theorem Try.partP8a (a b c d : Value) (w : World) : (part 23 #[a, b, c, d] 0).run Try.prog w = .ok (.agg #[a, b]) w := by kernel_rfl
theorem Try.partP8b (a b c d : Value) (w : World) : (part 23 #[a, b, c, d] 2).run Try.prog w = .ok (.agg #[c, d]) w := by kernel_rfl
theorem eqInP8 (f : Nat) (x y a b : Int) (w : World) : (Op.equalIn (f + 1 + 1) 23 (.agg #[.int .i64 x, .int .i64 y]) (.agg #[.int .i64 a, .int .i64 b])).run Try.prog w = .ok (x == a && y == b) w := by
  rw [run_equalIn_agg w (f + 1) 23 _ _ (by kernel_rfl) (by kernel_rfl)]
  have hm := Try.fieldsPt8
  generalize (Try.prog.fieldsOf 23).toList = l at *
  have hl : l.length = 2 := by have := congrArg List.length hm; simpa using this
  match l, hl, hm with
  | [f1, g], _, hm =>
    simp only [List.map_cons, List.map_nil, List.cons.injEq, Prod.mk.injEq, and_true] at hm
    obtain ⟨⟨n1, t1, o1⟩, n2, t2, o2⟩ := hm
    simp only [Op.eqFields, n1, t1, o1, n2, t2, o2, Sem.run_bind, Sem.run_ite, Try.partI8a, Try.partI8b, Result.andThen_ok, run_equalIn_int w f _ .i64 .i64 _ _ Try.underlying2]
    cases h1 : (x == a) <;> cases h2 : (y == b) <;> simp
theorem eqInR8 (x y X Y a b c d : Int) (w : World) : (Op.equalIn 10000 26 (.agg #[.int .i64 x, .int .i64 y, .int .i64 X, .int .i64 Y]) (.agg #[.int .i64 a, .int .i64 b, .int .i64 c, .int .i64 d])).run Try.prog w = .ok ((x == a && y == b) && (X == c && Y == d)) w := by
  rw [run_equalIn_agg w 9999 26 _ _ (by kernel_rfl) (by kernel_rfl)]
  have hm := Try.fieldsRc8
  generalize (Try.prog.fieldsOf 26).toList = l at *
  have hl : l.length = 2 := by have := congrArg List.length hm; simpa using this
  match l, hl, hm with
  | [f1, g], _, hm =>
    simp only [List.map_cons, List.map_nil, List.cons.injEq, Prod.mk.injEq, and_true] at hm
    obtain ⟨⟨n1, t1, o1⟩, n2, t2, o2⟩ := hm
    simp only [Op.eqFields, n1, t1, o1, n2, t2, o2, Sem.run_bind, Sem.run_ite, Try.partP8a, Try.partP8b, Result.andThen_ok, eqInP8 9997]
    cases h1 : (x == a && y == b) <;> cases h2 : (X == c && Y == d) <;> simp
theorem eqR8 (x y X Y a b c d : Int) (w : World) : (binOp .eql 26 (.agg #[.int .i64 x, .int .i64 y, .int .i64 X, .int .i64 Y]) (.agg #[.int .i64 a, .int .i64 b, .int .i64 c, .int .i64 d])).run Try.prog w = .ok (.bool ((x == a && y == b) && (X == c && Y == d))) w := by
  rw [run_eql_struct, eqInR8]; rfl
theorem neR8 (x y X Y a b c d : Int) (w : World) : (binOp .neq 26 (.agg #[.int .i64 x, .int .i64 y, .int .i64 X, .int .i64 Y]) (.agg #[.int .i64 a, .int .i64 b, .int .i64 c, .int .i64 d])).run Try.prog w = .ok (.bool (!((x == a && y == b) && (X == c && Y == d)))) w := by
  rw [run_neq_struct, eqInR8]; rfl
/-- Does all of the square matter? -/
def wholeB (a : Part) : Bool := (a.r.x == 0 && a.r.y == 0) && (a.r.X == 2 ^ a.n && a.r.Y == 2 ^ a.n)
def ptO8 (a : Part) : Obj := .cells #[.int .u32 (a.x : Int), .int .i64 (a.n : Int), .int .i64 a.r.x, .int .i64 a.r.y, .int .i64 a.r.X, .int .i64 a.r.Y] 85 (0, 0)
theorem pt_cells8 {w : World} {b : Nat} {a : Part} (h : w.heap[b]? = some (ptO8 a)) : w.cell? ⟨b, 0, none⟩ = some (.int .u32 (a.x : Int)) ∧ w.cell? ⟨b, 1, none⟩ = some (.int .i64 (a.n : Int)) ∧ w.cell? ⟨b, 2, none⟩ = some (.int .i64 a.r.x) ∧ w.cell? ⟨b, 3, none⟩ = some (.int .i64 a.r.y) ∧ w.cell? ⟨b, 4, none⟩ = some (.int .i64 a.r.X) ∧ w.cell? ⟨b, 5, none⟩ = some (.int .i64 a.r.Y) :=
  ⟨by rw [Lib.cell_of_heap h]; rfl, by rw [Lib.cell_of_heap h]; rfl, by rw [Lib.cell_of_heap h]; rfl, by rw [Lib.cell_of_heap h]; rfl, by rw [Lib.cell_of_heap h]; rfl, by rw [Lib.cell_of_heap h]; rfl⟩
set_option maxHeartbeats 2000000 in
theorem whole_any (a : Part) (hn : a.n ≤ 62) (w : World) : Calls Try.prog 56 #[.agg #[.int .u32 (a.x : Int), .int .i64 (a.n : Int), .int .i64 a.r.x, .int .i64 a.r.y, .int .i64 a.r.X, .int .i64 a.r.Y]] w fun e w' => e = .returned (.bool (wholeB a)) ∧ Below w.heap.size w w' := by
  obtain ⟨xx, n, ⟨x, y, X, Y⟩⟩ := a
  simp only at hn ⊢
  have HE : Hid (wholeB ⟨xx, n, ⟨x, y, X, Y⟩⟩ = ((x == 0 && y == 0) && (X == 2 ^ n && Y == 2 ^ n))) := rfl
  rw [HE.out]
  have HB := Lib.hid (bel1 w (.cells #[.int .u32 (xx : Int), .int .i64 (n : Int), .int .i64 x, .int .i64 y, .int .i64 X, .int .i64 Y] 85))
  have h0 : (w.alloc (.cells #[.int .u32 (xx : Int), .int .i64 (n : Int), .int .i64 x, .int .i64 y, .int .i64 X, .int .i64 Y] 85)).heap[w.heap.size]? = some (ptO8 ⟨xx, n, ⟨x, y, X, Y⟩⟩) := heap_alloc_new w _
  obtain ⟨_, c1, c2, c3, c4, c5⟩ := pt_cells8 h0
  simp only at c1 c2 c3 c4 c5
  clear h0
  have HSD := Lib.hid (side8_any n hn)
  generalize hG : (2 : Int) ^ n = G at *
  clear hG
  go_enter Try.func56, Try.ntmps56
  go_upto_region 1 with fail
  generalize w.alloc (.cells #[.int .u32 (xx : Int), .int .i64 (n : Int), .int .i64 x, .int .i64 y, .int .i64 X, .int .i64 Y] 85) = W0 at *
  have hne := Up.me W0
  have HS := Lib.hid (fun z : Up W0 => Up.callsE (fun W _ => HSD.out W) z)
  have g1 := fun z : Up W0 => Up.cell c1 z
  have g2 := fun z : Up W0 => Up.cell c2 z
  have g3 := fun z : Up W0 => Up.cell c3 z
  have g4 := fun z : Up W0 => Up.cell c4 z
  have g5 := fun z : Up W0 => Up.cell c5 z
  have HQ := fun W => eqR8 x y X Y 0 0 G G W
  refine region_up (by kernel_rfl) (by kernel_rfl) ?_
  repeat (go_big_quiet_step ((first | (go_at_call 52; with_reducible exact HS.out _))))
  refine wpQuiet_nil ?_
  rintro w2 ⟨⟨W2, hW2⟩, rfl⟩
  go_wp2_with fail
  go_ret
  exact ⟨rfl, HB.out.trans (hW2.mono HB.out.size)⟩
end Go.Proofs.Ytfohkbgacpokoaa
