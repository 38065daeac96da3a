/- The document's answers for layer 7: rows of points; Has, inside, Fits, Level, the law's of, alike: contracts. -/
import Derived.Test.YtaapkngpnlnjeaaP07
import Derived.Test.YtaapkngpnlnjeaaP02
import Derived.Laws.StructEq
namespace Go.Proofs.Ytaapkngpnlnjeaa
open Go.RowKit Go.Maps
set_option maxRecDepth 100000

/-- A slice's address reads as these points. -/
def Ro (w : World) (a : Option Addr) (l : List (Int × Int)) : Prop :=
  ∀ (j : Nat) c, l[j]? = some c → ∃ bk, a = some ⟨bk, 0, none⟩ ∧ w.cell? ⟨bk, j * 2, none⟩ = some (.int .i64 c.1) ∧ w.cell? ⟨bk, j * 2 + 1, none⟩ = some (.int .i64 c.2)
theorem Ro.nil (w : World) (a : Option Addr) : Ro w a [] := fun j c hc => by simp at hc
theorem Ro.later {w w' : World} {a : Option Addr} {l : List (Int × Int)} (h : Ro w a l) (hb : Below w.heap.size w w') : Ro w' a l := fun j c hc => by
  obtain ⟨bk, e, h1, h2⟩ := h j c hc
  exact ⟨bk, e, by rw [hb.cell (p := ⟨bk, j * 2, none⟩) (blk_lt h1)]; exact h1, by rw [hb.cell (p := ⟨bk, j * 2 + 1, none⟩) (blk_lt h2)]; exact h2⟩
theorem Try.fieldsP7 : ((Try.prog.fieldsOf 74).toList.map fun f => (f.name, f.type, f.offset)) = [("X", 2, 0), ("Y", 2, 1)] := by kernel_rfl
theorem Try.partP0 (a b : Value) (w : World) : (part 2 #[a, b] 0).run Try.prog w = .ok a w := by kernel_rfl
theorem Try.partP1 (a b : Value) (w : World) : (part 2 #[a, b] 1).run Try.prog w = .ok b w := by kernel_rfl
theorem eqIn7 (x y a b : Int) (w : World) : (Op.equalIn 10000 74 (.agg #[.int .i64 x, .int .i64 y]) (.agg #[.int .i64 a, .int .i64 b])).run Try.prog w = .ok (x == a && y == b) w := by
  rw [run_equalIn_agg w 9999 74 _ _ (by kernel_rfl) (by kernel_rfl)]
  have hm := Try.fieldsP7
  generalize (Try.prog.fieldsOf 74).toList = l at *
  have hl : l.length = 2 := by have := congrArg List.length hm; simpa using this
  match l, hl, hm with
  | [f, g], _, hm =>
    simp only [List.map_cons, List.map_nil, List.cons.injEq, Prod.mk.injEq, and_true] at hm
    obtain ⟨⟨n1, t1, o1⟩, n2, t2, o2⟩ := hm
    simp only [Op.eqFields, n1, t1, o1, n2, t2, o2, Sem.run_bind, Sem.run_ite, Try.partP0, Try.partP1, Result.andThen_ok, run_equalIn_int w 9998 _ .i64 .i64 _ _ Try.underlying2]
    cases h1 : (x == a) <;> cases h2 : (y == b) <;> simp
theorem eqP (x y a b : Int) (w : World) : (binOp .eql 74 (.agg #[.int .i64 x, .int .i64 y]) (.agg #[.int .i64 a, .int .i64 b])).run Try.prog w = .ok (.bool (x == a && y == b)) w := by
  rw [run_eql_struct, eqIn7]; rfl
theorem neP (x y a b : Int) (w : World) : (binOp .neq 74 (.agg #[.int .i64 x, .int .i64 y]) (.agg #[.int .i64 a, .int .i64 b])).run Try.prog w = .ok (.bool (!(x == a && y == b))) w := by
  rw [run_neq_struct, eqIn7]; rfl
def ptO7 (a b : Int) : Obj := .cells #[.int .i64 a, .int .i64 b] 74 (0, 0)
theorem pt_cells7 {w : World} {b : Nat} {x y : Int} (h : w.heap[b]? = some (ptO7 x y)) : w.cell? ⟨b, 0, none⟩ = some (.int .i64 x) ∧ w.cell? ⟨b, 1, none⟩ = some (.int .i64 y) :=
  ⟨by rw [Lib.cell_of_heap h]; rfl, by rw [Lib.cell_of_heap h]; rfl⟩
theorem keptR {w w' : World} {b : Nat} {o : Obj} (h : w.heap[b]? = some o) (hb : Below w.heap.size w w') : w'.heap[b]? = some o := by
  rw [hb.block b (Array.getElem?_eq_some_iff.1 h).1]; exact h
set_option maxHeartbeats 1000000 in
theorem has_refB (l : List (Int × Int)) (a : Option Addr) (cap : Nat) (p q : Int) (w : World) (h : Ro w a l) (hl : l.length ≤ 1000000) :
    Calls Try.prog 28 #[.slice a l.length cap, .agg #[.int .i64 p, .int .i64 q]] w fun e w' => e = .returned (.bool (decide ((p, q) ∈ l))) ∧ Below w.heap.size w w' := by
  have HB := Lib.hid (bel1 w (.cells #[.int .i64 p, .int .i64 q] 74))
  have HR := Lib.hid (h.later HB.out)
  have HP : Hid ((w.alloc (.cells #[.int .i64 p, .int .i64 q] 74)).heap[w.heap.size]? = some (ptO7 p q)) := heap_alloc_new _ _
  clear h
  go_enter Try.func28, Try.ntmps28
  go_wp2_with fail
  generalize w.alloc (.cells #[.int .i64 p, .int .i64 q] 74) = W0 at *
  go_loopg [5] l.length (fun m i wr => ∃ j : Nat, m = l.length - j ∧ j ≤ l.length ∧ i = .int .i64 (j : Int) ∧ (p, q) ∉ l.take j ∧ ∃ k, wr = W0.drewN k)
  case atStart => exact ⟨0, rfl, Nat.zero_le _, rfl, by simp, 0, rfl⟩
  case round =>
    obtain ⟨j, hm, hj, rfl, hno, k, rfl⟩ := hrel
    have HM := Lib.hid hm
    have HNO := Lib.hid hno
    clear hm hno
    obtain ⟨q0, q1⟩ := pt_cells7 HP.out
    by_cases hlt : j < l.length
    · obtain ⟨c, hc⟩ : ∃ c, l[j]? = some c := ⟨l[j], List.getElem?_eq_getElem hlt⟩
      obtain ⟨bk, ha, c0, c1⟩ := HR.out j c hc
      have HTK : Hid (l.take (j + 1) = l.take j ++ [c]) := by show _ = _; rw [List.take_add_one, hc]; rfl
      subst ha
      clear hc
      have hgj : decide ((j : Int) < (l.length : Int)) = true := by simp; omega
      have i1 : (0 : Int) ≤ (j : Int) := by omega
      have i2 : (j : Int) < (l.length : Int) := by omega
      have heq := eqP c.1 c.2 p q
      go_wp2_with fail
      go_quiet (fail)
      by_cases he : c = (p, q)
      · rw [show (c.1 == p && c.2 == q) = true by rw [he]; simp]
        have HE := Lib.hid he
        clear he
        go_wp2_with fail
        go_ret
        refine ⟨?_, below_drewN (below_drewN HB.out _) _⟩
        rw [decide_eq_true]
        · rfl
        · rw [← HE.out]
          have : c ∈ l.take (j + 1) := by rw [HTK.out]; simp
          exact List.mem_of_mem_take this
      · rw [show (c.1 == p && c.2 == q) = false by simp; exact fun h1 h2 => he (Prod.ext h1 h2)]
        have HE := Lib.hid he
        clear he
        go_wp2_with fail
        go_roundg (l.length - (j + 1))
        case measure => rw [HM.out]; omega
        case rel =>
          refine ⟨j + 1, rfl, hlt, by go_num, ?_, _, rfl⟩
          rw [HTK.out, List.mem_append]
          rintro (hh | hh)
          · exact HNO.out hh
          · simp at hh
            exact HE.out hh.symm
    · obtain rfl : j = l.length := by omega
      have hgj : decide ((l.length : Int) < (l.length : Int)) = false := by simp
      go_wp2_with fail
      go_ret
      refine ⟨?_, below_drewN HB.out _⟩
      have := HNO.out
      rw [List.take_length] at this
      rw [decide_eq_false this]
      rfl
theorem has_ref (l : List (Int × Int)) (a : Option Addr) (cap : Nat) (p q : Int) (w : World) (h : Ro w a l) (hl : l.length ≤ 1000) :
    Calls Try.prog 28 #[.slice a l.length cap, .agg #[.int .i64 p, .int .i64 q]] w fun e w' => e = .returned (.bool (decide ((p, q) ∈ l))) ∧ Below w.heap.size w w' := has_refB l a cap p q w h (by omega)
end Go.Proofs.Ytaapkngpnlnjeaa
