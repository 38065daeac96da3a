/- The laws of layer 9: arrays of four bools compared; the chapter's example. -/
import Derived.Test.YtgaakpdmkgigaaaBe9
namespace Go.Proofs.Ytgaakpdmkgigaaa
open Go.RowKit
set_option maxRecDepth 100000

theorem arr_equalB {t e : TypeId} (hu : Try.prog.underlying t = some (.array 4 e)) (hv : Try.prog.underlying e = some .bool) (hs : ∀ w, (sizeOf e).run Try.prog w = .ok 1 w)
    (hp : ∀ (a b c d : Value) (w : World), (part e #[a, b, c, d] 0).run Try.prog w = .ok a w ∧ (part e #[a, b, c, d] 1).run Try.prog w = .ok b w ∧ (part e #[a, b, c, d] 2).run Try.prog w = .ok c w ∧ (part e #[a, b, c, d] 3).run Try.prog w = .ok d w)
    (a b c d a' b' c' d' : Bool) (W : World) (q : Nat) : (Op.equalIn (q + 2) t (.agg #[.bool a, .bool b, .bool c, .bool d]) (.agg #[.bool a', .bool b', .bool c', .bool d'])).run Try.prog W = .ok (a == a' && (b == b' && (c == c' && d == d'))) W := by
  have h1 : ∀ (q : Nat) (x y : Bool) (w : World), (Op.equalIn (q + 1) e (.bool x) (.bool y)).run Try.prog w = .ok (x == y) w := fun q x y w => by
    simp [Op.equalIn, run_underlying hv]
  have p0 := fun x y z t w => (hp x y z t w).1
  have p1 := fun x y z t w => (hp x y z t w).2.1
  have p2 := fun x y z t w => (hp x y z t w).2.2.1
  have p3 := fun x y z t w => (hp x y z t w).2.2.2
  rw [Op.equalIn]
  simp only [Sem.run_bind, run_underlying hu, Result.andThen_ok, hs, Std.Legacy.Range.forIn_eq_forIn_range', Std.Legacy.Range.size, List.range', List.forIn_cons, List.forIn_nil, Nat.mul_one, Nat.zero_add, Nat.reduceAdd, p0, h1]
  by_cases e1 : a = a' <;> by_cases e2 : b = b' <;> by_cases e3 : c = c' <;> by_cases e4 : d = d' <;> simp [p1, p2, p3, h1, Sem.run_bind, e1, e2, e3, e4]
theorem arrB_eq (a b c d a' b' c' d' : Bool) (W : World) : (binOp .eql 34 (.agg #[.bool a, .bool b, .bool c, .bool d]) (.agg #[.bool a', .bool b', .bool c', .bool d'])).run Try.prog W = .ok (.bool (a == a' && (b == b' && (c == c' && d == d')))) W := by
  simp only [binOp]
  simp [Op.equal, Op.maxDepth, arr_equalB Try.underlying34 Try.underlying4 Try.sizeOf4 (fun a b c d w => ⟨by kernel_rfl, by kernel_rfl, by kernel_rfl, by kernel_rfl⟩) a b c d a' b' c' d' W 9998]
theorem inn_ex : innF 112 0 = true ∧ innF 112 1 = false ∧ innF 112 2 = true ∧ innF 112 3 = false := by decide +kernel
theorem lives9_any (w : World) : Calls Try.prog 6 #[] w fun e w' => e = .returned (.bool true) ∧ Below w.heap.size w w' := by
  go_enter Try.func6, Try.ntmps6
  go_wp2_with fail
  refine (at_in 112 (by omega) 1 1 (by omega) (by omega) _).mono ?_
  rintro e w' ⟨rfl, rfl⟩
  rw [show (112 : Nat).testBit (4 * 1 + 1) = true by decide]
  go_wp2_with fail
  refine (inner_any 112 (by omega) _).mono ?_
  rintro e w1 ⟨rfl, hb⟩
  have HB := Lib.hid hb
  clear hb
  unfold bV
  rw [inn_ex.1, inn_ex.2.1, inn_ex.2.2.1, inn_ex.2.2.2]
  have he := arrB_eq true false true false true false true false
  go_wp2_with fail
  refine (rule_any _ _ _).mono ?_
  rintro e w' ⟨rfl, rfl⟩
  rw [show ruleB false 3 = true by decide]
  go_wp2_with fail
  refine (rule_any _ _ _).mono ?_
  rintro e w' ⟨rfl, rfl⟩
  rw [show ruleB true 1 = false by decide]
  go_wp2_with fail
  go_ret
  exact ⟨rfl, HB.out⟩
/-- BaseRule. -/
theorem brule_walk (alive : Bool) (n : Int) (w : World) : Calls Try.prog 4 #[.bool alive, .int .i64 n] w fun e w' => e = .returned (.bool true) ∧ Below w.heap.size w w' := by
  by_cases h3 : n = 3
  · subst h3
    have hr : ruleB alive 3 = true := by simp [ruleB]
    cases alive with
    | false =>
      go_enter Try.func4, Try.ntmps4
      go_wp2_with fail
      refine (lives9_any _).mono ?_
      rintro e w1 ⟨rfl, hb⟩
      have HB := Lib.hid hb
      clear hb
      go_wp2_with fail
      refine (rule_any _ _ _).mono ?_
      rintro e w' ⟨rfl, rfl⟩
      rw [hr]
      go_wp2_with fail
      go_ret
      exact ⟨rfl, HB.out⟩
    | true =>
      go_enter Try.func4, Try.ntmps4
      go_wp2_with fail
      refine (lives9_any _).mono ?_
      rintro e w1 ⟨rfl, hb⟩
      have HB := Lib.hid hb
      clear hb
      go_wp2_with fail
      refine (rule_any _ _ _).mono ?_
      rintro e w' ⟨rfl, rfl⟩
      rw [hr]
      go_wp2_with fail
      go_ret
      exact ⟨rfl, HB.out⟩
  · have g3 : (n == 3) = false := by simpa using h3
    cases alive with
    | false =>
      have hr : ruleB false n = false := by simp [ruleB, h3]
      go_enter Try.func4, Try.ntmps4
      go_wp2_with fail
      refine (lives9_any _).mono ?_
      rintro e w1 ⟨rfl, hb⟩
      have HB := Lib.hid hb
      clear hb
      go_wp2_with fail
      refine (rule_any _ _ _).mono ?_
      rintro e w' ⟨rfl, rfl⟩
      rw [hr]
      go_wp2_with fail
      go_ret
      exact ⟨rfl, HB.out⟩
    | true =>
      by_cases h2 : n = 2
      · subst h2
        have hr : ruleB true 2 = true := by simp [ruleB]
        go_enter Try.func4, Try.ntmps4
        go_wp2_with fail
        refine (lives9_any _).mono ?_
        rintro e w1 ⟨rfl, hb⟩
        have HB := Lib.hid hb
        clear hb
        go_wp2_with fail
        refine (rule_any _ _ _).mono ?_
        rintro e w' ⟨rfl, rfl⟩
        rw [hr]
        go_wp2_with fail
        go_ret
        exact ⟨rfl, HB.out⟩
      · have g2 : (n == 2) = false := by simpa using h2
        have hr : ruleB true n = false := by simp [ruleB, h3, h2]
        go_enter Try.func4, Try.ntmps4
        go_wp2_with fail
        refine (lives9_any _).mono ?_
        rintro e w1 ⟨rfl, hb⟩
        have HB := Lib.hid hb
        clear hb
        go_wp2_with fail
        refine (rule_any _ _ _).mono ?_
        rintro e w' ⟨rfl, rfl⟩
        rw [hr]
        go_wp2_with fail
        go_ret
        exact ⟨rfl, HB.out⟩
end Go.Proofs.Ytgaakpdmkgigaaa
