/- A range over a function value whose receiver is bound ('for q := range r.All'): the statement, one round, and a region that draws its order within a round. -/
import Derived.Test.YtlafbkehlglfoaaDoorProg
import Derived.RangeFuncNested
import Derived.RangeFuncBound
import Derived.RangeFuncCalls
import Derived.RangeFuncLeaves
import Derived.Deep.Quiet
import Derived.Deep.QuietTactic
import Derived.OrdersIn
import Derived.TacticsIn
namespace Go.Proofs.YtlafbkehlglfoaaDoor
open Go.RowKit

/-- A loop's record while a round goes on, behind it, behind a jump, behind the loop. -/
def busyL (r : Loop) : Loop := { r with state := .busy }
def readyL (r : Loop) : Loop := { r with state := .ready, pending := none }
def doneL (r : Loop) (c : Code) : Loop := { r with state := .done, pending := some c }
def overL (r : Loop) : Loop := { r with state := .exhausted }
/-- How a round may be left, the loop's record at l being r. -/
def leftBy (l : Nat) (r : Loop) (R : Ending → World → Prop) : Exit → Act → World → Prop
  | .normal, _, W => W.heap[l]? = some (.loop (busyL r)) ∧ R (.returned (.bool true)) (W.putObj l (.loop (readyL r)))
  | .ret, _, W => W.heap[l]? = some (.loop (busyL r)) ∧ R (.returned (.bool false)) (W.putObj l (.loop (doneL r .ret)))
  | .exit id, _, W => W.heap[l]? = some (.loop (busyL r)) ∧ R (.returned (.bool false)) (W.putObj l (.loop (doneL r (.exit id))))
  | _, _, _ => False

theorem leftBy_normal {l : Nat} {r : Loop} {R : Ending → World → Prop} {a : Act} {W : World} (h1 : W.heap[l]? = some (.loop (busyL r))) (h2 : R (.returned (.bool true)) (W.putObj l (.loop (readyL r)))) : leftBy l r R .normal a W := ⟨h1, h2⟩
theorem leftBy_exit {l id : Nat} {r : Loop} {R : Ending → World → Prop} {a : Act} {W : World} (h1 : W.heap[l]? = some (.loop (busyL r))) (h2 : R (.returned (.bool false)) (W.putObj l (.loop (doneL r (.exit id))))) : leftBy l r R (.exit id) a W := ⟨h1, h2⟩
theorem readyL_eq {r : Loop} (hs : r.state = .ready) (hp : r.pending = none) : readyL r = r := by
  cases r
  simp only at hs hp
  subst hs hp
  rfl
/-- One round. -/
theorem yield_round {P : Program} {m l : Nat} {r : Loop} {W : World} {args : Array Value} {R : Ending → World → Prop} (hl : W.heap[l]? = some (.loop r)) (hr : r.state = .ready) (hs : args.size = r.params.size)
    (h : r.assign.wpIn (Fence.wide.inRound l) m P (Exit.then (fun a1 W1 => W1.heap[l]? = some (.loop r) ∧ r.body.wpIn (Fence.wide.inRound l) m P (leftBy l r R) a1 (W1.putObj l (.loop (busyL r)))) (fun _ _ _ => False))
      { tmps := (r.params.zip args).foldl (fun t (p, v) => t.setIfInBounds p v) r.tmps, defers := [] } W) : YieldAt Fence.wide m P l args W R := by
  refine ⟨r.fn, _, r.assign, r.body, run_yield hl hs, roundIn_of_wpIn trivial (wpIn_mono h ?_)⟩
  intro e a1 W1 he
  cases e with
  | normal =>
    obtain ⟨hl1, hb⟩ := he
    refine ⟨_, run_beginRound hl1 hr, wpIn_mono hb ?_⟩
    intro e2 a2 W2 h2
    cases e2 with
    | normal => exact ⟨_, _, run_endRound none h2.1, h2.2⟩
    | ret => exact ⟨_, _, run_endRound (some .ret) h2.1, h2.2⟩
    | exit id => exact ⟨_, _, run_endRound (some (.exit id)) h2.1, h2.2⟩
    | goto t => exact h2.elim
    | panic c => exact h2.elim
    | outgrown => exact h2.elim
  | _ => exact he

/-- The call of a function value whose receiver is bound. -/
theorem bound_resolve {P : Program} {W : World} {a : Act} {g : Operand} {gf : Nat} {first : Array Value} (hg : a.eval g = .func (.func gf) first #[]) (l : Nat) :
    (resolve a.eval (rangeCall g l) 0).run P W = .ok { target := .fn (.func gf) #[], args := first ++ #[.func (.yield l) #[] #[]] } W := by
  simp only [resolve, hg]
  simp [go_sem]
theorem bound_invoke {P : Program} {W : World} {gf : Nat} (eg : ∀ args w, (callFunc gf args).run P w = .ok (.enter gf args) w) (args : Array Value) :
    (invoke (.fn (.func gf) #[]) args).run P W = .ok (.enter gf args) W := by
  simp [invoke, go_sem, eg]
/-- The statement. -/
theorem range_meth {P : Program} {g : Operand} {ps : Array Tmp} {assign body : Code} {Q : Exit → Act → World → Prop} {a : Act} {w : World} {n gf : Nat} {first : Array Value} (h1 : 1 ≤ n) (hg : a.eval g = .func (.func gf) first #[]) (eg : ∀ args w, (callFunc gf args).run P w = .ok (.enter gf args) w)
    (h : ∀ (r : Loop) (W1 : World), r.state = .ready → r.pending = none → r.tmps = a.tmps → r.params = ps → r.assign = assign → r.body = body → W1 = (w.alloc (.deferred (some []))).alloc (.loop r) →
      CallsIn Fence.wide (n - 1) P gf (first ++ #[.func (.yield (w.heap.size + 1)) #[] #[]]) W1 fun e W2 => (∃ v, e = .returned v) ∧
        ((W2.heap[w.heap.size + 1]? = some (.loop r) ∧ Q .normal { a with defers := { target := .collected w.heap.size, args := #[] } :: a.defers } (W2.putObj (w.heap.size + 1) (.loop (overL r)))) ∨
         (∃ c, W2.heap[w.heap.size + 1]? = some (.loop (doneL r c)) ∧ c.wpIn Fence.wide n P Q { a with defers := { target := .collected w.heap.size, args := #[] } :: a.defers } (W2.putObj (w.heap.size + 1) (.loop (overL (doneL r c))))))) :
    (Code.rangeFunc g ps assign body).wpIn Fence.wide n P Q a w := by
  refine wpIn_rangeFunc ?_
  intro fn _
  obtain ⟨r, hr⟩ : ∃ r : Loop, r = { state := .ready, pending := none, fn := fn, tmps := a.tmps, params := ps, assign := assign, body := body, defers := w.heap.size } := ⟨_, rfl⟩
  obtain ⟨W1, hW1⟩ : ∃ W1, W1 = (w.alloc (.deferred (some []))).alloc (.loop r) := ⟨_, rfl⟩
  have hc := h r W1 (by rw [hr]) (by rw [hr]) (by rw [hr]) (by rw [hr]) (by rw [hr]) (by rw [hr]) hW1
  have hen : (Instr.enterLoop fn a.tmps ps assign body none).run P w = .ok (w.heap.size + 1, [{ target := .collected w.heap.size, args := #[] }]) W1 := by rw [hW1, hr]; exact run_enterLoop_outer _ _ _ _ _
  have hres := bound_resolve (P := P) (W := W1) hg (w.heap.size + 1)
  have hinv := bound_invoke (P := P) (W := W1) eg (first ++ #[.func (.yield (w.heap.size + 1)) #[] #[]])
  have hrs : r.state ≠ .busy := by rw [hr]; simp
  have hrp : r.pending = none := by rw [hr]
  clear hW1 h hr
  refine ⟨w.heap.size + 1, [{ target := .collected w.heap.size, args := #[] }], W1, _, W1, gf, _, W1, hen, hres, fun _ _ => trivial, hinv, fun _ => h1, CallsIn.mono hc ?_⟩
  rintro e W2 ⟨⟨v, rfl⟩, (⟨hl, hq⟩ | ⟨c, hl, hq⟩)⟩
  · exact ⟨_, _, run_endLoop hl hrs, by unfold overL at hq; rw [hrp] at hq ⊢; exact hq⟩
  · exact ⟨_, _, run_endLoop hl (by simp [doneL]), hq⟩

/-- In a round, at the wide fence: an operation that keeps to a class of worlds. -/
theorem opIn_of_qOp {P : Program} {ops : Array Oper} {C : World → Prop} {i l n : Nat} {a : Act} {K : Act → Prop} {K' : Act → World → Prop} {Q : Exit → Act → World → Prop} {w : World} (hd : ∀ o, ops[i]? = some o → ∀ c, o.op ≠ .defer c) (hC : C w) (h : ∀ a w', C w' → K a → K' a w') (hh : qOp P ops C i K a) :
    wpOpIn (Fence.wide.inRound l) n P ops Q i K' a w := by
  unfold qOp at hh
  unfold wpOpIn
  split
  · rename_i ho; simp only [ho] at hh; exact h _ _ hC hh
  · rename_i o ho
    simp only [ho] at hh
    split
    · rename_i hw
      simp only [hw, if_true] at hh
      obtain ⟨v, h1, h2⟩ := hh
      have h3 := h1 w hC
      unfold Oper.quietAt at h3
      unfold Oper.wpIn
      refine ⟨fun _ _ => trivial, ?_⟩
      rw [show (Fence.wide.inRound l).round = some l from rfl, Oper.semAt_some l _ _ (hd o ho)]
      generalize (execOp a.eval o).run P w = res at *
      cases res with
      | ok x w' =>
        cases x <;> simp only [Oper.quietUpon] at h3 <;> simp only [Oper.uponIn]
        case value u => obtain ⟨e1, e2⟩ := h3; rw [e1, e2]; exact h _ _ hC h2
        case skip => obtain ⟨e1, e2⟩ := h3; rw [e1, ← e2]; exact h _ _ hC h2
        case enter f args =>
          obtain ⟨e1, hc⟩ := h3
          rw [e1]
          refine ⟨fun hs => (by cases hs), CallsIn.inRound l ((callsIn_wide (n := n - 1)).2 (hc.mono ?_))⟩
          rintro e w'' ⟨rfl, hw''⟩
          exact h _ _ hw'' h2
      | halt x w' => simp only [Oper.quietUpon] at h3
    · rename_i hw
      simp only [hw] at hh
      exact ⟨fun _ _ => trivial, h _ _ hC hh⟩
theorem anyIn_of_quiet {P : Program} {md : Region.Mode} {ops : Array Oper} {C : World → Prop} {l n : Nat} {Q : Act → Prop} {Q' : Exit → Act → World → Prop} (hd : ∀ (i : Nat) o, ops[i]? = some o → ∀ c, o.op ≠ .defer c) (hQ : ∀ a w, C w → Q a → Q' .normal a w) : ∀ (fuel : Nat) (listed : Array Bool) (a : Act) (w : World), C w →
    wpAnyQ P md ops C Q fuel listed a → wpAnyIn (Fence.wide.inRound l) n P md ops Q' fuel listed a w
  | 0, _, _, _, hw, h => ⟨h.1, hQ _ _ hw h.2⟩
  | fuel + 1, _, _, _, hw, h => ⟨fun h0 => hQ _ _ hw (h.1 h0), fun i hi => opIn_of_qOp (hd i) hw (fun a' w' hw' => anyIn_of_quiet hd hQ fuel _ a' w' hw') (h.2 i hi)⟩
/-- No operation of a region defers. -/
def noDefer (l : List Oper) : Bool := l.all fun o => match o.op with
  | .defer _ => false
  | _ => true
theorem noDefer_at {L : List Oper} (h : noDefer L = true) (i : Nat) (o : Oper) (ho : L.toArray[i]? = some o) (c : Call) : o.op ≠ .defer c := by
  intro e
  have hm : o ∈ L := by
    have : L[i]? = some o := by simpa using ho
    exact List.mem_of_getElem? this
  have := List.all_eq_true.1 h o hm
  rw [e] at this
  cases this
theorem region_round {P : Program} {id l n : Nat} {Q : Exit → Act → World → Prop} {a : Act} {w : World} {L : List Oper} (C : World → Prop) (hd : noDefer L = true) (hm : P.follows .mixedOrders = true) (hB : Region.lexB .any L.toArray = true) (hC : C { w with drawn := w.drawn + 1 })
    (h : wpQuiet P L.toArray C (fun a' => ∀ w', C w' → Q .normal a' w') L a) : (Code.region id L.toArray true).wpIn (Fence.wide.inRound l) n P Q a w := by
  simp only [Region.lexB, Bool.and_eq_true] at hB
  refine wpIn_region_any hm (anyIn_of_quiet (Q := fun a' => ∀ w', C w' → Q .normal a' w') (noDefer_at hd) (fun _ w' hw' h => h w' hw') _ _ _ _ hC ?_)
  have := wpAnyQ_lex (C := C) (md := .any) hB.1 L 0 (Array.replicate L.toArray.size false) a (by simp) (by simpa using hB.2) h
  simpa using this
end Go.Proofs.YtlafbkehlglfoaaDoor
