/- Regions whose order is open, where all operations only read or make memory: one walk over every world that keeps what was there. -/
import Derived.Test.YtgciceogggldhaaQ7
import Derived.Deep.QuietTactic
namespace Go.Proofs.Ytgciceogggldhaa
open Go.RowKit

/-- The worlds that keep what a world has. -/
def Up (w : World) : Type := { W : World // Below w.heap.size w W }
theorem Up.cell {w : World} {p : Addr} {v : Value} (h : w.cell? p = some v) (z : Up w) : z.1.cell? p = some v := by rw [z.2.cell (blk_lt h)]; exact h
theorem Up.calls {w : World} {f : FuncId} {args : Array Value} {v : Value} (h : ∀ W, Below w.heap.size w W → Calls Try.prog f args W fun e w' => e = .returned v ∧ Below W.heap.size W w') (z : Up w) :
    Calls Try.prog f args z.1 fun e' w' => e' = .returned v ∧ ∃ z' : Up w, w' = z'.1 :=
  (h z.1 z.2).mono fun _ w' ⟨h1, h2⟩ => ⟨h1, ⟨w', z.2.trans (h2.mono z.2.size)⟩, rfl⟩
theorem Up.callsE {w : World} {f : FuncId} {args : Array Value} {v : Value} (h : ∀ W, Below w.heap.size w W → Calls Try.prog f args W fun e w' => e = .returned v ∧ W = w') (z : Up w) :
    Calls Try.prog f args z.1 fun e' w' => e' = .returned v ∧ ∃ z' : Up w, w' = z'.1 :=
  (h z.1 z.2).mono fun _ w' ⟨h1, h2⟩ => ⟨h1, ⟨w', h2 ▸ z.2⟩, rfl⟩
theorem Up.me (w : World) : Nonempty (Up w) := ⟨⟨w, Below.refl _ _⟩⟩
theorem region_up {P : Program} {id : Nat} {Q : Exit → Act → World → Prop} {a : Act} {w : World} {l : List Oper} (hm : P.follows .mixedOrders = true) (hB : Region.lexB .any l.toArray = true)
    (h : wpQuiet P l.toArray (fun w' => ∃ z : Up w, w' = z.1) (fun a' => ∀ w', (∃ z : Up w, w' = z.1) → Q .normal a' w') l a) : (Code.region id l.toArray true).wp P Q a w :=
  wp_region_quiet (C := fun w' => ∃ z : Up w, w' = z.1) hm hB ⟨⟨_, below_drewN (Below.refl _ w) 1⟩, rfl⟩ (by simpa using h)
end Go.Proofs.Ytgciceogggldhaa
