/- Regions that draw their order, whose operations keep to a class of worlds: one walk serves every order. -/
import Derived.Test.YtnhhdnhfijaijaaProg
import Derived.Deep.QuietTactic
import Derived.BigQuiet
import Derived.Below
namespace Go.Proofs.Ytnhhdnhfijaijaa
open Go.RowKit

/-- The first k operations have come up; the others keep to a class of worlds. -/
theorem rest_cls {P : Program} {md : Region.Mode} {Q : Exit → Act → World → Prop} {a : Act} {w : World} {L : List Oper} {fuel : Nat} {listed : Array Bool} (C : World → Prop) (k : Nat) (hs : Region.noSelect L.toArray = true)
    (hf : (L.drop k).length = fuel) (hB : Region.lexFrom md L.toArray fuel k listed = true) (hC : C w)
    (h : wpQuiet P L.toArray C (fun a' => ∀ w', C w' → Q .normal a' w') (L.drop k) a) : wpAny P md L.toArray Q fuel listed a w := by
  subst hf
  exact wpAny_of_quiet (Q := fun a' => ∀ w', C w' → Q .normal a' w') (fun _ w' hw' h => h w' hw') _ _ _ _ hC (wpAnyQ_lex hs (L.drop k) k listed a (fun j => by simp) hB h)

/-- The operations that have not come up may come up in this order. -/
def inTurn (md : Region.Mode) (ops : Array Oper) : List Nat → Array Bool → Bool
  | [], listed => (Region.ready md ops listed).isEmpty
  | k :: r, listed => (Region.ready md ops listed).contains k && Region.free md ops listed k && inTurn md ops r (listed.setIfInBounds k true)
theorem wpAnyQ_turn {P : Program} {md : Region.Mode} {ops : Array Oper} {C : World → Prop} {Q : Act → Prop} (hs : Region.noSelect ops = true) : ∀ (js : List Nat) (l : List Oper) (listed : Array Bool) (a : Act), js.map (fun j => ops[j]?) = l.map some →
    inTurn md ops js listed = true → wpQuiet P ops C Q l a → wpAnyQ P md ops C Q l.length listed a
  | [], [], _, _, _, hB, h => ⟨by simpa [inTurn] using hB, h⟩
  | [], _ :: _, _, _, he, _, _ => by simp at he
  | _ :: _, [], _, _, he, _, _ => by simp at he
  | k :: js, o :: l, listed, a, he, hB, h => by
    simp only [List.map_cons, List.cons.injEq] at he
    obtain ⟨h0, he⟩ := he
    simp only [inTurn, Bool.and_eq_true] at hB
    obtain ⟨⟨hr, hf⟩, hB'⟩ := hB
    have hst : qOp P ops C k (wpQuiet P ops C Q l) a := by unfold qOp; simp only [h0]; exact h
    obtain ⟨v, hy, hK⟩ := yieldsIn_of_qOp h0 hst
    exact wpAnyQ_first h0 (Region.noSelect_spec hs) l.length listed a (Region.free_spec h0 hf) (by simpa using hr) hy (wpAnyQ_turn hs js l _ _ he hB' hK)
/-- The operations js are left, and keep to a class of worlds. -/
theorem rest_turn {P : Program} {md : Region.Mode} {Q : Exit → Act → World → Prop} {a : Act} {w : World} {L : List Oper} {fuel : Nat} {listed : Array Bool} (C : World → Prop) (js : List Nat) (l : List Oper) (hl : js.map (fun j => L.toArray[j]?) = l.map some) (hs : Region.noSelect L.toArray = true)
    (hf : l.length = fuel) (hB : inTurn md L.toArray js listed = true) (hC : C w)
    (h : wpQuiet P L.toArray C (fun a' => ∀ w', C w' → Q .normal a' w') l a) : wpAny P md L.toArray Q fuel listed a w := by
  subst hf
  exact wpAny_of_quiet (Q := fun a' => ∀ w', C w' → Q .normal a' w') (fun _ w' hw' h => h w' hw') _ _ _ _ hC (wpAnyQ_turn hs js l listed a hl hB h)
theorem below_drewN {B : Nat} {a w : World} (h : Below B a w) (q : Nat) : Below B a (w.drewN q) := ⟨h.os, h.tape, h.output, h.size, h.block⟩
end Go.Proofs.Ytnhhdnhfijaijaa
