/- Layer 5, the document's answer: Text: contract. -/
import Derived.Test.YtjndfdhjipfijaaGreatDoorTx5
import Derived.Test.YtjndfdhjipfijaaGreatDoorRp
namespace Go.Proofs.YtjndfdhjipfijaaGreatDoor
open Go.RowKit

theorem quietly {P : Program} {f : FuncId} {args : Array Value} {v : Value} (h : ∀ w, Calls P f args w fun e w' => e = .returned v ∧ w = w') (w : World) (x : Nat) :
    Calls P f args (w.drewN x) fun e w'' => e = .returned v ∧ ∃ m, w'' = w.drewN m :=
  (h _).mono fun _ _ ⟨he, hm⟩ => ⟨he, x, hm.symm⟩
/-- What a row of strings that grows keeps. -/
def Kb (B : Nat) (w w' : World) : Prop := Below B w w' ∧ Lib.OthersKept 9 none w w'
theorem Kb.refl (B : Nat) (w : World) : Kb B w w := ⟨Below.refl _ _, Lib.OthersKept.refl _ _ _⟩
theorem Kb.trans {B : Nat} {w w1 w2 : World} (h : Kb B w w1) (k : Kb B w1 w2) : Kb B w w2 := ⟨h.1.trans k.1, h.2.trans k.2⟩
theorem Kb.of {B : Nat} {w w' : World} (h : Below w.heap.size w w') (hB : B ≤ w.heap.size) : Kb B w w' :=
  ⟨h.mono hB, fun k o hk _ _ => by rw [h.block k (Array.getElem?_eq_some_iff.1 hk).1]; exact hk⟩
theorem Kb.drewN {B : Nat} {w0 w : World} (h : Kb B w0 w) (q : Nat) : Kb B w0 (w.drewN q) := ⟨below_drewN h.1 q, h.2⟩
theorem apd_str {w : World} {ops : Array Oper} {rest : List Oper} {o : Oper} {a : Act} {Q : Exit → Act → World → Prop} (hgd : o.guard = none) (s x : Operand)
    (ho : o.op = .call { callee := .builtin .append, args := #[s, x], argTypes := #[76, 76] }) (B : Nat) (v : Value) (R : List (List UInt8)) (hs : a.eval s = v) (hown : OwnS w B v R) (S : List UInt8) (nb : Nat) (hx : a.eval x = .slice (some ⟨nb, 0, none⟩) 1 1) (hnb : nb = w.heap.size) (hB : B ≤ w.heap.size) (hlen : R.length ≤ 1000000)
    (h : ∀ v' w', OwnS w' B v' (R ++ [S]) → Kb B w w' → wpList Tryz.prog ops Q rest (a.put o.dst v') w') : wpList Tryz.prog ops Q (o :: rest) a (w.alloc (.cells #[.string ⟨S.toArray⟩] 9)) := by
  subst hnb
  obtain ⟨i0, hi, hz0, hz1, hz2⟩ := info_parts Tryz.infoStr
  refine wpList_append_own _ hgd s x 76 ho B 9 i0 (.string ⟨#[]⟩) 1 16 Tryz.underlying76 hi hz0 hz1 hz2 rfl (by decide) v R.length (strsV R) hs (hown.alloc _) ⟨w.heap.size, 0, none⟩ 1 1 [.string ⟨S.toArray⟩] hx rfl ?_ ?_ (by unfold maxLen; omega) (by omega) (by simp; omega) (fun v' w' h1 h2 _ => h v' w' ?_ ?_)
  · intro j u hu
    match j, hu with
    | 0, hu => simp at hu; subst hu; simp [Addr.add]
  · intro u hu; simp at hu; subst hu; rfl
  · unfold OwnS
    rw [List.length_append]
    simpa [strsV] using h1
  · refine ⟨(((Below.refl B w).alloc hB _).grown h2 (by simp; omega) (fun k hk => (hown.lt k hk).1)), ((Lib.OthersKept.refl _ _ _).alloc _).grown h2 (fun g hg => Lib.ownsRowF_kind (World.ownsRowF_of (hown.alloc _)) g hg)⟩
theorem OwnS.later {w w' : World} {B : Nat} {v : Value} {R : List (List UInt8)} (h : OwnS w B v R) (hb : Below w.heap.size w w') : OwnS w' B v R := ownsRow_later h hb

/-- A cell, or a pattern, of the document's in a block of the call's own. -/
def BlkAt (w : World) (b : Nat) (cs : Array Value) (T : TypeId) : Prop := w.heap[b]? = some (.cells cs T (0, 0))
theorem BlkAt.kb {w w' : World} {b B : Nat} {cs : Array Value} {T : TypeId} (h : BlkAt w b cs T) (hk : Kb B w w') (hT : T ≠ 9) : BlkAt w' b cs T :=
  hk.2 b _ h (fun e => by cases e) (fun c fz e => by injection e with _ e _; exact hT e)

/-- Where the document's Text is: behind which cell, and at which place. -/
def rst (W H : Nat) (prev : Option (Nat × Nat)) (rest : List (Nat × Nat)) (x y : Nat) : Prop :=
  (prev = none ∧ x = 0 ∧ y = 0 ∧ okFrom W H 0 0 rest) ∨ (∃ p, prev = some p ∧ y = p.2 ∧ x = p.1 + 1 + stretch p rest ∧ okFrom W H (p.1 + 1) p.2 rest)
theorem rst_on {W H : Nat} {prev : Option (Nat × Nat)} {c : Nat × Nat} {r : List (Nat × Nat)} {x y : Nat} (h : rst W H prev (c :: r) x y) (hg : goesOn prev c = true) : rst W H (some c) r x y ∧ segs prev x y (c :: r) = segs (some c) x y r := by
  refine ⟨?_, by simp only [segs]; rw [if_pos hg]⟩
  rcases h with ⟨rfl, _⟩ | ⟨p, rfl, rfl, rfl, ho⟩
  · simp [goesOn] at hg
  · simp only [goesOn, Bool.and_eq_true, decide_eq_true_eq] at hg
    refine Or.inr ⟨c, rfl, hg.1.symm, ?_, ho.2.2.2⟩
    simp only [stretch]
    rw [if_pos hg]
    omega
theorem rst_new {W H : Nat} {prev : Option (Nat × Nat)} {c : Nat × Nat} {r : List (Nat × Nat)} {x y : Nat} (h : rst W H prev (c :: r) x y) (hg : goesOn prev c = false) :
    (y < c.2 ∨ (c.2 = y ∧ x ≤ c.1)) ∧ c.1 < W ∧ c.2 < H ∧ rst W H (some c) r (c.1 + (1 + stretch c r)) c.2 ∧ c.1 + stretch c r < W ∧ segs prev x y (c :: r) = sdL y c.2 ++ [runL (c.1 - nxX x y c.2) 98] ++ [runL (1 + stretch c r) 111] ++ segs (some c) (c.1 + (1 + stretch c r)) c.2 r := by
  have hseg : segs prev x y (c :: r) = sdL y c.2 ++ [runL (c.1 - nxX x y c.2) 98] ++ [runL (1 + stretch c r) 111] ++ segs (some c) (c.1 + (1 + stretch c r)) c.2 r := by
    simp only [segs]
    rw [if_neg (by rw [hg]; simp), ← Nat.add_assoc]
    simp [sdL, nxX]
  rcases h with ⟨rfl, rfl, rfl, h1, h2, h3, h4⟩ | ⟨p, rfl, rfl, rfl, h1, h2, h3, h4⟩
  · exact ⟨h1, h2, h3, Or.inr ⟨c, rfl, rfl, by omega, h4⟩, stretch_lt W H c r h2 h4, hseg⟩
  · have hs : stretch p (c :: r) = 0 := by
      simp only [stretch]
      rw [if_neg]
      intro e
      simp [goesOn, e.1, e.2] at hg
    rw [hs] at hseg ⊢
    exact ⟨h1, h2, h3, Or.inr ⟨c, rfl, rfl, by omega, h4⟩, stretch_lt W H c r h2 h4, hseg⟩
end Go.Proofs.YtjndfdhjipfijaaGreatDoor
