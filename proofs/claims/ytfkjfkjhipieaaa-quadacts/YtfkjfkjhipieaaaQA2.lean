/- The law QuadActs: its state, call by call. -/
import Derived.Test.YtfkjfkjhipieaaaQA
namespace Go.Proofs.Ytfkjfkjhipieaaa
open Go.RowKit Go.Maps
set_option maxRecDepth 100000

theorem own_blk {w w' : World} {B : Nat} {e : TypeId} {size g n cap : Nat} {xs : List Value} (h : w.ownsRow B e size (.slice (some ⟨g, 0, none⟩) n cap) n xs) (hb : w'.heap[g]? = w.heap[g]?) : w'.ownsRow B e size (.slice (some ⟨g, 0, none⟩) n cap) n xs := by
  refine ⟨h.1, ?_⟩
  rcases h.2 with ⟨hv, _⟩ | ⟨g', cp, cur, hv, h0, hg, hr⟩
  · cases hv
  · cases hv; exact Or.inr ⟨g, cap, cur, rfl, h0, by rw [hb]; exact hg, hr⟩
theorem own_lt {w : World} {B : Nat} {e : TypeId} {size g n cap : Nat} {xs : List Value} (h : w.ownsRow B e size (.slice (some ⟨g, 0, none⟩) n cap) n xs) : B ≤ g ∧ g < w.heap.size := by
  rcases h.2 with ⟨hv, _⟩ | ⟨g', cp, cur, hv, h0, hg, hr⟩
  · cases hv
  · cases hv; exact ⟨h0, (Array.getElem?_eq_some_iff.1 hg).1⟩
/-- The law's state: the rows planes (block gP) and all (block gC), the variable p (block pb), all moments. -/
structure QS (W : World) (sb g tb : Nat) (M : List Nd) (B : Nat) (H : List Mo) (m : Mo) (gP cP gC cC pb : Nat) : Prop where
  rp : W.ownsRow B 32 2 (.slice (some ⟨gP, 0, none⟩) H.length cP) H.length (moP sb H)
  rc : W.ownsRow B 36 1 (.slice (some ⟨gC, 0, none⟩) H.length cC) H.length (moC H)
  pl : Ob W sb g tb pb (plO sb m.x)
  ne : gP ≠ gC ∧ gP ≠ pb ∧ gC ≠ pb
  nP : gP ≠ sb ∧ gP ≠ g ∧ gP ≠ tb
  nC : gC ≠ sb ∧ gC ≠ g ∧ gC ≠ tb
  mos : Mos W sb g tb M H
  far : ∀ m', m' ∈ H → ∀ bk off, m'.a = some ⟨bk, off, none⟩ → bk ≠ gP ∧ bk ≠ gC ∧ bk ≠ pb
  mem : m ∈ H
theorem QS.later {W W' : World} {sb g tb : Nat} {M : List Nd} {B : Nat} {H : List Mo} {m : Mo} {gP cP gC cC pb : Nat} (h : QS W sb g tb M B H m gP cP gC cC pb) (hb : Below W.heap.size W W') : QS W' sb g tb M B H m gP cP gC cC pb :=
  ⟨own_blk h.rp (hb.block _ (own_lt h.rp).2), own_blk h.rc (hb.block _ (own_lt h.rc).2), h.pl.later hb, h.ne, h.nP, h.nC, h.mos.later hb, h.far, h.mem⟩
theorem QS.nx {w w' : World} {sb tb most g g' c : Nat} {M M' : List Nd} {B : Nat} {H : List Mo} {m : Mo} {gP cP gC cC pb : Nat} (h : QS w sb g tb M B H m gP cP gC cC pb) (hw : Wf M) (hn : Nx sb tb most w g M c w' g' M') : QS w' sb g' tb M' B H m gP cP gC cC pb := by
  have l1 := (own_lt h.rp).2
  have l2 := (own_lt h.rc).2
  have hg : ∀ b, b < w.heap.size → b ≠ g → b ≠ g' := fun b hb hne => by rcases hn.gin with e | e <;> omega
  exact ⟨own_blk h.rp (hn.frm.block _ l1 (by simp [h.nP.1, h.nP.2.1, h.nP.2.2])), own_blk h.rc (hn.frm.block _ l2 (by simp [h.nC.1, h.nC.2.1, h.nC.2.2])), h.pl.nx hn, h.ne, ⟨h.nP.1, hg _ l1 h.nP.2.1, h.nP.2.2⟩, ⟨h.nC.1, hg _ l2 h.nC.2.1, h.nC.2.2⟩, h.mos.nx hw hn, h.far, h.mem⟩
/-- The plane at a moment, read out of the rows. -/
theorem QS.at {W : World} {sb g tb : Nat} {M : List Nd} {B : Nat} {H : List Mo} {m : Mo} {gP cP gC cC pb : Nat} (h : QS W sb g tb M B H m gP cP gC cC pb) {j : Nat} {c : Mo} (hc : H[j]? = some c) :
    W.cell? ⟨gP, j * 2, none⟩ = some (.pointer (some ⟨sb, 0, none⟩)) ∧ W.cell? ⟨gP, j * 2 + 1, none⟩ = some (.int .u32 (c.x : Int)) ∧ W.cell? ⟨gC, j, none⟩ = some (.slice c.a c.l.length c.c) := by
  have hj : j < H.length := (List.getElem?_eq_some_iff.1 hc).1
  obtain ⟨e1, e2⟩ := moP_at sb H j
  rw [hc] at e1 e2
  refine ⟨by rw [h.rp.cellAt (j * 2) (by omega)]; exact e1, by rw [h.rp.cellAt (j * 2 + 1) (by omega)]; exact e2, ?_⟩
  rw [h.rc.cellAt j (by omega)]
  simp [moC, hc]
/-- Another plane written into the variable p. -/
theorem QS.put {W : World} {sb g tb : Nat} {M : List Nd} {B : Nat} {H : List Mo} {m : Mo} {gP cP gC cC pb : Nat} (h : QS W sb g tb M B H m gP cP gC cC pb) (m' : Mo) (hB : Bd M m'.n m'.x m'.l) (hR : Rw7 W sb g tb m'.a m'.l) (hl : m'.l.length ≤ 60) (hf : ∀ bk off, m'.a = some ⟨bk, off, none⟩ → bk ≠ pb) :
    ∃ W', (W.setCell ⟨pb, 0, none⟩ (.pointer (some ⟨sb, 0, none⟩))).setCell ⟨pb, 1, none⟩ (.int .u32 (m'.x : Int)) = W' ∧ W'.heap.size = W.heap.size ∧ (∀ b, b ≠ pb → W'.heap[b]? = W.heap[b]?) ∧ W'.os = W.os ∧ W'.tape = W.tape ∧ W'.output = W.output ∧ Ob W' sb g tb pb (plO sb m'.x) ∧ Rw7 W' sb g tb m'.a m'.l ∧ Bd M m'.n m'.x m'.l ∧ m'.l.length ≤ 60 := by
  refine ⟨_, rfl, by simp, fun b hb => ?_, rfl, rfl, rfl, ⟨pl_set1 (pl_set0 h.pl.at_ _) _, h.pl.sb_, h.pl.g_, h.pl.tb_⟩, ?_, hB, hl⟩
  · rw [Below.heap_setCell _ _ _ _ hb, Below.heap_setCell _ _ _ _ hb]
  · exact (hR.other (fun off e => (hf pb off e) rfl) _).other (fun off e => (hf pb off e) rfl) _
/-- All but the variable p. -/
structure QR7 (W : World) (sb g tb : Nat) (M : List Nd) (B : Nat) (H : List Mo) (gP cP gC cC pb : Nat) : Prop where
  rp : W.ownsRow B 32 2 (.slice (some ⟨gP, 0, none⟩) H.length cP) H.length (moP sb H)
  rc : W.ownsRow B 36 1 (.slice (some ⟨gC, 0, none⟩) H.length cC) H.length (moC H)
  ne : gP ≠ gC ∧ gP ≠ pb ∧ gC ≠ pb
  nP : gP ≠ sb ∧ gP ≠ g ∧ gP ≠ tb
  nC : gC ≠ sb ∧ gC ≠ g ∧ gC ≠ tb
  mos : Mos W sb g tb M H
  far : ∀ m', m' ∈ H → ∀ bk off, m'.a = some ⟨bk, off, none⟩ → bk ≠ gP ∧ bk ≠ gC ∧ bk ≠ pb
theorem QS.rest {W : World} {sb g tb : Nat} {M : List Nd} {B : Nat} {H : List Mo} {m : Mo} {gP cP gC cC pb : Nat} (h : QS W sb g tb M B H m gP cP gC cC pb) : QR7 W sb g tb M B H gP cP gC cC pb := ⟨h.rp, h.rc, h.ne, h.nP, h.nC, h.mos, h.far⟩
theorem QR7.later {W W' : World} {sb g tb : Nat} {M : List Nd} {B : Nat} {H : List Mo} {gP cP gC cC pb : Nat} (h : QR7 W sb g tb M B H gP cP gC cC pb) (hb : Below W.heap.size W W') : QR7 W' sb g tb M B H gP cP gC cC pb :=
  ⟨own_blk h.rp (hb.block _ (own_lt h.rp).2), own_blk h.rc (hb.block _ (own_lt h.rc).2), h.ne, h.nP, h.nC, h.mos.later hb, h.far⟩
theorem QR7.set {W : World} {sb g tb : Nat} {M : List Nd} {B : Nat} {H : List Mo} {gP cP gC cC pb i : Nat} (h : QR7 W sb g tb M B H gP cP gC cC pb) (v : Value) : QR7 (W.setCell ⟨pb, i, none⟩ v) sb g tb M B H gP cP gC cC pb := by
  refine ⟨own_blk h.rp (Below.heap_setCell _ _ _ _ h.ne.2.1), own_blk h.rc (Below.heap_setCell _ _ _ _ h.ne.2.2), h.ne, h.nP, h.nC, fun m hm => ?_, h.far⟩
  obtain ⟨h1, h2, h3⟩ := h.mos m hm
  exact ⟨h1, h2.other (fun off e => (h.far m hm pb off e).2.2 rfl) v, h3⟩
/-- A row that grew, in a block that a store has not. -/
theorem Nx.grown {w w' w'' : World} {sb tb most g g' c b : Nat} {N N' : List Nd} (h : Nx sb tb most w g N c w' g' N') (hg : w'.grownBy w'' (some b)) (hb : w.heap.size ≤ b) (h1 : b ≠ sb ∧ b ≠ g' ∧ b ≠ tb) : Nx sb tb most w g N c w'' g' N' := by
  obtain ⟨cap, hs⟩ := h.st
  obtain ⟨l1, l2, l3⟩ := hs.lt
  have hk : ∀ x, x < w'.heap.size → x ≠ b → w''.heap[x]? = w'.heap[x]? := fun x hx hne => hg.block x hx (by simpa using hne)
  exact ⟨⟨cap, hs.keep (hk _ l1 (Ne.symm h1.1)) (hk _ l2 (Ne.symm h1.2.1)) (hk _ l3 (Ne.symm h1.2.2))⟩, ⟨hg.os.trans h.frm.os, hg.tape.trans h.frm.tape, hg.output.trans h.frm.output, Nat.le_trans h.frm.size hg.size, fun x hx hn => (hk x (Nat.lt_of_lt_of_le hx h.frm.size) (by omega)).trans (h.frm.block x hx hn)⟩, h.gin, h.ext⟩
theorem Rw7.grown {w w' : World} {sb g tb b : Nat} {a : Option Addr} {l : List (Int × Int)} (h : Rw7 w sb g tb a l) (hg : w.grownBy w' (some b)) (hb : ∀ bk off, a = some ⟨bk, off, none⟩ → bk ≠ b) : Rw7 w' sb g tb a l := by
  have hk : ∀ bk off, a = some ⟨bk, off, none⟩ → w'.heap[bk]? = w.heap[bk]? := fun bk off e => hg.block bk (h.2 bk off e).2.2.2 (by simpa using hb bk off e)
  refine ⟨fun j c hc => ?_, fun bk off e => ?_⟩
  · obtain ⟨bk, e, h1, h2⟩ := h.1 j c hc
    exact ⟨bk, e, by rw [cell_blk (hk bk 0 e)]; exact h1, by rw [cell_blk (hk bk 0 e)]; exact h2⟩
  · obtain ⟨h1, h2, h3, h4⟩ := h.2 bk off e
    exact ⟨h1, h2, h3, Nat.lt_of_lt_of_le h4 hg.size⟩
theorem Mos.grown {w w' : World} {sb g tb b : Nat} {M : List Nd} {H : List Mo} (h : Mos w sb g tb M H) (hg : w.grownBy w' (some b)) (hb : ∀ m, m ∈ H → ∀ bk off, m.a = some ⟨bk, off, none⟩ → bk ≠ b) : Mos w' sb g tb M H := fun m hm => by
  obtain ⟨h1, h2, h3⟩ := h m hm
  exact ⟨h1, h2.grown hg (hb m hm), h3⟩
theorem Ob.grown {w w' : World} {sb g tb b c : Nat} {o : Obj} (h : Ob w sb g tb b o) (hg : w.grownBy w' (some c)) (hb : b ≠ c) : Ob w' sb g tb b o := ⟨by rw [hg.block b h.lt (by simpa using hb)]; exact h.at_, h.sb_, h.g_, h.tb_⟩
theorem moP_snoc (sb : Nat) (H : List Mo) (m : Mo) : moP sb (H ++ [m]) = moP sb H ++ [.pointer (some ⟨sb, 0, none⟩), .int .u32 (m.x : Int)] := by simp [moP]
theorem moC_snoc (H : List Mo) (m : Mo) : moC (H ++ [m]) = moC H ++ [.slice m.a m.l.length m.c] := by simp [moC]
end Go.Proofs.Ytfkjfkjhipieaaa
