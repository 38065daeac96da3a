/- The law AreaActs: its walk. -/
import Derived.Test.YtnfjmmkokhncoaaGreatM26
namespace Go.Proofs.YtnfjmmkokhncoaaGreat
open Go.RowKit Go.Maps
set_option maxRecDepth 100000

theorem A8s.grow {w : World} {B B' : Nat} {a : Option Addr} {L : List A8} (h : A8s w B a L) (hB : B ≤ B') : A8s w B' a L := fun j c hc => by
  obtain ⟨h0, hp, bk, off, e, hb, h1⟩ := h j c hc
  exact ⟨h0, hp.grow hB, bk, off, e, Nat.lt_of_lt_of_le hb hB, h1⟩
def tri8 : Nat → Nat
  | 0 => 0
  | j + 1 => tri8 j + j
theorem tri8_le {j : Nat} (h : j ≤ 7) : tri8 j ≤ 21 := by
  have : j = 0 ∨ j = 1 ∨ j = 2 ∨ j = 3 ∨ j = 4 ∨ j = 5 ∨ j = 6 ∨ j = 7 := by omega
  rcases this with rfl | rfl | rfl | rfl | rfl | rfl | rfl | rfl <;> decide
theorem cov_nil8 : Cov [] (fun p q => (p, q) ∈ ([] : List (Int × Int))) := fun a b h => by cases h
theorem rv8_nil (w : World) (sb g tb : Nat) : Rv8 w sb g tb none [] := ⟨fun j c hc => by simp at hc, fun bk off e => by cases e⟩
/-- The law's state behind some acts. -/
structure AS8 (W0 : World) (sb g0 tb : Nat) (N0 : List Nd) (pb j : Nat) (wr : World) (g : Nat) (M : List Nd) (n x : Nat) (l : List (Int × Int)) (a : Option Addr) (T : List Place) : Prop where
  nx : Nx sb tb 131072 W0 g0 N0 (3109 * tri8 j + 3210 * j) wr g M
  pl : Ob wr sb g tb pb (plO sb x)
  p8 : Pl8 M n x l
  rv : Rv8 wr sb g tb a l
  far : ∀ bk off, a = some ⟨bk, off, none⟩ → bk ≠ pb
  ll : l.length ≤ 530 * j
  tl : T.length ≤ 3109 * j
  cv : Cov T (fun p q => (p, q) ∈ l)
theorem AS8.later {W0 : World} {sb g0 tb : Nat} {N0 : List Nd} {pb j : Nat} {wr w' : World} {g : Nat} {M : List Nd} {n x : Nat} {l : List (Int × Int)} {a : Option Addr} {T : List Place} (h : AS8 W0 sb g0 tb N0 pb j wr g M n x l a T) (hb : Below wr.heap.size wr w') : AS8 W0 sb g0 tb N0 pb j w' g M n x l a T := by
  obtain ⟨cap, hs⟩ := h.nx.st
  exact ⟨h.nx.trans (Nx.of_below hs hb), h.pl.later hb, h.p8, h.rv.later hb, h.far, h.ll, h.tl, h.cv⟩
/-- One act more. -/
theorem AS8.step {W0 : World} {sb g0 tb : Nat} {N0 : List Nd} {pb j : Nat} {wr w' : World} {g g' : Nat} {M M' : List Nd} {n x n' x' : Nat} {l l' : List (Int × Int)} {a a' : Option Addr} {T T' : List Place} (h : AS8 W0 sb g0 tb N0 pb j wr g M n x l a T) (hpb : W0.heap.size ≤ pb)
    (hnx : Nx sb tb 131072 wr g M (T.length + 3210) w' g' M') (hpl : Pl8 M' n' x' l') (hrv : Rv8 w' sb g' tb a' l') (hfr : a' = a ∨ ∀ bk off, a' = some ⟨bk, off, none⟩ → wr.heap.size ≤ bk) (hl : l'.length ≤ l.length + 530) (ht : T'.length ≤ T.length + 3109) (hc : Cov T' (fun p q => (p, q) ∈ l')) :
    ∃ W, (w'.setCell ⟨pb, 0, none⟩ (.pointer (some ⟨sb, 0, none⟩))).setCell ⟨pb, 1, none⟩ (.int .u32 ((x' : Nat) : Int)) = W ∧ AS8 W0 sb g0 tb N0 pb (j + 1) W g' M' n' x' l' a' T' := by
  have hP := h.pl.nx hnx
  have hplt := h.pl.lt
  obtain ⟨W, hW, hN, hP2, _⟩ := put_pl (h.nx.trans hnx) hP hpb (.pointer (some ⟨sb, 0, none⟩)) (.int .u32 ((x' : Nat) : Int))
  have hfar : ∀ bk off, a' = some ⟨bk, off, none⟩ → bk ≠ pb := fun bk off e => by
    rcases hfr with e' | e'
    · exact h.far bk off (e' ▸ e)
    · have := e' bk off e; omega
  have hr := (hrv.other (b := pb) (i := 0) (fun off e => hfar pb off e rfl) (.pointer (some ⟨sb, 0, none⟩))).other (b := pb) (i := 1) (fun off e => hfar pb off e rfl) (.int .u32 ((x' : Nat) : Int))
  rw [hW] at hr
  have h1 := h.ll
  have h2 := h.tl
  refine ⟨W, hW, hN.mono ?_, hP2, hpl, hr, hfar, by omega, by omega, hc⟩
  show _ ≤ 3109 * (tri8 j + j) + 3210 * (j + 1)
  rw [Nat.mul_add]
  omega
end Go.Proofs.YtnfjmmkokhncoaaGreat
