/- The law QuadActs: its walk. -/
import Derived.Test.YtfkjfkjhipieaaaStp
namespace Go.Proofs.Ytfkjfkjhipieaaa
open Go.RowKit Go.Maps
set_option maxRecDepth 100000

/-- An act: its kind, its point. -/
structure Ac where
  kd : Nat
  p : Int
  q : Int
/-- A row of acts, as it came in. -/
def Acs (w : World) (B : Nat) (a : Option Addr) (L : List Ac) : Prop := ∀ (j : Nat) c, L[j]? = some c → c.kd < 256 ∧ ∃ bk off, a = some ⟨bk, off, none⟩ ∧ bk < B ∧ w.cell? ⟨bk, off + j * 3, none⟩ = some (.int .u8 (c.kd : Int)) ∧ w.cell? ⟨bk, off + j * 3 + 1, none⟩ = some (.int .i64 c.p) ∧ w.cell? ⟨bk, off + j * 3 + 2, none⟩ = some (.int .i64 c.q)
theorem Acs.later {w w' : World} {B : Nat} {a : Option Addr} {L : List Ac} (h : Acs w B a L) (hb : Below B w w') : Acs w' B a L := fun j c hc => by
  obtain ⟨h0, bk, off, e, hB, h1, h2, h3⟩ := h j c hc
  exact ⟨h0, bk, off, e, hB, by rw [hb.cell (p := ⟨bk, off + j * 3, none⟩) hB]; exact h1, by rw [hb.cell (p := ⟨bk, off + j * 3 + 1, none⟩) hB]; exact h2, by rw [hb.cell (p := ⟨bk, off + j * 3 + 2, none⟩) hB]; exact h3⟩
/-- One moment: the plane, its level, its cells, and their row. -/
structure Mo where
  n : Nat
  x : Nat
  l : List (Int × Int)
  a : Option Addr
  c : Nat
def moP (sb : Nat) (H : List Mo) : List Value := H.flatMap fun m => [.pointer (some ⟨sb, 0, none⟩), .int .u32 (m.x : Int)]
def moC (H : List Mo) : List Value := H.map fun m => .slice m.a m.l.length m.c
/-- All moments hold. -/
def Mos (w : World) (sb g tb : Nat) (M : List Nd) (H : List Mo) : Prop := ∀ m, m ∈ H → Bd M m.n m.x m.l ∧ Rw7 w sb g tb m.a m.l ∧ m.l.length ≤ 60
theorem Mos.nx {w w' : World} {sb tb most g g' c : Nat} {M M' : List Nd} {H : List Mo} (h : Mos w sb g tb M H) (hw : Wf M) (hn : Nx sb tb most w g M c w' g' M') : Mos w' sb g' tb M' H := fun m hm => by
  obtain ⟨h1, h2, h3⟩ := h m hm
  exact ⟨h1.nx hw hn, h2.nx hn, h3⟩
theorem Mos.later {w w' : World} {sb g tb : Nat} {M : List Nd} {H : List Mo} (h : Mos w sb g tb M H) (hb : Below w.heap.size w w') : Mos w' sb g tb M H := fun m hm => by
  obtain ⟨h1, h2, h3⟩ := h m hm
  exact ⟨h1, h2.later hb, h3⟩
theorem moP_len (sb : Nat) (H : List Mo) : (moP sb H).length = H.length * 2 := by
  induction H with
  | nil => rfl
  | cons c r ih => simp only [moP, List.flatMap_cons, List.length_append, List.length_cons, List.length_nil] at ih ⊢; omega
theorem moP_at (sb : Nat) : ∀ (H : List Mo) (j : Nat), (moP sb H)[j * 2]? = H[j]?.map (fun _ => .pointer (some ⟨sb, 0, none⟩)) ∧ (moP sb H)[j * 2 + 1]? = H[j]?.map (fun m => .int .u32 (m.x : Int))
  | [], j => by simp [moP]
  | c :: r, 0 => by simp [moP]
  | c :: r, j + 1 => by
    obtain ⟨h1, h2⟩ := moP_at sb r j
    simp only [moP, List.flatMap_cons, List.cons_append, List.nil_append, show (j + 1) * 2 = j * 2 + 1 + 1 by omega, List.getElem?_cons_succ] at h1 h2 ⊢
    exact ⟨h1, h2⟩
theorem Try.infoPl : (Try.prog.info? 32).map (fun i => (i.zero, i.size, i.bytes)) = some (some (.agg #[.pointer none, .int .u32 0]), 2, 16) := by kernel_rfl
theorem infoPl : ∃ i, Try.prog.info? 32 = some i ∧ i.zero = some (.agg #[.pointer none, .int .u32 0]) ∧ i.size = 2 ∧ i.bytes = 16 := by
  obtain ⟨i, hi, h⟩ := Option.map_eq_some_iff.1 Try.infoPl
  simp only [Prod.mk.injEq] at h
  exact ⟨i, hi, h.1, h.2.1, h.2.2⟩
theorem Try.infoCl : (Try.prog.info? 36).map (fun i => (i.zero, i.size, i.bytes)) = some (some (.slice none 0 0), 1, 24) := by kernel_rfl
theorem infoCl : ∃ i, Try.prog.info? 36 = some i ∧ i.zero = some (.slice none 0 0) ∧ i.size = 1 ∧ i.bytes = 24 := by
  obtain ⟨i, hi, h⟩ := Option.map_eq_some_iff.1 Try.infoCl
  simp only [Prod.mk.injEq] at h
  exact ⟨i, hi, h.1, h.2.1, h.2.2⟩
theorem nd_len : ∀ {l k : List (Int × Int)}, l.Nodup → (∀ c, c ∈ l → c ∈ k) → l.length ≤ k.length
  | [], _, _, _ => Nat.zero_le _
  | c :: r, k, hn, hs => by
    rw [List.nodup_cons] at hn
    have hc := hs c List.mem_cons_self
    have := nd_len (k := k.erase c) hn.2 (fun d hd => (List.mem_erase_of_ne (by rintro rfl; exact hn.1 hd)).2 (hs d (List.mem_cons_of_mem _ hd)))
    rw [List.length_erase_of_mem hc] at this
    have := List.length_pos_of_mem hc
    simp only [List.length_cons]
    omega
/-- The same cells: the same square. -/
theorem alike_root {M : List Nd} (hw : Wf M) {n x y : Nat} {l k : List (Int × Int)} (h : Bd M n x l) (h' : Bd M n y k) : ((x : Int) == (y : Int)) = ((l.all fun c => decide (c ∈ k)) && (l.length == k.length)) := by
  rw [Bool.eq_iff_iff]
  simp only [beq_iff_eq, Bool.and_eq_true, List.all_eq_true, decide_eq_true_eq]
  constructor
  · intro e
    obtain rfl : x = y := by omega
    have hm : ∀ c, c ∈ l ↔ c ∈ k := fun c => by
      have h1 := h.al c.1 c.2
      rw [h'.al] at h1
      simpa using h1.symm
    exact ⟨fun c hc => (hm c).1 hc, ((List.perm_ext_iff_of_nodup h.nd h'.nd).2 hm).length_eq⟩
  · rintro ⟨h1, h2⟩
    have hp : l.Perm k := by
      refine (List.perm_ext_iff_of_nodup h.nd h'.nd).2 fun c => ⟨fun hc => h1 c hc, fun hc => ?_⟩
      apply Classical.byContradiction
      intro hno
      have := nd_len (k := k.erase c) h.nd (fun d hd => (List.mem_erase_of_ne (by rintro rfl; exact hno hd)).2 (h1 d hd))
      rw [List.length_erase_of_mem hc] at this
      have := List.length_pos_of_mem hc
      omega
    have : x = y := root_inj hw h.sq h'.sq fun a b => by
      rw [h.al, h'.al, Bool.eq_iff_iff]
      simp only [decide_eq_true_eq]
      exact hp.mem_iff
    omega
end Go.Proofs.Ytfkjfkjhipieaaa
