-- P11
import Derived.Test.YtaapkngpnlnjeaaGreatDoorNz10
section
namespace Go.Proofs.YtaapkngpnlnjeaaGreatDoor
open Go.RowKit Go.Maps
set_option maxRecDepth 100000

/-- A row of uint64. -/
def RowU (w : World) (a : Option Addr) (l : List Nat) : Prop := ∀ (j c : Nat), l[j]? = some c → ∃ b off, a = some ⟨b, off, none⟩ ∧ w.cell? ⟨b, off + j, none⟩ = some (.int .u64 (c : Int))
theorem RowU.later {w w' : World} {a : Option Addr} {l : List Nat} {D : Nat} (h : RowU w a l) (hD : 0 < l.length → ∀ b off, a = some ⟨b, off, none⟩ → b < D) (hb : Below D w w') : RowU w' a l := fun j c hj => by
  have hl : 0 < l.length := Nat.lt_of_le_of_lt (Nat.zero_le j) (List.getElem?_eq_some_iff.1 hj).1
  obtain ⟨b, off, e, hc⟩ := h j c hj
  exact ⟨b, off, e, by rw [hb.cell (show (⟨b, off + j, none⟩ : Addr).block < D from hD hl b off e)]; exact hc⟩
theorem and_u64 (a b : Nat) (ha : a < 18446744073709551616) (hb : b < 18446744073709551616) : bits .and .u64 (a : Int) (b : Int) = ((a &&& b : Nat) : Int) := by
  have t1 : (BitVec.ofInt 64 (a : Int)).toNat = a := by
    rw [BitVec.ofInt_natCast, BitVec.toNat_ofNat]; exact Nat.mod_eq_of_lt (by omega)
  have t2 : (BitVec.ofInt 64 (b : Int)).toNat = b := by
    rw [BitVec.ofInt_natCast, BitVec.toNat_ofNat]; exact Nat.mod_eq_of_lt (by omega)
  show IntKind.u64.wrap ((BitVec.ofInt 64 (a : Int) &&& BitVec.ofInt 64 (b : Int)).toNat : Nat) = _
  rw [BitVec.toNat_and, t1, t2]
  have : a &&& b ≤ a := Nat.and_le_left
  exact IntWalk.u64_in _ (by omega)
theorem bit_u64 (f k : Nat) (hf : f < 18446744073709551616) : (bits .and .u64 ((f : Int) / 2 ^ k) 1 == 1) = f.testBit k := by
  have e1 : (f : Int) / 2 ^ k = ((f / 2 ^ k : Nat) : Int) := by
    rw [show (2 : Int) ^ k = ((2 ^ k : Nat) : Int) by rw [Int.natCast_pow]; rfl]; norm_cast
  have hd : f / 2 ^ k ≤ f := Nat.div_le_self _ _
  rw [e1, show (1 : Int) = ((1 : Nat) : Int) from rfl, and_u64 _ _ (by omega) (by omega), Nat.and_one_is_mod, Nat.testBit_eq_decide_div_mod_eq]
  rw [Bool.eq_iff_iff]
  simp only [beq_iff_eq, decide_eq_true_eq]
  omega
/-- Is a cell alive? -/
def alvN (l : List Nat) (side x y : Nat) : Bool := (l.getD ((y / 8 * ((side + 7) / 8) + x / 8) % l.length) 0).testBit (8 * (y % 8) + x % 8)
end Go.Proofs.YtaapkngpnlnjeaaGreatDoor
end

section
namespace Go.Proofs.YtaapkngpnlnjeaaGreatDoor
open Go.RowKit Go.Maps
set_option maxRecDepth 100000

def alv (l : List Nat) (side x y : Nat) : Bool := if l.length = 0 then false else alvN l side x y
/-- The law's cells as a plane. -/
def plU (l : List Nat) (side : Nat) : Plane := fun X Y => if 0 ≤ X ∧ X < (side : Int) ∧ 0 ≤ Y ∧ Y < (side : Int) ∧ alv l side X.toNat Y.toNat = true then 1 else 0
theorem plU_at (l : List Nat) {side x y : Nat} (hx : x < side) (hy : y < side) : plU l side (x : Int) (y : Int) = if alv l side x y then 1 else 0 := by
  unfold plU
  have e1 : (x : Int).toNat = x := by omega
  have e2 : (y : Int).toNat = y := by omega
  rw [e1, e2]
  by_cases h : alv l side x y = true
  · rw [if_pos ⟨by omega, by omega, by omega, by omega, h⟩, if_pos h]
  · rw [if_neg (fun hh => h hh.2.2.2.2), if_neg h]
/-- A row beside a store. -/
def RowS (w : World) (sb g tb : Nat) (a : Option Addr) (l : List Nat) : Prop := RowU w a l ∧ (0 < l.length → ∀ b off, a = some ⟨b, off, none⟩ → b < w.heap.size ∧ b ≠ sb ∧ b ≠ g ∧ b ≠ tb)
theorem RowS.later {w w' : World} {sb g tb : Nat} {a : Option Addr} {l : List Nat} (h : RowS w sb g tb a l) (hb : Below w.heap.size w w') : RowS w' sb g tb a l :=
  ⟨h.1.later (fun hl b off e => (h.2 hl b off e).1) hb, fun hl b off e => by obtain ⟨h1, h2⟩ := h.2 hl b off e; exact ⟨Nat.lt_of_lt_of_le h1 hb.size, h2⟩⟩
theorem RowS.nx {w w' : World} {sb tb most g g' c : Nat} {N N' : List Nd} {a : Option Addr} {l : List Nat} (h : RowS w sb g tb a l) (hn : Nx sb tb most w g N c w' g' N') : RowS w' sb g' tb a l := by
  refine ⟨fun j c hj => ?_, fun hl b off e => ?_⟩
  · obtain ⟨b, off, e, hc⟩ := h.1 j c hj
    obtain ⟨h1, h2, h3, h4⟩ := h.2 (Nat.lt_of_le_of_lt (Nat.zero_le j) (List.getElem?_eq_some_iff.1 hj).1) b off e
    have hbl : w'.heap[b]? = w.heap[b]? := hn.frm.block b h1 (by simp; exact ⟨h2, h3, h4⟩)
    refine ⟨b, off, e, ?_⟩
    rw [← hc]
    simp only [World.cell?, hbl]
  · obtain ⟨h1, h2, h3, h4⟩ := h.2 hl b off e
    have := hn.frm.size
    refine ⟨by omega, h2, ?_, h4⟩
    rcases hn.gin with e | e <;> omega
theorem RowS.set {w : World} {sb g tb b i : Nat} {a : Option Addr} {l : List Nat} (h : RowS w sb g tb a l) (hb : 0 < l.length → ∀ b' off, a = some ⟨b', off, none⟩ → b' ≠ b) (v : Value) : RowS (w.setCell ⟨b, i, none⟩ v) sb g tb a l := by
  refine ⟨fun j c hj => ?_, fun hl b' off e => ?_⟩
  · obtain ⟨b', off, e, hc⟩ := h.1 j c hj
    refine ⟨b', off, e, ?_⟩
    rw [← hc]
    have : (w.setCell ⟨b, i, none⟩ v).heap[b']? = w.heap[b']? := Below.heap_setCell _ _ _ _ (hb (Nat.lt_of_le_of_lt (Nat.zero_le j) (List.getElem?_eq_some_iff.1 hj).1) b' off e)
    simp only [World.cell?, this]
  · obtain ⟨h1, h2⟩ := h.2 hl b' off e
    exact ⟨by simpa using h1, h2⟩
/-- How many squares are made. -/
def bC : Nat → Nat
  | 0 => 0
  | n + 1 => 4 * bC n + 1
def Bld (most : Nat) (e : Ending) (N' : List Nd) (n : Nat) (F : Plane) : Prop :=
  (∃ z : Nat, e = .returned (.tuple #[.int .u32 (z : Int), .nilIface]) ∧ Con N' n z F) ∨ (e = .returned (.tuple #[.int .u32 0, .iface 48 (.int .i64 7)]) ∧ most ≤ N'.length)
end Go.Proofs.YtaapkngpnlnjeaaGreatDoor
end

section
namespace Go.Proofs.YtaapkngpnlnjeaaGreatDoor
open Go.RowKit Go.Maps
set_option maxRecDepth 100000

/-- How many are alive, of a square whose cells are known. -/
theorem ct_con {N : List Nd} (hw : Wf N) {n x : Nat} {F : Plane} (h : Con N n x F) {L : List (Int × Int)} (hd : L.Nodup) (hL : ∀ X Y, (X, Y) ∈ L ↔ (0 ≤ X ∧ X < 2 ^ n) ∧ (0 ≤ Y ∧ Y < 2 ^ n) ∧ F X Y = 1) : ctZ N x = min L.length topN := by
  rw [ct_cells hw h.1]
  have hp : (cellsQ N n x).Perm L := by
    refine (List.perm_ext_iff_of_nodup (nodup_cells N n x) hd).2 fun p => ?_
    obtain ⟨X, Y⟩ := p
    rw [mem_cells, hL]
    constructor
    · rintro ⟨h1, h2, h3⟩
      exact ⟨h1, h2, by rw [← h.2 X Y h1 h2]; exact h3⟩
    · rintro ⟨h1, h2, h3⟩
      exact ⟨h1, h2, by rw [h.2 X Y h1 h2]; exact h3⟩
  rw [hp.length_eq]
/-- A memo's blocks lie above a bound. -/
structure Abv (D sb g tb mb : Nat) (fb : FbT) : Prop where
  sb_ : D ≤ sb
  g_ : D ≤ g
  tb_ : D ≤ tb
  mb_ : D ≤ mb
  fb_ : ∀ b, b ∈ fb.bl → D ≤ b
theorem Abv.mx {D sb tb mb most g g' c : Nat} {w w' : World} {N N' : List Nd} {fb fb' : FbT} {m m' : Stp → Option Value} (h : Abv D sb g tb mb fb) (hD : D ≤ w.heap.size) (hn : Mx sb tb mb most w g N fb m c w' g' N' fb' m') : Abv D sb g' tb mb fb' := by
  refine ⟨h.sb_, ?_, h.tb_, h.mb_, fun b hb => ?_⟩
  · have := h.g_
    rcases hn.gin with e | e <;> omega
  · rcases hn.fin b hb with e | e
    · exact h.fb_ b e
    · omega
theorem Abv.below {D sb tb mb most g g' c : Nat} {w0 w w' : World} {N N' : List Nd} {fb fb' : FbT} {m m' : Stp → Option Value} (h : Abv D sb g tb mb fb) (hb : Below D w0 w) (hD : D ≤ w.heap.size) (hn : Mx sb tb mb most w g N fb m c w' g' N' fb' m') : Below D w0 w' := by
  refine hb.trans (hn.frm.below (fun b hbm => ?_) hD)
  simp only [List.mem_cons] at hbm
  rcases hbm with e | e | e | e | e
  · rw [e]; exact h.sb_
  · rw [e]; exact h.g_
  · rw [e]; exact h.tb_
  · rw [e]; exact h.mb_
  · exact h.fb_ b e
theorem rowS_new {w : World} {sb g tb cs most : Nat} {N : List Nd} (h : St w sb g tb cs most N) (c : Nat) (t : TypeId) : RowS (w.alloc (.cells #[.int .u64 (c : Int)] t)) sb g tb (some ⟨w.heap.size, 0, none⟩) [c] := by
  obtain ⟨l1, l2, l3⟩ := h.lt
  refine ⟨fun j d hj => ?_, fun _ b off e => ?_⟩
  · match j, hj with
    | 0, hj => 
      simp at hj; subst hj
      exact ⟨_, _, rfl, by rw [Lib.cell_of_heap (heap_alloc_new w _)]; rfl⟩
    | j + 1, hj => simp at hj
  · cases e
    exact ⟨by simp, by omega, by omega, by omega⟩
theorem bld_out {most : Nat} {e : Ending} {N' : List Nd} {n : Nat} {F : Plane} (h : Bld most e N' n F) (hn : N'.length < most) : ∃ z : Nat, e = .returned (.tuple #[.int .u32 (z : Int), .nilIface]) ∧ Con N' n z F := by
  rcases h with h | ⟨_, h⟩
  · exact h
  · omega
theorem res_good {most : Nat} {e : Ending} {N' : List Nd} {m' : Stp → Option Value} {n x p : Nat} (h : Res10 most e N' m' n x p) (hn : N'.length < most) : ∃ z : Nat, e = .returned (.tuple #[.int .u32 (z : Int), .nilIface]) ∧ Sc N' n x p z ∧ m' ⟨x, p⟩ = some (.int .u32 (z : Int)) := by
  rcases h with h | ⟨_, h⟩
  · exact h
  · omega
theorem Mx.len {w w' : World} {sb tb mb most g g' c : Nat} {N N' : List Nd} {fb fb' : FbT} {m m' : Stp → Option Value} (h : Mx sb tb mb most w g N fb m c w' g' N' fb' m') : N'.length ≤ N.length + c := by
  obtain ⟨E, hE, hl⟩ := h.ext
  rw [hE, List.length_append]; omega
theorem Con.mx {w w' : World} {sb tb mb most g g' c n x : Nat} {N N' : List Nd} {fb fb' : FbT} {m m' : Stp → Option Value} {F : Plane} (hc : Con N n x F) (hw : Wf N) (h : Mx sb tb mb most w g N fb m c w' g' N' fb' m') : Con N' n x F := by
  obtain ⟨E, hE, hl⟩ := h.ext
  rw [hE]; exact hc.app hw E
theorem Sc.mx {w w' : World} {sb tb mb most g g' c n x p z : Nat} {N N' : List Nd} {fb fb' : FbT} {m m' : Stp → Option Value} (hc : Sc N n x p z) (hw : Wf N) (h : Mx sb tb mb most w g N fb m c w' g' N' fb' m') : Sc N' n x p z := by
  obtain ⟨E, hE, hl⟩ := h.ext
  rw [hE]; exact hc.app hw E
theorem lives_two : ∀ X Y : Fin 4, gens (2 ^ 1) (plU [103481868288] 8) ((X.val : Int) + 2) ((Y.val : Int) + 2) = if (X.val = 1 ∨ X.val = 2) ∧ (Y.val = 1 ∨ Y.val = 2) then 1 else 0 := by decide +kernel
theorem lives_one : ∀ X Y : Fin 4, gens (2 ^ 0) (plU [103481868288] 8) ((X.val : Int) + 2) ((Y.val : Int) + 2) = if (X.val = 1 ∨ X.val = 2) ∧ (Y.val = 1 ∨ Y.val = 2) then 1 else 0 := by decide +kernel
def bkF : Plane := fun X Y => if (X = 1 ∨ X = 2) ∧ (Y = 1 ∨ Y = 2) then 1 else 0
theorem lives_con {N : List Nd} {x y p : Nat} (hp : p = 0 ∨ p = 1) (hx : Con N 3 x (plU [103481868288] 8)) (h : Sc N 1 x p y) : Con N 2 y bkF := by
  refine (h.out _ hx).of fun X Y hX hY => ?_
  have e2 : (2 : Int) ^ (1 + 1) = 4 := rfl
  rw [e2] at hX hY
  have k : ∀ (q : Nat), (∀ X Y : Fin 4, gens (2 ^ q) (plU [103481868288] 8) ((X.val : Int) + 2) ((Y.val : Int) + 2) = if (X.val = 1 ∨ X.val = 2) ∧ (Y.val = 1 ∨ Y.val = 2) then 1 else 0) → shF (gens (2 ^ q) (plU [103481868288] 8)) (2 ^ 1) (2 ^ 1) X Y = bkF X Y := fun q hh => by
    have := hh ⟨X.toNat, by omega⟩ ⟨Y.toNat, by omega⟩
    simp only at this
    rw [show ((X.toNat : Nat) : Int) = X by omega, show ((Y.toNat : Nat) : Int) = Y by omega] at this
    show gens (2 ^ q) _ (X + 2 ^ 1) (Y + 2 ^ 1) = _
    rw [show (2 : Int) ^ 1 = 2 from rfl, this]
    unfold bkF
    have e1 : (X.toNat = 1 ∨ X.toNat = 2) ↔ (X = 1 ∨ X = 2) := by omega
    have e2 : (Y.toNat = 1 ∨ Y.toNat = 2) ↔ (Y = 1 ∨ Y = 2) := by omega
    simp only [e1, e2]
  rcases hp with rfl | rfl
  · exact k 0 lives_one
  · exact k 1 lives_two
theorem bk_ct {N : List Nd} (hw : Wf N) {y : Nat} (h : Con N 2 y bkF) : ctZ N y = 4 := by
  rw [ct_con hw h (L := [(1, 1), (2, 1), (1, 2), (2, 2)]) (by decide) (fun X Y => by
    have e2 : (2 : Int) ^ 2 = 4 := rfl
    rw [e2]
    unfold bkF
    simp only [List.mem_cons, Prod.mk.injEq, List.not_mem_nil, or_false]
    constructor
    · rintro (⟨rfl, rfl⟩ | ⟨rfl, rfl⟩ | ⟨rfl, rfl⟩ | ⟨rfl, rfl⟩) <;> decide
    · rintro ⟨h1, h2, h3⟩
      split at h3
      · omega
      · cases h3)]
  rfl
end Go.Proofs.YtaapkngpnlnjeaaGreatDoor
end
