/- The law's same: contract. -/
import Derived.Test.YtjndfdhjipfijaaGreatDoorPl
namespace Go.Proofs.YtjndfdhjipfijaaGreatDoor
open Go.RowKit Go.Shelf Go.Sort

theorem neqCell : NeqAt Tryz.prog 53 (fun x : Int × Int => .agg (encZ x).toArray) (fun x y => x.1 == y.1 && x.2 == y.2) := by
  refine ⟨fun x y w => ?_, GuardAt.agg _ (by kernel_rfl)⟩
  have u3 := Tryz.underlying3
  have a3 := Tryz.isAgg3
  have z3 := Tryz.sizeOf3
  have hS : Tryz.prog.underlying 53 = some (.struct (Tryz.prog.fieldsOf 53)) := by kernel_rfl
  have hp : Tryz.prog.stoodInHeld 53 = false := by kernel_rfl
  simp only [encZ]
  rw [run_neq_struct, show (10000 : Nat) = 9999 + 1 from rfl, run_equalIn_agg w 9999 53 _ _ hS hp]
  simp only [Program.fieldsOf, Tryz.underlying53]
  go_simp
  by_cases h1 : x.fst = y.fst <;> by_cases h2 : x.snd = y.snd <;> simp [h1, h2]
theorem allEq_self : ∀ (l : List (Int × Int)), Lib.allEq (fun x y : Int × Int => x.1 == y.1 && x.2 == y.2) l l = true
  | [] => rfl
  | x :: l => by
    simp only [Lib.allEq, allEq_self l]
    simp
set_option maxRecDepth 100000 in
theorem equal_none (a b : Option Addr) (c d : Nat) (w : World) :
    Calls Tryz.prog 20 #[.slice a 0 c, .slice b 0 d] w fun e w' => e = .returned (.bool true) ∧ Below w.heap.size w w' := by
  go_enter Tryz.func20, Tryz.ntmps20
  go_wp2_with fail
  go_loopg [5, 13] 1 (fun k v i wr => i = .int .i64 0 ∧ wr = w)
  case atStart => exact ⟨rfl, rfl⟩
  case round =>
    obtain ⟨rfl, rfl⟩ := hrel
    go_wp2_with fail
    go_ret
    exact ⟨rfl, Below.refl _ _⟩
theorem equal_any (zs : List (Int × Int)) (a b : Option Addr) (n c d : Nat) (w : World) (h1 : Pts w w.heap.size a zs) (h2 : Pts w w.heap.size b zs) (hn : n = zs.length) (hl : n ≤ 20000) :
    Calls Tryz.prog 20 #[.slice a n c, .slice b n d] w fun e w' => e = .returned (.bool true) ∧ Below w.heap.size w w' := by
  subst hn
  cases zs with
  | nil => exact equal_none a b c d w
  | cons z r =>
    obtain ⟨b1, o1, rfl, _⟩ := h1.at0
    obtain ⟨b2, o2, rfl, _⟩ := h2.at0
    have hcell : ∀ (bk off : Nat), Pts w w.heap.size (some ⟨bk, off, none⟩) (z :: r) → ∀ j, j < (z :: r).length → ∀ i v, (encZ (z :: r)[j]!)[i]? = some v → w.cell? ⟨bk, off + j * 2 + i, none⟩ = some v := by
      intro bk off h j hj i v hv
      have hg : (z :: r)[j]! = (z :: r)[j] := getElem!_pos _ j hj
      rw [hg] at hv
      obtain ⟨e1, e2⟩ := h.atj (List.getElem?_eq_getElem hj)
      match i, hv with
      | 0, hv => simp [encZ] at hv; subst hv; exact e1
      | 1, hv => simp [encZ] at hv; subst hv; exact e2
      | i + 2, hv => simp [encZ] at hv
    have hcon := AnyQ.slices_Equal Tryz.equalC 2 Tryz.isAgg53 Tryz.sizeOf53 encZ (fun _ => rfl) _ neqCell b1 o1 (z :: r).length c b2 o2 (z :: r).length d (z :: r) (z :: r) w (Nat.le_refl _) (Nat.le_refl _) (by omega) (by omega) (hcell b1 o1 h1) (hcell b2 o2 h2)
    refine Calls.mono hcon ?_
    rintro e w' ⟨rfl, q, rfl⟩
    refine ⟨?_, below_drewN (Below.refl _ _) _⟩
    rw [List.take_length, allEq_self]

set_option maxRecDepth 100000 in
set_option maxHeartbeats 1000000 in
theorem same_any (W H : Int) (zs : List (Int × Int)) (a b : Option Addr) (n c d : Nat) (w : World) (h1 : Pts w w.heap.size a zs) (h2 : Pts w w.heap.size b zs) (hn : n = zs.length) (hl : n ≤ 20000) :
    Calls Tryz.prog 8 #[.agg #[.int .i64 W, .int .i64 H, .slice a n c], .agg #[.int .i64 W, .int .i64 H, .slice b n d]] w fun e w' => e = .returned (.bool true) ∧ Below w.heap.size w w' := by
  have HE : Hid (∀ W', Below w.heap.size w W' → Calls Tryz.prog 20 #[.slice a n c, .slice b n d] W' fun e w' => e = .returned (.bool true) ∧ Below W'.heap.size W' w') := fun W' hb => equal_any zs a b n c d W' ((h1.later hb (Nat.le_refl _)).mono hb.size) ((h2.later hb (Nat.le_refl _)).mono hb.size) hn hl
  clear h1 h2 hn
  have e1 : (W == W) = true := by simp
  have e2 : (H == H) = true := by simp
  go_enter Tryz.func8, Tryz.ntmps8
  go_wp2_with fail
  refine (HE.out _ (by go_grown)).mono ?_
  rintro e w1 ⟨rfl, hb⟩
  have HB : Hid (Below w.heap.size w w1) := ((Below.refl _ w).alloc (Nat.le_refl _) _ |>.alloc (by simp) _).trans (hb.mono (by simp; omega))
  clear hb
  go_wp2_with fail
  go_ret
  exact ⟨rfl, HB.out⟩
end Go.Proofs.YtjndfdhjipfijaaGreatDoor
