/- Squares after a change with cells: plain mathematics, no program. -/
import Derived.Test.YtnfjmmkokhncoaaGreatM11
namespace Go.Proofs.YtnfjmmkokhncoaaGreat

def Ti (N : List Nd) (n0 y : Nat) (A B : Bool) (n : Nat) (r : R4) (c : Nat) (L : List (Int × Int)) : Int → Int → Nat := fun X Y => if (X, Y) ∈ L then 1 else Fi N n0 y A B n r c X Y
theorem tc_cons (N : List Nd) (n x : Nat) (r : R4) (c : Nat) (L : List (Int × Int)) (X Y : Int) : Tc N n x r c L X Y = if (X, Y) ∈ L then 1 else Tc N n x r c [] X Y := by
  unfold Tc
  simp
theorem Ti_app {N : List Nd} (hw : Wf N) (E : List Nd) (hw' : Wf (N ++ E)) {n0 y : Nat} (h : Sq0 N n0 y) (A B : Bool) (n : Nat) (r : R4) (c : Nat) (L : List (Int × Int)) : Ti (N ++ E) n0 y A B n r c L = Ti N n0 y A B n r c L := by
  unfold Ti
  rw [Fi_app hw E hw' h]
theorem Ti_base (N : List Nd) (n y : Nat) (A B : Bool) (r : R4) (c : Nat) (L : List (Int × Int)) (X Y : Int) (hX : 0 ≤ X ∧ X < 2 ^ n) (hY : 0 ≤ Y ∧ Y < 2 ^ n) : Ti N n y A B n r c L X Y = Tc N n y r c L X Y := by
  rw [tc_cons]
  unfold Ti
  rw [Fi_base N n y A B r c X Y hX hY]
theorem Ti_in {L : List (Int × Int)} {n : Nat} (hL : LIn (n + 1) L) (N : List Nd) (n0 y : Nat) (A B : Bool) (r : R4) (c : Nat) (X Y : Int) (hX : 0 ≤ X ∧ X < 2 ^ n) (hY : 0 ≤ Y ∧ Y < 2 ^ n) : Ti N n0 y A B n (qR r n (!A) (!B)) c (qL L n (!A) (!B)) X Y = qF (Ti N n0 y A B (n + 1) r c L) n (!A) (!B) X Y := by
  have h := Fi_in N n0 y n A B r c X Y hX hY
  unfold qF at h ⊢
  unfold Ti
  rw [h]
  simp only [qL_mem hL (!A) (!B) hX hY]
theorem Ti_out {L : List (Int × Int)} {n : Nat} (hL : LIn (n + 1) L) (N : List Nd) (hw : Wf N) (n0 y : Nat) (h0 : n0 ≤ n) (A B : Bool) (r : R4) (c : Nat) (a b : Bool) (hab : ¬(a = !A ∧ b = !B)) (X Y : Int) (hX : 0 ≤ X ∧ X < 2 ^ n) (hY : 0 ≤ Y ∧ Y < 2 ^ n) : Tc N n 0 (qR r n a b) c (qL L n a b) X Y = qF (Ti N n0 y A B (n + 1) r c L) n a b X Y := by
  have h := Fi_out N hw n0 y n h0 A B r c a b hab X Y hX hY
  rw [tc_cons, h]
  unfold qF Ti
  simp only [qL_mem hL a b hX hY]
/-- The plane after a change with cells. -/
def Tp (N : List Nd) (n0 : Nat) (k : K4) (n : Nat) (r : R4) (c : Nat) (L : List (Int × Int)) : Int → Int → Nat := fun X Y => if (X, Y) ∈ L then 1 else Fp N n0 k n r c X Y
theorem Tp_q {N : List Nd} (hw : Wf N) {n0 : Nat} {k : K4} (hk : Fo N n0 k) {n : Nat} {L : List (Int × Int)} (hL : LIn (n + 1) L) (r : R4) (c : Nat) (A B : Bool) (X Y : Int) (hX : 0 ≤ X ∧ X < 2 ^ n) (hY : 0 ≤ Y ∧ Y < 2 ^ n) : Ti N n0 (pick k A B) A B n (qR r n A B) c (qL L n A B) X Y = qF (Tp N n0 k n r c L) n A B X Y := by
  have h := Fp_q hw hk n r c A B X Y hX hY
  unfold Ti
  rw [h]
  unfold qF Tp
  simp only [qL_mem hL A B hX hY]
end Go.Proofs.YtnfjmmkokhncoaaGreat
