/- Package evolve: Next: contract. -/
import Derived.Test.YtaapkngpnlnjeaaGreatDoorNy10
namespace Go.Proofs.YtaapkngpnlnjeaaGreatDoor
open Go.RowKit Go.Maps
set_option maxRecDepth 100000

/-- How many squares a successor makes, at most. -/
def cE : Nat → Nat
  | 0 => 1
  | n + 1 => 9 * (1 + cE n) + 4 * (1 + cE n) + 1
theorem nexts_all (sb tb mb most : Nat) : ∀ n p, p ≤ n → Nexts sb tb mb most n p (cE n)
  | 0, p, hp => by
    obtain rfl : p = 0 := by omega
    refine next_of (Nat.le_refl _) fun w g N fb m h x hx => ?_
    exact find_zero h hx
  | n + 1, p, hp => by
    refine next_of hp fun w g N fb m h x hx => ?_
    by_cases e : p = n + 1
    · exact find_top e (nexts_all sb tb mb most n n (Nat.le_refl _)) h hx
    · refine (find_low (p := p) (by omega) (nexts_all sb tb mb most n p (by omega)) h hx).mono ?_
      rintro e w' ⟨g', N', fb', m', h1, h2⟩
      exact ⟨g', N', fb', m', h1.mono (by show _ ≤ 9 * (1 + cE n) + 4 * (1 + cE n) + 1; omega), h2⟩
theorem res_out {most : Nat} {e : Ending} {N' : List Nd} {m' : Stp → Option Value} {n x p : Nat} (h : Res10 most e N' m' n x p) : ∃ (r : Nat) (ev : Value), e = .returned (.tuple #[.int .u32 (r : Int), ev]) := by
  rcases h with ⟨z, rfl, _⟩ | ⟨rfl, _⟩
  · exact ⟨_, _, rfl⟩
  · exact ⟨0, _, rfl⟩
set_option maxHeartbeats 2000000 in
theorem enext_any {w : World} {sb g tb most mb : Nat} {N : List Nd} {fb : FbT} {m : Stp → Option Value} (h : Me w sb g tb most N mb fb m) {n x p : Nat} (hx : Sq N (n + 2) x) (hp : p ≤ n) :
    Calls Tryz.prog 67 #[.pointer (some ⟨mb, 0, none⟩), .int .u32 (x : Int), .int .i64 (p : Int)] w fun e w' => ∃ g' N' fb' m', Mx sb tb mb most w g N fb m (cE n) w' g' N' fb' m' ∧ Res10 most e N' m' n x p := by
  have HM := Lib.hid h
  have HX := Lib.hid hx
  have hxu : x < 4294967296 := by obtain ⟨cap, hs⟩ := h.st; exact Sq.u32 hs hx
  have HLV := Lib.hid (by obtain ⟨cap, hs⟩ := h.st; exact level_any hs x hxu)
  rw [show lvZ N x = ((n + 2 : Nat) : Int) from hx] at HLV
  have w1 : IntKind.i64.wrap (((n + 2 : Nat) : Int) - 2) = ((n : Nat) : Int) := by rw [show ((n + 2 : Nat) : Int) - 2 = ((n : Nat) : Int) by omega]; exact IntWalk.i64_in _ (by have := Sq.le62 h.wf (n := n + 1) hx; omega)
  have g1 : decide ((p : Int) < 0) = false := by simp
  have g2 : decide (n < p) = false := by simp; omega
  obtain ⟨sv0, cl0, hth, m0, m1, mv, m2, mt, m3⟩ := h.cells
  have HPP := Lib.hid hp
  clear mv mt hth m1 m2 m3 h hx
  generalize hlv : ((n + 2 : Nat) : Int) = lv at *
  go_enter Tryz.func67, Tryz.ntmps67
  go_wp2_with fail
  refine HLV.out.mono ?_
  rintro e w5 ⟨rfl, rfl⟩
  clear HLV hlv
  go_wp2_with fail
  refine (begin_any HM.out).mono ?_
  rintro e w5 ⟨rfl, hmx⟩
  have HMX5 := Lib.hid hmx
  have HNX := Lib.hid (nexts_all sb tb mb most n p HPP.out _ _ _ _ _ hmx.me _ HX.out)
  clear hmx m0
  go_wp2_with fail
  refine HNX.out.mono ?_
  rintro e w6 ⟨g6, N6, fb6, m6, hmx, hres⟩
  have HMX := Lib.hid ((HMX5.out.trans hmx).mono (show 0 + cE n ≤ cE n by omega))
  have HR := Lib.hid hres
  clear hmx hres HNX
  obtain ⟨r, ev, rfl⟩ := res_out HR.out
  go_wp2_with fail
  go_ret2
  exact ⟨g6, N6, fb6, m6, HMX.out, HR.out⟩
theorem enext_bad {w : World} {sb g tb most mb : Nat} {N : List Nd} {fb : FbT} {m : Stp → Option Value} (h : Me w sb g tb most N mb fb m) (x : Nat) (hxu : x < 4294967296) (p : Int) (hp : p < 0 ∨ p > lvZ N x - 2) :
    Calls Tryz.prog 67 #[.pointer (some ⟨mb, 0, none⟩), .int .u32 (x : Int), .int .i64 p] w fun e w' => e = .returned (.tuple #[.int .u32 0, .iface 48 (.int .i64 1)]) ∧ w = w' := by
  obtain ⟨cap, hs⟩ := h.st
  have HLV := Lib.hid (level_any hs x hxu)
  obtain ⟨sv0, cl0, hth, m0, m1, mv, m2, mt, m3⟩ := h.cells
  have hl1 : -1 ≤ lvZ N x := by
    unfold lvZ; split <;> omega
  have hl2 : lvZ N x ≤ 62 := by
    unfold lvZ
    split
    · rename_i nd hnd
      have := hs.wf.lv_le hnd
      omega
    · omega
  have w1 : IntKind.i64.wrap (lvZ N x - 2) = lvZ N x - 2 := IntWalk.i64_in _ (by omega)
  clear h hs mv mt hth m1 m2 m3
  generalize lvZ N x = lv at *
  by_cases h0 : p < 0
  · have g1 : decide (p < 0) = true := by simp; omega
    clear hp
    go_enter Tryz.func67, Tryz.ntmps67
    go_wp2_with fail
    go_ret2
    exact ⟨rfl, rfl⟩
  · have g1 : decide (p < 0) = false := by simp; omega
    have g2 : decide (lv - 2 < p) = true := by simp; omega
    clear hp
    go_enter Tryz.func67, Tryz.ntmps67
    go_wp2_with fail
    refine HLV.out.mono ?_
    rintro e w5 ⟨rfl, rfl⟩
    go_wp2_with fail
    go_ret2
    exact ⟨rfl, rfl⟩
end Go.Proofs.YtaapkngpnlnjeaaGreatDoor
