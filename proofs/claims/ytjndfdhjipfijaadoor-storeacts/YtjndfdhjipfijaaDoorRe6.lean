/- The document's store: Empty: contract. -/
import Derived.Test.YtjndfdhjipfijaaDoorRm6
namespace Go.Proofs.YtjndfdhjipfijaaDoor
open Go.RowKit Go.Maps
set_option maxRecDepth 100000

theorem rempty_bad {w : World} (mb : Nat) (level : Int) (hl : level < 0 ∨ 62 < level) :
    Calls Tryd.prog 8 #[.pointer (some ⟨mb, 0, none⟩), .int .i64 level] w fun e w' => e = .returned (.tuple #[.int .u32 0, .int .i64 1]) ∧ w = w' := by
  by_cases h0 : level < 0
  · have g0 : decide (level < 0) = true := by simpa using h0
    go_enter Tryd.func8, Tryd.ntmps8
    go_wp2
    go_ret2
    exact ⟨rfl, rfl⟩
  · have g0 : decide (level < 0) = false := by simpa using h0
    have g1 : decide (62 < level) = true := by simp; omega
    go_enter Tryd.func8, Tryd.ntmps8
    go_wp2
    go_ret2
    exact ⟨rfl, rfl⟩
set_option maxHeartbeats 2000000 in
theorem rempty_any {w : World} {mb g cap most : Nat} {N : List Nd} (h : RSt w mb g cap most N) (level : Nat) (hl : level ≤ 62) :
    Calls Tryd.prog 8 #[.pointer (some ⟨mb, 0, none⟩), .int .i64 (level : Int)] w fun e w' => ∃ g' cap', e = .returned (.tuple #[.int .u32 ((emZ most level N 0).2.1 : Int), .int .i64 ((emZ most level N 0).2.2 : Int)]) ∧ RSt w' mb g' cap' most (emZ most level N 0).1 ∧ Frm [mb, g] w w' ∧ (g' = g ∨ w.heap.size ≤ g') := by
  have HS := Lib.hid h
  have g0 : decide ((level : Int) < 0) = false := by simp
  have g1 : decide ((62 : Int) < (level : Int)) = false := by simp; omega
  clear h
  go_enter Tryd.func8, Tryd.ntmps8
  go_wp2_with fail
  clear g0 g1
  go_loopg [6, 7, 8, 9] level (fun m xv i av ev wr => ∃ (j x gg cc : Nat) (M : List Nd), m = level - j ∧ j ≤ level ∧ i = .int .i64 (j : Int) ∧ xv = .int .u32 (x : Int) ∧ RSt wr mb gg cc most M ∧ emZ most level N 0 = emZ most (level - j) M x ∧ x < M.length ∧ Frm [mb, g] w wr ∧ (gg = g ∨ w.heap.size ≤ gg))
  case atStart => exact ⟨0, 0, g, cap, N, rfl, Nat.zero_le _, rfl, rfl, HS.out, rfl, by have := HS.out.wf.two; omega, Frm.refl _ _, Or.inl rfl⟩
  case round =>
    obtain ⟨j, x, gg, cc, M, hm, hj, rfl, rfl, hS, hE, hx, hF, hg⟩ := hrel
    have HM := Lib.hid hm
    have HS1 := Lib.hid hS
    have HE := Lib.hid hE
    have HX := Lib.hid hx
    have HF := Lib.hid hF
    have HG := Lib.hid hg
    clear hm hS hE hx hF hg HS
    by_cases hlt : j < level
    · have hgj : decide (j < level) = true := by simpa using hlt
      have hwj : IntKind.i64.wrap ((j : Int) + 1) = (j : Int) + 1 := IntWalk.i64_in _ (by omega)
      have HIK : Hid (InK (x, x, x, x)) := by
        have h1 := HX.out
        have h2 := HS1.out.room
        have h3 := HS1.out.most_le
        exact ⟨by show x < _; omega, by show x < _; omega, by show x < _; omega, by show x < _; omega⟩
      have HEN : Hid (emZ most (level - j) M x = if (mkZ M most (x, x, x, x)).2.2 = 0 then emZ most (level - (j + 1)) (mkZ M most (x, x, x, x)).1 (mkZ M most (x, x, x, x)).2.1 else ((mkZ M most (x, x, x, x)).1, 0, (mkZ M most (x, x, x, x)).2.2)) := by
        show _ = _
        rw [show level - j = (level - (j + 1)) + 1 by omega]
        rfl
      go_wp2_with fail
      refine (rmake_any HS1.out (x, x, x, x) HIK.out).mono ?_
      rintro e W1 ⟨g1, c1, rfl, hS, hF, hg⟩
      have HS2 := Lib.hid hS
      have HF2 : Hid (Frm [mb, g] w W1) := by
        refine HF.out.trans hF (fun b hb => ?_)
        simp only [List.mem_cons, List.not_mem_nil, or_false] at hb
        rcases hb with e | e
        · exact Or.inl (by simp [e])
        · rcases HG.out with e' | e'
          · exact Or.inl (by simp [e, e'])
          · exact Or.inr (by omega)
      have HG2 : Hid (g1 = g ∨ w.heap.size ≤ g1) := by
        rcases hg with e | e
        · rcases HG.out with e' | e'
          · exact Or.inl (by omega)
          · exact Or.inr (by omega)
        · exact Or.inr (Nat.le_trans HF.out.size e)
      clear hS hF hg
      by_cases he : (mkZ M most (x, x, x, x)).2.2 = 0
      · have HLT := Lib.hid (mk_lt HS1.out.wf he)
        have hen := HEN.out
        rw [if_pos he] at hen
        have HEN2 := Lib.hid hen
        clear hen
        rw [he]
        generalize (mkZ M most (x, x, x, x)).2.1 = y at *
        generalize (mkZ M most (x, x, x, x)).1 = M2 at *
        clear he HEN
        go_wp2_with fail
        go_roundg (level - (j + 1))
        case measure => rw [HM.out]; omega
        case rel => exact ⟨j + 1, y, g1, c1, M2, rfl, hlt, by go_num, rfl, HS2.out, by rw [HE.out, HEN2.out], HLT.out, HF2.out, HG2.out⟩
      · have hen := HEN.out
        rw [if_neg he] at hen
        have HEN2 := Lib.hid (HE.out.trans hen)
        clear hen
        have hne : (((mkZ M most (x, x, x, x)).2.2 : Int) != 0) = true := by simp only [bne_iff_ne, ne_eq]; omega
        have hne2 : ((mkZ M most (x, x, x, x)).2.2 != 0) = true := by simpa using he
        clear he HEN HE
        go_wp2_with fail
        go_ret2
        refine ⟨g1, c1, ?_, by rw [HEN2.out]; exact HS2.out, HF2.out, HG2.out⟩
        rw [HEN2.out]
        rfl
    · obtain rfl : j = level := by omega
      have hgj : decide (j < j) = false := by simp
      have he := HE.out
      rw [Nat.sub_self] at he
      have HE2 : Hid (emZ most j N 0 = (M, x, 0)) := he
      clear he HE
      go_wp2_with fail
      go_ret2
      refine ⟨gg, cc, ?_, by rw [HE2.out]; exact HS1.out, HF.out, HG.out⟩
      rw [HE2.out]; rfl
end Go.Proofs.YtjndfdhjipfijaaDoor
