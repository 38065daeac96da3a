/- Package store: Of, Empty: contracts. -/
import Derived.Test.YtgciceogggldhaaMake7
namespace Go.Proofs.Ytgciceogggldhaa
open Go.RowKit Go.Maps
set_option maxRecDepth 100000

set_option maxHeartbeats 1000000 in
theorem of_good {w : World} {sb g tb cap most : Nat} {N : List Nd} (h : St w sb g tb cap most N) (x : Nat) (hx : x < 4294967296) {n : Nd} (hn : N[x]? = some n) (hl : 0 < n.lv) :
    Calls Try.prog 22 #[.pointer (some ⟨sb, 0, none⟩), .int .u32 (x : Int)] w fun e w' => e = .returned (.tuple #[kv n.k, .bool true]) ∧ Below w.heap.size w w' := by
  have hlv : lvZ N x = (n.lv : Int) := by unfold lvZ; rw [hn]
  have HB := Lib.hid (bel1 w (.cells #[.int .u32 ((0 : Nat) : Int), .int .u32 ((0 : Nat) : Int), .int .u32 ((0 : Nat) : Int), .int .u32 ((0 : Nat) : Int)] 68))
  have HS := Lib.hid (h.later HB.out)
  have HK := Lib.hid (k_new w (0, 0, 0, 0))
  have hg : decide ((n.lv : Int) < 1) = false := by simp; omega
  have hil : x < N.length := (List.getElem?_eq_some_iff.1 hn).1
  have hi : (x : Int) < (N.length : Int) := by omega
  have hi0 : (0 : Int) ≤ (x : Int) := by omega
  obtain ⟨s0, s1, s2, s3, _, _⟩ := HS.out.sq hn
  obtain ⟨c0, c1, c2, c3⟩ := HS.out.cells
  obtain ⟨u0, u1, u2, u3, f0, f1, f2, f3⟩ := HK.out.cells
  have hLV := level_any HS.out x hx
  rw [hlv] at hLV
  have HLV := Lib.hid hLV
  clear h hn hlv hLV
  simp only [Int.ofNat_zero] at *
  go_enter Try.func22, Try.ntmps22
  go_wp2_with fail
  refine HLV.out.mono ?_
  rintro e w' ⟨rfl, rfl⟩
  go_wp2
  refine bodyPost_ret (v := _) (by simp [results, Try.results22, go_sem]; rfl) rfl ?_
  exact ⟨rfl, bel1 _ _⟩
set_option maxHeartbeats 1000000 in
theorem of_bad {w : World} {sb g tb cap most : Nat} {N : List Nd} (h : St w sb g tb cap most N) (x : Nat) (hx : x < 4294967296) (hl : lvZ N x < 1) :
    Calls Try.prog 22 #[.pointer (some ⟨sb, 0, none⟩), .int .u32 (x : Int)] w fun e w' => e = .returned (.tuple #[kv (0, 0, 0, 0), .bool false]) ∧ Below w.heap.size w w' := by
  have HB := Lib.hid (bel1 w (.cells #[.int .u32 ((0 : Nat) : Int), .int .u32 ((0 : Nat) : Int), .int .u32 ((0 : Nat) : Int), .int .u32 ((0 : Nat) : Int)] 68))
  have HS := Lib.hid (h.later HB.out)
  have hg : decide (lvZ N x < 1) = true := by simpa using hl
  have HLV := Lib.hid (level_any HS.out x hx)
  clear h
  simp only [Int.ofNat_zero] at *
  go_enter Try.func22, Try.ntmps22
  go_wp2_with fail
  refine HLV.out.mono ?_
  rintro e w' ⟨rfl, rfl⟩
  go_wp2
  refine bodyPost_ret (v := _) (by simp [results, Try.results22, go_sem]; rfl) rfl ?_
  exact ⟨rfl, bel1 _ _⟩

theorem em_wf (most : Nat) : ∀ (n : Nat) (N : List Nd) (x : Nat), Wf N → N.length ≤ most → x < N.length → Wf (emZ most n N x).1 ∧ (emZ most n N x).1.length ≤ most ∧ N.length ≤ (emZ most n N x).1.length
  | 0, N, x, hw, hl, _ => ⟨hw, hl, Nat.le_refl _⟩
  | n + 1, N, x, hw, hl, hx => by
    obtain ⟨h1, h2, h3⟩ := mk_wf (x, x, x, x) hw hl
    unfold emZ
    split
    · rename_i he
      have hx' : (mkZ N most (x, x, x, x)).2.1 < (mkZ N most (x, x, x, x)).1.length := mk_lt hw he
      obtain ⟨g1, g2, g3⟩ := em_wf most n _ _ h1 h2 hx'
      exact ⟨g1, g2, Nat.le_trans h3 g3⟩
    · exact ⟨h1, h2, h3⟩
set_option maxHeartbeats 2000000 in
theorem empty_bad {w : World} {sb g tb cap most : Nat} {N : List Nd} (h : St w sb g tb cap most N) (level : Int) (hl : level < 0 ∨ 62 < level) :
    Calls Try.prog 18 #[.pointer (some ⟨sb, 0, none⟩), .int .i64 level] w fun e w' => e = .returned (.tuple #[.int .u32 0, .iface 53 (.int .i64 1)]) ∧ w = w' := by
  have hd : decide (0 < N.length) = true := by have := h.wf.two; simp; omega
  have HIS : Hid (Calls Try.prog 26 #[.pointer (some ⟨sb, 0, none⟩), .int .u32 ((0 : Nat) : Int)] w fun e w' => e = .returned (.bool true) ∧ w = w') := by
    have := is_any h 0 (by omega)
    rw [hd] at this
    exact this
  clear h
  by_cases h0 : level < 0
  · have g0 : decide (level < 0) = true := by simpa using h0
    go_enter Try.func18, Try.ntmps18
    go_wp2_with fail
    refine HIS.out.mono ?_
    rintro e w' ⟨rfl, rfl⟩
    go_wp2
    go_ret2
    exact ⟨rfl, rfl⟩
  · have g0 : decide (level < 0) = false := by simpa using h0
    have g1 : decide (62 < level) = true := by simp; omega
    go_enter Try.func18, Try.ntmps18
    go_wp2_with fail
    refine HIS.out.mono ?_
    rintro e w' ⟨rfl, rfl⟩
    go_wp2
    go_ret2
    exact ⟨rfl, rfl⟩
set_option maxHeartbeats 2000000 in
theorem empty_any {w : World} {sb g tb cap most : Nat} {N : List Nd} (h : St w sb g tb cap most N) (level : Nat) (hl : level ≤ 62) :
    Calls Try.prog 18 #[.pointer (some ⟨sb, 0, none⟩), .int .i64 (level : Int)] w fun e w' => ∃ g' cap', e = .returned (.tuple #[.int .u32 ((emZ most level N 0).2.1 : Int), errV (emZ most level N 0).2.2]) ∧ St w' sb g' tb cap' most (emZ most level N 0).1 ∧ Frm [sb, g, tb] w w' ∧ (g' = g ∨ w.heap.size ≤ g') := by
  have hd : decide (0 < N.length) = true := by have := h.wf.two; simp; omega
  have HIS : Hid (Calls Try.prog 26 #[.pointer (some ⟨sb, 0, none⟩), .int .u32 ((0 : Nat) : Int)] w fun e w' => e = .returned (.bool true) ∧ w = w') := by
    have := is_any h 0 (by omega)
    rw [hd] at this
    exact this
  have HS := Lib.hid h
  have g0 : decide ((level : Int) < 0) = false := by simp
  have g1 : decide ((62 : Int) < (level : Int)) = false := by simp; omega
  clear h hd
  go_enter Try.func18, Try.ntmps18
  go_wp2_with fail
  refine HIS.out.mono ?_
  rintro e w' ⟨rfl, rfl⟩
  go_wp2_with fail
  clear g0 g1
  go_loopg [6, 7, 8, 22] level (fun m xv av ev i wr => ∃ (j x gg cc : Nat) (M : List Nd), m = level - j ∧ j ≤ level ∧ i = .int .i64 (j : Int) ∧ xv = .int .u32 (x : Int) ∧ St wr sb gg tb cc most M ∧ emZ most level N 0 = emZ most (level - j) M x ∧ x < M.length ∧ Frm [sb, g, tb] w wr ∧ (gg = g ∨ w.heap.size ≤ gg))
  case atStart => exact ⟨0, 0, g, cap, N, rfl, Nat.zero_le _, rfl, rfl, HS.out, rfl, by have := HS.out.wf.two; omega, Frm.refl _ _, Or.inl rfl⟩
  case round =>
    obtain ⟨j, x, gg, cc, M, hm, hj, rfl, rfl, hS, hE, hx, hF, hg⟩ := hrel
    have HM := Lib.hid hm
    have HS1 := Lib.hid hS
    have HE := Lib.hid hE
    have HX := Lib.hid hx
    have HF := Lib.hid hF
    have HG := Lib.hid hg
    clear hm hS hE hx hF hg HS
    by_cases hlt : j < level
    · have hgj : decide ((j : Int) < (level : Int)) = true := by simp; omega
      have HIK : Hid (InK (x, x, x, x)) := by
        have h1 := HX.out
        have h2 := HS1.out.room
        have h3 := HS1.out.most_le
        exact ⟨by show x < _; omega, by show x < _; omega, by show x < _; omega, by show x < _; omega⟩
      have HEN : Hid (emZ most (level - j) M x = if (mkZ M most (x, x, x, x)).2.2 = 0 then emZ most (level - (j + 1)) (mkZ M most (x, x, x, x)).1 (mkZ M most (x, x, x, x)).2.1 else ((mkZ M most (x, x, x, x)).1, 0, (mkZ M most (x, x, x, x)).2.2)) := by
        show _ = _
        rw [show level - j = (level - (j + 1)) + 1 by omega]
        rfl
      go_wp2_with fail
      refine (make_any HS1.out (x, x, x, x) HIK.out).mono ?_
      rintro e W1 ⟨g1, c1, rfl, hS, hF, hg⟩
      have HS2 := Lib.hid hS
      have HF2 : Hid (Frm [sb, g, tb] w W1) := by
        refine HF.out.trans hF (fun b hb => ?_)
        simp only [List.mem_cons, List.not_mem_nil, or_false] at hb
        rcases hb with e | e | e
        · exact Or.inl (by simp [e])
        · rcases HG.out with e' | e'
          · exact Or.inl (by simp [e, e'])
          · exact Or.inr (by omega)
        · exact Or.inl (by simp [e])
      have HG2 : Hid (g1 = g ∨ w.heap.size ≤ g1) := by
        rcases hg with e | e
        · rcases HG.out with e' | e'
          · exact Or.inl (by omega)
          · exact Or.inr (by omega)
        · exact Or.inr (Nat.le_trans HF.out.size e)
      clear hS hF hg
      by_cases he : (mkZ M most (x, x, x, x)).2.2 = 0
      · have HLT := Lib.hid (mk_lt HS1.out.wf he)
        have hen := HEN.out
        rw [if_pos he] at hen
        have HEN2 := Lib.hid hen
        clear hen
        have hev : errV (mkZ M most (x, x, x, x)).2.2 = .nilIface := by unfold errV; rw [if_pos he]
        rw [hev]
        generalize (mkZ M most (x, x, x, x)).2.1 = y at *
        generalize (mkZ M most (x, x, x, x)).1 = M2 at *
        clear he hev HEN
        go_wp2_with fail
        go_roundg (level - (j + 1))
        case measure => rw [HM.out]; omega
        case rel => exact ⟨j + 1, y, g1, c1, M2, rfl, hlt, by go_num, rfl, HS2.out, by rw [HE.out, HEN2.out], HLT.out, HF2.out, HG2.out⟩
      · have hen := HEN.out
        rw [if_neg he] at hen
        have HEN2 := Lib.hid (HE.out.trans hen)
        clear hen
        have hev : errV (mkZ M most (x, x, x, x)).2.2 = .iface 53 (.int .i64 ((mkZ M most (x, x, x, x)).2.2 : Int)) := by unfold errV; rw [if_neg he]
        rw [hev]
        have HEV := Lib.hid hev
        clear he hev HEN HE
        go_wp2_with fail
        go_ret2
        refine ⟨g1, c1, ?_, by rw [HEN2.out]; exact HS2.out, HF2.out, HG2.out⟩
        rw [HEN2.out]
        simp only [HEV.out]
        rfl
    · obtain rfl : j = level := by omega
      have hgj : decide ((j : Int) < (j : Int)) = false := by simp
      have he := HE.out
      rw [Nat.sub_self] at he
      have HE2 : Hid (emZ most j N 0 = (M, x, 0)) := he
      clear he HE
      go_wp2_with fail
      go_ret2
      refine ⟨gg, cc, ?_, by rw [HE2.out]; exact HS1.out, HF.out, HG.out⟩
      rw [HE2.out]; rfl
end Go.Proofs.Ytgciceogggldhaa
