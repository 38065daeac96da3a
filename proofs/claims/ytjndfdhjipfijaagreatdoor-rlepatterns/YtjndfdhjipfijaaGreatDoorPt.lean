/- Rows of points (two numbers each); package rle's stretch; a row cut: contracts. -/
import Derived.Test.YtjndfdhjipfijaaGreatDoorWtr2
import Derived.Laws.StructEq
namespace Go.Proofs.YtjndfdhjipfijaaGreatDoor
open Go.RowKit

/-- Points in a row, as a slice holds them, below block B. -/
def Pts (w : World) (B : Nat) (a : Option Addr) (cs : List (Int × Int)) : Prop :=
  ∀ (j : Nat) c, cs[j]? = some c → ∃ bk off, a = some ⟨bk, off, none⟩ ∧ bk < B ∧ w.cell? ⟨bk, off + j * 2, none⟩ = some (.int .i64 c.1) ∧ w.cell? ⟨bk, off + j * 2 + 1, none⟩ = some (.int .i64 c.2)
theorem Pts.later {w w' : World} {B B' : Nat} {a : Option Addr} {cs : List (Int × Int)} (h : Pts w B a cs) (hb : Below B' w w') (hB : B ≤ B') : Pts w' B a cs := by
  intro j c hc
  obtain ⟨bk, off, h1, h2, h3, h4⟩ := h j c hc
  exact ⟨bk, off, h1, h2, by rw [hb.cell (p := ⟨bk, off + j * 2, none⟩) (show bk < B' by omega)]; exact h3, by rw [hb.cell (p := ⟨bk, off + j * 2 + 1, none⟩) (show bk < B' by omega)]; exact h4⟩
theorem Pts.mono {w : World} {B B' : Nat} {a : Option Addr} {cs : List (Int × Int)} (h : Pts w B a cs) (hB : B ≤ B') : Pts w B' a cs := by
  intro j c hc
  obtain ⟨bk, off, h1, h2, h3⟩ := h j c hc
  exact ⟨bk, off, h1, by omega, h3⟩
theorem Pts.nil {w : World} {B : Nat} {a : Option Addr} : Pts w B a [] := by intro j c hc; simp at hc
/-- A cell as two numbers. -/
def zc (c : Nat × Nat) : Int × Int := ((c.1 : Int), (c.2 : Int))
theorem Pts.at0 {w : World} {B : Nat} {a : Option Addr} {c : Int × Int} {r : List (Int × Int)} (h : Pts w B a (c :: r)) : ∃ bk off, a = some ⟨bk, off, none⟩ ∧ bk < B ∧ w.cell? ⟨bk, off, none⟩ = some (.int .i64 c.1) ∧ w.cell? ⟨bk, off + 1, none⟩ = some (.int .i64 c.2) := by
  obtain ⟨bk, off, h1, h2, h3, h4⟩ := h 0 c rfl
  exact ⟨bk, off, h1, h2, by simpa using h3, by simpa using h4⟩
theorem Pts.atj {w : World} {B : Nat} {bk off : Nat} {cs : List (Int × Int)} (h : Pts w B (some ⟨bk, off, none⟩) cs) {j : Nat} {c : Int × Int} (hc : cs[j]? = some c) : w.cell? ⟨bk, off + j * 2, none⟩ = some (.int .i64 c.1) ∧ w.cell? ⟨bk, off + j * 2 + 1, none⟩ = some (.int .i64 c.2) := by
  obtain ⟨bk', off', h1, h2, h3, h4⟩ := h j c hc
  obtain ⟨rfl, rfl⟩ : bk = bk' ∧ off = off' := by simpa using h1
  exact ⟨h3, h4⟩

theorem below_drewN {B : Nat} {w0 w : World} (h : Below B w0 w) (q : Nat) : Below B w0 (w.drewN q) := ⟨h.os, h.tape, h.output, h.size, h.block⟩
theorem retI {a b : Int} (h : a = b) : Ending.returned (.int .i64 a) = .returned (.int .i64 b) := by rw [h]
theorem stretch_is : ∀ (r : List (Nat × Nat)) (p : Nat × Nat) (m : Nat), (∀ i, i < m → r[i]? = some (p.1 + 1 + i, p.2)) → r[m]? ≠ some (p.1 + 1 + m, p.2) → stretch p r = m
  | [], p, m, h, _ => by
    cases m with
    | zero => rfl
    | succ m => have := h 0 (by omega); simp at this
  | c :: r, p, m, h, hn => by
    simp only [stretch]
    cases m with
    | zero =>
      rw [if_neg]
      rintro ⟨h1, h2⟩
      exact hn (by simp only [List.getElem?_cons_zero]; congr 1; exact Prod.ext (by simp [h2]) h1)
    | succ m =>
      have h0 := h 0 (by omega)
      obtain rfl : c = (p.1 + 1, p.2) := by simpa using h0
      have hs : stretch (p.1 + 1, p.2) r = m := by
        refine stretch_is r (p.1 + 1, p.2) m (fun i hi => ?_) ?_
        · have := h (i + 1) (by omega)
          rw [List.getElem?_cons_succ] at this
          rw [this]
          congr 1
          exact Prod.ext (by simp; omega) rfl
        · rw [List.getElem?_cons_succ] at hn
          intro e
          apply hn
          rw [e]
          congr 1
          exact Prod.ext (by simp; omega) rfl
      rw [if_pos ⟨rfl, rfl⟩, hs, Nat.add_comm]

set_option maxRecDepth 100000 in
set_option maxHeartbeats 1000000 in
theorem stretch_any (c : Nat × Nat) (r : List (Nat × Nat)) (w : World) (B n cap : Nat) (hn : n = r.length + 1) (a : Option Addr) (h : Pts w B a ((c :: r).map zc)) (hl : r.length ≤ 1000000) (hc1 : c.1 ≤ 1000000) :
    Calls Tryz.prog 22 #[.slice a n cap] w fun e w' => e = .returned (.int .i64 ((1 + stretch c r : Nat) : Int)) ∧ Below w.heap.size w w' := by
  obtain ⟨bk, off, rfl, hbk, x0, x1⟩ := h.at0
  have hbw : bk < w.heap.size := blk_lt x0
  have HP := Lib.hid h
  have HN := Lib.hid hn
  clear h hn
  go_enter Tryz.func22, Tryz.ntmps22
  go_wp2
  go_loopg [3] r.length (fun k v wr => ∃ j : Nat, k = r.length - j ∧ j ≤ r.length ∧ v = .int .i64 ((j : Int) + 1) ∧ (∀ i, i < j → r[i]? = some (c.1 + 1 + i, c.2)) ∧ Below w.heap.size w wr)
  case atStart => exact ⟨0, by omega, by omega, rfl, fun i hi => by omega, Below.refl _ _⟩
  case round =>
    obtain ⟨j, hm, hj, rfl, hi, hb⟩ := hrel
    have HI := Lib.hid hi
    have HM := Lib.hid hm
    have HB := Lib.hid hb
    have c0 : wr.cell? ⟨bk, off, none⟩ = some (.int .i64 (c.1 : Int)) := by rw [hb.cell (p := ⟨bk, off, none⟩) hbw]; exact x0
    have c1 : wr.cell? ⟨bk, off + 1, none⟩ = some (.int .i64 (c.2 : Int)) := by rw [hb.cell (p := ⟨bk, off + 1, none⟩) hbw]; exact x1
    clear hi hm hb
    by_cases hlt : j < r.length
    · obtain ⟨d, hd⟩ : ∃ d, r[j]? = some d := ⟨r[j], List.getElem?_eq_getElem hlt⟩
      obtain ⟨y0, y1⟩ := HP.out.atj (j := j + 1) (c := zc d) (by simp [hd])
      have d0 : wr.cell? ⟨bk, off + (j + 1) * 2, none⟩ = some (.int .i64 (d.1 : Int)) := by rw [HB.out.cell (p := ⟨bk, off + (j + 1) * 2, none⟩) hbw]; exact y0
      have d1 : wr.cell? ⟨bk, off + (j + 1) * 2 + 1, none⟩ = some (.int .i64 (d.2 : Int)) := by rw [HB.out.cell (p := ⟨bk, off + (j + 1) * 2 + 1, none⟩) hbw]; exact y1
      have HG : Hid (decide ((j : Int) + 1 < (n : Int)) = true) := by show _ = _; have := HN.out; simp; omega
      have HD := Lib.hid hd
      have HL := Lib.hid hlt
      clear hd y0 y1 hlt
      have hw1 : IntKind.i64.wrap ((c.1 : Int) + ((j : Int) + 1)) = (c.1 : Int) + ((j : Int) + 1) := IntWalk.i64_in _ (by omega)
      have hw2 : IntKind.i64.wrap ((j : Int) + 1 + 1) = (j : Int) + 1 + 1 := IntWalk.i64_in _ (by omega)
      have hg := HG.out
      have hi0 : (0 : Int) < (n : Int) := by have := HN.out; omega
      have hi1 : (j : Int) + 1 < (n : Int) := by have := HN.out; have := HL.out; omega
      have hi2 : (0 : Int) ≤ (j : Int) + 1 := by omega
      by_cases he : d.1 = c.1 + 1 + j ∧ d.2 = c.2
      · have e1 : ((d.1 : Int) == (c.1 : Int) + ((j : Int) + 1)) = true := by rw [beq_iff_eq]; omega
        have e2 : ((d.2 : Int) == (c.2 : Int)) = true := by rw [beq_iff_eq]; omega
        have HE := Lib.hid he
        clear he
        go_wp2
        go_quiet (fail)
        go_wp2
        go_roundg (r.length - (j + 1))
        case measure => rw [HM.out]; have := HL.out; omega
        case rel =>
          refine ⟨j + 1, rfl, HL.out, by go_num, fun i hi => ?_, ?_⟩
          · rcases Nat.lt_or_ge i j with h | h
            · exact HI.out i h
            · obtain rfl : i = j := by omega
              rw [HD.out]
              congr 1
              exact Prod.ext HE.out.1 HE.out.2
          · exact below_drewN HB.out _
      · have HS : Hid (stretch c r = j) := stretch_is r c j HI.out (fun e => he (by
          have := HD.out
          rw [this] at e
          obtain rfl := Option.some.inj e
          exact ⟨rfl, rfl⟩))
        by_cases hx : d.1 = c.1 + 1 + j
        · have e1 : ((d.1 : Int) == (c.1 : Int) + ((j : Int) + 1)) = true := by rw [beq_iff_eq]; omega
          have e2 : ((d.2 : Int) == (c.2 : Int)) = false := by rw [beq_eq_false_iff_ne]; omega
          clear he hx
          go_wp2
          go_quiet (fail)
          go_wp2
          go_ret
          exact ⟨retI (by rw [HS.out]; omega), below_drewN HB.out _⟩
        · have e1 : ((d.1 : Int) == (c.1 : Int) + ((j : Int) + 1)) = false := by rw [beq_eq_false_iff_ne]; omega
          clear he hx
          go_wp2
          go_quiet (fail)
          go_wp2
          go_ret
          exact ⟨retI (by rw [HS.out]; omega), below_drewN HB.out _⟩
    · have HS : Hid (stretch c r = j) := stretch_is r c j HI.out (by rw [List.getElem?_eq_none (by omega)]; simp)
      have HG : Hid (decide ((j : Int) + 1 < (n : Int)) = false) := by show _ = _; have := HN.out; simp; omega
      clear hlt
      have hg := HG.out
      go_wp2
      go_quiet (fail)
      go_wp2
      go_ret
      exact ⟨retI (by rw [HS.out]; omega), below_drewN HB.out _⟩
set_option maxRecDepth 100000 in
/-- l[k:] of points. -/
theorem cut_pts {w : World} {B : Nat} {a : Option Addr} {c : Nat} {zs : List (Int × Int)} (h : Pts w B a zs) (n : Nat) (hn : n = zs.length) (hc : n ≤ c) (k : Nat) (hk : k ≤ n) :
    ∃ a', (∀ w, (Instr.slice 22 (.slice a n c) (some (.int .i64 (k : Int))) none none).run Tryz.prog w = .ok (.slice a' (n - k) (c - k)) w) ∧ Pts w B a' (zs.drop k) := by
  subst hn
  refine ⟨if c = k then a else a.map (·.add (k * 2)), fun w => ?_, fun j z hz => ?_⟩
  · rw [run_slice_l (P := Tryz.prog) (w := w) 22 _ _ _ Tryz.underlying22 .i64 (k : Int) (by omega) (by omega), show Tryz.prog.elem 22 = 26 by kernel_rfl, Tryz.sizeOf26]
    simp [Result.andThen, sliced]
  · have hj : j < zs.length - k := by have := (List.getElem?_eq_some_iff.1 hz).1; simpa using this
    rw [List.getElem?_drop] at hz
    obtain ⟨bk, off, rfl, h2, h3, h4⟩ := h (k + j) z hz
    rw [if_neg (by omega)]
    refine ⟨bk, off + k * 2, by simp [add_at], h2, ?_, ?_⟩
    · rw [show off + k * 2 + j * 2 = off + (k + j) * 2 by omega]; exact h3
    · rw [show off + k * 2 + j * 2 + 1 = off + (k + j) * 2 + 1 by omega]; exact h4
end Go.Proofs.YtjndfdhjipfijaaGreatDoor
