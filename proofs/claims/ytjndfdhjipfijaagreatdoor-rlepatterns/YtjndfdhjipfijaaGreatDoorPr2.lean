/- Package rle: one run: what its letter does: contracts. -/
import Derived.Test.YtjndfdhjipfijaaGreatDoorPr
namespace Go.Proofs.YtjndfdhjipfijaaGreatDoor
open Go.RowKit

set_option maxRecDepth 100000 in
set_option maxHeartbeats 1000000 in
theorem do_b (rb : Nat) (S : ByteArray) (p x y W H n : Nat) (cs : List (Nat × Nat)) (w : World) (h : RdAt w rb S p x y W H cs) (hn : n ≤ 1024) (hW : W ≤ 1024) (hx : x + n ≤ W) :
    Calls Tryz.prog 70 #[.pointer (some ⟨rb, 0, none⟩), .int .i64 (n : Int), .int .u8 98] w fun e w' => e = .returned (.bool true) ∧ RdAt w' rb S p (x + n) y W H cs ∧ Below rb w w' := by
  obtain ⟨c0, c1, c2, c3, c4, c5⟩ := h.cells
  have f2 := h.frozen 2
  have HR := Lib.hid h
  have hw : IntKind.i64.wrap ((x : Int) + (n : Int)) = ((x + n : Nat) : Int) := by rw [IntWalk.i64_in _ (by omega)]; omega
  clear h c0 c1 c3 c5
  go_enter Tryz.func70, Tryz.ntmps70
  go_upto_region 8 with fail
  have HR2 : Hid (RdAt (w.setCell ⟨rb, 2, none⟩ (.int .i64 ((x : Int) + (n : Int)))) rb S p (x + n) y W H cs) := by
    have := HR.out.setX (x + n)
    rw [Int.natCast_add] at this
    exact this
  have HB2 : Hid (Below rb w (w.setCell ⟨rb, 2, none⟩ (.int .i64 ((x : Int) + (n : Int))))) := (Below.refl _ _).setCell (p := ⟨rb, 2, none⟩) (Nat.le_refl _) _
  clear c2 c4 f2
  generalize w.setCell ⟨rb, 2, none⟩ (.int .i64 ((x : Int) + (n : Int))) = w2 at *
  obtain ⟨_, _, c2, _, c4, _⟩ := HR2.out.cells
  have hg : decide ((x : Int) + (n : Int) ≤ (W : Int)) = true := by simp; omega
  go_quiet (fail)
  go_wp2_with fail
  go_ret
  exact ⟨rfl, HR2.out, below_drewN HB2.out _⟩

set_option maxRecDepth 100000 in
set_option maxHeartbeats 1000000 in
theorem do_d (rb : Nat) (S : ByteArray) (p x y W H n : Nat) (cs : List (Nat × Nat)) (w : World) (h : RdAt w rb S p x y W H cs) (hn : n ≤ 1024) (hy : y + n ≤ 1024) :
    Calls Tryz.prog 70 #[.pointer (some ⟨rb, 0, none⟩), .int .i64 (n : Int), .int .u8 36] w fun e w' => e = .returned (.bool true) ∧ RdAt w' rb S p 0 (y + n) W H cs ∧ Below rb w w' := by
  obtain ⟨c0, c1, c2, c3, c4, c5⟩ := h.cells
  have f2 := h.frozen 2
  have f3 := h.frozen 3
  have HR := Lib.hid h
  have hw : IntKind.i64.wrap ((y : Int) + (n : Int)) = ((y + n : Nat) : Int) := by rw [IntWalk.i64_in _ (by omega)]; omega
  have hg : decide ((y : Int) + (n : Int) ≤ 1024) = true := by simp; omega
  clear h c0 c1 c4 c5
  go_enter Tryz.func70, Tryz.ntmps70
  go_wp2_with fail
  go_ret
  refine ⟨rfl, ?_, ((Below.refl _ _).setCell (p := ⟨rb, 2, none⟩) (Nat.le_refl _) _).setCell (p := ⟨rb, 3, none⟩) (Nat.le_refl _) _⟩
  have := (HR.out.setX 0).setY (y + n)
  rw [Int.natCast_add] at this
  exact this

set_option maxRecDepth 100000 in
set_option maxHeartbeats 1000000 in
theorem do_o (rb : Nat) (S : ByteArray) (p x y W H n : Nat) (cs : List (Nat × Nat)) (w : World) (h : RdAt w rb S p x y W H cs) (hn : n ≤ 1024) (hW : W ≤ 1024) (hx : x + n ≤ W) (hy : y < H) (hl : cs.length + n ≤ 20000) :
    Calls Tryz.prog 70 #[.pointer (some ⟨rb, 0, none⟩), .int .i64 (n : Int), .int .u8 111] w fun e w' => e = .returned (.bool true) ∧ RdAt w' rb S p (x + n) y W H (cs ++ (List.range n).map fun j => (x + j, y)) ∧ Below rb w w' := by
  have HL := Lib.hid (live_any rb S p x y W H n cs w h hn (by omega) hy hl)
  clear h
  generalize (cs ++ (List.range n).map fun j => (x + j, y)) = ds at *
  go_enter Tryz.func70, Tryz.ntmps70
  go_wp2_with fail
  refine HL.out.mono ?_
  rintro e w1 ⟨rfl, h1, hb1⟩
  obtain ⟨c0, c1, c2, c3, c4, c5⟩ := h1.cells
  have f2 := h1.frozen 2
  have HR := Lib.hid h1
  have HB := Lib.hid hb1
  have hw : IntKind.i64.wrap ((x : Int) + (n : Int)) = ((x + n : Nat) : Int) := by rw [IntWalk.i64_in _ (by omega)]; omega
  clear h1 hb1 c0 c1 c3 c5
  go_upto_region 8 with fail
  have HR2 : Hid (RdAt (w1.setCell ⟨rb, 2, none⟩ (.int .i64 ((x : Int) + (n : Int)))) rb S p (x + n) y W H ds) := by
    have := HR.out.setX (x + n)
    rw [Int.natCast_add] at this
    exact this
  have HB2 : Hid (Below rb w (w1.setCell ⟨rb, 2, none⟩ (.int .i64 ((x : Int) + (n : Int))))) := HB.out.setCell (p := ⟨rb, 2, none⟩) (Nat.le_refl _) _
  clear c2 c4 f2
  generalize w1.setCell ⟨rb, 2, none⟩ (.int .i64 ((x : Int) + (n : Int))) = w2 at *
  obtain ⟨_, _, c2, _, c4, _⟩ := HR2.out.cells
  have hg : decide ((x : Int) + (n : Int) ≤ (W : Int)) = true := by simp; omega
  go_quiet (fail)
  go_wp2_with fail
  go_ret
  exact ⟨rfl, HR2.out, below_drewN HB2.out _⟩

/-! Plain: what a run is -/
theorem fold_ge : ∀ (d : List UInt8) (a : Nat), a * 10 ^ d.length ≤ d.foldl (fun n c => 10 * n + (c.toNat - 48)) a
  | [], a => by simp
  | c :: d, a => by
    simp only [List.length_cons, List.foldl_cons]
    refine Nat.le_trans ?_ (fold_ge d _)
    rw [Nat.pow_succ, Nat.mul_comm (10 ^ d.length) 10, ← Nat.mul_assoc]
    exact Nat.mul_le_mul_right _ (by omega)
theorem digs_split (W H : Nat) (L : List (Nat × Nat)) (k : Nat) : ∀ (t : List UInt8) (i : Nat) (s : RSt), runsP W H t i s = (L, 0, k) →
    ∃ c' r', t = t.takeWhile isDig ++ c' :: r' ∧ isDig c' = false ∧ runsP W H (c' :: r') (i + (t.takeWhile isDig).length) { s with n := (t.takeWhile isDig).foldl (fun n c => 10 * n + (c.toNat - 48)) s.n } = (L, 0, k) ∧
      (t.takeWhile isDig ≠ [] → 1 ≤ (t.takeWhile isDig).foldl (fun n c => 10 * n + (c.toNat - 48)) s.n ∧ (t.takeWhile isDig).foldl (fun n c => 10 * n + (c.toNat - 48)) s.n ≤ 1024 ∧ (∀ c d, t.takeWhile isDig = c :: d → 10 * s.n + (c.toNat - 48) ≠ 0))
  | [], i, s, h => by simp [runsP] at h
  | c :: r, i, s, h => by
    by_cases hc : isDig c = true
    · have hn := dig_not hc
      simp only [runsP] at h
      rw [if_neg (fun e => hn.2.1 e.1)] at h
      have hr : rstep W H s c = if 10 * s.n + (c.toNat - 48) = 0 ∨ 1024 < 10 * s.n + (c.toNat - 48) then none else some { s with n := 10 * s.n + (c.toNat - 48) } := by
        unfold rstep; rw [if_neg hn.1, if_pos hc]
      by_cases hv : 10 * s.n + (c.toNat - 48) = 0 ∨ 1024 < 10 * s.n + (c.toNat - 48)
      · rw [hr, if_pos hv] at h; simp at h
      · rw [hr, if_neg hv] at h
        simp only [] at h
        obtain ⟨c', r', h1, h2, h3, h4⟩ := digs_split W H L k r (i + 1) _ h
        have ht : (c :: r).takeWhile isDig = c :: r.takeWhile isDig := by rw [List.takeWhile_cons, if_pos hc]
        rw [ht]
        refine ⟨c', r', by rw [List.cons_append, ← h1], h2, ?_, fun _ => ⟨?_, ?_, ?_⟩⟩
        · simp only [List.length_cons, List.foldl_cons]
          rw [show i + ((r.takeWhile isDig).length + 1) = i + 1 + (r.takeWhile isDig).length by omega]
          exact h3
        · simp only [List.foldl_cons]
          by_cases he : r.takeWhile isDig = []
          · rw [he]; simp only [List.foldl_nil]; omega
          · exact (h4 he).1
        · simp only [List.foldl_cons]
          by_cases he : r.takeWhile isDig = []
          · rw [he]; simp only [List.foldl_nil]; omega
          · exact (h4 he).2.1
        · intro c0 d e
          obtain ⟨rfl, _⟩ := List.cons.inj e
          omega
    · have hc' : isDig c = false := by simpa using hc
      have ht : (c :: r).takeWhile isDig = [] := by rw [List.takeWhile_cons, if_neg hc]
      rw [ht]
      exact ⟨c, r, rfl, hc', h, fun e => absurd rfl e⟩
/-- What a run does, its number being k. -/
def runTo (W H : Nat) (s : RSt) (k : Nat) (c : UInt8) (s' : RSt) : Prop :=
  (c = 36 ∧ s.y + k ≤ 1024 ∧ s' = ⟨0, s.y + k, 0, s.cells⟩) ∨ (c = 98 ∧ s.x + k ≤ W ∧ s' = ⟨s.x + k, s.y, 0, s.cells⟩) ∨ (c = 111 ∧ s.x + k ≤ W ∧ s.y < H ∧ s.cells.length + k ≤ 20000 ∧ s' = ⟨s.x + k, s.y, 0, s.cells ++ (List.range k).map fun j => (s.x + j, s.y)⟩)
theorem run_split (W H : Nat) (L : List (Nat × Nat)) (k i : Nat) (t : List UInt8) (s : RSt) (hs : s.n = 0) (h : runsP W H t i s = (L, 0, k)) (hb : ∀ r, t ≠ 32 :: r ∧ t ≠ 10 :: r ∧ t ≠ 33 :: r) :
    ∃ d c' r' m s', t.takeWhile isDig = d ∧ t = d ++ c' :: r' ∧ d.length ≤ 4 ∧ (d = [] → m = 1) ∧ (d ≠ [] → valL d = m) ∧ (∀ c e, d = c :: e → c ≠ 48) ∧ 1 ≤ m ∧ m ≤ 1024 ∧ runTo W H s m c' s' ∧ s'.n = 0 ∧ runsP W H r' (i + d.length + 1) s' = (L, 0, k) := by
  obtain ⟨c', r', h1, h2, h3, h4⟩ := digs_split W H L k t i s h
  rw [hs] at h3 h4
  generalize hd : t.takeWhile isDig = d at *
  have hall : d.all isDig = true := by rw [← hd]; exact List.all_takeWhile
  obtain ⟨m, hmax, hm1, hm2⟩ : ∃ m, max (d.foldl (fun n c => 10 * n + (c.toNat - 48)) 0) 1 = m ∧ (d = [] → m = 1) ∧ (d ≠ [] → valL d = m) := by
    refine ⟨_, rfl, fun e => by rw [e]; simp, fun e => ?_⟩
    have := (h4 e).1
    unfold valL; omega
  have hnot : ¬ (c' = 33 ∧ d.foldl (fun n c => 10 * n + (c.toNat - 48)) 0 = 0) := by
    rintro ⟨e1, e2⟩
    by_cases he : d = []
    · rw [he, List.nil_append, e1] at h1; exact (hb r').2.2 h1
    · have := (h4 he).1; omega
  simp only [runsP] at h3
  rw [if_neg hnot] at h3
  cases hr : rstep W H { s with n := d.foldl (fun n c => 10 * n + (c.toNat - 48)) 0 } c' with
  | none => rw [hr] at h3; simp at h3
  | some s' =>
    rw [hr] at h3
    simp only [] at h3
    have hk : runTo W H s m c' s' ∧ s'.n = 0 := by
      unfold rstep at hr
      simp only [hmax] at hr
      by_cases b1 : c' = 32 ∨ c' = 10
      · rw [if_pos b1] at hr
        by_cases he : d = []
        · rw [he, List.nil_append] at h1
          rcases b1 with b | b
          · rw [b] at h1; exact absurd h1 (hb r').1
          · rw [b] at h1; exact absurd h1 (hb r').2.1
        · rw [if_pos (by have := (h4 he).1; omega)] at hr; cases hr
      rw [if_neg b1, if_neg (by rw [h2]; simp)] at hr
      by_cases b2 : c' = 36
      · rw [if_pos b2] at hr
        split at hr
        · cases hr
        · obtain rfl := Option.some.inj hr
          exact ⟨Or.inl ⟨b2, by omega, rfl⟩, rfl⟩
      rw [if_neg b2] at hr
      by_cases b3 : c' = 98
      · rw [if_pos b3] at hr
        split at hr
        · cases hr
        · obtain rfl := Option.some.inj hr
          exact ⟨Or.inr (Or.inl ⟨b3, by omega, rfl⟩), rfl⟩
      rw [if_neg b3] at hr
      by_cases b4 : c' = 111
      · rw [if_pos b4] at hr
        split at hr
        · cases hr
        · obtain rfl := Option.some.inj hr
          exact ⟨Or.inr (Or.inr ⟨b4, by omega, by omega, by omega, rfl⟩), rfl⟩
      · rw [if_neg b4] at hr; cases hr
    refine ⟨d, c', r', m, s', rfl, h1, ?_, hm1, hm2, ?_, by omega, ?_, hk.1, hk.2, h3⟩
    · match d, h4 with
      | [], _ => simp
      | c :: e, h4 =>
        obtain ⟨g1, g2, g3⟩ := h4 (by simp)
        have g4 := g3 c e rfl
        have g5 := fold_ge e (10 * 0 + (c.toNat - 48))
        simp only [List.foldl_cons] at g2
        have g6 : 10 ^ e.length ≤ 1024 := by
          refine Nat.le_trans ?_ (Nat.le_trans g5 g2)
          exact Nat.le_mul_of_pos_left _ (by omega)
        simp only [List.length_cons]
        rcases Nat.lt_or_ge e.length 4 with h | h
        · omega
        · have : 10 ^ 4 ≤ 10 ^ e.length := Nat.pow_le_pow_right (by omega) h
          omega
    · intro c e he
      obtain ⟨_, _, g3⟩ := h4 (by rw [he]; simp)
      have := g3 c e he
      rintro rfl
      exact this rfl
    · by_cases he : d = []
      · rw [hm1 he]; omega
      · rw [← hm2 he]; exact (h4 he).2.1
end Go.Proofs.YtjndfdhjipfijaaGreatDoor
