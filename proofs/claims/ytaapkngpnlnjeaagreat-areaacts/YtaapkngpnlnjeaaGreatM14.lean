-- M14
import Derived.Test.YtaapkngpnlnjeaaGreatM13
import Derived.Deep.DeepCutAuto
import Derived.Deep.CutRange
import Derived.Test.YtaapkngpnlnjeaaGreatM12
section
namespace Go.Proofs.YtaapkngpnlnjeaaGreat
open Go.RowKit Go.Maps
set_option maxRecDepth 100000

theorem Tryz.infoP7 : (Tryz.prog.info? 45).map (fun i => (i.zero, i.size, i.bytes)) = some (some (.agg #[.int .i64 0, .int .i64 0]), 2, 16) := by kernel_rfl
theorem infoP7 : ∃ i, Tryz.prog.info? 45 = some i ∧ i.zero = some (.agg #[.int .i64 0, .int .i64 0]) ∧ i.size = 2 ∧ i.bytes = 16 := by
  obtain ⟨i, hi, h⟩ := Option.map_eq_some_iff.1 Tryz.infoP7
  simp only [Prod.mk.injEq] at h
  exact ⟨i, hi, h.1, h.2.1, h.2.2⟩
/-- Points as cells. -/
def ptVs (l : List (Int × Int)) : List Value := l.flatMap fun c => [.int .i64 c.1, .int .i64 c.2]
theorem ptVs_len (l : List (Int × Int)) : (ptVs l).length = l.length * 2 := by
  induction l with
  | nil => rfl
  | cons c r ih => simp only [ptVs, List.flatMap_cons, List.length_append, List.length_cons, List.length_nil] at ih ⊢; omega
theorem ptVs_at : ∀ (l : List (Int × Int)) (j : Nat), (ptVs l)[j * 2]? = l[j]?.map (fun c => .int .i64 c.1) ∧ (ptVs l)[j * 2 + 1]? = l[j]?.map (fun c => .int .i64 c.2)
  | [], j => by simp [ptVs]
  | c :: r, 0 => by simp [ptVs]
  | c :: r, j + 1 => by
    obtain ⟨h1, h2⟩ := ptVs_at r j
    simp only [ptVs, List.flatMap_cons, List.cons_append, List.nil_append, show (j + 1) * 2 = j * 2 + 1 + 1 by omega, List.getElem?_cons_succ] at h1 h2 ⊢
    exact ⟨h1, h2⟩
/-- A row of points of the call's own. -/
def OwP (w : World) (B : Nat) (v : Value) (l : List (Int × Int)) : Prop := w.ownsRow B 45 2 v l.length (ptVs l)
theorem OwP.ro {w : World} {B : Nat} {v : Value} {l : List (Int × Int)} (h : OwP w B v l) : ∃ a cap, v = .slice a l.length cap ∧ Ro w a l ∧ ∀ bk off, a = some ⟨bk, off, none⟩ → B ≤ bk ∧ bk < w.heap.size := by
  have h' := h
  rcases h.2 with ⟨hv, hn0⟩ | ⟨g, cp, cur, hv, hB, hg, h1, h2, _, _⟩
  · obtain rfl : l = [] := List.eq_nil_of_length_eq_zero (by omega)
    exact ⟨none, 0, hv, Ro.nil _ _, fun bk off e => by cases e⟩
  · subst hv
    refine ⟨_, _, rfl, fun j c hc => ?_, fun bk off e => ?_⟩
    · have hj : j < l.length := (List.getElem?_eq_some_iff.1 hc).1
      obtain ⟨e1, e2⟩ := ptVs_at l j
      rw [hc] at e1 e2
      exact ⟨g, rfl, by rw [World.ownsRow.cellAt h' (j * 2) (by omega)]; exact e1, by rw [World.ownsRow.cellAt h' (j * 2 + 1) (by omega)]; exact e2⟩
    · cases e
      exact ⟨hB, (Array.getElem?_eq_some_iff.1 hg).1⟩
def setL (l : List (Int × Int)) (p : Int × Int) (alive : Bool) : List (Int × Int) := l.filter (fun c => !decide (c = p)) ++ if alive then [p] else []
theorem own_nil (w : World) (B : Nat) : OwP w B (.slice none 0 0) [] := ⟨rfl, Or.inl ⟨rfl, rfl⟩⟩
theorem cell_pair (w : World) (x y : Int) (t : TypeId) : ∀ j u, [Value.int .i64 x, Value.int .i64 y][j]? = some u → (w.alloc (.cells #[.int .i64 x, .int .i64 y] t)).cell? ((⟨w.heap.size, 0, none⟩ : Addr).add j) = some u := fun j u hu => by
  match j, hu with
  | 0, hu => simp at hu; subst hu; simp [Addr.add]
  | 1, hu => simp at hu; subst hu; simp [Addr.add]
  | j + 2, hu => simp at hu
theorem OwP.ahead {w : World} {B : Nat} {v : Value} {l : List (Int × Int)} (h : OwP w B v l) (k : Nat) (o : Obj) : ((w.drewN k).alloc o).ownsRow B 45 2 v l.length (ptVs l) := by
  have h' : (w.drewN k).ownsRow B 45 2 v l.length (ptVs l) := h
  exact h'.alloc o
theorem OwP.mono {w : World} {B B' : Nat} {v : Value} {l : List (Int × Int)} (h : OwP w B v l) (hB : B' ≤ B) : OwP w B' v l := by
  refine ⟨h.1, ?_⟩
  rcases h.2 with h1 | ⟨g, cp, cur, hv, h0, r⟩
  · exact Or.inl h1
  · exact Or.inr ⟨g, cp, cur, hv, Nat.le_trans hB h0, r⟩
theorem ptVs_snoc (l : List (Int × Int)) (c : Int × Int) : ptVs (l ++ [c]) = ptVs l ++ [.int .i64 c.1, .int .i64 c.2] := by simp [ptVs]
set_option maxHeartbeats 2000000 in
theorem set_refB (l : List (Int × Int)) (a : Option Addr) (cap : Nat) (p q : Int) (alive : Bool) (w : World) (h : Ro w a l) (hl : l.length ≤ 1000000) :
    Calls Tryz.prog 34 #[.slice a l.length cap, .agg #[.int .i64 p, .int .i64 q], .bool alive] w fun e w' => ∃ v, e = .returned v ∧ OwP w' w.heap.size v (setL l (p, q) alive) ∧ Below w.heap.size w w' := by
  obtain ⟨i0, hi, hz0, hz1, hz2⟩ := infoP7
  have HI := Lib.hid hi
  have HZ0 := Lib.hid hz0
  have HZ1 := Lib.hid hz1
  have HZ2 := Lib.hid hz2
  clear hi hz0 hz1 hz2
  have HB := Lib.hid (bel1 w (.cells #[.int .i64 p, .int .i64 q] 45))
  have HR := Lib.hid (h.later HB.out)
  have HP : Hid ((w.alloc (.cells #[.int .i64 p, .int .i64 q] 45)).heap[w.heap.size]? = some (ptO7 p q)) := heap_alloc_new _ _
  have hsz : (w.alloc (.cells #[.int .i64 p, .int .i64 q] 45)).heap.size = w.heap.size + 1 := by simp
  clear h
  go_enter Tryz.func34, Tryz.ntmps34
  go_wp2_with fail
  generalize w.alloc (.cells #[.int .i64 p, .int .i64 q] 45) = W0 at *
  go_loopg [7, 8] l.length (fun m v i wr => ∃ j : Nat, m = l.length - j ∧ j ≤ l.length ∧ i = .int .i64 (j : Int) ∧ OwP wr W0.heap.size v ((l.take j).filter fun c => !decide (c = (p, q))) ∧ Below W0.heap.size W0 wr)
  case atStart => exact ⟨0, rfl, Nat.zero_le _, rfl, own_nil _ _, Below.refl _ _⟩
  case round =>
    obtain ⟨j, hm, hj, rfl, ho, hb⟩ := hrel
    have HM := Lib.hid hm
    have HO := Lib.hid ho
    have HB1 := Lib.hid hb
    have HR1 := Lib.hid (HR.out.later hb)
    have HP1 := Lib.hid (keptR HP.out hb)
    clear hm ho hb
    obtain ⟨q0, q1⟩ := pt_cells7 HP1.out
    by_cases hlt : j < l.length
    · obtain ⟨c, hc⟩ : ∃ c, l[j]? = some c := ⟨l[j], List.getElem?_eq_getElem hlt⟩
      obtain ⟨bk, ha, c0, c1⟩ := HR1.out j c hc
      have HTK : Hid (l.take (j + 1) = l.take j ++ [c]) := by show _ = _; rw [List.take_add_one, hc]; rfl
      subst ha
      clear hc
      have hgj : decide ((j : Int) < (l.length : Int)) = true := by simp; omega
      have i1 : (0 : Int) ≤ (j : Int) := by omega
      have i2 : (j : Int) < (l.length : Int) := by omega
      by_cases he : c = (p, q)
      · have hne : ∀ w, (binOp .neq 45 (.agg #[.int .i64 c.1, .int .i64 c.2]) (.agg #[.int .i64 p, .int .i64 q])).run Tryz.prog w = .ok (.bool false) w := fun w => by
          rw [neP, show (c.1 == p && c.2 == q) = true by rw [he]; simp]; rfl
        have HE := Lib.hid he
        clear he
        go_wp2_with fail
        go_quiet (fail)
        go_wp2_with fail
        go_roundg (l.length - (j + 1))
        case measure => rw [HM.out]; omega
        case rel =>
          refine ⟨j + 1, rfl, hlt, by go_num, ?_, below_drewN HB1.out _⟩
          rw [HTK.out, List.filter_append, HE.out, show List.filter (fun c => !decide (c = (p, q))) [(p, q)] = [] by simp, List.append_nil]
          exact HO.out
      · have hne : ∀ w, (binOp .neq 45 (.agg #[.int .i64 c.1, .int .i64 c.2]) (.agg #[.int .i64 p, .int .i64 q])).run Tryz.prog w = .ok (.bool true) w := fun w => by
          rw [neP, show (c.1 == p && c.2 == q) = false by simp; exact fun h1 h2 => he (Prod.ext h1 h2)]; rfl
        have HE := Lib.hid he
        clear he
        have HFL : Hid ((l.take (j + 1)).filter (fun c => !decide (c = (p, q))) = (l.take j).filter (fun c => !decide (c = (p, q))) ++ [c]) := by
          show _ = _
          rw [HTK.out, List.filter_append]
          simp [HE.out]
        have hfl : ((l.take j).filter (fun c => !decide (c = (p, q)))).length ≤ 1000000 := Nat.le_trans (List.length_filter_le _ _) (by rw [List.length_take]; omega)
        generalize (l.take j).filter (fun c => !decide (c = (p, q))) = F at *
        go_wp2_with fail
        go_quiet (fail)
        go_wp2_with (at_builtin; refine wpList_append_own _ rfl _ _ 32 rfl W0.heap.size 45 i0 (.agg #[.int .i64 0, .int .i64 0]) 2 16 Tryz.underlying32 HI.out HZ0.out HZ1.out HZ2.out rfl (by decide) _ _ _ rfl (HO.out.ahead _ _) ⟨wr.heap.size, 0, none⟩ 1 1 [.int .i64 c.1, .int .i64 c.2] rfl rfl ?_ ?_ ?_ ?_ ?_ ?_; (exact cell_pair _ _ _ _); (intro u hu; simp at hu; rcases hu with rfl | rfl <;> rfl); (unfold maxLen; omega); (omega); (have := HB1.out.size; simp; omega); intro v' w4 hown4 hgrow _; have HG := Lib.hid hgrow; have HO4 := Lib.hid hown4; clear hgrow hown4)
        have hbA := below_drewN HB1.out nq
        have hW4 : Below W0.heap.size W0 w4 := (hbA.alloc hbA.size _).grown HG.out (by have := HB1.out.size; simp; omega) (fun k hk => (World.ownsRow.lt HO.out k hk).1)
        go_roundg (l.length - (j + 1))
        case measure => rw [HM.out]; omega
        case rel =>
          refine ⟨j + 1, rfl, by omega, by go_num, ?_, hW4⟩
          rw [HFL.out]
          unfold OwP
          rw [ptVs_snoc, List.length_append]
          exact HO4.out
    · obtain rfl : j = l.length := by omega
      have hgj : decide ((l.length : Int) < (l.length : Int)) = false := by simp
      rw [List.take_length] at HO
      have hfl : (l.filter (fun c => !decide (c = (p, q)))).length ≤ 1000000 := Nat.le_trans (List.length_filter_le _ _) hl
      have HSL : Hid (setL l (p, q) alive = l.filter (fun c => !decide (c = (p, q))) ++ if alive then [(p, q)] else []) := rfl
      generalize l.filter (fun c => !decide (c = (p, q))) = F at *
      have HBW := Lib.hid (HB.out.trans (HB1.out.mono HB.out.size))
      cases alive with
      | false =>
        go_wp2_with fail
        go_ret
        refine ⟨_, rfl, ?_, HBW.out⟩
        rw [HSL.out]
        simp only [Bool.false_eq_true, if_false, List.append_nil]
        exact HO.out.mono (by omega)
      | true =>
        go_wp2_with (at_builtin; refine wpList_append_own _ rfl _ _ 32 rfl W0.heap.size 45 i0 (.agg #[.int .i64 0, .int .i64 0]) 2 16 Tryz.underlying32 HI.out HZ0.out HZ1.out HZ2.out rfl (by decide) _ _ _ rfl (World.ownsRow.alloc HO.out _) ⟨wr.heap.size, 0, none⟩ 1 1 [.int .i64 p, .int .i64 q] rfl rfl ?_ ?_ ?_ ?_ ?_ ?_; (exact cell_pair _ _ _ _); (intro u hu; simp at hu; rcases hu with rfl | rfl <;> rfl); (unfold maxLen; omega); (omega); (have := HB1.out.size; simp; omega); intro v' w4 hown4 hgrow _; have HG := Lib.hid hgrow; have HO4 := Lib.hid hown4; clear hgrow hown4)
        have hW4 : Below W0.heap.size W0 w4 := (HB1.out.alloc HB1.out.size _).grown HG.out (by have := HB1.out.size; simp; omega) (fun k hk => (World.ownsRow.lt HO.out k hk).1)
        go_ret
        refine ⟨_, rfl, ?_, HB.out.trans (hW4.mono HB.out.size)⟩
        rw [HSL.out]
        refine OwP.mono (B := W0.heap.size) ?_ (by omega)
        unfold OwP
        simp only [if_true]
        rw [ptVs_snoc, List.length_append]
        exact HO4.out
theorem set_ref (l : List (Int × Int)) (a : Option Addr) (cap : Nat) (p q : Int) (alive : Bool) (w : World) (h : Ro w a l) (hl : l.length ≤ 1000) :
    Calls Tryz.prog 34 #[.slice a l.length cap, .agg #[.int .i64 p, .int .i64 q], .bool alive] w fun e w' => ∃ v, e = .returned v ∧ OwP w' w.heap.size v (setL l (p, q) alive) ∧ Below w.heap.size w w' := set_refB l a cap p q alive w h (by omega)
end Go.Proofs.YtaapkngpnlnjeaaGreat
end

section
namespace Go.Proofs.YtaapkngpnlnjeaaGreat
open Go.RowKit Go.Maps
set_option maxRecDepth 100000

theorem onP_in {a : Int} (h : onP a = true) : inS 61 a = true := by
  unfold onP at h
  simp only [Bool.and_eq_true, decide_eq_true_eq] at h
  rw [inS_iff, show (2 : Int) ^ 61 = 2305843009213693952 by decide]
  omega
/-- How far a plane goes up to have a point. -/
def Far (n d : Nat) (a b : Int) : Prop := n + d ≤ 61 ∧ (inS (n + d) a && inS (n + d) b) = true ∧ ∀ i, i < d → (inS (n + i) a && inS (n + i) b) = false
theorem far_ex (n : Nat) (hn : n ≤ 61) (a b : Int) (h : (onP a && onP b) = true) : ∃ d, Far n d a b := by
  rw [Bool.and_eq_true] at h
  have hp : ∃ d, n + d ≤ 61 ∧ (inS (n + d) a && inS (n + d) b) = true := ⟨61 - n, by omega, by rw [show n + (61 - n) = 61 by omega, onP_in h.1, onP_in h.2]; rfl⟩
  obtain ⟨d, hd⟩ := hp
  induction d using Nat.strongRecOn with
  | _ d ih =>
    by_cases hm : ∀ i, i < d → (inS (n + i) a && inS (n + i) b) = false
    · exact ⟨d, hd.1, hd.2, hm⟩
    · obtain ⟨i, hi⟩ := Classical.not_forall.1 hm
      obtain ⟨hi1, hi2⟩ := Classical.not_imp.1 hi
      exact ih i hi1 ⟨by omega, by cases hh : (inS (n + i) a && inS (n + i) b) with | true => rfl | false => exact absurd hh hi2⟩
end Go.Proofs.YtaapkngpnlnjeaaGreat
end

section
namespace Go.Proofs.YtaapkngpnlnjeaaGreat
open Go.RowKit Go.Maps
set_option maxRecDepth 100000

end Go.Proofs.YtaapkngpnlnjeaaGreat
end

section

end
