/- Package evolve: find: contracts. -/
import Derived.Test.YtaapkngpnlnjeaaGreatDoorSh10M
import Derived.Test.YtaapkngpnlnjeaaGreatDoorP10
import Derived.Test.YtaapkngpnlnjeaaGreatDoorSe10
namespace Go.Proofs.YtaapkngpnlnjeaaGreatDoor
open Go.RowKit Go.Maps
set_option maxRecDepth 100000

/-- What find comes to. -/
def Find (most : Nat) (e : Ending) (N' : List Nd) (n x p : Nat) : Prop :=
  (∃ z : Nat, e = .returned (.tuple #[.int .u32 (z : Int), .nilIface]) ∧ Sc N' n x p z) ∨ (e = .returned (.tuple #[.int .u32 0, .iface 48 (.int .i64 7)]) ∧ most ≤ N'.length)
theorem Oe.fresh {w w' : World} {sb g tb most mb b : Nat} {N : List Nd} {fb : FbT} {m : Stp → Option Value} {o : Obj} (h : Me w sb g tb most N mb fb m) (hge : w.heap.size ≤ b) (hat : w'.heap[b]? = some o) : Oe w' sb g tb mb fb b o := by
  obtain ⟨cap, hs⟩ := h.st
  obtain ⟨l1, l2, l3⟩ := hs.lt
  have := h.mlt
  exact ⟨hat, by omega, by omega, by omega, by omega, fun e => by have := h.flt e; omega⟩
theorem Kp.three {w : World} {sb g tb mb b1 b2 b3 : Nat} {fb : FbT} {o1 o2 o3 : Obj} (h1 : Oe w sb g tb mb fb b1 o1) (h2 : Oe w sb g tb mb fb b2 o2) (h3 : Oe w sb g tb mb fb b3 o3) : Kp sb tb mb [(b1, o1), (b2, o2), (b3, o3)] w g fb := fun bo hbo => by
  simp only [List.mem_cons, List.not_mem_nil, or_false] at hbo
  rcases hbo with rfl | rfl | rfl
  · exact h1
  · exact h2
  · exact h3
theorem way_laterK (sb tb mb most : Nat) {n p c pa pb vb : Nat} {vo : Obj} (hn : n + 1 < 62) (HX : Nexts sb tb mb most n p c) :
    Way sb tb mb most (Kp sb tb mb [(vb, vo), (pa, .cells #[.pointer (some ⟨mb, 0, none⟩)] 42 (0, 0)), (pb, .cells #[.int .i64 (p : Int)] 3 (0, 0))]) 101 (fun v => #[v, .pointer (some ⟨pa, 0, none⟩), .pointer (some ⟨pb, 0, none⟩)]) (n + 1) (n + 1) (2 ^ p) (2 ^ n) (1 + c) :=
  (way_later sb tb mb most hn HX).mono fun _ _ _ h => ⟨h (pa, _) (by simp), h (pb, _) (by simp)⟩
/-- From what the ways come to, to a successor. -/
theorem find_of {most : Nat} {e : Ending} {N N' : List Nd} {n x p : Nat} {G : Plane} {c : Int} (hw : Wf N) (hx : Sq N (n + 1 + 2) x) (he : ∃ E, N' = N ++ E) (hp : p ≤ n + 1) (hG : G = gens (2 ^ p) (getZ N (n + 1 + 2) x)) (hc : c = 2 ^ (n + 1)) (h : Out10 most e N' (n + 1 + 1) (shF G c c)) : Find most e N' (n + 1) x p := by
  subst hG hc
  rcases h with ⟨z, rfl, hz⟩ | h
  · obtain ⟨E, rfl⟩ := he
    exact Or.inl ⟨z, rfl, Sc.of hp ((Con.self hx).app hw E) hz⟩
  · exact Or.inr h
theorem hq_of {N : List Nd} (hw : Wf N) {n x : Nat} (hx : Sq N (n + 2) x) : ∀ i j, i ≤ 3 → j ≤ 3 → Con N n (pq N x i j) (shF (getZ N (n + 2) x) (0 + (j : Int) * 2 ^ n) (0 + (i : Int) * 2 ^ n)) := fun i j hi hj => by
  rw [Int.zero_add, Int.zero_add]
  exact con_pq hw (Con.self hx) (by omega) (by omega)
theorem find_out {most : Nat} {e : Ending} {N' : List Nd} {n x p : Nat} (h : Find most e N' n x p) : ∃ (r : Nat) (ev : Value), e = .returned (.tuple #[.int .u32 (r : Int), ev]) := by
  rcases h with ⟨z, rfl, _⟩ | ⟨rfl, _⟩
  · exact ⟨_, _, rfl⟩
  · exact ⟨0, _, rfl⟩
set_option maxHeartbeats 4000000 in
theorem find_zero {sb tb mb most : Nat} {w : World} {g : Nat} {N : List Nd} {fb : FbT} {m : Stp → Option Value} (h : Me w sb g tb most N mb fb m) {x : Nat} (hx : Sq N (0 + 2) x) :
    Calls Tryz.prog 83 #[.pointer (some ⟨mb, 0, none⟩), .agg #[.int .u32 (x : Int), .int .i64 (0 : Int)]] w fun e w' => ∃ g' N' fb' m', Mx sb tb mb most w g N fb m (1) w' g' N' fb' m' ∧ Find most e N' (0) x (0) := by
  have HM := Lib.hid h
  have HX := Lib.hid hx
  have HB := Lib.hid (bel1 w (.cells #[.int .u32 (x : Int), .int .i64 (0 : Int)] 140))
  have HO : Hid (Oe (w.alloc (.cells #[.int .u32 (x : Int), .int .i64 (0 : Int)] 140)) sb g tb mb fb w.heap.size (seO x (0))) := Oe.new h _ _
  have HM0 := Lib.hid (h.later HB.out)
  have hxu : x < 4294967296 := by obtain ⟨cap, hs⟩ := h.st; exact Sq.u32 hs hx
  have HLV := Lib.hid (by obtain ⟨cap, hs⟩ := HM0.out.drew.st; exact level_any hs x hxu)
  rw [show lvZ N x = ((0 + 2 : Nat) : Int) from hx] at HLV
  have w1 : IntKind.i64.wrap (((0 + 2 : Nat) : Int) - 2) = ((0 : Nat) : Int) := by rw [show ((0 + 2 : Nat) : Int) - 2 = ((0 : Nat) : Int) by omega]; exact IntWalk.i64_in _ (by have := Sq.le62 h.wf (n := 0 + 1) hx; omega)
  have HN62 : Hid (0 + 1 < 62) := Sq.le62 h.wf (n := 0 + 1) hx
  clear h hx
  go_enter Tryz.func83, Tryz.ntmps83
  go_upto_region 1 with fail
  generalize w.alloc (.cells #[.int .u32 (x : Int), .int .i64 (0 : Int)] 140) = W0 at *
  obtain ⟨sv0, cl0, hth, m0, m1, mv, m2, mt, m3⟩ := HM0.out.cells
  obtain ⟨e0, e1⟩ := se_cells HO.out.at_
  clear mv mt hth m1 m2 m3
  generalize hlv : ((0 + 2 : Nat) : Int) = lv at *
  refine region_sq 6 (fun W => W = W0.drew) [(0, 1), (1, 1), (2, 1), (3, 2), (4, 1), (5, 2), (6, 3), (7, 1), (8, 1)] (by kernel_rfl) (by kernel_rfl) rfl (by intro c a d v w h; cases d <;> exact h) (by kernel_rfl) rfl ?_
  refine ⟨_, ?_, rfl, by rfl, ?_, ?_⟩
  rotate_left
  · intro W; go_simp; first | done | rfl
  conv => arg 6; simp only [Act.put, List.setIfInBounds_toArray, List.set_cons_zero, List.set_cons_succ]
  refine ⟨_, ?_, rfl, by rfl, ?_, ?_⟩
  rotate_left
  · intro W; go_simp; first | done | rfl
  conv => arg 6; simp only [Act.put, List.setIfInBounds_toArray, List.set_cons_zero, List.set_cons_succ]
  refine ⟨_, ?_, rfl, by rfl, ?_, ?_⟩
  rotate_left
  · intro W; go_simp; first | done | rfl
  conv => arg 6; simp only [Act.put, List.setIfInBounds_toArray, List.set_cons_zero, List.set_cons_succ]
  refine ⟨_, ?_, rfl, by rfl, ?_, ?_⟩
  rotate_left
  · rintro W rfl
    skip
    go_simp; first | done | rfl
  conv => arg 6; simp only [Act.put, List.setIfInBounds_toArray, List.set_cons_zero, List.set_cons_succ]
  refine ⟨_, ?_, rfl, by rfl, ?_, ?_⟩
  rotate_left
  · intro W; go_simp; first | done | rfl
  conv => arg 6; simp only [Act.put, List.setIfInBounds_toArray, List.set_cons_zero, List.set_cons_succ]
  refine ⟨_, ?_, rfl, by rfl, ?_, ?_⟩
  rotate_left
  · rintro W rfl
    skip
    go_simp; first | done | rfl
  conv => arg 6; simp only [Act.put, List.setIfInBounds_toArray, List.set_cons_zero, List.set_cons_succ]
  refine ⟨_, rfl, by rfl, fun K hK => ?_⟩
  go_simp
  refine HLV.out.mono ?_
  rintro e w6 ⟨rfl, rfl⟩
  refine hK _ _ ?_
  clear hK K HLV
  conv => arg 6; simp only [Act.put, List.setIfInBounds_toArray, List.set_cons_zero, List.set_cons_succ]
  refine ⟨_, ?_, rfl, by rfl, ?_, ?_⟩
  rotate_left
  · intro W; go_simp; first | done | rfl
  conv => arg 6; simp only [Act.put, List.setIfInBounds_toArray, List.set_cons_zero, List.set_cons_succ]
  refine ⟨_, ?_, rfl, by rfl, ?_, ?_⟩
  rotate_left
  · intro W; go_simp; first | done | rfl
  conv => arg 6; simp only [Act.put, List.setIfInBounds_toArray, List.set_cons_zero, List.set_cons_succ]
  unfold wpSq
  go_upto_region 3 with fail
  have m0' : W0.drew.cell? ⟨mb, 0, none⟩ = some (.pointer (some ⟨sb, 0, none⟩)) := m0
  have e0' : W0.drew.cell? ⟨w.heap.size, 0, none⟩ = some (.int .u32 (x : Int)) := e0
  refine region_sq 6 (fun W => W = W0.drew.drew) [(0, 1), (1, 1), (2, 1), (3, 2), (4, 1), (5, 2), (6, 3), (7, 1), (8, 1), (9, 1), (10, 1)] (by kernel_rfl) (by kernel_rfl) rfl (by intro c a d v w h; cases d <;> exact h) (by kernel_rfl) rfl ?_
  refine ⟨_, ?_, rfl, by rfl, ?_, ?_⟩
  rotate_left
  · intro W; go_simp; first | done | rfl
  conv => arg 6; simp only [Act.put, List.setIfInBounds_toArray, List.set_cons_zero, List.set_cons_succ]
  refine ⟨_, ?_, rfl, by rfl, ?_, ?_⟩
  rotate_left
  · intro W; go_simp; first | done | rfl
  conv => arg 6; simp only [Act.put, List.setIfInBounds_toArray, List.set_cons_zero, List.set_cons_succ]
  refine ⟨_, ?_, rfl, by rfl, ?_, ?_⟩
  rotate_left
  · intro W; go_simp; first | done | rfl
  conv => arg 6; simp only [Act.put, List.setIfInBounds_toArray, List.set_cons_zero, List.set_cons_succ]
  refine ⟨_, ?_, rfl, by rfl, ?_, ?_⟩
  rotate_left
  · rintro W rfl
    skip
    go_simp; first | done | rfl
  conv => arg 6; simp only [Act.put, List.setIfInBounds_toArray, List.set_cons_zero, List.set_cons_succ]
  refine ⟨_, ?_, rfl, by rfl, ?_, ?_⟩
  rotate_left
  · intro W; go_simp; first | done | rfl
  conv => arg 6; simp only [Act.put, List.setIfInBounds_toArray, List.set_cons_zero, List.set_cons_succ]
  refine ⟨_, ?_, rfl, by rfl, ?_, ?_⟩
  rotate_left
  · rintro W rfl
    skip
    go_simp; first | done | rfl
  conv => arg 6; simp only [Act.put, List.setIfInBounds_toArray, List.set_cons_zero, List.set_cons_succ]
  refine ⟨_, rfl, by rfl, fun K hK => ?_⟩
  go_simp
  have HNE := Lib.hid (by obtain ⟨cap, hs⟩ := HM0.out.drew.drew.st; exact next_any hs HX.out)
  refine HNE.out.mono ?_
  rintro e w6 ⟨g6, N6, f, hrd, hnx, hres⟩
  obtain ⟨r, ev, rfl, hres1⟩ := two_out9 hres
  have hres2 : (ev = .nilIface ∧ Sc N6 0 x 0 r) ∨ (ev = .iface 48 (.int .i64 7) ∧ r = 0 ∧ most ≤ N6.length) := by
    rcases hres1 with ⟨h1, h2, h3, _⟩ | h1
    · left
      refine ⟨h1, ?_⟩
      have hw' := hnx.wf
      obtain ⟨E, rfl, _⟩ := hnx.ext
      exact sc_zero HM.out.wf HX.out hrd h2 h3 hw'
    · exact Or.inr h1
  have HN6 := Lib.hid (((Mx.of_below HM.out HB.out).trans (Mx.of_nx HM0.out.drew.drew hnx).undrew.undrew).mono (show 0 + 1 ≤ 1 by omega))
  clear hnx hres hres1 HNE
  refine hK _ _ ?_
  clear hK K
  conv => arg 6; simp only [Act.put, List.setIfInBounds_toArray, List.set_cons_zero, List.set_cons_succ]
  refine ⟨_, ?_, rfl, by rfl, ?_, ?_⟩
  rotate_left
  · intro W; go_simp; first | done | rfl
  conv => arg 6; simp only [Act.put, List.setIfInBounds_toArray, List.set_cons_zero, List.set_cons_succ]
  refine ⟨_, ?_, rfl, by rfl, ?_, ?_⟩
  rotate_left
  · intro W; go_simp; first | done | rfl
  conv => arg 6; simp only [Act.put, List.setIfInBounds_toArray, List.set_cons_zero, List.set_cons_succ]
  refine ⟨_, ?_, rfl, by rfl, ?_, ?_⟩
  rotate_left
  · intro W; go_simp; first | done | rfl
  conv => arg 6; simp only [Act.put, List.setIfInBounds_toArray, List.set_cons_zero, List.set_cons_succ]
  refine ⟨_, ?_, rfl, by rfl, ?_, ?_⟩
  rotate_left
  · intro W; go_simp; first | done | rfl
  conv => arg 6; simp only [Act.put, List.setIfInBounds_toArray, List.set_cons_zero, List.set_cons_succ]
  unfold wpSq
  rcases hres2 with ⟨rfl, hz⟩ | ⟨rfl, rfl, hfull⟩
  · have HZ := Lib.hid hz
    clear hz
    go_wp2_with fail
    go_ret2
    exact ⟨g6, N6, fb, m, HN6.out, Or.inl ⟨r, rfl, HZ.out⟩⟩
  · have HF := Lib.hid hfull
    clear hfull
    go_wp2_with fail
    go_ret2
    exact ⟨g6, N6, fb, m, HN6.out, Or.inr ⟨rfl, HF.out⟩⟩
set_option maxHeartbeats 4000000 in
theorem find_low {sb tb mb most : Nat} {n p c : Nat} (hp : p ≤ n) (HNX : Nexts sb tb mb most n p c) {w : World} {g : Nat} {N : List Nd} {fb : FbT} {m : Stp → Option Value} (h : Me w sb g tb most N mb fb m) {x : Nat} (hx : Sq N (n + 1 + 2) x) :
    Calls Tryz.prog 83 #[.pointer (some ⟨mb, 0, none⟩), .agg #[.int .u32 (x : Int), .int .i64 (p : Int)]] w fun e w' => ∃ g' N' fb' m', Mx sb tb mb most w g N fb m (9 * (1 + c) + 4 * 1 + 1) w' g' N' fb' m' ∧ Find most e N' (n + 1) x (p) := by
  have HM := Lib.hid h
  have HX := Lib.hid hx
  have HB := Lib.hid (bel1 w (.cells #[.int .u32 (x : Int), .int .i64 (p : Int)] 140))
  have HO : Hid (Oe (w.alloc (.cells #[.int .u32 (x : Int), .int .i64 (p : Int)] 140)) sb g tb mb fb w.heap.size (seO x (p))) := Oe.new h _ _
  have HM0 := Lib.hid (h.later HB.out)
  have hxu : x < 4294967296 := by obtain ⟨cap, hs⟩ := h.st; exact Sq.u32 hs hx
  have HLV := Lib.hid (by obtain ⟨cap, hs⟩ := HM0.out.drew.st; exact level_any hs x hxu)
  rw [show lvZ N x = ((n + 1 + 2 : Nat) : Int) from hx] at HLV
  have w1 : IntKind.i64.wrap (((n + 1 + 2 : Nat) : Int) - 2) = ((n + 1 : Nat) : Int) := by rw [show ((n + 1 + 2 : Nat) : Int) - 2 = ((n + 1 : Nat) : Int) by omega]; exact IntWalk.i64_in _ (by have := Sq.le62 h.wf (n := n + 1 + 1) hx; omega)
  have HN62 : Hid (n + 1 + 1 < 62) := Sq.le62 h.wf (n := n + 1 + 1) hx
  clear h hx
  go_enter Tryz.func83, Tryz.ntmps83
  go_upto_region 1 with fail
  generalize w.alloc (.cells #[.int .u32 (x : Int), .int .i64 (p : Int)] 140) = W0 at *
  obtain ⟨sv0, cl0, hth, m0, m1, mv, m2, mt, m3⟩ := HM0.out.cells
  obtain ⟨e0, e1⟩ := se_cells HO.out.at_
  clear mv mt hth m1 m2 m3
  generalize hlv : ((n + 1 + 2 : Nat) : Int) = lv at *
  refine region_sq 6 (fun W => W = W0.drew) [(0, 1), (1, 1), (2, 1), (3, 2), (4, 1), (5, 2), (6, 3), (7, 1), (8, 1)] (by kernel_rfl) (by kernel_rfl) rfl (by intro c a d v w h; cases d <;> exact h) (by kernel_rfl) rfl ?_
  refine ⟨_, ?_, rfl, by rfl, ?_, ?_⟩
  rotate_left
  · intro W; go_simp; first | done | rfl
  conv => arg 6; simp only [Act.put, List.setIfInBounds_toArray, List.set_cons_zero, List.set_cons_succ]
  refine ⟨_, ?_, rfl, by rfl, ?_, ?_⟩
  rotate_left
  · intro W; go_simp; first | done | rfl
  conv => arg 6; simp only [Act.put, List.setIfInBounds_toArray, List.set_cons_zero, List.set_cons_succ]
  refine ⟨_, ?_, rfl, by rfl, ?_, ?_⟩
  rotate_left
  · intro W; go_simp; first | done | rfl
  conv => arg 6; simp only [Act.put, List.setIfInBounds_toArray, List.set_cons_zero, List.set_cons_succ]
  refine ⟨_, ?_, rfl, by rfl, ?_, ?_⟩
  rotate_left
  · rintro W rfl
    skip
    go_simp; first | done | rfl
  conv => arg 6; simp only [Act.put, List.setIfInBounds_toArray, List.set_cons_zero, List.set_cons_succ]
  refine ⟨_, ?_, rfl, by rfl, ?_, ?_⟩
  rotate_left
  · intro W; go_simp; first | done | rfl
  conv => arg 6; simp only [Act.put, List.setIfInBounds_toArray, List.set_cons_zero, List.set_cons_succ]
  refine ⟨_, ?_, rfl, by rfl, ?_, ?_⟩
  rotate_left
  · rintro W rfl
    skip
    go_simp; first | done | rfl
  conv => arg 6; simp only [Act.put, List.setIfInBounds_toArray, List.set_cons_zero, List.set_cons_succ]
  refine ⟨_, rfl, by rfl, fun K hK => ?_⟩
  go_simp
  refine HLV.out.mono ?_
  rintro e w6 ⟨rfl, rfl⟩
  refine hK _ _ ?_
  clear hK K HLV
  conv => arg 6; simp only [Act.put, List.setIfInBounds_toArray, List.set_cons_zero, List.set_cons_succ]
  refine ⟨_, ?_, rfl, by rfl, ?_, ?_⟩
  rotate_left
  · intro W; go_simp; first | done | rfl
  conv => arg 6; simp only [Act.put, List.setIfInBounds_toArray, List.set_cons_zero, List.set_cons_succ]
  refine ⟨_, ?_, rfl, by rfl, ?_, ?_⟩
  rotate_left
  · intro W; go_simp; first | done | rfl
  conv => arg 6; simp only [Act.put, List.setIfInBounds_toArray, List.set_cons_zero, List.set_cons_succ]
  unfold wpSq
  have hg1 : ((n : Int) + 1 == 0) = false := by rw [beq_eq_false_iff_ne]; omega
  have hg2 : ((p : Int) == (n : Int) + 1) = false := by rw [beq_eq_false_iff_ne]; omega
  go_upto_region 7 with fail
  have hmf : ∀ (fn : Fn) (first cap : Array Value) (w : World), (Instr.makeFunc fn first cap).run Tryz.prog w = .ok (.func fn first cap) w := fun _ _ _ _ => rfl
  refine region_sq 16 (fun W => W.cell? ⟨w.heap.size, 0, none⟩ = some (.int .u32 (x : Int)) ∧ W.cell? ⟨w.heap.size, 1, none⟩ = some (.int .i64 (p : Int)) ∧ W.cell? ⟨mb, 0, none⟩ = some (.pointer (some ⟨sb, 0, none⟩))) [(0, 1), (1, 1), (2, 2), (4, 1), (5, 1), (6, 2), (8, 1), (9, 1), (10, 1), (11, 1), (12, 1), (13, 2), (14, 1), (3, 0), (7, 0), (15, 0), (16, 3), (17, 1), (18, 1), (19, 1), (20, 1)] (by kernel_rfl) (by kernel_rfl) rfl (by intro c a d v w h; cases d <;> exact h) (by kernel_rfl) ⟨e0, e1, m0⟩ ?_
  refine ⟨_, ?_, rfl, by rfl, ?_, ?_⟩
  rotate_left
  · intro W; go_simp; first | done | rfl
  conv => arg 6; simp only [Act.put, List.setIfInBounds_toArray, List.set_cons_zero, List.set_cons_succ]
  refine ⟨_, ?_, rfl, by rfl, ?_, ?_⟩
  rotate_left
  · intro W; go_simp; first | done | rfl
  conv => arg 6; simp only [Act.put, List.setIfInBounds_toArray, List.set_cons_zero, List.set_cons_succ]
  refine ⟨_, ?_, rfl, by rfl, ?_, ?_⟩
  rotate_left
  · intro W hW
    obtain ⟨r0, r1, r2⟩ := hW
    go_simp; first | done | rfl
  conv => arg 6; simp only [Act.put, List.setIfInBounds_toArray, List.set_cons_zero, List.set_cons_succ]
  refine ⟨_, ?_, rfl, by rfl, ?_, ?_⟩
  rotate_left
  · intro W; go_simp; first | done | rfl
  conv => arg 6; simp only [Act.put, List.setIfInBounds_toArray, List.set_cons_zero, List.set_cons_succ]
  refine ⟨_, ?_, rfl, by rfl, ?_, ?_⟩
  rotate_left
  · intro W; go_simp; first | done | rfl
  conv => arg 6; simp only [Act.put, List.setIfInBounds_toArray, List.set_cons_zero, List.set_cons_succ]
  refine ⟨_, ?_, rfl, by rfl, ?_, ?_⟩
  rotate_left
  · intro W hW
    obtain ⟨r0, r1, r2⟩ := hW
    go_simp; first | done | rfl
  conv => arg 6; simp only [Act.put, List.setIfInBounds_toArray, List.set_cons_zero, List.set_cons_succ]
  refine ⟨_, ?_, rfl, by rfl, ?_, ?_⟩
  rotate_left
  · intro W; go_simp; first | done | rfl
  conv => arg 6; simp only [Act.put, List.setIfInBounds_toArray, List.set_cons_zero, List.set_cons_succ]
  refine ⟨_, ?_, rfl, by rfl, ?_, ?_⟩
  rotate_left
  · intro W; go_simp; first | done | rfl
  conv => arg 6; simp only [Act.put, List.setIfInBounds_toArray, List.set_cons_zero, List.set_cons_succ]
  refine ⟨_, ?_, rfl, by rfl, ?_, ?_⟩
  rotate_left
  · intro W; go_simp; first | done | rfl
  conv => arg 6; simp only [Act.put, List.setIfInBounds_toArray, List.set_cons_zero, List.set_cons_succ]
  refine ⟨_, ?_, rfl, by rfl, ?_, ?_⟩
  rotate_left
  · intro W; go_simp; first | done | rfl
  conv => arg 6; simp only [Act.put, List.setIfInBounds_toArray, List.set_cons_zero, List.set_cons_succ]
  refine ⟨_, ?_, rfl, by rfl, ?_, ?_⟩
  rotate_left
  · intro W; go_simp; first | done | rfl
  conv => arg 6; simp only [Act.put, List.setIfInBounds_toArray, List.set_cons_zero, List.set_cons_succ]
  refine ⟨_, ?_, rfl, by rfl, ?_, ?_⟩
  rotate_left
  · intro W hW
    obtain ⟨r0, r1, r2⟩ := hW
    go_simp; first | done | rfl
  conv => arg 6; simp only [Act.put, List.setIfInBounds_toArray, List.set_cons_zero, List.set_cons_succ]
  refine ⟨_, ?_, rfl, by rfl, ?_, ?_⟩
  rotate_left
  · intro W; go_simp; first | done | rfl
  conv => arg 6; simp only [Act.put, List.setIfInBounds_toArray, List.set_cons_zero, List.set_cons_succ]
  refine ⟨_, rfl, by rfl, fun K hK => ?_⟩
  go_simp
  refine (parts_any HM0.out.drew.drew HX.out).mono ?_
  rintro e w5 ⟨rfl, hb⟩
  have HB5 : Hid (Below W0.heap.size W0 w5) := ⟨hb.os, hb.tape, hb.output, hb.size, hb.block⟩
  clear hb
  refine hK _ _ ⟨by rw [HB5.out.cell (blk_lt e0)]; exact e0, by rw [HB5.out.cell (blk_lt e1)]; exact e1, by rw [HB5.out.cell (blk_lt m0)]; exact m0⟩ ?_
  clear hK K
  conv => arg 6; simp only [Act.put, List.setIfInBounds_toArray, List.set_cons_zero, List.set_cons_succ]
  refine ⟨_, rfl, by rfl, fun K hK => ?_⟩
  go_simp
  refine (later_any mb p _).mono ?_
  rintro e w6 ⟨pa, pb, rfl, ha, hpb', hpa, hpb, hb6⟩
  have HB6 := Lib.hid (HB5.out.trans (hb6.mono HB5.out.size))
  have HM5 := Lib.hid (HM0.out.later HB5.out)
  have HPA : Hid (Oe w6 sb g tb mb fb pa (.cells #[.pointer (some ⟨mb, 0, none⟩)] 42 (0, 0))) := Oe.fresh HM5.out ha hpa
  have HPB : Hid (Oe w6 sb g tb mb fb pb (.cells #[.int .i64 (p : Int)] 3 (0, 0))) := Oe.fresh HM5.out hpb' hpb
  clear ha hpb' hpa hpb hb6 HM5
  refine hK _ _ ⟨by rw [HB6.out.cell (blk_lt e0)]; exact e0, by rw [HB6.out.cell (blk_lt e1)]; exact e1, by rw [HB6.out.cell (blk_lt m0)]; exact m0⟩ ?_
  clear hK K
  conv => arg 6; simp only [Act.put, List.setIfInBounds_toArray, List.set_cons_zero, List.set_cons_succ]
  refine ⟨_, rfl, by rfl, fun K hK => ?_⟩
  go_simp
  have HB7 := Lib.hid (HB6.out.trans ((bel1 w6 (wayO (.func (.func 101) #[] #[.pointer (some ⟨pa, 0, none⟩), .pointer (some ⟨pb, 0, none⟩)]) (.func (.func 95) #[.pointer (some ⟨mb, 0, none⟩)] #[]) (.func (.func 58) #[.pointer (some ⟨sb, 0, none⟩)] #[]))).mono HB6.out.size))
  unfold wayO at HB7
  refine hK _ _ ⟨by rw [HB7.out.cell (blk_lt e0)]; exact e0, by rw [HB7.out.cell (blk_lt e1)]; exact e1, by rw [HB7.out.cell (blk_lt m0)]; exact m0⟩ ?_
  clear hK K
  conv => arg 6; simp only [Act.put, List.setIfInBounds_toArray, List.set_cons_zero, List.set_cons_succ]
  refine ⟨_, rfl, by rfl, fun K hK => ?_⟩
  go_simp
  have HM7 := Lib.hid (HM0.out.later HB7.out)
  have HV : Hid (Oe (w6.alloc (wayO (.func (.func 101) #[] #[.pointer (some ⟨pa, 0, none⟩), .pointer (some ⟨pb, 0, none⟩)]) (.func (.func 95) #[.pointer (some ⟨mb, 0, none⟩)] #[]) (.func (.func 58) #[.pointer (some ⟨sb, 0, none⟩)] #[]))) sb g tb mb fb w6.heap.size (wayO (.func (.func 101) #[] #[.pointer (some ⟨pa, 0, none⟩), .pointer (some ⟨pb, 0, none⟩)]) (.func (.func 95) #[.pointer (some ⟨mb, 0, none⟩)] #[]) (.func (.func 58) #[.pointer (some ⟨sb, 0, none⟩)] #[]))) := Oe.new (HM0.out.later HB6.out) _ _
  have HKP := Lib.hid (Kp.three HV.out (HPA.out.later (bel1 w6 _)) (HPB.out.later (bel1 w6 _)))
  have HSH := Lib.hid (shrink_M (n := n + 1) (by have := HN62.out; omega) (way_laterK sb tb mb most (by have := HN62.out; omega) HNX) (way_middle sb tb mb most _ (by have := HN62.out; omega)) HM7.out HKP.out (hq_of HM.out.wf HX.out))
  refine HSH.out.mono ?_
  rintro e w8 ⟨g8, N8, fb8, m8, hmx8, hres⟩
  have HMX8 := Lib.hid (((Mx.of_below HM.out HB.out).trans ((Mx.of_below HM0.out HB7.out).trans hmx8)).mono (show 0 + (0 + (9 * (1 + c) + 4 * 1 + 1)) ≤ 9 * (1 + c) + 4 * 1 + 1 by omega))
  have HFI : Hid (Find most e N8 (n + 1) x p) := find_of HM.out.wf HX.out (by obtain ⟨E, hE, _⟩ := hmx8.ext; exact ⟨E, hE⟩) (by omega) rfl (by have := pow_two2 n; omega) hres
  clear hmx8 hres HSH
  obtain ⟨r, ev, rfl⟩ := find_out HFI.out
  refine hK _ _ ?_
  clear hK K
  conv => arg 6; simp only [Act.put, List.setIfInBounds_toArray, List.set_cons_zero, List.set_cons_succ]
  refine ⟨_, ?_, rfl, by rfl, ?_, ?_⟩
  rotate_left
  · intro W; go_simp; first | done | rfl
  conv => arg 6; simp only [Act.put, List.setIfInBounds_toArray, List.set_cons_zero, List.set_cons_succ]
  refine ⟨_, ?_, rfl, by rfl, ?_, ?_⟩
  rotate_left
  · intro W; go_simp; first | done | rfl
  conv => arg 6; simp only [Act.put, List.setIfInBounds_toArray, List.set_cons_zero, List.set_cons_succ]
  refine ⟨_, ?_, rfl, by rfl, ?_, ?_⟩
  rotate_left
  · intro W; go_simp; first | done | rfl
  conv => arg 6; simp only [Act.put, List.setIfInBounds_toArray, List.set_cons_zero, List.set_cons_succ]
  refine ⟨_, ?_, rfl, by rfl, ?_, ?_⟩
  rotate_left
  · intro W; go_simp; first | done | rfl
  conv => arg 6; simp only [Act.put, List.setIfInBounds_toArray, List.set_cons_zero, List.set_cons_succ]
  unfold wpSq
  go_wp2_with fail
  go_ret2
  exact ⟨g8, N8, fb8, m8, HMX8.out, HFI.out⟩
set_option maxHeartbeats 4000000 in
theorem find_top {sb tb mb most : Nat} {n P c : Nat} (hP : P = n + 1) (HNX : Nexts sb tb mb most n n c) {w : World} {g : Nat} {N : List Nd} {fb : FbT} {m : Stp → Option Value} (h : Me w sb g tb most N mb fb m) {x : Nat} (hx : Sq N (n + 1 + 2) x) :
    Calls Tryz.prog 83 #[.pointer (some ⟨mb, 0, none⟩), .agg #[.int .u32 (x : Int), .int .i64 (P : Int)]] w fun e w' => ∃ g' N' fb' m', Mx sb tb mb most w g N fb m (9 * (1 + c) + 4 * (1 + c) + 1) w' g' N' fb' m' ∧ Find most e N' (n + 1) x (P) := by
  have HM := Lib.hid h
  have HX := Lib.hid hx
  have HB := Lib.hid (bel1 w (.cells #[.int .u32 (x : Int), .int .i64 (P : Int)] 140))
  have HO : Hid (Oe (w.alloc (.cells #[.int .u32 (x : Int), .int .i64 (P : Int)] 140)) sb g tb mb fb w.heap.size (seO x (P))) := Oe.new h _ _
  have HM0 := Lib.hid (h.later HB.out)
  have hxu : x < 4294967296 := by obtain ⟨cap, hs⟩ := h.st; exact Sq.u32 hs hx
  have HLV := Lib.hid (by obtain ⟨cap, hs⟩ := HM0.out.drew.st; exact level_any hs x hxu)
  rw [show lvZ N x = ((n + 1 + 2 : Nat) : Int) from hx] at HLV
  have w1 : IntKind.i64.wrap (((n + 1 + 2 : Nat) : Int) - 2) = ((n + 1 : Nat) : Int) := by rw [show ((n + 1 + 2 : Nat) : Int) - 2 = ((n + 1 : Nat) : Int) by omega]; exact IntWalk.i64_in _ (by have := Sq.le62 h.wf (n := n + 1 + 1) hx; omega)
  have HN62 : Hid (n + 1 + 1 < 62) := Sq.le62 h.wf (n := n + 1 + 1) hx
  clear h hx
  have HHP := Lib.hid hP
  clear hP
  go_enter Tryz.func83, Tryz.ntmps83
  go_upto_region 1 with fail
  generalize w.alloc (.cells #[.int .u32 (x : Int), .int .i64 (P : Int)] 140) = W0 at *
  obtain ⟨sv0, cl0, hth, m0, m1, mv, m2, mt, m3⟩ := HM0.out.cells
  obtain ⟨e0, e1⟩ := se_cells HO.out.at_
  clear mv mt hth m1 m2 m3
  generalize hlv : ((n + 1 + 2 : Nat) : Int) = lv at *
  refine region_sq 6 (fun W => W = W0.drew) [(0, 1), (1, 1), (2, 1), (3, 2), (4, 1), (5, 2), (6, 3), (7, 1), (8, 1)] (by kernel_rfl) (by kernel_rfl) rfl (by intro c a d v w h; cases d <;> exact h) (by kernel_rfl) rfl ?_
  refine ⟨_, ?_, rfl, by rfl, ?_, ?_⟩
  rotate_left
  · intro W; go_simp; first | done | rfl
  conv => arg 6; simp only [Act.put, List.setIfInBounds_toArray, List.set_cons_zero, List.set_cons_succ]
  refine ⟨_, ?_, rfl, by rfl, ?_, ?_⟩
  rotate_left
  · intro W; go_simp; first | done | rfl
  conv => arg 6; simp only [Act.put, List.setIfInBounds_toArray, List.set_cons_zero, List.set_cons_succ]
  refine ⟨_, ?_, rfl, by rfl, ?_, ?_⟩
  rotate_left
  · intro W; go_simp; first | done | rfl
  conv => arg 6; simp only [Act.put, List.setIfInBounds_toArray, List.set_cons_zero, List.set_cons_succ]
  refine ⟨_, ?_, rfl, by rfl, ?_, ?_⟩
  rotate_left
  · rintro W rfl
    skip
    go_simp; first | done | rfl
  conv => arg 6; simp only [Act.put, List.setIfInBounds_toArray, List.set_cons_zero, List.set_cons_succ]
  refine ⟨_, ?_, rfl, by rfl, ?_, ?_⟩
  rotate_left
  · intro W; go_simp; first | done | rfl
  conv => arg 6; simp only [Act.put, List.setIfInBounds_toArray, List.set_cons_zero, List.set_cons_succ]
  refine ⟨_, ?_, rfl, by rfl, ?_, ?_⟩
  rotate_left
  · rintro W rfl
    skip
    go_simp; first | done | rfl
  conv => arg 6; simp only [Act.put, List.setIfInBounds_toArray, List.set_cons_zero, List.set_cons_succ]
  refine ⟨_, rfl, by rfl, fun K hK => ?_⟩
  go_simp
  refine HLV.out.mono ?_
  rintro e w6 ⟨rfl, rfl⟩
  refine hK _ _ ?_
  clear hK K HLV
  conv => arg 6; simp only [Act.put, List.setIfInBounds_toArray, List.set_cons_zero, List.set_cons_succ]
  refine ⟨_, ?_, rfl, by rfl, ?_, ?_⟩
  rotate_left
  · intro W; go_simp; first | done | rfl
  conv => arg 6; simp only [Act.put, List.setIfInBounds_toArray, List.set_cons_zero, List.set_cons_succ]
  refine ⟨_, ?_, rfl, by rfl, ?_, ?_⟩
  rotate_left
  · intro W; go_simp; first | done | rfl
  conv => arg 6; simp only [Act.put, List.setIfInBounds_toArray, List.set_cons_zero, List.set_cons_succ]
  unfold wpSq
  have hg1 : ((n : Int) + 1 == 0) = false := by rw [beq_eq_false_iff_ne]; omega
  have hg2 : ((P : Int) == (n : Int) + 1) = true := by rw [beq_iff_eq]; have := HHP.out; omega
  have w2 : IntKind.i64.wrap ((P : Int) - 1) = (n : Int) := by rw [show (P : Int) - 1 = (n : Int) by have := HHP.out; omega]; exact IntWalk.i64_in _ (by have := HN62.out; omega)
  have e1' : W0.drew.cell? ⟨w.heap.size, 1, none⟩ = some (.int .i64 (P : Int)) := e1
  go_upto_region 6 with (first | (go_at_call 92; refine (later_any mb n _).mono ?_; rintro e w6 ⟨pa, pb, rfl, ha, hpb', hpa, hpb, hb6⟩))
  have hmf : ∀ (fn : Fn) (first cap : Array Value) (w : World), (Instr.makeFunc fn first cap).run Tryz.prog w = .ok (.func fn first cap) w := fun _ _ _ _ => rfl
  have HB6 : Hid (Below W0.heap.size W0 w6.drew) := ⟨hb6.os, hb6.tape, hb6.output, hb6.size, hb6.block⟩
  have HPA : Hid (Oe w6.drew sb g tb mb fb pa (.cells #[.pointer (some ⟨mb, 0, none⟩)] 42 (0, 0))) := Oe.fresh HM0.out ha hpa
  have HPB : Hid (Oe w6.drew sb g tb mb fb pb (.cells #[.int .i64 (n : Int)] 3 (0, 0))) := Oe.fresh HM0.out hpb' hpb
  have HM6 := Lib.hid (HM0.out.later HB6.out)
  clear ha hpb' hpa hpb hb6 hlv w1 hg1 hg2 w2 e1' e1
  have f0 : w6.drew.cell? ⟨w.heap.size, 0, none⟩ = some (.int .u32 (x : Int)) := by rw [HB6.out.cell (blk_lt e0)]; exact e0
  have f1 : w6.drew.cell? ⟨mb, 0, none⟩ = some (.pointer (some ⟨sb, 0, none⟩)) := by rw [HB6.out.cell (blk_lt m0)]; exact m0
  have f0' : w6.cell? ⟨w.heap.size, 0, none⟩ = some (.int .u32 (x : Int)) := f0
  have f1' : w6.cell? ⟨mb, 0, none⟩ = some (.pointer (some ⟨sb, 0, none⟩)) := f1
  have HWA := Lib.hid (fun (vb : Nat) (W : World) (hme : Me W sb g tb most N mb fb m) hk => shrink_L (sb := sb) (tb := tb) (mb := mb) (most := most) (n := n + 1) (vb := vb) (by have := HN62.out; omega) (way_laterK sb tb mb most (pa := pa) (pb := pb) (vb := vb) (vo := wayO (.func (.func 101) #[] #[.pointer (some ⟨pa, 0, none⟩), .pointer (some ⟨pb, 0, none⟩)]) (.func (.func 101) #[] #[.pointer (some ⟨pa, 0, none⟩), .pointer (some ⟨pb, 0, none⟩)]) (.func (.func 58) #[.pointer (some ⟨sb, 0, none⟩)] #[])) (by have := HN62.out; omega) HNX) (way_laterK sb tb mb most (pa := pa) (pb := pb) (vb := vb) (vo := wayO (.func (.func 101) #[] #[.pointer (some ⟨pa, 0, none⟩), .pointer (some ⟨pb, 0, none⟩)]) (.func (.func 101) #[] #[.pointer (some ⟨pa, 0, none⟩), .pointer (some ⟨pb, 0, none⟩)]) (.func (.func 58) #[.pointer (some ⟨sb, 0, none⟩)] #[])) (by have := HN62.out; omega) HNX) hme hk (hq_of HM.out.wf HX.out))
  have f2 : (w6.drew.alloc (.cells #[.func (.func 101) #[] #[.pointer (some ⟨pa, 0, none⟩), .pointer (some ⟨pb, 0, none⟩)], .func (.func 101) #[] #[.pointer (some ⟨pa, 0, none⟩), .pointer (some ⟨pb, 0, none⟩)], .func (.func 58) #[.pointer (some ⟨sb, 0, none⟩)] #[]] 162)).cell? ⟨w.heap.size, 0, none⟩ = some (.int .u32 (x : Int)) := by rw [(bel1 w6.drew _).cell (blk_lt f0)]; exact f0
  have f2' : (w6.alloc (.cells #[.func (.func 101) #[] #[.pointer (some ⟨pa, 0, none⟩), .pointer (some ⟨pb, 0, none⟩)], .func (.func 101) #[] #[.pointer (some ⟨pa, 0, none⟩), .pointer (some ⟨pb, 0, none⟩)], .func (.func 58) #[.pointer (some ⟨sb, 0, none⟩)] #[]] 162)).cell? ⟨w.heap.size, 0, none⟩ = some (.int .u32 (x : Int)) := f2
  clear e0 m0
  go_region_with
    (first
      | (go_at_call 93; (first | (refine (parts_any HM6.out HX.out).mono ?_; rintro e w7 ⟨rfl, hb7⟩; have HB7 := Lib.hid (HB6.out.trans (hb7.mono HB6.out.size)); have HM7 := Lib.hid (HM0.out.later HB7.out); have HV := Lib.hid (Oe.new HM7.out #[.func (.func 101) #[] #[.pointer (some ⟨pa, 0, none⟩), .pointer (some ⟨pb, 0, none⟩)], .func (.func 101) #[] #[.pointer (some ⟨pa, 0, none⟩), .pointer (some ⟨pb, 0, none⟩)], .func (.func 58) #[.pointer (some ⟨sb, 0, none⟩)] #[]] 162); have HKP := Lib.hid (Kp.three HV.out ((HPA.out.later hb7).later (bel1 w7 _)) ((HPB.out.later hb7).later (bel1 w7 _))); have HBZ := Lib.hid (HB7.out.trans ((bel1 w7 (.cells #[.func (.func 101) #[] #[.pointer (some ⟨pa, 0, none⟩), .pointer (some ⟨pb, 0, none⟩)], .func (.func 101) #[] #[.pointer (some ⟨pa, 0, none⟩), .pointer (some ⟨pb, 0, none⟩)], .func (.func 58) #[.pointer (some ⟨sb, 0, none⟩)] #[]] 162)).mono HB7.out.size)); have g1 : w7.cell? ⟨mb, 0, none⟩ = some (.pointer (some ⟨sb, 0, none⟩)) := by rw [hb7.cell (blk_lt f1)]; exact f1) | (refine (parts_any (HM6.out.later (bel1 w6.drew (.cells #[.func (.func 101) #[] #[.pointer (some ⟨pa, 0, none⟩), .pointer (some ⟨pb, 0, none⟩)], .func (.func 101) #[] #[.pointer (some ⟨pa, 0, none⟩), .pointer (some ⟨pb, 0, none⟩)], .func (.func 58) #[.pointer (some ⟨sb, 0, none⟩)] #[]] 162))) HX.out).mono ?_; rintro e w7 ⟨rfl, hb7⟩; have HBQ := Lib.hid ((bel1 w6.drew (.cells #[.func (.func 101) #[] #[.pointer (some ⟨pa, 0, none⟩), .pointer (some ⟨pb, 0, none⟩)], .func (.func 101) #[] #[.pointer (some ⟨pa, 0, none⟩), .pointer (some ⟨pb, 0, none⟩)], .func (.func 58) #[.pointer (some ⟨sb, 0, none⟩)] #[]] 162)).trans (hb7.mono (bel1 w6.drew _).size)); have HV := Lib.hid ((Oe.new HM6.out #[.func (.func 101) #[] #[.pointer (some ⟨pa, 0, none⟩), .pointer (some ⟨pb, 0, none⟩)], .func (.func 101) #[] #[.pointer (some ⟨pa, 0, none⟩), .pointer (some ⟨pb, 0, none⟩)], .func (.func 58) #[.pointer (some ⟨sb, 0, none⟩)] #[]] 162).later hb7); have HKP := Lib.hid (Kp.three HV.out (HPA.out.later HBQ.out) (HPB.out.later HBQ.out)); have HBZ := Lib.hid (HB6.out.trans (HBQ.out.mono HB6.out.size)))); clear hb7)
      | (go_at_call 94; have HSH := Lib.hid (HWA.out _ _ (HM0.out.later HBZ.out) HKP.out); refine HSH.out.mono ?_; rintro e w8 ⟨g8, N8, fb8, m8, hmx8, hres⟩; have HMX8 := Lib.hid (((Mx.of_below HM.out HB.out).trans ((Mx.of_below HM0.out HBZ.out).trans hmx8)).mono (show 0 + (0 + (9 * (1 + c) + 4 * (1 + c) + 1)) ≤ 9 * (1 + c) + 4 * (1 + c) + 1 by omega)); have HFI : Hid (Find most e N8 (n + 1) x P) := find_of HM.out.wf HX.out (by obtain ⟨E, hE, _⟩ := hmx8.ext; exact ⟨E, hE⟩) (by have := HHP.out; omega) (by rw [HHP.out, Nat.pow_succ, Nat.mul_two]; exact (gens_add _ _ _).symm) (by have := pow_two2 n; omega) hres; clear hmx8 hres HSH; obtain ⟨r, ev, rfl⟩ := find_out HFI.out))
  all_goals
    go_wp2_with fail
    go_ret2
    exact ⟨g8, N8, fb8, m8, HMX8.out, HFI.out⟩
end Go.Proofs.YtaapkngpnlnjeaaGreatDoor
