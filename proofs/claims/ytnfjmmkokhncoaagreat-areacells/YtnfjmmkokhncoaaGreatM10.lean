-- M10
import Derived.Test.YtnfjmmkokhncoaaGreatM07
import Derived.Test.YtnfjmmkokhncoaaGreatM09
section
namespace Go.Proofs.YtnfjmmkokhncoaaGreat
open Go.RowKit Go.Maps
set_option maxRecDepth 100000

theorem kept {w w' : World} {b : Nat} {o : Obj} (h : w.heap[b]? = some o) (hb : Below w.heap.size w w') : w'.heap[b]? = some o := by
  rw [hb.block b (Array.getElem?_eq_some_iff.1 h).1]; exact h
theorem new_2 (w : World) (o1 o2 : Obj) : ((w.alloc o1).alloc o2).heap[w.heap.size + 1]? = some o2 := by
  have := heap_alloc_new (w.alloc o1) o2
  rw [show (w.alloc o1).heap.size = w.heap.size + 1 by simp] at this
  exact this
theorem new_3 (w : World) (o1 o2 o3 : Obj) : (((w.alloc o1).alloc o2).alloc o3).heap[w.heap.size + 1 + 1]? = some o3 := by
  have := heap_alloc_new ((w.alloc o1).alloc o2) o3
  rw [show ((w.alloc o1).alloc o2).heap.size = w.heap.size + 1 + 1 by simp] at this
  exact this
theorem k_res2 {w W : World} {B b : Nat} {k : K4} (hb : Below B w W) (hB : B ≤ b) (h : W.heap[b]? = some (kO k)) (d : K4) :
    ∃ W', ((((W.setCell ⟨b, 0, none⟩ (.int .u32 (d.1 : Int))).setCell ⟨b, 1, none⟩ (.int .u32 (d.2.1 : Int))).setCell ⟨b, 2, none⟩ (.int .u32 (d.2.2.1 : Int))).setCell ⟨b, 3, none⟩ (.int .u32 (d.2.2.2 : Int))) = W' ∧ Below B w W' ∧ W'.heap[b]? = some (kO d) :=
  ⟨_, rfl, (((hb.setCell (p := ⟨b, 0, none⟩) hB _).setCell (p := ⟨b, 1, none⟩) hB _).setCell (p := ⟨b, 2, none⟩) hB _).setCell (p := ⟨b, 3, none⟩) hB _, KAt.put h d⟩
theorem of_sqk {w : World} {sb g tb cap most : Nat} {N : List Nd} (h : St w sb g tb cap most N) {n x : Nat} (hx : Sq N (n + 1) x) :
    Calls Tryz.prog 55 #[.pointer (some ⟨sb, 0, none⟩), .int .u32 (x : Int)] w fun e w' => e = .returned (.tuple #[.agg #[.int .u32 ((kidZ N x).1 : Int), .int .u32 ((kidZ N x).2.1 : Int), .int .u32 ((kidZ N x).2.2.1 : Int), .int .u32 ((kidZ N x).2.2.2 : Int)], .bool true]) ∧ Below w.heap.size w w' := of_sq h hx
set_option maxHeartbeats 2000000 in
theorem middle_any {w : World} {sb g tb cap most : Nat} {N : List Nd} (h : St w sb g tb cap most N) {n : Nat} {k : K4} (hk : Fo N (n + 1) k) :
    Calls Tryz.prog 57 #[.pointer (some ⟨sb, 0, none⟩), .agg #[.int .u32 (k.1 : Int), .int .u32 (k.2.1 : Int), .int .u32 (k.2.2.1 : Int), .int .u32 (k.2.2.2 : Int)]] w fun e w' => e = .returned (.agg #[.int .u32 ((midK N k).1 : Int), .int .u32 ((midK N k).2.1 : Int), .int .u32 ((midK N k).2.2.1 : Int), .int .u32 ((midK N k).2.2.2 : Int)]) ∧ Below w.heap.size w w' := by
  have HS := Lib.hid h
  have HK := Lib.hid hk
  clear h hk
  go_enter Tryz.func57, Tryz.ntmps57
  go_wp2_with fail
  go_loopg [6, 7, 8, 9, 11] 4 (fun m v6 v7 v8 v9 cnt wr => ∃ (j : Nat) (f : Nat → Nat), m = 4 - j ∧ j ≤ 4 ∧ cnt = .int .i64 (j : Int) ∧ wr.heap[w.heap.size + 1 + 1]? = some (kO (mk4 f)) ∧ (∀ i, i < j → f i = midF N k i) ∧ Below w.heap.size w wr ∧ wr.heap[w.heap.size + 1]? = some (kO (0, 0, 0, 0)))
  case atStart =>
    refine ⟨0, fun _ => 0, rfl, Nat.zero_le _, rfl, ?_, fun i hi => by omega, bel3 _ _ _ _, ?_⟩
    · exact new_3 _ _ _ _
    · exact kept (new_2 _ _ _) (bel1 _ _)
  case round =>
    obtain ⟨j, f, hm, hj, rfl, hb, hf, hB, hr⟩ := hrel
    have HM := Lib.hid hm
    have HBK := Lib.hid hb
    have HF := Lib.hid hf
    have HB := Lib.hid hB
    have HR := Lib.hid hr
    have HS1 := Lib.hid (HS.out.later hB)
    clear hm hb hf hB hr
    by_cases hlt : j < 4
    · have hgj : decide ((j : Int) < 4) = true := by simp; omega
      have hix := kix k hlt
      have HX := Lib.hid (fo_iff.1 HK.out j hlt)
      go_wp2_with fail
      refine (of_sqk HS1.out HX.out).mono ?_
      rintro e w5 ⟨rfl, hb⟩
      have HB5 := Lib.hid (HB.out.trans (hb.mono HB.out.size))
      have HBK5 := Lib.hid (kept HBK.out hb)
      have HR5 := Lib.hid (kept HR.out hb)
      clear hb HB HBK HR
      go_wp2_with fail
      refine (across_any j hlt _).mono ?_
      rintro e w6 ⟨rfl, rfl⟩
      have hk6 := k_cell (i := 3 - j) (k := kidZ N (kAt k j)) (heap_alloc_new w5 (.cells #[.int .u32 ((kidZ N (kAt k j)).1 : Int), .int .u32 ((kidZ N (kAt k j)).2.1 : Int), .int .u32 ((kidZ N (kAt k j)).2.2.1 : Int), .int .u32 ((kidZ N (kAt k j)).2.2.2 : Int)] 96)) (by omega)
      have HB6 := Lib.hid (HB5.out.trans ((bel1 w5 (.cells #[.int .u32 ((kidZ N (kAt k j)).1 : Int), .int .u32 ((kidZ N (kAt k j)).2.1 : Int), .int .u32 ((kidZ N (kAt k j)).2.2.1 : Int), .int .u32 ((kidZ N (kAt k j)).2.2.2 : Int)] 96)).mono HB5.out.size))
      have HBK6 := Lib.hid (kept HBK5.out (bel1 w5 (.cells #[.int .u32 ((kidZ N (kAt k j)).1 : Int), .int .u32 ((kidZ N (kAt k j)).2.1 : Int), .int .u32 ((kidZ N (kAt k j)).2.2.1 : Int), .int .u32 ((kidZ N (kAt k j)).2.2.2 : Int)] 96)))
      have HR6 := Lib.hid (kept HR5.out (bel1 w5 (.cells #[.int .u32 ((kidZ N (kAt k j)).1 : Int), .int .u32 ((kidZ N (kAt k j)).2.1 : Int), .int .u32 ((kidZ N (kAt k j)).2.2.1 : Int), .int .u32 ((kidZ N (kAt k j)).2.2.2 : Int)] 96)))
      have hm6 := k_cell HBK6.out hlt
      generalize w5.alloc (.cells #[.int .u32 ((kidZ N (kAt k j)).1 : Int), .int .u32 ((kidZ N (kAt k j)).2.1 : Int), .int .u32 ((kidZ N (kAt k j)).2.2.1 : Int), .int .u32 ((kidZ N (kAt k j)).2.2.2 : Int)] 96) = W6 at *
      clear HBK5 HR5 HB5
      have hcast : (3 : Int) - (j : Int) = ((3 - j : Nat) : Int) := by omega
      obtain ⟨t1, t2⟩ := hk6
      obtain ⟨t3, t4⟩ := hm6
      have i1 : (0 : Int) ≤ ((3 - j : Nat) : Int) := by omega
      have i2 : ((3 - j : Nat) : Int) < 4 := by omega
      have i3 : (0 : Int) ≤ (j : Int) := by omega
      have i4 : (j : Int) < 4 := by omega
      rw [hcast]
      clear hcast
      have HV : Hid (kAt (kidZ N (kAt k j)) (3 - j) = midF N k j) := rfl
      generalize kAt (kidZ N (kAt k j)) (3 - j) = v at *
      generalize 3 - j = q at *
      go_wp2_with fail
      go_roundg (4 - (j + 1))
      case measure => rw [HM.out]; omega
      case rel =>
        refine ⟨j + 1, fun i => if i = j then v else f i, rfl, by omega, by go_num, ?_, fun i hi => ?_, HB6.out.setCell (p := ⟨w.heap.size + 1 + 1, j, none⟩) (by show _ ≤ _ + 1 + 1; omega) _, ?_⟩
        · rw [k_set HBK6.out hlt v]
          refine congrArg some (congrArg kO (mk4_ext fun i hi => ?_))
          show (if i = j then v else kAt (mk4 f) i) = _
          rw [kAt_mk4 _ hi]
        · show (if i = j then v else f i) = _
          by_cases e : i = j
          · subst e; rw [if_pos rfl]; exact HV.out
          · rw [if_neg e]; exact HF.out i (by omega)
        · rw [Below.heap_setCell _ _ _ _ (by simp)]; exact HR6.out
    · obtain rfl : j = 4 := by omega
      have hgj : decide (((4 : Nat) : Int) < 4) = false := by simp
      have HE : Hid (mk4 f = midK N k) := mk4_ext HF.out
      rw [HE.out] at HBK
      obtain ⟨c0, c1, c2, c3⟩ := k_cells HBK.out
      obtain ⟨r0, r1, r2, r3, q0, q1, q2, q3⟩ := KAt.cells (k := (0, 0, 0, 0)) HR.out
      go_wp2_with fail
      obtain ⟨W, hW, hb, hk⟩ := k_res2 HB.out (by omega) HR.out (midK N k)
      rw [hW]
      obtain ⟨t0, t1, t2, t3⟩ := k_cells hk
      refine bodyPost_ret (v := _) (by simp [results, Tryz.results57, go_sem, t0, t1, t2, t3]; rfl) rfl ?_
      exact ⟨rfl, hb⟩
end Go.Proofs.YtnfjmmkokhncoaaGreat
end

section
namespace Go.Proofs.YtnfjmmkokhncoaaGreat
open Go.RowKit Go.Maps
set_option maxRecDepth 100000

/-- What a painter remembers is true. -/
def Mem (N : List Nd) (c : Nat) (m : Part → Option Value) : Prop := ∀ a v, m a = some v → Sq0 N a.n a.x ∧ ∃ y : Nat, v = .int .u32 (y : Int) ∧ Con N a.n y (Tc N a.n a.x a.r c [])
theorem Mem.app {N E : List Nd} {c : Nat} {m : Part → Option Value} (hw : Wf N) (hw' : Wf (N ++ E)) (h : Mem N c m) : Mem (N ++ E) c m := fun a v hv => by
  obtain ⟨h1, y, rfl, h2⟩ := h a v hv
  exact ⟨h1.app E, y, rfl, by rw [Tc_app hw E hw' h1]; exact h2.app hw E⟩
def pnO (sb c mb : Nat) : Obj := .cells #[.pointer (some ⟨sb, 0, none⟩), .int .u32 (c : Int), .map (some mb)] 137 (0, 0)
theorem pn_cells {w : World} {b sb c mb : Nat} (h : w.heap[b]? = some (pnO sb c mb)) : w.cell? ⟨b, 0, none⟩ = some (.pointer (some ⟨sb, 0, none⟩)) ∧ w.cell? ⟨b, 1, none⟩ = some (.int .u32 (c : Int)) ∧ w.cell? ⟨b, 2, none⟩ = some (.map (some mb)) :=
  ⟨by rw [Lib.cell_of_heap h]; rfl, by rw [Lib.cell_of_heap h]; rfl, by rw [Lib.cell_of_heap h]; rfl⟩
/-- A painter: its store, its block, its memory. -/
structure Pn (w : World) (sb g tb mb ab most : Nat) (N : List Nd) (P : R4) (c : Nat) : Prop where
  st : ∃ cap, St w sb g tb cap most N
  pt : w.heap[ab]? = some (pnO sb c mb)
  mm : ∃ m, GMap (mkP P) w mb m ∧ Mem N c m
  mb_ : sb ≠ mb ∧ g ≠ mb ∧ tb ≠ mb
  ab_ : ab ≠ sb ∧ ab ≠ g ∧ ab ≠ tb
theorem Pn.wf {w : World} {sb g tb mb ab most c : Nat} {N : List Nd} {P : R4} (h : Pn w sb g tb mb ab most N P c) : Wf N := by obtain ⟨_, hs⟩ := h.st; exact hs.wf
theorem Pn.mlt {w : World} {sb g tb mb ab most c : Nat} {N : List Nd} {P : R4} (h : Pn w sb g tb mb ab most N P c) : mb < w.heap.size := by obtain ⟨m, h1, _⟩ := h.mm; exact h1.lt
theorem Pn.alt {w : World} {sb g tb mb ab most c : Nat} {N : List Nd} {P : R4} (h : Pn w sb g tb mb ab most N P c) : ab < w.heap.size := (Array.getElem?_eq_some_iff.1 h.pt).1
theorem Pn.am {w : World} {sb g tb mb ab most c : Nat} {N : List Nd} {P : R4} (h : Pn w sb g tb mb ab most N P c) : ab ≠ mb := by
  obtain ⟨m, h1, _⟩ := h.mm
  obtain ⟨es, cl, h2⟩ := h1.is_map
  intro e
  have := h.pt
  rw [e, h2] at this
  cases this
theorem Pn.later {w w' : World} {sb g tb mb ab most c : Nat} {N : List Nd} {P : R4} (h : Pn w sb g tb mb ab most N P c) (hb : Below w.heap.size w w') : Pn w' sb g tb mb ab most N P c := by
  obtain ⟨cap, hs⟩ := h.st
  obtain ⟨m, h1, h2⟩ := h.mm
  exact ⟨⟨cap, hs.later hb⟩, by rw [hb.block ab h.alt]; exact h.pt, ⟨m, h1.later hb, h2⟩, h.mb_, h.ab_⟩
theorem Pn.drew {w : World} {sb g tb mb ab most c : Nat} {N : List Nd} {P : R4} (h : Pn w sb g tb mb ab most N P c) : Pn w.drew sb g tb mb ab most N P c := by
  obtain ⟨cap, hs⟩ := h.st
  obtain ⟨m, h1, h2⟩ := h.mm
  exact ⟨⟨cap, hs.drew⟩, h.pt, ⟨m, h1.drewN 1, h2⟩, h.mb_, h.ab_⟩
/-- A painter has gone on: the squares stay. -/
structure Px (sb tb mb ab most : Nat) (P : R4) (c : Nat) (w : World) (g : Nat) (N : List Nd) (w' : World) (g' : Nat) (N' : List Nd) : Prop where
  pn : Pn w' sb g' tb mb ab most N' P c
  frm : Frm [sb, g, tb, mb] w w'
  gin : g' = g ∨ w.heap.size ≤ g'
  ext : ∃ E, N' = N ++ E
theorem Px.of_below {w w' : World} {sb g tb mb ab most c : Nat} {N : List Nd} {P : R4} (h : Pn w sb g tb mb ab most N P c) (hb : Below w.heap.size w w') : Px sb tb mb ab most P c w g N w' g N :=
  ⟨h.later hb, Frm.of_below hb, Or.inl rfl, [], by simp⟩
theorem Px.trans {w w' w'' : World} {sb tb mb ab most c g g' g'' : Nat} {N N' N'' : List Nd} {P : R4} (h : Px sb tb mb ab most P c w g N w' g' N') (h' : Px sb tb mb ab most P c w' g' N' w'' g'' N'') : Px sb tb mb ab most P c w g N w'' g'' N'' := by
  refine ⟨h'.pn, h.frm.trans h'.frm (fun b hb => ?_), ?_, ?_⟩
  · simp only [List.mem_cons, List.not_mem_nil, or_false] at hb
    rcases hb with e | e | e | e
    · exact Or.inl (by simp [e])
    · rcases h.gin with e' | e'
      · exact Or.inl (by simp [e, e'])
      · exact Or.inr (by omega)
    · exact Or.inl (by simp [e])
    · exact Or.inl (by simp [e])
  · rcases h'.gin with e | e
    · rw [e]; exact h.gin
    · exact Or.inr (Nat.le_trans h.frm.size e)
  · obtain ⟨E, e1⟩ := h.ext
    obtain ⟨F, f1⟩ := h'.ext
    exact ⟨E ++ F, by rw [f1, e1, List.append_assoc]⟩
/-- The store alone has gone on. -/
theorem Px.of_st {w w' : World} {sb g g' tb mb ab most c cap' : Nat} {N N' : List Nd} {P : R4} (h : Pn w sb g tb mb ab most N P c) (hs : St w' sb g' tb cap' most N') (hf : Frm [sb, g, tb] w w') (hg : g' = g ∨ w.heap.size ≤ g') (he : ∃ E, N' = N ++ E) : Px sb tb mb ab most P c w g N w' g' N' := by
  have hml := h.mlt
  have hal := h.alt
  obtain ⟨m1, m2, m3⟩ := h.mb_
  obtain ⟨a1, a2, a3⟩ := h.ab_
  have hwf := h.wf
  obtain ⟨m, h1, h2⟩ := h.mm
  refine ⟨⟨⟨cap', hs⟩, ?_, ⟨m, h1.blk (hf.block mb hml (by simp; omega)), ?_⟩, ⟨m1, ?_, m3⟩, a1, ?_, a3⟩, ?_, hg, he⟩
  · rw [hf.block ab hal (by simp; omega)]; exact h.pt
  · obtain ⟨E, rfl⟩ := he
    exact h2.app hwf hs.wf
  · rcases hg with e | e
    · rw [e]; exact m2
    · omega
  · rcases hg with e | e
    · rw [e]; exact a2
    · omega
  · exact ⟨hf.os, hf.tape, hf.output, hf.size, fun b hb hn => hf.block b hb (fun hm => hn (by simp only [List.mem_cons, List.not_mem_nil, or_false] at hm ⊢; omega))⟩
theorem Px.undrew {w w' : World} {sb tb mb ab most c g g' : Nat} {N N' : List Nd} {P : R4} (h : Px sb tb mb ab most P c w.drew g N w' g' N') : Px sb tb mb ab most P c w g N w' g' N' :=
  ⟨h.pn, ⟨h.frm.os, h.frm.tape, h.frm.output, h.frm.size, h.frm.block⟩, h.gin, h.ext⟩
theorem Px.drew {w w' : World} {sb tb mb ab most c g g' : Nat} {N N' : List Nd} {P : R4} (h : Px sb tb mb ab most P c w g N w' g' N') : Px sb tb mb ab most P c w g N w'.drew g' N' :=
  ⟨h.pn.drew, ⟨h.frm.os, h.frm.tape, h.frm.output, h.frm.size, h.frm.block⟩, h.gin, h.ext⟩
theorem Px.wf {w w' : World} {sb tb mb ab most c g g' : Nat} {N N' : List Nd} {P : R4} (h : Px sb tb mb ab most P c w g N w' g' N') : Wf N' := h.pn.wf
/-- A block of one's own, beside a painter. -/
structure Oc (w : World) (sb g tb mb b : Nat) (o : Obj) : Prop where
  at_ : w.heap[b]? = some o
  sb_ : b ≠ sb
  g_ : b ≠ g
  tb_ : b ≠ tb
  mb_ : b ≠ mb
theorem Oc.lt {w : World} {sb g tb mb b : Nat} {o : Obj} (h : Oc w sb g tb mb b o) : b < w.heap.size := (Array.getElem?_eq_some_iff.1 h.at_).1
theorem Oc.later {w w' : World} {sb g tb mb b : Nat} {o : Obj} (h : Oc w sb g tb mb b o) (hb : Below w.heap.size w w') : Oc w' sb g tb mb b o := ⟨by rw [hb.block b h.lt]; exact h.at_, h.sb_, h.g_, h.tb_, h.mb_⟩
theorem Oc.drew {w : World} {sb g tb mb b : Nat} {o : Obj} (h : Oc w sb g tb mb b o) : Oc w.drew sb g tb mb b o := ⟨h.at_, h.sb_, h.g_, h.tb_, h.mb_⟩
theorem Oc.new {w : World} {sb g tb mb ab most c : Nat} {N : List Nd} {P : R4} (h : Pn w sb g tb mb ab most N P c) (cs : Array Value) (t : TypeId) : Oc (w.alloc (.cells cs t)) sb g tb mb w.heap.size (.cells cs t (0, 0)) := by
  obtain ⟨cap, hs⟩ := h.st
  obtain ⟨l1, l2, l3⟩ := hs.lt
  have := h.mlt
  exact ⟨heap_alloc_new w _, by omega, by omega, by omega, by omega⟩
theorem Oc.px {w w' : World} {sb tb mb ab most c g g' b : Nat} {N N' : List Nd} {P : R4} {o : Obj} (h : Oc w sb g tb mb b o) (hn : Px sb tb mb ab most P c w g N w' g' N') : Oc w' sb g' tb mb b o := by
  refine ⟨by rw [hn.frm.block b h.lt (by simp [h.sb_, h.g_, h.tb_, h.mb_])]; exact h.at_, h.sb_, ?_, h.tb_, h.mb_⟩
  rcases hn.gin with e | e
  · rw [e]; exact h.g_
  · have := h.lt; omega
theorem Oc.other {w : World} {sb g tb mb b : Nat} {o : Obj} (h : Oc w sb g tb mb b o) {p : Addr} (hp : p.block ≠ b) (v : Value) : Oc (w.setCell p v) sb g tb mb b o :=
  ⟨by rw [Below.heap_setCell _ _ _ _ (Ne.symm hp)]; exact h.at_, h.sb_, h.g_, h.tb_, h.mb_⟩
theorem Oc.set {w : World} {sb g tb mb b : Nat} {k : K4} (h : Oc w sb g tb mb b (kO k)) {i : Nat} (hi : i < 4) (v : Nat) : Oc (w.setCell ⟨b, i, none⟩ (.int .u32 (v : Int))) sb g tb mb b (kO (mk4 fun j => if j = i then v else kAt k j)) :=
  ⟨k_set h.at_ hi v, h.sb_, h.g_, h.tb_, h.mb_⟩
theorem Pn.set {w : World} {sb g tb mb ab most c b i : Nat} {N : List Nd} {P : R4} {o : Obj} (h : Pn w sb g tb mb ab most N P c) (hb : Oc w sb g tb mb b o) (ha : b ≠ ab) (v : Value) : Pn (w.setCell ⟨b, i, none⟩ v) sb g tb mb ab most N P c := by
  obtain ⟨cap, hs⟩ := h.st
  obtain ⟨m, h1, h2⟩ := h.mm
  exact ⟨⟨cap, hs.keep (Below.heap_setCell _ _ _ _ (Ne.symm hb.sb_)) (Below.heap_setCell _ _ _ _ (Ne.symm hb.g_)) (Below.heap_setCell _ _ _ _ (Ne.symm hb.tb_))⟩, by rw [Below.heap_setCell _ _ _ _ (Ne.symm ha)]; exact h.pt, ⟨m, h1.blk (Below.heap_setCell _ _ _ _ (Ne.symm hb.mb_)), h2⟩, h.mb_, h.ab_⟩
/-- A store into a block that was not there. -/
theorem Px.set {w w' : World} {sb tb mb ab most c g g' b i : Nat} {N N' : List Nd} {P : R4} {o : Obj} (h : Px sb tb mb ab most P c w g N w' g' N') (hb : Oc w' sb g' tb mb b o) (ha : b ≠ ab) (hw : w.heap.size ≤ b) (v : Value) : Px sb tb mb ab most P c w g N (w'.setCell ⟨b, i, none⟩ v) g' N' := by
  refine ⟨h.pn.set hb ha v, ⟨h.frm.os, h.frm.tape, h.frm.output, by simpa using h.frm.size, fun b' hb' hn => ?_⟩, h.gin, h.ext⟩
  rw [Below.heap_setCell _ _ _ _ (by show b' ≠ b; omega)]
  exact h.frm.block b' hb' hn
/-- What a painter's call comes to. -/
def Res8 (most : Nat) (e : Ending) (N : List Nd) (n : Nat) (f : Int → Int → Nat) (N' : List Nd) : Prop :=
  New8 N n f N' ∧ ((∃ r : Nat, e = .returned (.tuple #[.int .u32 (r : Int), .nilIface]) ∧ Con N' n r f) ∨ (e = .returned (.tuple #[.int .u32 0, .iface 52 (.int .i64 7)]) ∧ most ≤ N'.length))
theorem Res8.of {most : Nat} {e : Ending} {N : List Nd} {n : Nat} {f f' : Int → Int → Nat} {N' : List Nd} (h : Res8 most e N n f N') (hf : ∀ X Y, 0 ≤ X ∧ X < 2 ^ n → 0 ≤ Y ∧ Y < 2 ^ n → f X Y = f' X Y) : Res8 most e N n f' N' := by
  obtain ⟨h1, h2⟩ := h
  refine ⟨h1.of hf, h2.imp ?_ id⟩
  rintro ⟨r, e1, e2⟩
  exact ⟨r, e1, e2.of hf⟩
theorem make_con {w : World} {sb g tb mb ab most c : Nat} {N : List Nd} {P : R4} (h : Pn w sb g tb mb ab most N P c) {n : Nat} (hn : n < 62) {k : K4} {f : Int → Int → Nat} (hk : ∀ r b, Con N n (pick k r b) (qF f n r b)) :
    Calls Tryz.prog 74 #[.pointer (some ⟨sb, 0, none⟩), .agg #[.int .u32 (k.1 : Int), .int .u32 (k.2.1 : Int), .int .u32 (k.2.2.1 : Int), .int .u32 (k.2.2.2 : Int)]] w fun e w' => ∃ g' N', Px sb tb mb ab most P c w g N w' g' N' ∧ Res8 most e N (n + 1) f N' := by
  obtain ⟨cap, hs⟩ := h.st
  have hfo : Fo N n k := fun r b => (hk r b).1
  have hin : InK k := by
    have h' := fo_iff.1 hfo
    exact ⟨Sq.u32 hs (h' 0 (by omega)), Sq.u32 hs (h' 1 (by omega)), Sq.u32 hs (h' 2 (by omega)), Sq.u32 hs (h' 3 (by omega))⟩
  refine (make_any hs k hin).mono ?_
  rintro e w' ⟨g', cap', rfl, hS, hF, hg⟩
  rcases mk_con (most := most) hs.wf hn hk with ⟨hm, hfull⟩ | ⟨N', r, hm, hc, hnew⟩
  · rw [hm] at hS ⊢
    exact ⟨g', N, Px.of_st h hS hF hg ⟨[], by simp⟩, New8.refl _ _ _, Or.inr ⟨rfl, hfull⟩⟩
  · rw [hm] at hS ⊢
    exact ⟨g', N', Px.of_st h hS hF hg hnew.1, hnew, Or.inl ⟨r, rfl, hc⟩⟩
theorem empty_con {w : World} {sb g tb mb ab most c : Nat} {N : List Nd} {P : R4} (h : Pn w sb g tb mb ab most N P c) {n : Nat} (hn : n ≤ 62) :
    Calls Tryz.prog 45 #[.pointer (some ⟨sb, 0, none⟩), .int .i64 (n : Int)] w fun e w' => ∃ g' N', Px sb tb mb ab most P c w g N w' g' N' ∧ Res8 most e N n (fun _ _ => 0) N' := by
  obtain ⟨cap, hs⟩ := h.st
  refine (empty_any hs n hn).mono ?_
  rintro e w' ⟨g', cap', rfl, hS, hF, hg⟩
  have h0 : Con N 0 0 (fun _ _ => 0) := ⟨sq_dead hs.wf, fun _ _ _ _ => rfl⟩
  rcases em_con (most := most) n hs.wf hs.room h0 (by omega) with ⟨N', hm, hnew, hfull, _⟩ | ⟨N', r, hm, hc, hnew, _⟩
  · rw [hm] at hS ⊢
    rw [Nat.zero_add] at hnew
    exact ⟨g', N', Px.of_st h hS hF hg hnew.1, hnew, Or.inr ⟨rfl, hfull⟩⟩
  · rw [hm] at hS ⊢
    rw [Nat.zero_add] at hnew hc
    exact ⟨g', N', Px.of_st h hS hF hg hnew.1, hnew, Or.inl ⟨r, rfl, hc⟩⟩
set_option maxHeartbeats 1000000 in
theorem real_any {w : World} {sb g tb mb ab most c : Nat} {N : List Nd} {P : R4} (h : Pn w sb g tb mb ab most N P c) {n x : Nat} (hn : n ≤ 62) (hx : Sq0 N n x) :
    Calls Tryz.prog 105 #[.pointer (some ⟨ab, 0, none⟩), .int .u32 (x : Int), .int .i64 (n : Int)] w fun e w' => ∃ g' N', Px sb tb mb ab most P c w g N w' g' N' ∧ Res8 most e N n (getZ N n x) N' := by
  have HP := Lib.hid h
  obtain ⟨p0, p1, p2⟩ := pn_cells h.pt
  by_cases h0 : x = 0
  · subst h0
    have HE := Lib.hid (empty_con h hn)
    have HWF := Lib.hid h.wf
    clear h hx
    go_enter Tryz.func105, Tryz.ntmps105
    go_wp2_with fail
    refine HE.out.mono ?_
    rintro e w' ⟨g', N', hpx, hres⟩
    have HR : Hid (Res8 most e N n (getZ N n 0) N') := hres.of fun X Y _ _ => (get_dead HWF.out n X Y).symm
    have HPX := Lib.hid hpx
    clear hpx hres
    rcases HR.out.2 with ⟨r, rfl, hc⟩ | ⟨rfl, hf⟩
    · have HC := Lib.hid hc
      clear hc
      go_wp2_with fail
      go_ret2
      exact ⟨g', N', HPX.out, HR.out⟩
    · have HC := Lib.hid hf
      clear hf
      go_wp2_with fail
      go_ret2
      exact ⟨g', N', HPX.out, HR.out⟩
  · have hsq : Sq N n x := hx.resolve_left h0
    have e0 : ((x : Int) == 0) = false := by rw [beq_eq_false_iff_ne]; omega
    have HR : Hid (Con N n x (getZ N n x)) := ⟨hsq, fun _ _ _ _ => rfl⟩
    clear h hx hsq p0 p1 p2
    go_enter Tryz.func105, Tryz.ntmps105
    go_wp2
    go_ret2
    exact ⟨g, N, Px.of_below HP.out (Below.refl _ _), New8.refl _ _ _, Or.inl ⟨x, rfl, HR.out⟩⟩
set_option maxHeartbeats 1000000 in
theorem four_any {w : World} {sb g tb mb ab most c : Nat} {N : List Nd} {P : R4} (h : Pn w sb g tb mb ab most N P c) {n x : Nat} (hx : Sq0 N (n + 1) x) :
    Calls Tryz.prog 103 #[.pointer (some ⟨ab, 0, none⟩), .int .u32 (x : Int)] w fun e w' => e = .returned (.agg #[.int .u32 ((kidZ N x).1 : Int), .int .u32 ((kidZ N x).2.1 : Int), .int .u32 ((kidZ N x).2.2.1 : Int), .int .u32 ((kidZ N x).2.2.2 : Int)]) ∧ Below w.heap.size w w' := by
  have HB := Lib.hid (bel1 w (.cells #[.int .u32 0, .int .u32 0, .int .u32 0, .int .u32 0] 96))
  have HP := Lib.hid (h.later HB.out)
  have hk0 : KAt (w.alloc (.cells #[.int .u32 0, .int .u32 0, .int .u32 0, .int .u32 0] 96)) w.heap.size (0, 0, 0, 0) := k_new w (0, 0, 0, 0)
  have HK := Lib.hid hk0
  clear hk0
  obtain ⟨p0, p1, p2⟩ := pn_cells HP.out.pt
  obtain ⟨cap, hs⟩ := HP.out.st
  by_cases h0 : x = 0
  · subst h0
    have hkz : kidZ N 0 = (0, 0, 0, 0) := by unfold kidZ; rw [h.wf.dead]
    rw [hkz]
    have hO := of_bad hs 0 (by omega) (by unfold lvZ; rw [h.wf.dead]; simp)
    unfold kv at hO
    rw [show (((0 : Nat) : Int)) = 0 from rfl] at hO
    have HO := Lib.hid hO
    clear hO
    rw [show (((0 : Nat) : Int)) = 0 from rfl]
    clear h hx hs hkz
    go_enter Tryz.func103, Tryz.ntmps103
    go_wp2_with fail
    refine HO.out.mono ?_
    rintro e w2 ⟨rfl, hb⟩
    have HB2 := Lib.hid (HB.out.trans (hb.mono HB.out.size))
    have HK2 := Lib.hid (HK.out.later hb)
    clear hb HK HB p0 p1 p2
    obtain ⟨c0, c1, c2, c3, f0, f1, f2, f3⟩ := (HK2.out.later (bel1 w2 (.cells #[.int .u32 0, .int .u32 0, .int .u32 0, .int .u32 0] 96))).cells
    go_wp2_with fail
    obtain ⟨W', hW', hb', hk'⟩ := k_res2 (HB2.out.trans ((bel1 w2 (.cells #[.int .u32 0, .int .u32 0, .int .u32 0, .int .u32 0] 96)).mono HB2.out.size)) (Nat.le_refl _) (HK2.out.later (bel1 w2 (.cells #[.int .u32 0, .int .u32 0, .int .u32 0, .int .u32 0] 96))) (0, 0, 0, 0)
    rw [show (((((w2.alloc (.cells #[.int .u32 0, .int .u32 0, .int .u32 0, .int .u32 0] 96)).setCell ⟨w.heap.size, 0, none⟩ (.int .u32 0)).setCell ⟨w.heap.size, 1, none⟩ (.int .u32 0)).setCell ⟨w.heap.size, 2, none⟩ (.int .u32 0)).setCell ⟨w.heap.size, 3, none⟩ (.int .u32 0)) = W' from hW']
    obtain ⟨q0, q1, q2, q3⟩ := k_cells hk'
    refine bodyPost_ret (v := _) (by simp [results, Tryz.results103, go_sem, q0, q1, q2, q3]; rfl) rfl ?_
    exact ⟨rfl, hb'⟩
  · have hsq : Sq N (n + 1) x := hx.resolve_left h0
    have HO := Lib.hid (of_sqk hs hsq)
    clear h hx hs hsq
    generalize kidZ N x = k at *
    go_enter Tryz.func103, Tryz.ntmps103
    go_wp2_with fail
    refine HO.out.mono ?_
    rintro e w2 ⟨rfl, hb⟩
    have HB2 := Lib.hid (HB.out.trans (hb.mono HB.out.size))
    have HK2 := Lib.hid (HK.out.later hb)
    clear hb HK HB p0 p1 p2
    obtain ⟨c0, c1, c2, c3, f0, f1, f2, f3⟩ := (HK2.out.later (bel1 w2 (.cells #[.int .u32 (k.1 : Int), .int .u32 (k.2.1 : Int), .int .u32 (k.2.2.1 : Int), .int .u32 (k.2.2.2 : Int)] 96))).cells
    have hk9 := k_new w2 k
    obtain ⟨d0, d1, d2, d3, _⟩ := hk9.cells
    go_wp2_with fail
    obtain ⟨W', hW', hb', hk'⟩ := k_res2 (HB2.out.trans ((bel1 w2 (.cells #[.int .u32 (k.1 : Int), .int .u32 (k.2.1 : Int), .int .u32 (k.2.2.1 : Int), .int .u32 (k.2.2.2 : Int)] 96)).mono HB2.out.size)) (Nat.le_refl _) (HK2.out.later (bel1 w2 (.cells #[.int .u32 (k.1 : Int), .int .u32 (k.2.1 : Int), .int .u32 (k.2.2.1 : Int), .int .u32 (k.2.2.2 : Int)] 96))) k
    rw [hW']
    obtain ⟨q0, q1, q2, q3⟩ := k_cells hk'
    refine bodyPost_ret (v := _) (by simp [results, Tryz.results103, go_sem, q0, q1, q2, q3]; rfl) rfl ?_
    exact ⟨rfl, hb'⟩
end Go.Proofs.YtnfjmmkokhncoaaGreat
end

section
namespace Go.Proofs.YtnfjmmkokhncoaaGreat
open Go.RowKit Go.Maps
set_option maxRecDepth 100000

set_option maxHeartbeats 2000000 in
theorem inMiddle_any {w : World} {sb g tb cap most : Nat} {N : List Nd} (h : St w sb g tb cap most N) {n z : Nat} {k : K4} (hk : Fo N (n + 1) k) :
    Calls Tryz.prog 56 #[.agg #[.pointer (some ⟨sb, 0, none⟩), .int .u32 (z : Int)], .agg #[.int .u32 (k.1 : Int), .int .u32 (k.2.1 : Int), .int .u32 (k.2.2.1 : Int), .int .u32 (k.2.2.2 : Int)]] w fun e w' => ∃ b, e = .returned (.bool b) ∧ (b = true ↔ InMid N k) ∧ Below w.heap.size w w' := by
  have HB := Lib.hid (bel2 w (.cells #[.pointer (some ⟨sb, 0, none⟩), .int .u32 (z : Int)] 32) (.cells #[.int .u32 (k.1 : Int), .int .u32 (k.2.1 : Int), .int .u32 (k.2.2.1 : Int), .int .u32 (k.2.2.2 : Int)] 96))
  have HS := Lib.hid (h.later HB.out)
  have HP := Lib.hid ((Ob.new h #[.pointer (some ⟨sb, 0, none⟩), .int .u32 (z : Int)] 32).later (bel1 _ (.cells #[.int .u32 (k.1 : Int), .int .u32 (k.2.1 : Int), .int .u32 (k.2.2.1 : Int), .int .u32 (k.2.2.2 : Int)] 96)))
  have HK := Lib.hid hk
  clear h hk
  go_enter Tryz.func56, Tryz.ntmps56
  go_wp2_with fail
  generalize (w.alloc (.cells #[.pointer (some ⟨sb, 0, none⟩), .int .u32 (z : Int)] 32)).alloc (.cells #[.int .u32 (k.1 : Int), .int .u32 (k.2.1 : Int), .int .u32 (k.2.2.1 : Int), .int .u32 (k.2.2.2 : Int)] 96) = W0 at *
  go_loopg [12] 4 (fun m cnt wr => ∃ (j : Nat), m = 4 - j ∧ j ≤ 4 ∧ cnt = .int .i64 (j : Int) ∧ (∀ i, i < j → ∀ t, t < 4 → t = 3 - i ∨ ctZ N (kAt (kidZ N (kAt k i)) t) = 0) ∧ Below W0.heap.size W0 wr)
  case atStart => exact ⟨0, rfl, Nat.zero_le _, rfl, fun i hi => by omega, Below.refl _ _⟩
  case round =>
    obtain ⟨j, hm, hj, rfl, hf, hB⟩ := hrel
    have HM := Lib.hid hm
    have HF := Lib.hid hf
    have HB1 := Lib.hid hB
    have HS1 := Lib.hid (HS.out.later hB)
    have HP1 := Lib.hid (HP.out.later hB)
    clear hm hf hB
    by_cases hlt : j < 4
    · have hgj : decide ((j : Int) < 4) = true := by simp; omega
      have hix := kix k hlt
      have HX := Lib.hid (fo_iff.1 HK.out j hlt)
      obtain ⟨p0, p1⟩ := pl_cells HP1.out.at_
      go_wp2_with fail
      refine (of_sqk HS1.out HX.out).mono ?_
      rintro e w5 ⟨rfl, hb⟩
      have HB5 := Lib.hid (HB1.out.trans (hb.mono HB1.out.size))
      have HS5 := Lib.hid (HS1.out.later hb)
      have HP5 := Lib.hid (HP1.out.later hb)
      clear hb HB1 HS1 HP1 p0 p1
      have HFK := Lib.hid (HX.out.kid HS5.out.wf)
      generalize hkd : kidZ N (kAt k j) = d at *
      have HKD := Lib.hid hkd
      clear hkd
      have HB6 := Lib.hid (HB5.out.trans ((bel1 w5 (.cells #[.int .u32 (d.1 : Int), .int .u32 (d.2.1 : Int), .int .u32 (d.2.2.1 : Int), .int .u32 (d.2.2.2 : Int)] 96)).mono HB5.out.size))
      have HS6 := Lib.hid (HS5.out.later (bel1 w5 (.cells #[.int .u32 (d.1 : Int), .int .u32 (d.2.1 : Int), .int .u32 (d.2.2.1 : Int), .int .u32 (d.2.2.2 : Int)] 96)))
      have HP6 := Lib.hid (HP5.out.later (bel1 w5 (.cells #[.int .u32 (d.1 : Int), .int .u32 (d.2.1 : Int), .int .u32 (d.2.2.1 : Int), .int .u32 (d.2.2.2 : Int)] 96)))
      clear HB5 HS5 HP5
      go_wp2_with fail
      generalize w5.alloc (.cells #[.int .u32 (d.1 : Int), .int .u32 (d.2.1 : Int), .int .u32 (d.2.2.1 : Int), .int .u32 (d.2.2.2 : Int)] 96) = W6 at *
      clear hgj hix
      go_loopg [24] 4 (fun m cnt wr => ∃ (s : Nat), m = 4 - s ∧ s ≤ 4 ∧ cnt = .int .i64 (s : Int) ∧ (∀ t, t < s → t = 3 - j ∨ ctZ N (kAt d t) = 0) ∧ wr = W6)
      case atStart => exact ⟨0, rfl, Nat.zero_le _, rfl, fun i hi => by omega, rfl⟩
      case round =>
        obtain ⟨s, hm, hs, rfl, hf, rfl⟩ := hrel
        have HM2 := Lib.hid hm
        have HF2 := Lib.hid hf
        clear hm hf
        by_cases hlt2 : s < 4
        · have hgj : decide ((s : Int) < 4) = true := by simp; omega
          have hix := kix d hlt2
          obtain ⟨p0, p1⟩ := pl_cells HP6.out.at_
          have hu := Sq.u32 HS6.out (fo_iff.1 HFK.out s hlt2)
          go_wp2_with fail
          refine (across_any j hlt _).mono ?_
          rintro e w7 ⟨rfl, rfl⟩
          by_cases hac : s = 3 - j
          · have hne : ((s : Int) != 3 - (j : Int)) = false := by simp; omega
            go_wp2_with fail
            go_roundg (4 - (s + 1))
            case measure => rw [HM2.out]; omega
            case rel =>
              refine ⟨s + 1, rfl, by omega, by go_num, fun t ht => ?_, rfl⟩
              by_cases e : t = s
              · exact Or.inl (e.trans hac)
              · exact HF2.out t (by omega)
          · have hne : ((s : Int) != 3 - (j : Int)) = true := by simp; omega
            go_wp2_with fail
            refine (count_any HS6.out (kAt d s) hu).mono ?_
            rintro e w8 ⟨rfl, rfl⟩
            by_cases hc : ctZ N (kAt d s) = 0
            · have hcg : decide ((0 : Int) < (ctZ N (kAt d s) : Int)) = false := by simp; omega
              go_wp2_with fail
              go_roundg (4 - (s + 1))
              case measure => rw [HM2.out]; omega
              case rel =>
                refine ⟨s + 1, rfl, by omega, by go_num, fun t ht => ?_, rfl⟩
                by_cases e : t = s
                · exact Or.inr (e ▸ hc)
                · exact HF2.out t (by omega)
            · have hcg : decide ((0 : Int) < (ctZ N (kAt d s) : Int)) = true := by simp; omega
              go_wp2_with fail
              go_ret
              refine ⟨false, rfl, ⟨fun hh => (by cases hh), fun hh => ?_⟩, HB.out.trans (HB6.out.mono HB.out.size)⟩
              exfalso
              rcases hh j hlt s hlt2 with e | e
              · exact hac e
              · rw [HKD.out] at e; exact hc e
        · obtain rfl : s = 4 := by omega
          have hgj : decide (((4 : Nat) : Int) < 4) = false := by simp
          go_wp2_with fail
          go_roundg (4 - (j + 1))
          case measure => rw [HM.out]; omega
          case rel =>
            refine ⟨j + 1, rfl, by omega, by go_num, fun i hi t ht => ?_, HB6.out⟩
            by_cases e : i = j
            · subst e; rw [HKD.out]; exact HF2.out t ht
            · exact HF.out i (by omega) t ht
    · obtain rfl : j = 4 := by omega
      have hgj : decide (((4 : Nat) : Int) < 4) = false := by simp
      go_wp2_with fail
      go_ret
      exact ⟨true, rfl, ⟨fun _ => HF.out, fun _ => rfl⟩, HB.out.trans (HB1.out.mono HB.out.size)⟩
end Go.Proofs.YtnfjmmkokhncoaaGreat
end
