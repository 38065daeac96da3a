/- Package area: a painter beside its store, and its memory; four, real, Make: contracts. -/
import Derived.Test.YtfohkbgacpokoaaA8d
import Derived.Test.YtfohkbgacpokoaaQm2
namespace Go.Proofs.Ytfohkbgacpokoaa
open Go.RowKit Go.Maps
set_option maxRecDepth 100000

/-- What a painter remembers is true. -/
def Mem (N : List Nd) (c : Nat) (m : Part → Option Value) : Prop := ∀ a v, m a = some v → Sq0 N a.n a.x ∧ ∃ y : Nat, v = .int .u32 (y : Int) ∧ Con N a.n y (Tc N a.n a.x a.r c [])
theorem Mem.app {N E : List Nd} {c : Nat} {m : Part → Option Value} (hw : Wf N) (hw' : Wf (N ++ E)) (h : Mem N c m) : Mem (N ++ E) c m := fun a v hv => by
  obtain ⟨h1, y, rfl, h2⟩ := h a v hv
  exact ⟨h1.app E, y, rfl, by rw [Tc_app hw E hw' h1]; exact h2.app hw E⟩
def pnO (sb c mb : Nat) : Obj := .cells #[.pointer (some ⟨sb, 0, none⟩), .int .u32 (c : Int), .map (some mb)] 98 (0, 0)
theorem pn_cells {w : World} {b sb c mb : Nat} (h : w.heap[b]? = some (pnO sb c mb)) : w.cell? ⟨b, 0, none⟩ = some (.pointer (some ⟨sb, 0, none⟩)) ∧ w.cell? ⟨b, 1, none⟩ = some (.int .u32 (c : Int)) ∧ w.cell? ⟨b, 2, none⟩ = some (.map (some mb)) :=
  ⟨by rw [Lib.cell_of_heap h]; rfl, by rw [Lib.cell_of_heap h]; rfl, by rw [Lib.cell_of_heap h]; rfl⟩
/-- A painter: its store, its block, its memory. -/
structure Pn (w : World) (sb g tb mb ab most : Nat) (N : List Nd) (P : R4) (c : Nat) : Prop where
  st : ∃ cap, St w sb g tb cap most N
  pt : w.heap[ab]? = some (pnO sb c mb)
  mm : ∃ m, GMap (mkP P) w mb m ∧ Mem N c m
  mb_ : sb ≠ mb ∧ g ≠ mb ∧ tb ≠ mb
  ab_ : ab ≠ sb ∧ ab ≠ g ∧ ab ≠ tb
theorem Pn.wf {w : World} {sb g tb mb ab most c : Nat} {N : List Nd} {P : R4} (h : Pn w sb g tb mb ab most N P c) : Wf N := by obtain ⟨_, hs⟩ := h.st; exact hs.wf
theorem Pn.mlt {w : World} {sb g tb mb ab most c : Nat} {N : List Nd} {P : R4} (h : Pn w sb g tb mb ab most N P c) : mb < w.heap.size := by obtain ⟨m, h1, _⟩ := h.mm; exact h1.lt
theorem Pn.alt {w : World} {sb g tb mb ab most c : Nat} {N : List Nd} {P : R4} (h : Pn w sb g tb mb ab most N P c) : ab < w.heap.size := (Array.getElem?_eq_some_iff.1 h.pt).1
theorem Pn.am {w : World} {sb g tb mb ab most c : Nat} {N : List Nd} {P : R4} (h : Pn w sb g tb mb ab most N P c) : ab ≠ mb := by
  obtain ⟨m, h1, _⟩ := h.mm
  obtain ⟨es, cl, h2⟩ := h1.is_map
  intro e
  have := h.pt
  rw [e, h2] at this
  cases this
theorem Pn.later {w w' : World} {sb g tb mb ab most c : Nat} {N : List Nd} {P : R4} (h : Pn w sb g tb mb ab most N P c) (hb : Below w.heap.size w w') : Pn w' sb g tb mb ab most N P c := by
  obtain ⟨cap, hs⟩ := h.st
  obtain ⟨m, h1, h2⟩ := h.mm
  exact ⟨⟨cap, hs.later hb⟩, by rw [hb.block ab h.alt]; exact h.pt, ⟨m, h1.later hb, h2⟩, h.mb_, h.ab_⟩
theorem Pn.drew {w : World} {sb g tb mb ab most c : Nat} {N : List Nd} {P : R4} (h : Pn w sb g tb mb ab most N P c) : Pn w.drew sb g tb mb ab most N P c := by
  obtain ⟨cap, hs⟩ := h.st
  obtain ⟨m, h1, h2⟩ := h.mm
  exact ⟨⟨cap, hs.drew⟩, h.pt, ⟨m, h1.drewN 1, h2⟩, h.mb_, h.ab_⟩
/-- A painter has gone on: the squares stay. -/
structure Px (sb tb mb ab most : Nat) (P : R4) (c : Nat) (w : World) (g : Nat) (N : List Nd) (w' : World) (g' : Nat) (N' : List Nd) : Prop where
  pn : Pn w' sb g' tb mb ab most N' P c
  frm : Frm [sb, g, tb, mb] w w'
  gin : g' = g ∨ w.heap.size ≤ g'
  ext : ∃ E, N' = N ++ E
theorem Px.of_below {w w' : World} {sb g tb mb ab most c : Nat} {N : List Nd} {P : R4} (h : Pn w sb g tb mb ab most N P c) (hb : Below w.heap.size w w') : Px sb tb mb ab most P c w g N w' g N :=
  ⟨h.later hb, Frm.of_below hb, Or.inl rfl, [], by simp⟩
theorem Px.trans {w w' w'' : World} {sb tb mb ab most c g g' g'' : Nat} {N N' N'' : List Nd} {P : R4} (h : Px sb tb mb ab most P c w g N w' g' N') (h' : Px sb tb mb ab most P c w' g' N' w'' g'' N'') : Px sb tb mb ab most P c w g N w'' g'' N'' := by
  refine ⟨h'.pn, h.frm.trans h'.frm (fun b hb => ?_), ?_, ?_⟩
  · simp only [List.mem_cons, List.not_mem_nil, or_false] at hb
    rcases hb with e | e | e | e
    · exact Or.inl (by simp [e])
    · rcases h.gin with e' | e'
      · exact Or.inl (by simp [e, e'])
      · exact Or.inr (by omega)
    · exact Or.inl (by simp [e])
    · exact Or.inl (by simp [e])
  · rcases h'.gin with e | e
    · rw [e]; exact h.gin
    · exact Or.inr (Nat.le_trans h.frm.size e)
  · obtain ⟨E, e1⟩ := h.ext
    obtain ⟨F, f1⟩ := h'.ext
    exact ⟨E ++ F, by rw [f1, e1, List.append_assoc]⟩
/-- The store alone has gone on. -/
theorem Px.of_st {w w' : World} {sb g g' tb mb ab most c cap' : Nat} {N N' : List Nd} {P : R4} (h : Pn w sb g tb mb ab most N P c) (hs : St w' sb g' tb cap' most N') (hf : Frm [sb, g, tb] w w') (hg : g' = g ∨ w.heap.size ≤ g') (he : ∃ E, N' = N ++ E) : Px sb tb mb ab most P c w g N w' g' N' := by
  have hml := h.mlt
  have hal := h.alt
  obtain ⟨m1, m2, m3⟩ := h.mb_
  obtain ⟨a1, a2, a3⟩ := h.ab_
  have hwf := h.wf
  obtain ⟨m, h1, h2⟩ := h.mm
  refine ⟨⟨⟨cap', hs⟩, ?_, ⟨m, h1.blk (hf.block mb hml (by simp; omega)), ?_⟩, ⟨m1, ?_, m3⟩, a1, ?_, a3⟩, ?_, hg, he⟩
  · rw [hf.block ab hal (by simp; omega)]; exact h.pt
  · obtain ⟨E, rfl⟩ := he
    exact h2.app hwf hs.wf
  · rcases hg with e | e
    · rw [e]; exact m2
    · omega
  · rcases hg with e | e
    · rw [e]; exact a2
    · omega
  · exact ⟨hf.os, hf.tape, hf.output, hf.size, fun b hb hn => hf.block b hb (fun hm => hn (by simp only [List.mem_cons, List.not_mem_nil, or_false] at hm ⊢; omega))⟩
theorem Px.undrew {w w' : World} {sb tb mb ab most c g g' : Nat} {N N' : List Nd} {P : R4} (h : Px sb tb mb ab most P c w.drew g N w' g' N') : Px sb tb mb ab most P c w g N w' g' N' :=
  ⟨h.pn, ⟨h.frm.os, h.frm.tape, h.frm.output, h.frm.size, h.frm.block⟩, h.gin, h.ext⟩
theorem Px.drew {w w' : World} {sb tb mb ab most c g g' : Nat} {N N' : List Nd} {P : R4} (h : Px sb tb mb ab most P c w g N w' g' N') : Px sb tb mb ab most P c w g N w'.drew g' N' :=
  ⟨h.pn.drew, ⟨h.frm.os, h.frm.tape, h.frm.output, h.frm.size, h.frm.block⟩, h.gin, h.ext⟩
theorem Px.wf {w w' : World} {sb tb mb ab most c g g' : Nat} {N N' : List Nd} {P : R4} (h : Px sb tb mb ab most P c w g N w' g' N') : Wf N' := h.pn.wf
/-- A block of one's own, beside a painter. -/
structure Oc (w : World) (sb g tb mb b : Nat) (o : Obj) : Prop where
  at_ : w.heap[b]? = some o
  sb_ : b ≠ sb
  g_ : b ≠ g
  tb_ : b ≠ tb
  mb_ : b ≠ mb
theorem Oc.lt {w : World} {sb g tb mb b : Nat} {o : Obj} (h : Oc w sb g tb mb b o) : b < w.heap.size := (Array.getElem?_eq_some_iff.1 h.at_).1
theorem Oc.later {w w' : World} {sb g tb mb b : Nat} {o : Obj} (h : Oc w sb g tb mb b o) (hb : Below w.heap.size w w') : Oc w' sb g tb mb b o := ⟨by rw [hb.block b h.lt]; exact h.at_, h.sb_, h.g_, h.tb_, h.mb_⟩
theorem Oc.drew {w : World} {sb g tb mb b : Nat} {o : Obj} (h : Oc w sb g tb mb b o) : Oc w.drew sb g tb mb b o := ⟨h.at_, h.sb_, h.g_, h.tb_, h.mb_⟩
theorem Oc.new {w : World} {sb g tb mb ab most c : Nat} {N : List Nd} {P : R4} (h : Pn w sb g tb mb ab most N P c) (cs : Array Value) (t : TypeId) : Oc (w.alloc (.cells cs t)) sb g tb mb w.heap.size (.cells cs t (0, 0)) := by
  obtain ⟨cap, hs⟩ := h.st
  obtain ⟨l1, l2, l3⟩ := hs.lt
  have := h.mlt
  exact ⟨heap_alloc_new w _, by omega, by omega, by omega, by omega⟩
theorem Oc.px {w w' : World} {sb tb mb ab most c g g' b : Nat} {N N' : List Nd} {P : R4} {o : Obj} (h : Oc w sb g tb mb b o) (hn : Px sb tb mb ab most P c w g N w' g' N') : Oc w' sb g' tb mb b o := by
  refine ⟨by rw [hn.frm.block b h.lt (by simp [h.sb_, h.g_, h.tb_, h.mb_])]; exact h.at_, h.sb_, ?_, h.tb_, h.mb_⟩
  rcases hn.gin with e | e
  · rw [e]; exact h.g_
  · have := h.lt; omega
theorem Oc.other {w : World} {sb g tb mb b : Nat} {o : Obj} (h : Oc w sb g tb mb b o) {p : Addr} (hp : p.block ≠ b) (v : Value) : Oc (w.setCell p v) sb g tb mb b o :=
  ⟨by rw [Below.heap_setCell _ _ _ _ (Ne.symm hp)]; exact h.at_, h.sb_, h.g_, h.tb_, h.mb_⟩
theorem Oc.set {w : World} {sb g tb mb b : Nat} {k : K4} (h : Oc w sb g tb mb b (kO k)) {i : Nat} (hi : i < 4) (v : Nat) : Oc (w.setCell ⟨b, i, none⟩ (.int .u32 (v : Int))) sb g tb mb b (kO (mk4 fun j => if j = i then v else kAt k j)) :=
  ⟨k_set h.at_ hi v, h.sb_, h.g_, h.tb_, h.mb_⟩
theorem Pn.set {w : World} {sb g tb mb ab most c b i : Nat} {N : List Nd} {P : R4} {o : Obj} (h : Pn w sb g tb mb ab most N P c) (hb : Oc w sb g tb mb b o) (ha : b ≠ ab) (v : Value) : Pn (w.setCell ⟨b, i, none⟩ v) sb g tb mb ab most N P c := by
  obtain ⟨cap, hs⟩ := h.st
  obtain ⟨m, h1, h2⟩ := h.mm
  exact ⟨⟨cap, hs.keep (Below.heap_setCell _ _ _ _ (Ne.symm hb.sb_)) (Below.heap_setCell _ _ _ _ (Ne.symm hb.g_)) (Below.heap_setCell _ _ _ _ (Ne.symm hb.tb_))⟩, by rw [Below.heap_setCell _ _ _ _ (Ne.symm ha)]; exact h.pt, ⟨m, h1.blk (Below.heap_setCell _ _ _ _ (Ne.symm hb.mb_)), h2⟩, h.mb_, h.ab_⟩
/-- A store into a block that was not there. -/
theorem Px.set {w w' : World} {sb tb mb ab most c g g' b i : Nat} {N N' : List Nd} {P : R4} {o : Obj} (h : Px sb tb mb ab most P c w g N w' g' N') (hb : Oc w' sb g' tb mb b o) (ha : b ≠ ab) (hw : w.heap.size ≤ b) (v : Value) : Px sb tb mb ab most P c w g N (w'.setCell ⟨b, i, none⟩ v) g' N' := by
  refine ⟨h.pn.set hb ha v, ⟨h.frm.os, h.frm.tape, h.frm.output, by simpa using h.frm.size, fun b' hb' hn => ?_⟩, h.gin, h.ext⟩
  rw [Below.heap_setCell _ _ _ _ (by show b' ≠ b; omega)]
  exact h.frm.block b' hb' hn
/-- What a painter's call comes to. -/
def Res8 (most : Nat) (e : Ending) (N : List Nd) (n : Nat) (f : Int → Int → Nat) (N' : List Nd) : Prop :=
  New8 N n f N' ∧ ((∃ r : Nat, e = .returned (.tuple #[.int .u32 (r : Int), .nilIface]) ∧ Con N' n r f) ∨ (e = .returned (.tuple #[.int .u32 0, .iface 55 (.int .i64 7)]) ∧ most ≤ N'.length))
theorem Res8.of {most : Nat} {e : Ending} {N : List Nd} {n : Nat} {f f' : Int → Int → Nat} {N' : List Nd} (h : Res8 most e N n f N') (hf : ∀ X Y, 0 ≤ X ∧ X < 2 ^ n → 0 ≤ Y ∧ Y < 2 ^ n → f X Y = f' X Y) : Res8 most e N n f' N' := by
  obtain ⟨h1, h2⟩ := h
  refine ⟨h1.of hf, h2.imp ?_ id⟩
  rintro ⟨r, e1, e2⟩
  exact ⟨r, e1, e2.of hf⟩
theorem make_con {w : World} {sb g tb mb ab most c : Nat} {N : List Nd} {P : R4} (h : Pn w sb g tb mb ab most N P c) {n : Nat} (hn : n < 62) {k : K4} {f : Int → Int → Nat} (hk : ∀ r b, Con N n (pick k r b) (qF f n r b)) :
    Calls Try.prog 48 #[.pointer (some ⟨sb, 0, none⟩), .agg #[.int .u32 (k.1 : Int), .int .u32 (k.2.1 : Int), .int .u32 (k.2.2.1 : Int), .int .u32 (k.2.2.2 : Int)]] w fun e w' => ∃ g' N', Px sb tb mb ab most P c w g N w' g' N' ∧ Res8 most e N (n + 1) f N' := by
  obtain ⟨cap, hs⟩ := h.st
  have hfo : Fo N n k := fun r b => (hk r b).1
  have hin : InK k := by
    have h' := fo_iff.1 hfo
    exact ⟨Sq.u32 hs (h' 0 (by omega)), Sq.u32 hs (h' 1 (by omega)), Sq.u32 hs (h' 2 (by omega)), Sq.u32 hs (h' 3 (by omega))⟩
  refine (make_any hs k hin).mono ?_
  rintro e w' ⟨g', cap', rfl, hS, hF, hg⟩
  rcases mk_con (most := most) hs.wf hn hk with ⟨hm, hfull⟩ | ⟨N', r, hm, hc, hnew⟩
  · rw [hm] at hS ⊢
    exact ⟨g', N, Px.of_st h hS hF hg ⟨[], by simp⟩, New8.refl _ _ _, Or.inr ⟨rfl, hfull⟩⟩
  · rw [hm] at hS ⊢
    exact ⟨g', N', Px.of_st h hS hF hg hnew.1, hnew, Or.inl ⟨r, rfl, hc⟩⟩
theorem empty_con {w : World} {sb g tb mb ab most c : Nat} {N : List Nd} {P : R4} (h : Pn w sb g tb mb ab most N P c) {n : Nat} (hn : n ≤ 62) :
    Calls Try.prog 42 #[.pointer (some ⟨sb, 0, none⟩), .int .i64 (n : Int)] w fun e w' => ∃ g' N', Px sb tb mb ab most P c w g N w' g' N' ∧ Res8 most e N n (fun _ _ => 0) N' := by
  obtain ⟨cap, hs⟩ := h.st
  refine (empty_any hs n hn).mono ?_
  rintro e w' ⟨g', cap', rfl, hS, hF, hg⟩
  have h0 : Con N 0 0 (fun _ _ => 0) := ⟨sq_dead hs.wf, fun _ _ _ _ => rfl⟩
  rcases em_con (most := most) n hs.wf hs.room h0 (by omega) with ⟨N', hm, hnew, hfull, _⟩ | ⟨N', r, hm, hc, hnew, _⟩
  · rw [hm] at hS ⊢
    rw [Nat.zero_add] at hnew
    exact ⟨g', N', Px.of_st h hS hF hg hnew.1, hnew, Or.inr ⟨rfl, hfull⟩⟩
  · rw [hm] at hS ⊢
    rw [Nat.zero_add] at hnew hc
    exact ⟨g', N', Px.of_st h hS hF hg hnew.1, hnew, Or.inl ⟨r, rfl, hc⟩⟩
set_option maxHeartbeats 1000000 in
theorem real_any {w : World} {sb g tb mb ab most c : Nat} {N : List Nd} {P : R4} (h : Pn w sb g tb mb ab most N P c) {n x : Nat} (hn : n ≤ 62) (hx : Sq0 N n x) :
    Calls Try.prog 88 #[.pointer (some ⟨ab, 0, none⟩), .int .u32 (x : Int), .int .i64 (n : Int)] w fun e w' => ∃ g' N', Px sb tb mb ab most P c w g N w' g' N' ∧ Res8 most e N n (getZ N n x) N' := by
  have HP := Lib.hid h
  obtain ⟨p0, p1, p2⟩ := pn_cells h.pt
  by_cases h0 : x = 0
  · subst h0
    have HE := Lib.hid (empty_con h hn)
    have HWF := Lib.hid h.wf
    clear h hx
    go_enter Try.func88, Try.ntmps88
    go_wp2_with fail
    refine HE.out.mono ?_
    rintro e w' ⟨g', N', hpx, hres⟩
    have HR : Hid (Res8 most e N n (getZ N n 0) N') := hres.of fun X Y _ _ => (get_dead HWF.out n X Y).symm
    have HPX := Lib.hid hpx
    clear hpx hres
    rcases HR.out.2 with ⟨r, rfl, hc⟩ | ⟨rfl, hf⟩
    · have HC := Lib.hid hc
      clear hc
      go_wp2_with fail
      go_ret2
      exact ⟨g', N', HPX.out, HR.out⟩
    · have HC := Lib.hid hf
      clear hf
      go_wp2_with fail
      go_ret2
      exact ⟨g', N', HPX.out, HR.out⟩
  · have hsq : Sq N n x := hx.resolve_left h0
    have e0 : ((x : Int) == 0) = false := by rw [beq_eq_false_iff_ne]; omega
    have HR : Hid (Con N n x (getZ N n x)) := ⟨hsq, fun _ _ _ _ => rfl⟩
    clear h hx hsq p0 p1 p2
    go_enter Try.func88, Try.ntmps88
    go_wp2
    go_ret2
    exact ⟨g, N, Px.of_below HP.out (Below.refl _ _), New8.refl _ _ _, Or.inl ⟨x, rfl, HR.out⟩⟩
set_option maxHeartbeats 1000000 in
theorem four_any {w : World} {sb g tb mb ab most c : Nat} {N : List Nd} {P : R4} (h : Pn w sb g tb mb ab most N P c) {n x : Nat} (hx : Sq0 N (n + 1) x) :
    Calls Try.prog 82 #[.pointer (some ⟨ab, 0, none⟩), .int .u32 (x : Int)] w fun e w' => e = .returned (.agg #[.int .u32 ((kidZ N x).1 : Int), .int .u32 ((kidZ N x).2.1 : Int), .int .u32 ((kidZ N x).2.2.1 : Int), .int .u32 ((kidZ N x).2.2.2 : Int)]) ∧ Below w.heap.size w w' := by
  have HB := Lib.hid (bel1 w (.cells #[.int .u32 0, .int .u32 0, .int .u32 0, .int .u32 0] 66))
  have HP := Lib.hid (h.later HB.out)
  have hk0 : KAt (w.alloc (.cells #[.int .u32 0, .int .u32 0, .int .u32 0, .int .u32 0] 66)) w.heap.size (0, 0, 0, 0) := k_new w (0, 0, 0, 0)
  have HK := Lib.hid hk0
  clear hk0
  obtain ⟨p0, p1, p2⟩ := pn_cells HP.out.pt
  obtain ⟨cap, hs⟩ := HP.out.st
  by_cases h0 : x = 0
  · subst h0
    have hkz : kidZ N 0 = (0, 0, 0, 0) := by unfold kidZ; rw [h.wf.dead]
    rw [hkz]
    have hO := of_bad hs 0 (by omega) (by unfold lvZ; rw [h.wf.dead]; simp)
    unfold kv at hO
    rw [show (((0 : Nat) : Int)) = 0 from rfl] at hO
    have HO := Lib.hid hO
    clear hO
    rw [show (((0 : Nat) : Int)) = 0 from rfl]
    clear h hx hs hkz
    go_enter Try.func82, Try.ntmps82
    go_wp2_with fail
    refine HO.out.mono ?_
    rintro e w2 ⟨rfl, hb⟩
    have HB2 := Lib.hid (HB.out.trans (hb.mono HB.out.size))
    have HK2 := Lib.hid (HK.out.later hb)
    clear hb HK HB p0 p1 p2
    obtain ⟨c0, c1, c2, c3, f0, f1, f2, f3⟩ := (HK2.out.later (bel1 w2 (.cells #[.int .u32 0, .int .u32 0, .int .u32 0, .int .u32 0] 66))).cells
    go_wp2_with fail
    obtain ⟨W', hW', hb', hk'⟩ := k_res2 (HB2.out.trans ((bel1 w2 (.cells #[.int .u32 0, .int .u32 0, .int .u32 0, .int .u32 0] 66)).mono HB2.out.size)) (Nat.le_refl _) (HK2.out.later (bel1 w2 (.cells #[.int .u32 0, .int .u32 0, .int .u32 0, .int .u32 0] 66))) (0, 0, 0, 0)
    rw [show (((((w2.alloc (.cells #[.int .u32 0, .int .u32 0, .int .u32 0, .int .u32 0] 66)).setCell ⟨w.heap.size, 0, none⟩ (.int .u32 0)).setCell ⟨w.heap.size, 1, none⟩ (.int .u32 0)).setCell ⟨w.heap.size, 2, none⟩ (.int .u32 0)).setCell ⟨w.heap.size, 3, none⟩ (.int .u32 0)) = W' from hW']
    obtain ⟨q0, q1, q2, q3⟩ := k_cells hk'
    refine bodyPost_ret (v := _) (by simp [results, Try.results82, go_sem, q0, q1, q2, q3]; rfl) rfl ?_
    exact ⟨rfl, hb'⟩
  · have hsq : Sq N (n + 1) x := hx.resolve_left h0
    have HO := Lib.hid (of_sqk hs hsq)
    clear h hx hs hsq
    generalize kidZ N x = k at *
    go_enter Try.func82, Try.ntmps82
    go_wp2_with fail
    refine HO.out.mono ?_
    rintro e w2 ⟨rfl, hb⟩
    have HB2 := Lib.hid (HB.out.trans (hb.mono HB.out.size))
    have HK2 := Lib.hid (HK.out.later hb)
    clear hb HK HB p0 p1 p2
    obtain ⟨c0, c1, c2, c3, f0, f1, f2, f3⟩ := (HK2.out.later (bel1 w2 (.cells #[.int .u32 (k.1 : Int), .int .u32 (k.2.1 : Int), .int .u32 (k.2.2.1 : Int), .int .u32 (k.2.2.2 : Int)] 66))).cells
    have hk9 := k_new w2 k
    obtain ⟨d0, d1, d2, d3, _⟩ := hk9.cells
    go_wp2_with fail
    obtain ⟨W', hW', hb', hk'⟩ := k_res2 (HB2.out.trans ((bel1 w2 (.cells #[.int .u32 (k.1 : Int), .int .u32 (k.2.1 : Int), .int .u32 (k.2.2.1 : Int), .int .u32 (k.2.2.2 : Int)] 66)).mono HB2.out.size)) (Nat.le_refl _) (HK2.out.later (bel1 w2 (.cells #[.int .u32 (k.1 : Int), .int .u32 (k.2.1 : Int), .int .u32 (k.2.2.1 : Int), .int .u32 (k.2.2.2 : Int)] 66))) k
    rw [hW']
    obtain ⟨q0, q1, q2, q3⟩ := k_cells hk'
    refine bodyPost_ret (v := _) (by simp [results, Try.results82, go_sem, q0, q1, q2, q3]; rfl) rfl ?_
    exact ⟨rfl, hb'⟩
end Go.Proofs.Ytfohkbgacpokoaa
