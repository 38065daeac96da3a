/- Package quad: Make of squares, inCorner, of, New, middle, inMiddle, Centre: contracts. -/
import Derived.Test.YtgciceogggldhaaS7c
import Derived.Test.YtgciceogggldhaaQg
namespace Go.Proofs.Ytgciceogggldhaa
open Go.RowKit Go.Maps
set_option maxRecDepth 100000

/-- A store has gone on: its squares stay, at most c are new. -/
structure Nx (sb tb most : Nat) (w : World) (g : Nat) (N : List Nd) (c : Nat) (w' : World) (g' : Nat) (N' : List Nd) : Prop where
  st : ∃ cap, St w' sb g' tb cap most N'
  frm : Frm [sb, g, tb] w w'
  gin : g' = g ∨ w.heap.size ≤ g'
  ext : ∃ E, N' = N ++ E ∧ E.length ≤ c
theorem Nx.of_below {w w' : World} {sb g tb cap most : Nat} {N : List Nd} (h : St w sb g tb cap most N) (hb : Below w.heap.size w w') : Nx sb tb most w g N 0 w' g N :=
  ⟨⟨cap, h.later hb⟩, Frm.of_below hb, Or.inl rfl, [], by simp, by simp⟩
theorem Nx.trans {w w' w'' : World} {sb tb most g g' g'' c c' : Nat} {N N' N'' : List Nd} (h : Nx sb tb most w g N c w' g' N') (h' : Nx sb tb most w' g' N' c' w'' g'' N'') : Nx sb tb most w g N (c + c') w'' g'' N'' := by
  refine ⟨h'.st, h.frm.trans h'.frm (fun b hb => ?_), ?_, ?_⟩
  · simp only [List.mem_cons, List.not_mem_nil, or_false] at hb
    rcases hb with e | e | e
    · exact Or.inl (by simp [e])
    · rcases h.gin with e' | e'
      · exact Or.inl (by simp [e, e'])
      · exact Or.inr (by omega)
    · exact Or.inl (by simp [e])
  · rcases h'.gin with e | e
    · rw [e]; exact h.gin
    · exact Or.inr (Nat.le_trans h.frm.size e)
  · obtain ⟨E, e1, e2⟩ := h.ext
    obtain ⟨F, f1, f2⟩ := h'.ext
    exact ⟨E ++ F, by rw [f1, e1, List.append_assoc], by rw [List.length_append]; omega⟩
theorem Nx.mono {w w' : World} {sb tb most g g' c c' : Nat} {N N' : List Nd} (h : Nx sb tb most w g N c w' g' N') (hc : c ≤ c') : Nx sb tb most w g N c' w' g' N' := by
  obtain ⟨E, e1, e2⟩ := h.ext
  exact ⟨h.st, h.frm, h.gin, E, e1, Nat.le_trans e2 hc⟩
theorem Ob.nx {w w' : World} {sb tb most g g' c b : Nat} {N N' : List Nd} {o : Obj} (h : Ob w sb g tb b o) (hn : Nx sb tb most w g N c w' g' N') : Ob w' sb g' tb b o := by
  refine ⟨by rw [hn.frm.block b h.lt (by simp [h.sb_, h.g_, h.tb_])]; exact h.at_, h.sb_, ?_, h.tb_⟩
  rcases hn.gin with e | e
  · rw [e]; exact h.g_
  · have := h.lt; omega
theorem Nx.wf {w w' : World} {sb tb most g g' c : Nat} {N N' : List Nd} (h : Nx sb tb most w g N c w' g' N') : Wf N' := by obtain ⟨_, hs⟩ := h.st; exact hs.wf
theorem St.keep {w w' : World} {sb g tb cap most : Nat} {N : List Nd} (h : St w sb g tb cap most N) (h1 : w'.heap[sb]? = w.heap[sb]?) (h2 : w'.heap[g]? = w.heap[g]?) (h3 : w'.heap[tb]? = w.heap[tb]?) : St w' sb g tb cap most N := by
  refine ⟨by rw [h1]; exact h.blk, ⟨h.row.1, ?_⟩, h.tab.blk h3, h.wf, h.room, h.most_le, h.ne⟩
  rcases h.row.2 with ⟨hv, _⟩ | ⟨g', cp, cur, hv, h0, hg, hr⟩
  · cases hv
  · cases hv; exact Or.inr ⟨g, cap, cur, rfl, h0, by rw [h2]; exact hg, hr⟩
/-- A store into a block that was not there. -/
theorem Nx.set {w w' : World} {sb tb most g g' c b i : Nat} {N N' : List Nd} {o : Obj} (h : Nx sb tb most w g N c w' g' N') (hb : Ob w' sb g' tb b o) (hw : w.heap.size ≤ b) (v : Value) : Nx sb tb most w g N c (w'.setCell ⟨b, i, none⟩ v) g' N' := by
  obtain ⟨cap, hs⟩ := h.st
  refine ⟨⟨cap, hs.keep (Below.heap_setCell _ _ _ _ (Ne.symm hb.sb_)) (Below.heap_setCell _ _ _ _ (Ne.symm hb.g_)) (Below.heap_setCell _ _ _ _ (Ne.symm hb.tb_))⟩, ⟨h.frm.os, h.frm.tape, h.frm.output, by simpa using h.frm.size, fun b' hb' hn => ?_⟩, h.gin, h.ext⟩
  rw [Below.heap_setCell _ _ _ _ (by show b' ≠ b; omega)]
  exact h.frm.block b' hb' hn
/-- Make of four squares of a level. -/
theorem make_sq {w : World} {sb g tb cap most : Nat} {N : List Nd} (h : St w sb g tb cap most N) {n : Nat} (hn : n < 62) {k : K4} (hk : Fo N n k) :
    Calls Try.prog 33 #[.pointer (some ⟨sb, 0, none⟩), .agg #[.int .u32 (k.1 : Int), .int .u32 (k.2.1 : Int), .int .u32 (k.2.2.1 : Int), .int .u32 (k.2.2.2 : Int)]] w fun e w' => ∃ g' N', Nx sb tb most w g N 1 w' g' N' ∧
      ((∃ r : Nat, e = .returned (.tuple #[.int .u32 (r : Int), .nilIface]) ∧ Sq N' (n + 1) r ∧ kidZ N' r = k ∧ ((∃ x, Sq N (n + 1) x ∧ kidZ N x = k) → N' = N)) ∨ (e = .returned (.tuple #[.int .u32 0, .iface 53 (.int .i64 7)]) ∧ most ≤ N'.length)) := by
  have hin : InK k := by
    have h' := fo_iff.1 hk
    exact ⟨Sq.u32 h (h' 0 (by omega)), Sq.u32 h (h' 1 (by omega)), Sq.u32 h (h' 2 (by omega)), Sq.u32 h (h' 3 (by omega))⟩
  refine (make_any h k hin).mono ?_
  rintro e w' ⟨g', cap', rfl, hS, hF, hg⟩
  rcases mk_case (most := most) h.wf hn hk with ⟨hm, hfull⟩ | ⟨E, hm, hE, hsq, hkid, hth⟩
  · rw [hm] at hS ⊢
    exact ⟨g', N, ⟨⟨cap', hS⟩, hF, hg, [], by simp, by simp⟩, Or.inr ⟨rfl, hfull⟩⟩
  · rw [hm] at hS
    refine ⟨g', N ++ E, ⟨⟨cap', hS⟩, hF, hg, E, rfl, hE⟩, Or.inl ⟨(mkZ N most k).2.1, ?_, hsq, hkid, fun hx => by rw [hth hx, List.append_nil]⟩⟩
    rw [show (mkZ N most k).2.2 = 0 by rw [hm]]
    rfl
def kV (k : K4) : Value := .agg #[.int .u32 (k.1 : Int), .int .u32 (k.2.1 : Int), .int .u32 (k.2.2.1 : Int), .int .u32 (k.2.2.2 : Int)]
def kO (k : K4) : Obj := .cells #[.int .u32 (k.1 : Int), .int .u32 (k.2.1 : Int), .int .u32 (k.2.2.1 : Int), .int .u32 (k.2.2.2 : Int)] 68 (0, 0)
theorem k_cells {w : World} {b : Nat} {k : K4} (h : w.heap[b]? = some (kO k)) : w.cell? ⟨b, 0, none⟩ = some (.int .u32 (k.1 : Int)) ∧ w.cell? ⟨b, 1, none⟩ = some (.int .u32 (k.2.1 : Int)) ∧ w.cell? ⟨b, 2, none⟩ = some (.int .u32 (k.2.2.1 : Int)) ∧ w.cell? ⟨b, 3, none⟩ = some (.int .u32 (k.2.2.2 : Int)) :=
  ⟨by rw [Lib.cell_of_heap h]; rfl, by rw [Lib.cell_of_heap h]; rfl, by rw [Lib.cell_of_heap h]; rfl, by rw [Lib.cell_of_heap h]; rfl⟩
theorem k_cell {w : World} {b : Nat} {k : K4} (h : w.heap[b]? = some (kO k)) {i : Nat} (hi : i < 4) : w.cell? ⟨b, i, none⟩ = some (.int .u32 (kAt k i : Int)) ∧ w.frozen? ⟨b, i, none⟩ = false := by
  obtain ⟨c0, c1, c2, c3⟩ := k_cells h
  refine ⟨?_, Lib.frozen_of_heap h i⟩
  have : i = 0 ∨ i = 1 ∨ i = 2 ∨ i = 3 := by omega
  rcases this with rfl | rfl | rfl | rfl
  · exact c0
  · exact c1
  · exact c2
  · exact c3
theorem k_set {w : World} {b : Nat} {k : K4} (h : w.heap[b]? = some (kO k)) {i : Nat} (hi : i < 4) (v : Nat) : (w.setCell ⟨b, i, none⟩ (.int .u32 (v : Int))).heap[b]? = some (kO (mk4 fun j => if j = i then v else kAt k j)) := by
  have : i = 0 ∨ i = 1 ∨ i = 2 ∨ i = 3 := by omega
  rcases this with rfl | rfl | rfl | rfl <;> simp only [World.setCell, Array.getElem?_modify, h, kO, mk4, kAt] <;> simp
theorem kix (k : K4) {i : Nat} (hi : i < 4) (w : World) : (Instr.index 68 (.agg #[.int .u32 (k.1 : Int), .int .u32 (k.2.1 : Int), .int .u32 (k.2.2.1 : Int), .int .u32 (k.2.2.2 : Int)]) (.int .i64 (i : Int))).run Try.prog w = .ok (.int .u32 (kAt k i : Int)) w := by
  have : i = 0 ∨ i = 1 ∨ i = 2 ∨ i = 3 := by omega
  rcases this with rfl | rfl | rfl | rfl
  · exact kix0 _ _ _ _ w
  · exact kix1 _ _ _ _ w
  · exact kix2 _ _ _ _ w
  · exact kix3 _ _ _ _ w
/-- A store into a block of one's own, beside a store. -/
theorem Ob.set {w : World} {sb g tb b : Nat} {k : K4} (h : Ob w sb g tb b (kO k)) {i : Nat} (hi : i < 4) (v : Nat) : Ob (w.setCell ⟨b, i, none⟩ (.int .u32 (v : Int))) sb g tb b (kO (mk4 fun j => if j = i then v else kAt k j)) :=
  ⟨k_set h.at_ hi v, h.sb_, h.g_, h.tb_⟩
theorem Ob.other {w : World} {sb g tb b : Nat} {o : Obj} (h : Ob w sb g tb b o) {p : Addr} (hp : p.block ≠ b) (v : Value) : Ob (w.setCell p v) sb g tb b o :=
  ⟨by rw [Below.heap_setCell _ _ _ _ (Ne.symm hp)]; exact h.at_, h.sb_, h.g_, h.tb_⟩
/-- A block for a result that is a plane. -/
theorem res_cells {w : World} {b : Nat} {p v : Value} (h : w.heap[b]? = some (.cells #[p, v] 36 (0, 0))) : w.cell? ⟨b, 0, none⟩ = some p ∧ w.cell? ⟨b, 1, none⟩ = some v ∧ w.frozen? ⟨b, 0, none⟩ = false ∧ w.frozen? ⟨b, 1, none⟩ = false :=
  ⟨by rw [Lib.cell_of_heap h]; rfl, by rw [Lib.cell_of_heap h]; rfl, Lib.frozen_of_heap h 0, Lib.frozen_of_heap h 1⟩
theorem pl_set0 {w : World} {b : Nat} {p v : Value} (h : w.heap[b]? = some (.cells #[p, v] 36 (0, 0))) (p' : Value) : (w.setCell ⟨b, 0, none⟩ p').heap[b]? = some (.cells #[p', v] 36 (0, 0)) := by
  simp only [World.setCell, Array.getElem?_modify, h]; simp
theorem pl_set1 {w : World} {b : Nat} {p v : Value} (h : w.heap[b]? = some (.cells #[p, v] 36 (0, 0))) (v' : Value) : (w.setCell ⟨b, 1, none⟩ v').heap[b]? = some (.cells #[p, v'] 36 (0, 0)) := by
  simp only [World.setCell, Array.getElem?_modify, h]; simp
theorem hasEm_zero {N : List Nd} (hw : Wf N) : HasEm N 0 := fun j hj => by
  obtain rfl : j = 0 := by omega
  exact ⟨0, sq_dead hw, fun _ _ => rfl⟩
/-- A result that is a plane, written. -/
theorem put_pl {w w' : World} {sb tb most g g' c b : Nat} {N N' : List Nd} {p v : Value} (h : Nx sb tb most w g N c w' g' N') (hb : Ob w' sb g' tb b (.cells #[p, v] 36 (0, 0))) (hw : w.heap.size ≤ b) (p' v' : Value) :
    ∃ W, (w'.setCell ⟨b, 0, none⟩ p').setCell ⟨b, 1, none⟩ v' = W ∧ Nx sb tb most w g N c W g' N' ∧ Ob W sb g' tb b (.cells #[p', v'] 36 (0, 0)) ∧ W.cell? ⟨b, 0, none⟩ = some p' ∧ W.cell? ⟨b, 1, none⟩ = some v' := by
  have h0 : Ob (w'.setCell ⟨b, 0, none⟩ p') sb g' tb b (.cells #[p', v] 36 (0, 0)) := ⟨pl_set0 hb.at_ _, hb.sb_, hb.g_, hb.tb_⟩
  have h1 : Ob ((w'.setCell ⟨b, 0, none⟩ p').setCell ⟨b, 1, none⟩ v') sb g' tb b (.cells #[p', v'] 36 (0, 0)) := ⟨pl_set1 h0.at_ _, hb.sb_, hb.g_, hb.tb_⟩
  exact ⟨_, rfl, (h.set hb hw p').set h0 hw v', h1, (res_cells h1.at_).1, (res_cells h1.at_).2.1⟩
set_option maxHeartbeats 1000000 in
theorem inCorner_any {w : World} {sb g tb cap most : Nat} {N : List Nd} (h : St w sb g tb cap most N) {n x e0 at_ z : Nat} (hn : n < 62) (hx : Sq N n x) (he : Sq N n e0) (ha : at_ < 4) :
    Calls Try.prog 44 #[.agg #[.pointer (some ⟨sb, 0, none⟩), .int .u32 (z : Int)], .int .u32 (x : Int), .int .i64 (at_ : Int), .int .u32 (e0 : Int)] w fun e w' => ∃ g' N', Nx sb tb most w g N 1 w' g' N' ∧
      ((∃ r : Nat, e = .returned (.tuple #[.int .u32 (r : Int), .nilIface]) ∧ Sq N' (n + 1) r ∧ kidZ N' r = corn e0 x at_) ∨ (e = .returned (.tuple #[.int .u32 0, .iface 53 (.int .i64 7)]) ∧ most ≤ N'.length)) := by
  have HB := Lib.hid (bel2 w (.cells #[.pointer (some ⟨sb, 0, none⟩), .int .u32 (z : Int)] 36) (.cells #[.int .u32 (e0 : Int), .int .u32 (e0 : Int), .int .u32 (e0 : Int), .int .u32 (e0 : Int)] 68))
  have HS := Lib.hid h
  have HP := Lib.hid ((Ob.new h #[.pointer (some ⟨sb, 0, none⟩), .int .u32 (z : Int)] 36).later (bel1 _ (.cells #[.int .u32 (e0 : Int), .int .u32 (e0 : Int), .int .u32 (e0 : Int), .int .u32 (e0 : Int)] 68)))
  have hk0 := Ob.new (h.later (bel1 _ (.cells #[.pointer (some ⟨sb, 0, none⟩), .int .u32 (z : Int)] 36))) #[.int .u32 (e0 : Int), .int .u32 (e0 : Int), .int .u32 (e0 : Int), .int .u32 (e0 : Int)] 68
  have hz : (w.alloc (.cells #[.pointer (some ⟨sb, 0, none⟩), .int .u32 (z : Int)] 36)).heap.size = w.heap.size + 1 := by simp
  rw [hz] at hk0
  have hk1 : Ob _ sb g tb (w.heap.size + 1) (kO (e0, e0, e0, e0)) := hk0
  have HK := Lib.hid hk1
  have HX := Lib.hid hx
  have HE := Lib.hid he
  obtain ⟨f0, f1⟩ := k_cell HK.out.at_ ha
  have a4 : ((at_ : Nat) : Int) < 4 := by omega
  have a0 : (0 : Int) ≤ (at_ : Int) := by omega
  clear h hx he hk0 hk1 hz
  go_enter Try.func44, Try.ntmps44
  go_upto_region 2 with fail
  generalize (w.alloc (.cells #[.pointer (some ⟨sb, 0, none⟩), .int .u32 (z : Int)] 36)).alloc (.cells #[.int .u32 (e0 : Int), .int .u32 (e0 : Int), .int .u32 (e0 : Int), .int .u32 (e0 : Int)] 68) = W0 at *
  go_upto_region 3 with fail
  have HB1 := Lib.hid (HB.out.setCell (p := ⟨w.heap.size + 1, at_, none⟩) (by simp) (.int .u32 (x : Int)))
  have hk1 := HK.out.set ha x
  rw [show (mk4 fun j => if j = at_ then x else kAt (e0, e0, e0, e0) j) = corn e0 x at_ from mk4_ext fun i hi => by
    have : i = 0 ∨ i = 1 ∨ i = 2 ∨ i = 3 := by omega
    rcases this with rfl | rfl | rfl | rfl <;> rfl] at hk1
  have HK1 := Lib.hid hk1
  have HP1 := Lib.hid (HP.out.other (p := ⟨w.heap.size + 1, at_, none⟩) (by simp) (.int .u32 (x : Int)))
  clear hk1 HK HP f0 f1 HB
  generalize W0.setCell ⟨w.heap.size + 1, at_, none⟩ (.int .u32 (x : Int)) = W1 at *
  have HFO := Lib.hid (corn_fo (at_ := at_) HE.out HX.out)
  generalize hck : corn e0 x at_ = k at *
  have HCK := Lib.hid hck
  clear hck
  obtain ⟨p0, p1⟩ := pl_cells HP1.out.at_
  obtain ⟨k0, k1, k2, k3⟩ := k_cells HK1.out.at_
  have HS1 := Lib.hid (HS.out.later HB1.out)
  go_wp2_with fail
  refine (make_sq HS1.out hn HFO.out).mono ?_
  rintro e W2 ⟨g', N', hnx, ⟨r, rfl, hsq, hkd, _⟩ | ⟨rfl, hfull⟩⟩
  · have HN := Lib.hid ((Nx.of_below HS.out HB1.out).trans hnx)
    have HR := Lib.hid (And.intro hsq hkd)
    clear hnx hsq hkd
    go_wp2_with fail
    go_ret2
    exact ⟨g', N', HN.out.mono (by omega), Or.inl ⟨r, rfl, by rw [HCK.out]; exact HR.out⟩⟩
  · have HN := Lib.hid ((Nx.of_below HS.out HB1.out).trans hnx)
    have HR := Lib.hid hfull
    clear hnx hfull
    go_wp2_with fail
    go_ret2
    exact ⟨g', N', HN.out.mono (by omega), Or.inr ⟨rfl, HR.out⟩⟩
set_option maxHeartbeats 1000000 in
/-- The plane of four. -/
theorem of4_any {w : World} {sb g tb cap most : Nat} {N : List Nd} (h : St w sb g tb cap most N) {n z : Nat} (hn : n < 62) {k : K4} (hk : Fo N n k) :
    Calls Try.prog 46 #[.agg #[.pointer (some ⟨sb, 0, none⟩), .int .u32 (z : Int)], .agg #[.int .u32 (k.1 : Int), .int .u32 (k.2.1 : Int), .int .u32 (k.2.2.1 : Int), .int .u32 (k.2.2.2 : Int)]] w fun e w' => ∃ g' N', Nx sb tb most w g N 1 w' g' N' ∧
      ((∃ r : Nat, e = .returned (.tuple #[plV sb r, .nilIface]) ∧ Sq N' (n + 1) r ∧ kidZ N' r = k) ∨ (e = .returned (.tuple #[.agg #[.pointer none, .int .u32 0], .iface 53 (.int .i64 7)]) ∧ most ≤ N'.length)) := by
  have HS := Lib.hid h
  have HB := Lib.hid (bel3 w (.cells #[.pointer (some ⟨sb, 0, none⟩), .int .u32 (z : Int)] 36) (.cells #[.int .u32 (k.1 : Int), .int .u32 (k.2.1 : Int), .int .u32 (k.2.2.1 : Int), .int .u32 (k.2.2.2 : Int)] 68) (.cells #[.pointer none, .int .u32 0] 36))
  have HP := Lib.hid ((Ob.new h #[.pointer (some ⟨sb, 0, none⟩), .int .u32 (z : Int)] 36).later (bel2 _ (.cells #[.int .u32 (k.1 : Int), .int .u32 (k.2.1 : Int), .int .u32 (k.2.2.1 : Int), .int .u32 (k.2.2.2 : Int)] 68) (.cells #[.pointer none, .int .u32 0] 36)))
  have hr0 := Ob.new (h.later (bel2 w (.cells #[.pointer (some ⟨sb, 0, none⟩), .int .u32 (z : Int)] 36) (.cells #[.int .u32 (k.1 : Int), .int .u32 (k.2.1 : Int), .int .u32 (k.2.2.1 : Int), .int .u32 (k.2.2.2 : Int)] 68))) #[.pointer none, .int .u32 0] 36
  have hz : ((w.alloc (.cells #[.pointer (some ⟨sb, 0, none⟩), .int .u32 (z : Int)] 36)).alloc (.cells #[.int .u32 (k.1 : Int), .int .u32 (k.2.1 : Int), .int .u32 (k.2.2.1 : Int), .int .u32 (k.2.2.2 : Int)] 68)).heap.size = w.heap.size + 1 + 1 := by simp
  rw [hz] at hr0
  have HR := Lib.hid hr0
  have HFO := Lib.hid hk
  clear h hk hr0 hz
  go_enter Try.func46, Try.ntmps46
  go_wp2_with fail
  generalize ((w.alloc (.cells #[.pointer (some ⟨sb, 0, none⟩), .int .u32 (z : Int)] 36)).alloc (.cells #[.int .u32 (k.1 : Int), .int .u32 (k.2.1 : Int), .int .u32 (k.2.2.1 : Int), .int .u32 (k.2.2.2 : Int)] 68)).alloc (.cells #[.pointer none, .int .u32 0] 36) = W1 at *
  have HS1 := Lib.hid (HS.out.later HB.out)
  refine (make_sq HS1.out hn HFO.out).mono ?_
  rintro e W2 ⟨g', N', hnx, hres⟩
  have HN := Lib.hid ((Nx.of_below HS.out HB.out).trans hnx)
  have HP2 := Lib.hid (HP.out.nx hnx)
  have HR2 := Lib.hid (HR.out.nx hnx)
  clear hnx HP HR
  obtain ⟨p0, p1⟩ := pl_cells HP2.out.at_
  obtain ⟨r0, r1, rf0, rf1⟩ := res_cells HR2.out.at_
  rcases hres with ⟨r, rfl, hsq, hkd, _⟩ | ⟨rfl, hfull⟩
  · have HQ := Lib.hid (And.intro hsq hkd)
    clear hsq hkd
    go_wp2_with fail
    obtain ⟨W, hW, hN, _, q0, q1⟩ := put_pl HN.out HR2.out (by omega) (.pointer (some ⟨sb, 0, none⟩)) (.int .u32 (r : Int))
    rw [hW]
    refine bodyPost_ret (v := _) (by simp [results, Try.results46, go_sem, q0, q1]; rfl) rfl ?_
    exact ⟨g', N', hN.mono (by omega), Or.inl ⟨r, rfl, HQ.out⟩⟩
  · have HQ := Lib.hid hfull
    clear hfull
    go_wp2_with fail
    obtain ⟨W, hW, hN, _, q0, q1⟩ := put_pl HN.out HR2.out (by omega) (.pointer none) (.int .u32 0)
    rw [hW]
    refine bodyPost_ret (v := _) (by simp [results, Try.results46, go_sem, q0, q1]; rfl) rfl ?_
    exact ⟨g', N', hN.mono (by omega), Or.inr ⟨rfl, HQ.out⟩⟩
/-- Empty of a level. -/
theorem empty_sq {w : World} {sb g tb cap most : Nat} {N : List Nd} (h : St w sb g tb cap most N) {n L : Nat} (hn : n ≤ 62) (hL : HasEm N L) :
    Calls Try.prog 18 #[.pointer (some ⟨sb, 0, none⟩), .int .i64 (n : Int)] w fun e w' => ∃ g' N', Nx sb tb most w g N (n - L) w' g' N' ∧
      ((∃ r : Nat, e = .returned (.tuple #[.int .u32 (r : Int), .nilIface]) ∧ Em N' n r ∧ HasEm N' (max L n)) ∨ (e = .returned (.tuple #[.int .u32 0, .iface 53 (.int .i64 7)]) ∧ most ≤ N'.length)) := by
  refine (empty_any h n hn).mono ?_
  rintro e w' ⟨g', cap', rfl, hS, hF, hg⟩
  have hE0 : Em N 0 0 := ⟨sq_dead h.wf, fun _ _ => rfl⟩
  rcases em_case (most := most) n h.wf h.room hE0 (by omega) hL (hasEm_zero h.wf) with ⟨E, h1, h2, h3, _⟩ | ⟨E, h1, h2, h3, h4, _⟩
  · rw [h1] at hS ⊢
    exact ⟨g', N ++ E, ⟨⟨cap', hS⟩, hF, hg, E, rfl, by omega⟩, Or.inr ⟨rfl, h3⟩⟩
  · rw [h1] at hS
    refine ⟨g', N ++ E, ⟨⟨cap', hS⟩, hF, hg, E, rfl, by omega⟩, Or.inl ⟨(emZ most n N 0).2.1, ?_, by rw [Nat.zero_add] at h3; exact h3, by rw [Nat.zero_add] at h4; exact h4⟩⟩
    rw [show (emZ most n N 0).2.2 = 0 by rw [h1]]
    rfl
set_option maxHeartbeats 1000000 in
theorem qnew_any {w : World} {sb g tb cap most : Nat} {N : List Nd} (h : St w sb g tb cap most N) :
    Calls Try.prog 20 #[.pointer (some ⟨sb, 0, none⟩)] w fun e w' => ∃ g' N', Nx sb tb most w g N 3 w' g' N' ∧
      ((∃ r : Nat, e = .returned (.tuple #[plV sb r, .nilIface]) ∧ Em N' 3 r ∧ HasEm N' 3) ∨ (e = .returned (.tuple #[.agg #[.pointer none, .int .u32 0], .iface 53 (.int .i64 7)]) ∧ most ≤ N'.length)) := by
  have HS := Lib.hid h
  have HB := Lib.hid (bel1 w (.cells #[.pointer none, .int .u32 0] 36))
  have HR := Lib.hid (Ob.new h #[.pointer none, .int .u32 0] 36)
  have HL := Lib.hid (hasEm_zero h.wf)
  clear h
  go_enter Try.func20, Try.ntmps20
  go_wp2_with fail
  generalize w.alloc (.cells #[.pointer none, .int .u32 0] 36) = W1 at *
  have HS1 := Lib.hid (HS.out.later HB.out)
  refine (empty_sq (n := 3) HS1.out (by omega) HL.out).mono ?_
  rintro e W2 ⟨g', N', hnx, hres⟩
  have HN := Lib.hid ((Nx.of_below HS.out HB.out).trans hnx)
  have HR2 := Lib.hid (HR.out.nx hnx)
  clear hnx HR
  obtain ⟨r0, r1, rf0, rf1⟩ := res_cells HR2.out.at_
  rcases hres with ⟨r, rfl, hem, hl⟩ | ⟨rfl, hfull⟩
  · have HQ := Lib.hid (And.intro hem hl)
    clear hem hl
    go_wp2_with fail
    obtain ⟨W, hW, hN, _, q0, q1⟩ := put_pl HN.out HR2.out (by omega) (.pointer (some ⟨sb, 0, none⟩)) (.int .u32 (r : Int))
    rw [hW]
    refine bodyPost_ret (v := _) (by simp [results, Try.results20, go_sem, q0, q1]; rfl) rfl ?_
    exact ⟨g', N', hN.mono (by omega), Or.inl ⟨r, rfl, HQ.out⟩⟩
  · have HQ := Lib.hid hfull
    clear hfull
    go_wp2_with fail
    obtain ⟨W, hW, hN, _, q0, q1⟩ := put_pl HN.out HR2.out (by omega) (.pointer none) (.int .u32 0)
    rw [hW]
    refine bodyPost_ret (v := _) (by simp [results, Try.results20, go_sem, q0, q1]; rfl) rfl ?_
    exact ⟨g', N', hN.mono (by omega), Or.inr ⟨rfl, HQ.out⟩⟩
end Go.Proofs.Ytgciceogggldhaa
