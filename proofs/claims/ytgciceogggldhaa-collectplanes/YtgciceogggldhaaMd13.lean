/- The laws of layer 13: made: a store, and planes of which some cells were set: contract. -/
import Derived.Test.YtgciceogggldhaaLv7
import Derived.Maps.AppendAt
namespace Go.Proofs.Ytgciceogggldhaa
open Go.RowKit Go.Maps
set_option maxRecDepth 100000

/-- Points in a slice, as it came. -/
def Pt13 (w : World) (B : Nat) (a : Option Addr) (cs : List (Int × Int)) : Prop := ∀ (j : Nat) c, cs[j]? = some c → ∃ bk off, a = some ⟨bk, off, none⟩ ∧ bk < B ∧ w.cell? ⟨bk, off + j * 2, none⟩ = some (.int .i64 c.1) ∧ w.cell? ⟨bk, off + j * 2 + 1, none⟩ = some (.int .i64 c.2)
theorem Pt13.later {w w' : World} {B : Nat} {a : Option Addr} {cs : List (Int × Int)} (h : Pt13 w B a cs) (hb : Below B w w') : Pt13 w' B a cs := fun j c hc => by
  obtain ⟨bk, off, h1, h2, h3, h4⟩ := h j c hc
  exact ⟨bk, off, h1, h2, by rw [hb.cell (p := ⟨bk, off + j * 2, none⟩) h2]; exact h3, by rw [hb.cell (p := ⟨bk, off + j * 2 + 1, none⟩) h2]; exact h4⟩
/-- A plane: level n + 1, its root. -/
structure Pz13 (M : List Nd) (z : Nat × Nat) : Prop where
  sq : Sq M (z.1 + 1) z.2
  two : 2 ≤ z.1
  em : HasEm M (z.1 - 1)
theorem Pz13.nx {w w' : World} {sb tb most g g' c : Nat} {M M' : List Nd} {z : Nat × Nat} (h : Pz13 M z) (hw : Wf M) (hn : Nx sb tb most w g M c w' g' M') : Pz13 M' z := by
  refine ⟨?_, h.two, ?_⟩
  · obtain ⟨E, rfl, _⟩ := hn.ext
    exact h.sq.app E
  · obtain ⟨E, rfl, _⟩ := hn.ext
    exact h.em.app hw E
def plR (sb : Nat) (P : List (Nat × Nat)) : List Value := P.flatMap fun z => [.pointer (some ⟨sb, 0, none⟩), .int .u32 (z.2 : Int)]
theorem plR_len (sb : Nat) (P : List (Nat × Nat)) : (plR sb P).length = P.length * 2 := by
  induction P with
  | nil => rfl
  | cons c r ih => simp only [plR, List.flatMap_cons, List.length_append, List.length_cons] at ih ⊢; rw [ih]; simp; omega
theorem plR_at (sb : Nat) : ∀ (H : List (Nat × Nat)) (j : Nat), (plR sb H)[j * 2]? = H[j]?.map (fun _ => .pointer (some ⟨sb, 0, none⟩)) ∧ (plR sb H)[j * 2 + 1]? = H[j]?.map (fun m => .int .u32 (m.2 : Int))
  | [], j => by simp [plR]
  | m :: r, 0 => by simp [plR]
  | m :: r, j + 1 => by
    obtain ⟨h1, h2⟩ := plR_at sb r j
    simp only [plR, List.flatMap_cons, List.getElem?_cons_succ] at h1 h2 ⊢
    exact ⟨by rw [show (j + 1) * 2 = j * 2 + 1 + 1 by omega]; simpa using h1, by rw [show (j + 1) * 2 + 1 = j * 2 + 1 + 1 + 1 by omega]; simpa using h2⟩
theorem plR_snoc (sb : Nat) (H : List (Nat × Nat)) (m : Nat × Nat) : plR sb (H ++ [m]) = plR sb H ++ [.pointer (some ⟨sb, 0, none⟩), .int .u32 (m.2 : Int)] := by simp [plR]
theorem own_blk {w w' : World} {B : Nat} {e : TypeId} {size g n cap : Nat} {xs : List Value} (h : w.ownsRow B e size (.slice (some ⟨g, 0, none⟩) n cap) n xs) (hb : w'.heap[g]? = w.heap[g]?) : w'.ownsRow B e size (.slice (some ⟨g, 0, none⟩) n cap) n xs := by
  refine ⟨h.1, ?_⟩
  rcases h.2 with ⟨hv, _⟩ | ⟨g', cp, cur, hv, h0, hg, hr⟩
  · cases hv
  · cases hv; exact Or.inr ⟨g, cap, cur, rfl, h0, by rw [hb]; exact hg, hr⟩
theorem own_to {w w' : World} {B B' : Nat} {e : TypeId} {size g n cap : Nat} {xs : List Value} (h : w.ownsRow B e size (.slice (some ⟨g, 0, none⟩) n cap) n xs) (hB : B' ≤ B) (hb : w'.heap[g]? = w.heap[g]?) : w'.ownsRow B' e size (.slice (some ⟨g, 0, none⟩) n cap) n xs := by
  refine ⟨h.1, ?_⟩
  rcases h.2 with ⟨hv, _⟩ | ⟨g', cp, cur, hv, h0, hg, hr⟩
  · cases hv
  · cases hv; exact Or.inr ⟨g, cap, cur, rfl, Nat.le_trans hB h0, by rw [hb]; exact hg, hr⟩
theorem own_lt {w : World} {B : Nat} {e : TypeId} {size g n cap : Nat} {xs : List Value} (h : w.ownsRow B e size (.slice (some ⟨g, 0, none⟩) n cap) n xs) : B ≤ g ∧ g < w.heap.size := by
  rcases h.2 with ⟨hv, _⟩ | ⟨g', cp, cur, hv, h0, hg, hr⟩
  · cases hv
  · cases hv; exact ⟨h0, (Array.getElem?_eq_some_iff.1 hg).1⟩
theorem infoPl13 : (Try.prog.info? 36).map (fun i => (i.zero, i.size, i.bytes)) = some (some (.agg #[.pointer none, .int .u32 0]), 2, 16) := by kernel_rfl
theorem infoPl : ∃ i, Try.prog.info? 36 = some i ∧ i.zero = some (.agg #[.pointer none, .int .u32 0]) ∧ i.size = 2 ∧ i.bytes = 16 := by
  obtain ⟨i, hi, h⟩ := Option.map_eq_some_iff.1 infoPl13
  simp only [Prod.mk.injEq] at h
  exact ⟨i, hi, h.1, h.2.1, h.2.2⟩
theorem cell_two (w : World) (u v : Value) (t : TypeId) : ∀ j x, [u, v][j]? = some x → (w.alloc (.cells #[u, v] t)).cell? ((⟨w.heap.size, 0, none⟩ : Addr).add j) = some x := fun j x hx => by
  match j, hx with
  | 0, hx => simp at hx; subst hx; simp [Addr.add]
  | 1, hx => simp at hx; subst hx; simp [Addr.add]
  | j + 2, hx => simp at hx
theorem Nx.grown {w w' w'' : World} {sb tb most g g' c b : Nat} {N N' : List Nd} (h : Nx sb tb most w g N c w' g' N') (hg : w'.grownBy w'' (some b)) (hb : w.heap.size ≤ b) (h1 : b ≠ sb ∧ b ≠ g' ∧ b ≠ tb) : Nx sb tb most w g N c w'' g' N' := by
  obtain ⟨cap, hs⟩ := h.st
  obtain ⟨l1, l2, l3⟩ := hs.lt
  refine ⟨⟨cap, hs.keep (hg.block _ l1 (by simp; exact Ne.symm h1.1)) (hg.block _ l2 (by simp; exact Ne.symm h1.2.1)) (hg.block _ l3 (by simp; exact Ne.symm h1.2.2))⟩, ?_, h.gin, h.ext⟩
  have hf := h.frm
  exact ⟨hg.os.trans hf.os, hg.tape.trans hf.tape, hg.output.trans hf.output, Nat.le_trans hf.size hg.size, fun k hk hn => by rw [hg.block k (Nat.lt_of_lt_of_le hk hf.size) (by simp; omega)]; exact hf.block k hk hn⟩
theorem Ob.grown {w w' : World} {sb g tb b c : Nat} {o : Obj} (h : Ob w sb g tb b o) (hg : w.grownBy w' (some c)) (hb : b ≠ c) : Ob w' sb g tb b o := ⟨by rw [hg.block b h.lt (by simpa using hb)]; exact h.at_, h.sb_, h.g_, h.tb_⟩
/-- The loop's state: the row (block gP) of planes P, the variable p (block pb) with root x. -/
structure MS13 (W : World) (sb g tb : Nat) (M : List Nd) (B : Nat) (P : List (Nat × Nat)) (z : Nat × Nat) (gP cP pb : Nat) : Prop where
  rp : W.ownsRow B 36 2 (.slice (some ⟨gP, 0, none⟩) P.length cP) P.length (plR sb P)
  pl : Ob W sb g tb pb (plO sb z.2)
  ne : gP ≠ pb
  nP : gP ≠ sb ∧ gP ≠ g ∧ gP ≠ tb
  cur : Pz13 M z
  all : ∀ q ∈ P, Pz13 M q
theorem MS13.later {W W' : World} {sb g tb : Nat} {M : List Nd} {B : Nat} {P : List (Nat × Nat)} {z : Nat × Nat} {gP cP pb : Nat} (h : MS13 W sb g tb M B P z gP cP pb) (hb : Below W.heap.size W W') : MS13 W' sb g tb M B P z gP cP pb :=
  ⟨own_blk h.rp (hb.block _ (own_lt h.rp).2), h.pl.later hb, h.ne, h.nP, h.cur, h.all⟩
theorem MS13.nx {w w' : World} {sb tb most g g' c : Nat} {M M' : List Nd} {B : Nat} {P : List (Nat × Nat)} {z : Nat × Nat} {gP cP pb : Nat} (h : MS13 w sb g tb M B P z gP cP pb) (hw : Wf M) (hn : Nx sb tb most w g M c w' g' M') : MS13 w' sb g' tb M' B P z gP cP pb := by
  have l1 := (own_lt h.rp).2
  exact ⟨own_blk h.rp (hn.frm.block _ l1 (by simp [h.nP.1, h.nP.2.1, h.nP.2.2])), h.pl.nx hn, h.ne, ⟨h.nP.1, by rcases hn.gin with e | e <;> have := h.nP.2.1 <;> omega, h.nP.2.2⟩, h.cur.nx hw hn, fun q hq => (h.all q hq).nx hw hn⟩
theorem ms_start {W : World} {sb g tb cap most : Nat} {M : List Nd} (h : St W sb g tb cap most M) {z : Nat × Nat} {pb B : Nat} (hp : Ob W sb g tb pb (plO sb z.2)) (hB : B ≤ W.heap.size) (hz : Pz13 M z) :
    MS13 (W.alloc (.cells #[.pointer (some ⟨sb, 0, none⟩), .int .u32 (z.2 : Int)] 36)) sb g tb M B [z] z W.heap.size 1 pb := by
  have h0 := hp.lt
  have h1 := h.lt
  have r1 := World.ownsRow_lit (base := B) (e := 36) (size := 2) W #[.pointer (some ⟨sb, 0, none⟩), .int .u32 (z.2 : Int)] 1 hB (by unfold maxLen; omega) rfl
  exact ⟨r1, hp.later (bel1 _ _), by omega, by omega, hz, fun q hq => by rw [List.mem_singleton] at hq; subst hq; exact hz⟩
set_option maxHeartbeats 8000000 in
theorem made13_any {w : World} {a : Option Addr} {cap : Nat} (cs : List (Int × Int)) (hp : Pt13 w w.heap.size a cs) (hl : cs.length ≤ 40) (hon : ∀ c ∈ cs, (onP c.1 && onP c.2) = true) :
    Calls Try.prog 7 #[.slice a cs.length cap] w fun e w' => ∃ (sb g tb scap : Nat) (N : List Nd) (gP cP : Nat) (P : List (Nat × Nat)), e = .returned (.tuple #[.pointer (some ⟨sb, 0, none⟩), .slice (some ⟨gP, 0, none⟩) P.length cP, .bool true]) ∧ St w' sb g tb scap 65536 N ∧ w'.ownsRow w.heap.size 36 2 (.slice (some ⟨gP, 0, none⟩) P.length cP) P.length (plR sb P) ∧ (∀ q ∈ P, Pz13 N q) ∧ P.length = cs.length + 1 ∧ Below w.heap.size w w' ∧ (w.heap.size ≤ sb ∧ w.heap.size ≤ g ∧ w.heap.size ≤ tb) ∧ gP ≠ sb ∧ gP ≠ g ∧ gP ≠ tb := by
  have HP := Lib.hid hp
  have HON := Lib.hid hon
  clear hp hon
  go_enter Try.func7, Try.ntmps7
  go_wp2_with fail
  refine (new_good 65536 (by omega) (by omega) _).mono ?_
  rintro e W3 ⟨sb, g, tb, rfl, hS, hB, l1, l2, l3⟩
  have HS := Lib.hid hS
  have HB3 := Lib.hid hB
  have hsz3 : w.heap.size ≤ W3.heap.size := hB.size
  clear hS hB
  go_wp2_with fail
  refine (qnew_any HS.out).mono ?_
  rintro e W4 ⟨g4, N4, hnx, hres⟩
  have HN4 := Lib.hid hnx
  clear hnx
  have hlen4 := HN4.out.len
  simp only [N0, List.length_cons, List.length_nil] at hlen4
  unfold plV at hres
  rcases hres with ⟨r, rfl, hem, hl4⟩ | ⟨rfl, hfull⟩
  · have HPZ : Hid (Pz13 N4 (2, r)) := ⟨hem.1, Nat.le_refl _, hl4.mono (by omega)⟩
    clear hem hl4
    obtain ⟨cap4, hS4⟩ := HN4.out.st
    have HBA := Lib.hid (bel1 W4 (.cells #[.pointer (some ⟨sb, 0, none⟩), .int .u32 (r : Int)] 36))
    have HP5 := Lib.hid (Ob.new hS4 #[.pointer (some ⟨sb, 0, none⟩), .int .u32 (r : Int)] 36)
    have HN5 := Lib.hid (HN4.out.trans (Nx.of_below hS4 HBA.out))
    have hpb : W3.heap.size ≤ W4.heap.size := HN4.out.frm.size
    clear HBA hS4 HN4
    have hw5 : (W4.alloc (.cells #[.pointer (some ⟨sb, 0, none⟩), .int .u32 (r : Int)] 36)).heap.size = W4.heap.size + 1 := by simp
    go_upto_region 3 with fail
    generalize W4.alloc (.cells #[.pointer (some ⟨sb, 0, none⟩), .int .u32 (r : Int)] 36) = W5 at *
    generalize W4.heap.size = pb at *
    clear W4
    obtain ⟨cap5, hS5⟩ := HN5.out.st
    have hq := ms_start hS5 (z := (2, r)) HP5.out (B := W3.heap.size) (by omega) HPZ.out
    rw [hw5] at hq
    have HQ7 := Lib.hid hq
    have HN7 := Lib.hid (HN5.out.trans (Nx.of_below hS5 (bel1 W5 (.cells #[.pointer (some ⟨sb, 0, none⟩), .int .u32 (r : Int)] 36))))
    obtain ⟨p0, p1⟩ := pl_cells HP5.out.at_
    clear hq hS5 HN5
    go_upto_region 4 with fail
    clear p0 p1 HP5
    generalize W5.alloc (.cells #[.pointer (some ⟨sb, 0, none⟩), .int .u32 (r : Int)] 36) = W7 at *
    go_wp2_with fail
    go_loopg [8, 9, 11, 25] cs.length (fun mm v8 v9 v11 cnt wr => ∃ (j gg : Nat) (M : List Nd) (P : List (Nat × Nat)) (z : Nat × Nat) (gP cP : Nat), mm = cs.length - j ∧ j ≤ cs.length ∧ cnt = .int .i64 (j : Int) ∧ v8 = .nilIface ∧ P.length = j + 1 ∧ v9 = .slice (some ⟨gP, 0, none⟩) P.length cP ∧ Nx sb tb 65536 W3 g N0 (3 + 360 * j) wr gg M ∧ MS13 wr sb gg tb M W3.heap.size P z gP cP pb)
    case atStart =>
      exact ⟨0, g4, N4, [(2, r)], (2, r), pb + 1, 1, rfl, Nat.zero_le _, rfl, rfl, rfl, rfl, HN7.out.mono (by omega), HQ7.out⟩
    case round =>
      clear HQ7 HN7 HPZ
      obtain ⟨j, gg, M, P, z, gP, cP, hmm, hj, rfl, rfl, hPl, rfl, hN, hQ⟩ := hrel
      have HPL := Lib.hid hPl
      have HM := Lib.hid hmm
      have HN := Lib.hid hN
      have HQ := Lib.hid hQ
      clear hmm hN hQ hPl
      obtain ⟨hbw, _⟩ := HN.out.bel (B := w.heap.size) (by omega) (by omega) (by omega) hsz3
      have HBW := Lib.hid (HB3.out.trans hbw)
      clear hbw
      have hlenM := HN.out.len
      simp only [N0, List.length_cons, List.length_nil] at hlenM
      by_cases hlt : j < cs.length
      · obtain ⟨c, hc⟩ : ∃ c, cs[j]? = some c := ⟨cs[j], List.getElem?_eq_getElem hlt⟩
        obtain ⟨bk, off, ha, hbk, c0, c1⟩ := (HP.out.later HBW.out) j c hc
        subst ha
        have hgj : decide ((j : Int) < (cs.length : Int)) = true := by simp; omega
        have i1 : (0 : Int) ≤ (j : Int) := by omega
        have i2 : (j : Int) < (cs.length : Int) := by omega
        obtain ⟨capM, hSM⟩ := HN.out.st
        have hbA := bel1 wr (.cells #[.int .i64 c.1, .int .i64 c.2] 27)
        have HNA := Lib.hid (HN.out.trans (Nx.of_below hSM hbA))
        have HSA := Lib.hid (hSM.later hbA)
        have HQA := Lib.hid (HQ.out.later hbA)
        have HOA : Hid (Ob (wr.alloc (.cells #[.int .i64 c.1, .int .i64 c.2] 27)) sb gg tb wr.heap.size (ptO c.1 c.2)) := Ob.new hSM _ _
        have hab : pb < wr.heap.size ∧ gP < wr.heap.size := ⟨HQ.out.pl.lt, (own_lt HQ.out.rp).2⟩
        have h61 : z.1 ≤ 61 := by have := Sq.le62 hSM.wf HQ.out.cur.sq; omega
        have hco := HON.out c (List.mem_of_getElem? hc)
        obtain ⟨d, hd⟩ := far_ex z.1 h61 c.1 c.2 hco
        have hd61 := hd.1
        have hz2 := HQ.out.cur.two
        have HST := Lib.hid (set_any HSA.out HQA.out.cur.sq HQA.out.cur.two HQA.out.cur.em c.1 c.2 true hco hd)
        clear hSM hbA hc hd hco
        obtain ⟨p0, p1⟩ := pl_cells HQA.out.pl.at_
        obtain ⟨d0, d1⟩ := pt_cells HOA.out.at_
        go_wp2_with fail
        generalize wr.alloc (.cells #[.int .i64 c.1, .int .i64 c.2] 27) = WA at *
        generalize wr.heap.size = ab at *
        refine HST.out.mono ?_
        clear HST p0 p1 c0 c1 d0 d1 HOA
        rintro e W6 ⟨g6, M6, hnx, hres⟩
        have HQ6 := Lib.hid (HQA.out.nx HSA.out.wf hnx)
        have HN6 := Lib.hid (HNA.out.trans hnx)
        have hlen6 := HN6.out.len
        simp only [N0, List.length_cons, List.length_nil] at hlen6
        clear hnx HQA HNA HSA
        unfold plV at hres
        rcases hres with ⟨x', rfl, hsq, _, hem⟩ | ⟨rfl, hfull⟩
        · have HPZ : Hid (Pz13 M6 (z.1 + d, x')) := ⟨hsq, by show 2 ≤ z.1 + d; omega, hem.mono (by show z.1 + d - 1 ≤ z.1 - 1 + d; omega)⟩
          clear hsq hem
          obtain ⟨p0, p1, pf0, pf1⟩ := res_cells HQ6.out.pl.at_
          go_upto_region 9 with fail
          obtain ⟨W, hW, hN8, hP8, _⟩ := put_pl HN6.out HQ6.out.pl hpb (.pointer (some ⟨sb, 0, none⟩)) (.int .u32 (x' : Int))
          have hR8 : W.ownsRow W3.heap.size 36 2 (.slice (some ⟨gP, 0, none⟩) P.length cP) P.length (plR sb P) := own_blk HQ6.out.rp (by rw [← hW, Below.heap_setCell _ _ _ _ HQ6.out.ne, Below.heap_setCell _ _ _ _ HQ6.out.ne])
          rw [hW]
          have HN8 := Lib.hid hN8
          have HP8 : Hid (Ob W sb g6 tb pb (plO sb x')) := hP8
          have HR8 := Lib.hid hR8
          have hne := HQ6.out.ne
          have hnP := HQ6.out.nP
          have HALL := Lib.hid HQ6.out.all
          obtain ⟨cap8, hS8⟩ := hN8.st
          have HS8 := Lib.hid hS8
          clear hW hN8 hP8 hR8 hS8 p0 p1 pf0 pf1 HN6 HQ6
          obtain ⟨p0, p1⟩ := pl_cells HP8.out.at_
          have hPl2 : P.length ≤ 41 := by have := HPL.out; omega
          have hs2 : W3.heap.size ≤ W.heap.size := HN8.out.frm.size
          have w1 : IntKind.i64.wrap ((j : Int) + 1) = ((j + 1 : Nat) : Int) := by rw [IntWalk.i64_in _ (by omega)]; omega
          obtain ⟨ia, hia, hia0, hia1, hia2⟩ := infoPl
          have HIA := Lib.hid hia
          have HIA0 := Lib.hid hia0
          have HIA1 := Lib.hid hia1
          have HIA2 := Lib.hid hia2
          clear hia hia0 hia1 hia2
          go_wp2_with (at_builtin; refine wpList_append_lies _ rfl _ _ 29 rfl W3.heap.size 36 ia (.agg #[.pointer none, .int .u32 0]) 2 16 Try.underlying29 HIA.out HIA0.out HIA1.out HIA2.out rfl (by decide) _ _ _ rfl (World.ownsRow.alloc HR8.out _) ⟨W.heap.size, 0, none⟩ 1 1 [.pointer (some ⟨sb, 0, none⟩), .int .u32 (x' : Int)] rfl rfl ?_ ?_ ?_ ?_ ?_ ?_ _ rfl ?_; (exact cell_two _ _ _ _); (intro u hu; simp at hu; rcases hu with rfl | rfl <;> rfl); (decide); (unfold maxLen; omega); (omega); (simp; omega); intro gP2 cP2 w4 hown4 hgrow4 hat4 hlt4; have HO4 := Lib.hid hown4; have HG4 : Hid ((W.alloc (.cells #[.pointer (some ⟨sb, 0, none⟩), .int .u32 (x' : Int)] 36)).grownBy w4 (some gP)) := hgrow4; have HAT4 : Hid (some gP = some gP2 ∨ gP2 = (W.alloc (.cells #[.pointer (some ⟨sb, 0, none⟩), .int .u32 (x' : Int)] 36)).heap.size) := hat4; clear hown4 hgrow4 hat4 hlt4)
          go_roundg (cs.length - (j + 1))
          case measure => rw [HM.out]; omega
          case rel =>
            have hl9 := HS8.out.lt
            have hz1 : (W.alloc (.cells #[.pointer (some ⟨sb, 0, none⟩), .int .u32 (x' : Int)] 36)).heap.size = W.heap.size + 1 := by simp
            have hz4 := HG4.out.size
            have hat4 := HAT4.out
            simp only [Option.some.injEq] at hat4
            have hgP := own_lt HR8.out
            have hpl := HP8.out.lt
            have hPl := HPL.out
            have hN4 : Nx sb tb 65536 W3 g N0 _ w4 g6 M6 := (HN8.out.trans (Nx.of_below HS8.out (bel1 W _))).grown HG4.out hgP.1 hnP
            have hPl5 : Ob w4 sb g6 tb pb (plO sb x') := (HP8.out.later (bel1 W _)).grown HG4.out (Ne.symm hne)
            refine ⟨j + 1, g6, M6, P ++ [(z.1 + d, x')], (z.1 + d, x'), gP2, cP2, rfl, hlt, by go_num, rfl, by simp [hPl], by simp, hN4.mono (by omega), ⟨?_, hPl5, ?_, ?_, HPZ.out, ?_⟩⟩
            · rw [plR_snoc, List.length_append]; exact HO4.out
            · omega
            · omega
            · intro q hq
              rw [List.mem_append, List.mem_singleton] at hq
              rcases hq with hq | rfl
              · exact HALL.out q hq
              · exact HPZ.out
        · exfalso
          omega
      · obtain rfl : j = cs.length := by omega
        have hgj : decide ((cs.length : Int) < (cs.length : Int)) = false := by simp
        go_upto_region 12 with fail
        go_quiet (fail)
        go_wp2_with fail
        go_ret3
        obtain ⟨capM, hSM⟩ := HN.out.st
        obtain ⟨_, l4⟩ := HN.out.bel (B := w.heap.size) (by omega) (by omega) (by omega) hsz3
        refine ⟨sb, gg, tb, capM, M, gP, cP, P, rfl, hSM.drewN _, own_to HQ.out.rp hsz3 rfl, HQ.out.all, HPL.out, below_drewN HBW.out _, ⟨by omega, l4, by omega⟩, HQ.out.nP⟩
  · exfalso
    omega
end Go.Proofs.Ytgciceogggldhaa
