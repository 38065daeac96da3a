/- The law StoreActs: its walk. -/
import Derived.Test.YtjndfdhjipfijaaDoorSm6
import Derived.Test.YtjndfdhjipfijaaDoorBk6
import Derived.Test.YtjndfdhjipfijaaDoorAs0
import Derived.Test.YtjndfdhjipfijaaDoorLv6
namespace Go.Proofs.YtjndfdhjipfijaaDoor
open Go.RowKit Go.Maps
set_option maxRecDepth 100000

/-- An act: its kind, its four numbers, its number. -/
structure Av where
  kd : Nat
  a0 : Nat
  a1 : Nat
  a2 : Nat
  a3 : Nat
  n : Int
def Av.ok (a : Av) : Prop := a.kd < 256 ∧ a.a0 < 256 ∧ a.a1 < 256 ∧ a.a2 < 256 ∧ a.a3 < 256 ∧ -9223372036854775808 ≤ a.n ∧ a.n ≤ 9223372036854775807
/-- Acts in a row, below block B. -/
def Avs (w : World) (B : Nat) (a : Option Addr) (L : List Av) : Prop :=
  ∀ (j : Nat) c, L[j]? = some c → c.ok ∧ ∃ bk off, a = some ⟨bk, off, none⟩ ∧ bk < B ∧ w.cell? ⟨bk, off + j * 6, none⟩ = some (.int .u8 (c.kd : Int)) ∧ w.cell? ⟨bk, off + j * 6 + 1, none⟩ = some (.int .u8 (c.a0 : Int)) ∧ w.cell? ⟨bk, off + j * 6 + 2, none⟩ = some (.int .u8 (c.a1 : Int)) ∧ w.cell? ⟨bk, off + j * 6 + 3, none⟩ = some (.int .u8 (c.a2 : Int)) ∧ w.cell? ⟨bk, off + j * 6 + 4, none⟩ = some (.int .u8 (c.a3 : Int)) ∧ w.cell? ⟨bk, off + j * 6 + 5, none⟩ = some (.int .i64 c.n)
theorem Avs.later {w w' : World} {B : Nat} {a : Option Addr} {L : List Av} (h : Avs w B a L) (hb : Below B w w') : Avs w' B a L := by
  intro j c hc
  obtain ⟨h0, bk, off, h1, h2, c0, c1, c2, c3, c4, c5⟩ := h j c hc
  exact ⟨h0, bk, off, h1, h2, by rw [hb.cell (p := ⟨bk, off + j * 6, none⟩) h2]; exact c0, by rw [hb.cell (p := ⟨bk, off + j * 6 + 1, none⟩) h2]; exact c1, by rw [hb.cell (p := ⟨bk, off + j * 6 + 2, none⟩) h2]; exact c2,
    by rw [hb.cell (p := ⟨bk, off + j * 6 + 3, none⟩) h2]; exact c3, by rw [hb.cell (p := ⟨bk, off + j * 6 + 4, none⟩) h2]; exact c4, by rw [hb.cell (p := ⟨bk, off + j * 6 + 5, none⟩) h2]; exact c5⟩
theorem St.of_blocks {w w' : World} {sb g tb cap most : Nat} {N : List Nd} (h : St w sb g tb cap most N) (h1 : w'.heap[sb]? = w.heap[sb]?) (h2 : w'.heap[g]? = w.heap[g]?) (h3 : w'.heap[tb]? = w.heap[tb]?) : St w' sb g tb cap most N := by
  refine ⟨h1.trans h.blk, ⟨h.row.1, ?_⟩, h.tab.blk h3, h.wf, h.room, h.most_le, h.ne⟩
  rcases h.row.2 with ⟨hv, _⟩ | ⟨g', cp, cur, hv, h0, hg, hr⟩
  · cases hv
  · cases hv; exact Or.inr ⟨g, cap, cur, rfl, h0, h2.trans hg, hr⟩
/-- The two stores lie apart. -/
theorem apart6 {w : World} {sb g tb cap mb h hc most : Nat} {N M : List Nd} (s : St w sb g tb cap most N) (m : RSt w mb h hc most M) : (mb ≠ sb ∧ mb ≠ g ∧ mb ≠ tb) ∧ h ≠ sb ∧ h ≠ g ∧ h ≠ tb := by
  obtain ⟨cur, hh, _⟩ := m.row
  have h1 := m.blk
  have s1 := s.blk
  obtain ⟨D, ⟨es, cl, s3, _⟩, _⟩ := s.tab
  have s2 : ∃ c2, w.heap[g]? = some (.cells c2 58 (0, 0)) := by
    rcases s.row.2 with ⟨hv, _⟩ | ⟨g', cp, cur, hv, _, hg, _⟩
    · cases hv
    · cases hv; exact ⟨_, hg⟩
  obtain ⟨c2, s2⟩ := s2
  refine ⟨⟨fun e => ?_, fun e => ?_, fun e => ?_⟩, fun e => ?_, fun e => ?_, fun e => ?_⟩ <;> subst e
  · rw [s1] at h1; simp at h1
  · rw [s2] at h1; simp at h1
  · rw [s3] at h1; simp at h1
  · rw [s1] at hh; simp at hh
  · rw [s2] at hh; simp at hh
  · rw [s3] at hh; simp at hh
/-- The law's state: both stores, of the same squares. -/
def Bth (w0 : World) (sb tb mb most : Nat) (W : World) : Prop :=
  ∃ g cap h hc N, St W sb g tb cap most N ∧ RSt W mb h hc most N ∧ Below w0.heap.size w0 W ∧ w0.heap.size ≤ sb ∧ w0.heap.size ≤ g ∧ w0.heap.size ≤ tb ∧ w0.heap.size ≤ mb ∧ w0.heap.size ≤ h
theorem code_err (E : Nat) (w : World) (hg : TypeLaid w) : Calls Tryd.prog 9 #[errV E] w fun e w' => e = .returned (.int .i64 (E : Int)) ∧ Below w.heap.size w w' := by
  unfold errV
  by_cases h : E = 0
  · subst h
    rw [if_pos rfl]
    exact (code_nil w).mono fun _ _ ⟨he, hw⟩ => ⟨he, hw ▸ Below.refl _ _⟩
  · rw [if_neg h]
    exact code_num (E : Int) w hg
theorem room6 (m : Int) : ∃ n : Nat, 2 ≤ n ∧ n ≤ 301 ∧ wrap64 (2 + wrap64 ((IntKind.u64.wrap m).tmod 300)) = (n : Int) := by
  have h0 : 0 ≤ IntKind.u64.wrap m := by simp only [IntKind.wrap, IntKind.signed, IntKind.bits]; simp; omega
  rw [Int.tmod_eq_emod_of_nonneg h0]
  generalize IntKind.u64.wrap m = x at *
  refine ⟨(2 + x % 300).toNat, by omega, by omega, ?_⟩
  rw [IntWalk.wrap64_in (x % 300) (by omega), IntWalk.wrap64_in _ (by omega)]
  omega
/-- The document's store behind m.N = m.N[:k:k]. -/
theorem rst_cut {w : World} {mb h hc most : Nat} {N : List Nd} (m : RSt w mb h hc most N) {k : Nat} (h2 : 2 ≤ k) (hk : k ≤ N.length) : RSt (w.setCell ⟨mb, 0, none⟩ (.slice (some ⟨h, 0, none⟩) k k)) mb h k most (N.take k) := by
  obtain ⟨cur, r0, r1, r2, r3, r4, _⟩ := m.row
  have hl : (N.take k).length = k := by rw [List.length_take]; omega
  have hr := m.room
  refine ⟨?_, ⟨cur, by rw [Below.heap_setCell _ _ _ _ (by have := m.ne; simpa using fun e => this e.symm)]; exact r0, by omega, by omega, by omega, ?_, by omega⟩, wf_take m.wf h2, by omega, m.most_le, m.ne⟩
  · simp only [World.setCell, Array.getElem?_modify, m.blk, hl]
    simp
  · rw [hl, ndVs_take, ← r4, List.take_take]
    congr 1
    omega
theorem cut_k (h n hc k : Nat) (hk : k ≤ n) (hn : n ≤ hc) (W : World) : (Instr.slice 45 (.slice (some ⟨h, 0, none⟩) n hc) none (some (.int .i64 (k : Int))) (some (.int .i64 (k : Int)))).run Tryd.prog W = .ok (.slice (some ⟨h, 0, none⟩) k k) W := by
  rw [run_slice_hm (P := Tryd.prog) (w := W) 45 _ _ _ Tryd.underlying45 .i64 .i64 (k : Int) (k : Int) (by omega) (by omega) (by omega), show Tryd.prog.elem 45 = 64 by kernel_rfl, Tryd.sizeOf64]
  simp [Result.andThen, sliced, Addr.add_lit]
theorem St.not_mem {w : World} {sb g tb cap most : Nat} {N : List Nd} (s : St w sb g tb cap most N) {b : Nat} {cs : Array Value} {t : TypeId} (hb : w.heap[b]? = some (.cells cs t (0, 0))) (h1 : t ≠ 62) (h2 : t ≠ 58) : b ∉ [sb, g, tb] := by
  obtain ⟨D, ⟨es, cl, s3, _⟩, _⟩ := s.tab
  intro hm
  simp only [List.mem_cons, List.not_mem_nil, or_false] at hm
  rcases hm with e | e | e
  · rw [e, s.blk] at hb
    simp only [Option.some.injEq, Obj.cells.injEq] at hb
    exact h1 hb.2.1.symm
  · rcases s.row.2 with ⟨hv, _⟩ | ⟨g2, cp, cur2, hv, _, hgg, _⟩
    · cases hv
    · cases hv
      rw [e, hgg] at hb
      simp only [Option.some.injEq, Obj.cells.injEq] at hb
      exact h2 hb.2.1.symm
  · rw [e, s3] at hb; cases hb
theorem RSt.not_mem {w : World} {mb h hc most : Nat} {N : List Nd} (m : RSt w mb h hc most N) {b : Nat} {cs : Array Value} {t : TypeId} (hb : w.heap[b]? = some (.cells cs t (0, 0))) (h1 : t ≠ 47) (h2 : t ≠ 64) : b ∉ [mb, h] := by
  obtain ⟨cur, r0, _⟩ := m.row
  intro hm
  simp only [List.mem_cons, List.not_mem_nil, or_false] at hm
  rcases hm with e | e
  · rw [e, m.blk] at hb
    simp only [Option.some.injEq, Obj.cells.injEq] at hb
    exact h1 hb.2.1.symm
  · rw [e, r0] at hb
    simp only [Option.some.injEq, Obj.cells.injEq] at hb
    exact h2 hb.2.1.symm
/-- Both stores, each with its squares. -/
structure Bt (w0 : World) (sb tb mb most g cap h hc : Nat) (N M : List Nd) (W : World) : Prop where
  s : St W sb g tb cap most N
  m : RSt W mb h hc most M
  bel : Below w0.heap.size w0 W
  lb : w0.heap.size ≤ sb ∧ w0.heap.size ≤ g ∧ w0.heap.size ≤ tb ∧ w0.heap.size ≤ mb ∧ w0.heap.size ≤ h
theorem Bt.bth {w0 W : World} {sb tb mb most g cap h hc : Nat} {N : List Nd} (b : Bt w0 sb tb mb most g cap h hc N N W) : Bth w0 sb tb mb most W := ⟨g, cap, h, hc, N, b.s, b.m, b.bel, b.lb⟩
theorem Bt.later {w0 W W' : World} {sb tb mb most g cap h hc : Nat} {N M : List Nd} (b : Bt w0 sb tb mb most g cap h hc N M W) (hb : Below W.heap.size W W') : Bt w0 sb tb mb most g cap h hc N M W' := ⟨b.s.later hb, b.m.later hb, b.bel.trans (hb.mono b.bel.size), b.lb⟩
theorem Bt.made {w0 W W' : World} {sb tb mb most g cap h hc g' cap' : Nat} {N M N' : List Nd} (b : Bt w0 sb tb mb most g cap h hc N M W) (hs : St W' sb g' tb cap' most N') (hf : Frm [sb, g, tb] W W') (hg : g' = g ∨ W.heap.size ≤ g') : Bt w0 sb tb mb most g' cap' h hc N' M W' := by
  obtain ⟨⟨a1, a2, a3⟩, a4, a5, a6⟩ := apart6 b.s b.m
  obtain ⟨l1, l2, l3, l4, l5⟩ := b.lb
  have := b.bel.size
  refine ⟨hs, b.m.of_blocks (hf.block mb b.m.lt.1 (by simp; omega)) (hf.block h b.m.lt.2 (by simp; omega)), b.bel.trans (hf.below (fun x hx => ?_) b.bel.size), l1, by omega, l3, l4, l5⟩
  simp at hx; omega
theorem Bt.rmade {w0 W W' : World} {sb tb mb most g cap h hc h' hc' : Nat} {N M M' : List Nd} (b : Bt w0 sb tb mb most g cap h hc N M W) (hs : RSt W' mb h' hc' most M') (hf : Frm [mb, h] W W') (hg : h' = h ∨ W.heap.size ≤ h') : Bt w0 sb tb mb most g cap h' hc' N M' W' := by
  obtain ⟨⟨a1, a2, a3⟩, a4, a5, a6⟩ := apart6 b.s b.m
  obtain ⟨l1, l2, l3, l4, l5⟩ := b.lb
  obtain ⟨s1, s2, s3⟩ := b.s.lt
  have := b.bel.size
  refine ⟨b.s.of_blocks (hf.block sb s1 (by simp; omega)) (hf.block g s2 (by simp; omega)) (hf.block tb s3 (by simp; omega)), hs, b.bel.trans (hf.below (fun x hx => ?_) b.bel.size), l1, l2, l3, l4, by omega⟩
  simp at hx; omega
set_option maxHeartbeats 4000000 in
theorem sacts_any (most0 : Int) (L : List Av) (a : Option Addr) (n cap : Nat) (hn : n = L.length) (hm : n ≤ maxLen) (w : World) (hty : TypeLaid w) (h : Avs w w.heap.size a L) :
    Calls Tryd.prog 3 #[.int .i64 most0, .slice a n cap] w fun e w' => e = .returned (.bool true) ∧ Below w.heap.size w w' := by
  have HN := Lib.hid hn
  have HM := Lib.hid hm
  have HR := Lib.hid h
  have HT := Lib.hid hty
  clear hty hn hm h
  go_enter Tryd.func3, Tryd.ntmps3
  go_wp2_with fail
  refine (lives6_any _).mono ?_
  rintro e W1 ⟨rfl, hb⟩
  have HB1 := Lib.hid hb
  clear hb
  by_cases hbig : 150 < n
  · have hg : decide ((150 : Int) < (n : Int)) = true := by simp; omega
    go_wp2_with fail
    refine (lives6_any _).mono ?_
    rintro e W2 ⟨rfl, hb⟩
    have HB2 := Lib.hid (HB1.out.trans (hb.mono HB1.out.size))
    clear hb
    go_wp2_with fail
    go_ret
    exact ⟨rfl, HB2.out⟩
  have hg : decide ((150 : Int) < (n : Int)) = false := by simp; omega
  obtain ⟨most, m0, m1, hmost⟩ := room6 most0
  go_wp2_with fail
  refine (new_good most m0 (by omega) _).mono ?_
  rintro e W2 ⟨sb, g, tb, rfl, hS, hB, l1, l2, l3⟩
  have HS2 := Lib.hid hS
  have HB2 := Lib.hid (HB1.out.trans (hB.mono HB1.out.size))
  have HLS : Hid (w.heap.size ≤ sb ∧ w.heap.size ≤ g ∧ w.heap.size ≤ tb) := by have := HB1.out.size; exact ⟨by omega, by omega, by omega⟩
  clear hS hB l1 l2 l3 HB1 hg
  go_wp2_with fail
  refine (rnew_any most m0 (by omega) _).mono ?_
  rintro e W3 ⟨mb, h, rfl, hR, hB, l1, l2⟩
  have HBT : Hid (Bth w sb tb mb most W3) := by
    have hl := HLS.out
    have := HB2.out.size
    exact ⟨g, 2, h, 2, N0, HS2.out.later hB, hR, HB2.out.trans (hB.mono HB2.out.size), hl.1, hl.2.1, hl.2.2, by omega, by omega⟩
  clear hR hB l1 l2 HS2 HB2 HLS hmost
  go_wp2_with fail
  go_loopg [10, 11, 12, 13, 14, 15, 16, 17, 18, 19, 20, 45] n (fun m av xv fv yv gv kv k2 x2 f2 y2 g2 i wr => ∃ j : Nat, m = n - j ∧ j ≤ n ∧ i = .int .i64 (j : Int) ∧ Bth w sb tb mb most wr)
  case atStart => exact ⟨0, rfl, Nat.zero_le _, rfl, HBT.out⟩
  case round =>
    obtain ⟨j, hm, hj, rfl, hbt⟩ := hrel
    have HMJ := Lib.hid hm
    obtain ⟨g, cap1, h, hc, N, hS, hM, hB, lb⟩ := hbt
    have HB : Hid (Bt w sb tb mb most g cap1 h hc N N wr) := ⟨hS, hM, hB, lb⟩
    clear hm hS hM hB lb HBT
    by_cases hlt : j < n
    · obtain ⟨c, hcj⟩ : ∃ c, L[j]? = some c := ⟨L[j]'(by have := HN.out; omega), List.getElem?_eq_getElem _⟩
      obtain ⟨hok, bk, off, rfl, hbk, c0, c1, c2, c3, c4, c5⟩ := (HR.out.later HB.out.bel) j c hcj
      have HOK := Lib.hid hok
      clear hcj hok
      have hgj : decide (j < n) = true := by simpa using hlt
      have hij : (j : Int) < (n : Int) := by omega
      have hi0 : (0 : Int) ≤ (j : Int) := by omega
      have hwj : IntKind.i64.wrap ((j : Int) + 1) = (j : Int) + 1 := IntWalk.i64_in _ (by have := HM.out; unfold maxLen at this; omega)
      have HBA := Lib.hid (bel1 wr (.cells #[.int .u8 (c.kd : Int), .int .u8 (c.a0 : Int), .int .u8 (c.a1 : Int), .int .u8 (c.a2 : Int), .int .u8 (c.a3 : Int), .int .i64 c.n] 34))
      have HA2 : Hid ((wr.alloc (.cells #[.int .u8 (c.kd : Int), .int .u8 (c.a0 : Int), .int .u8 (c.a1 : Int), .int .u8 (c.a2 : Int), .int .u8 (c.a3 : Int), .int .i64 c.n] 34)).heap[wr.heap.size]? = some (.cells #[.int .u8 (c.kd : Int), .int .u8 (c.a0 : Int), .int .u8 (c.a1 : Int), .int .u8 (c.a2 : Int), .int .u8 (c.a3 : Int), .int .i64 c.n] 34 (0, 0))) := heap_alloc_new wr _
      have HB2 := Lib.hid (HB.out.later HBA.out)
      clear HBA HB
      rcases (by omega : c.kd % 4 = 1 ∨ c.kd % 4 = 2 ∨ (c.kd % 4 ≠ 1 ∧ c.kd % 4 ≠ 2)) with hkd | hkd | hkd
      · skip
        have hk1 : ((c.kd : Int) % 4 == 1) = true := by rw [beq_iff_eq]; omega
        have hrem : ∃ lv : Int, c.n.tmod 70 = lv := ⟨_, rfl⟩
        obtain ⟨lv, hlv⟩ := hrem
        by_cases hbad : lv < 0 ∨ 62 < lv
        · have HBAD := Lib.hid hbad
          clear hbad
          go_wp2_with fail
          generalize wr.alloc (.cells #[.int .u8 (c.kd : Int), .int .u8 (c.a0 : Int), .int .u8 (c.a1 : Int), .int .u8 (c.a2 : Int), .int .u8 (c.a3 : Int), .int .i64 c.n] 34) = w2 at *
          generalize wr.heap.size = ab at *
          have k5 : w2.cell? ⟨ab, 5, none⟩ = some (.int .i64 c.n) := by rw [Lib.cell_of_heap HA2.out]; rfl
          refine (empty_bad HB2.out.s lv HBAD.out).mono ?_
          rintro e w' ⟨rfl, rfl⟩
          go_wp2_with fail
          refine (rempty_bad mb lv HBAD.out).mono ?_
          rintro e w' ⟨rfl, rfl⟩
          go_wp2_with fail
          refine (code_num 1 _ (HT.out.later HB2.out.bel)).mono ?_
          rintro e w3 ⟨rfl, hb3⟩
          have HB3 := Lib.hid (HB2.out.later hb3)
          clear hb3 HB2 k5
          go_wp2_with fail
          refine (same_any HB3.out.s HB3.out.m).mono ?_
          rintro e W9 ⟨rfl, hb9⟩
          have HB9 := Lib.hid (HB3.out.later hb9)
          clear hb9 HB3
          go_wp2_with fail
          go_roundg (n - (j + 1))
          case measure => rw [HMJ.out]; omega
          case rel => exact ⟨j + 1, rfl, hlt, by go_num, HB9.out.bth⟩
        · obtain ⟨level, rfl⟩ : ∃ k : Nat, lv = (k : Int) := ⟨lv.toNat, by omega⟩
          have HLV : Hid (level ≤ 62) := by show _ ≤ _; omega
          clear hbad
          go_wp2_with fail
          generalize wr.alloc (.cells #[.int .u8 (c.kd : Int), .int .u8 (c.a0 : Int), .int .u8 (c.a1 : Int), .int .u8 (c.a2 : Int), .int .u8 (c.a3 : Int), .int .i64 c.n] 34) = w2 at *
          generalize wr.heap.size = ab at *
          have k5 : w2.cell? ⟨ab, 5, none⟩ = some (.int .i64 c.n) := by rw [Lib.cell_of_heap HA2.out]; rfl
          refine (empty_any HB2.out.s level HLV.out).mono ?_
          rintro e w3 ⟨g3, cap3, rfl, hs3, hf3, hg3⟩
          have HB3 := Lib.hid (HB2.out.made hs3 hf3 hg3)
          have HA3 : Hid (w3.heap[ab]? = some (.cells #[.int .u8 (c.kd : Int), .int .u8 (c.a0 : Int), .int .u8 (c.a1 : Int), .int .u8 (c.a2 : Int), .int .u8 (c.a3 : Int), .int .i64 c.n] 34 (0, 0))) := (hf3.block ab (Array.getElem?_eq_some_iff.1 HA2.out).1 (HB2.out.s.not_mem HA2.out (by decide) (by decide))).trans HA2.out
          clear hs3 hf3 hg3 HB2 HA2 k5
          have k5 : w3.cell? ⟨ab, 5, none⟩ = some (.int .i64 c.n) := by rw [Lib.cell_of_heap HA3.out]; rfl
          have hX : ∃ X : Nat, (emZ most level N 0).2.1 = X := ⟨_, rfl⟩
          have hE : ∃ E : Nat, (emZ most level N 0).2.2 = E := ⟨_, rfl⟩
          obtain ⟨X, hX⟩ := hX
          obtain ⟨E, hE⟩ := hE
          rw [hX, hE]
          have HXE := Lib.hid (And.intro hX hE)
          have hxx : ((X : Int) != (X : Int)) = false := by simp
          have hee : ((E : Int) != (E : Int)) = false := by simp
          clear hX hE
          go_wp2_with fail
          refine (rempty_any HB3.out.m level HLV.out).mono ?_
          rintro e w4 ⟨h4, hc4, rfl, hs4, hf4, hg4⟩
          have HB4 := Lib.hid (HB3.out.rmade hs4 hf4 hg4)
          clear hs4 hf4 hg4 HB3 HA3 k5
          rw [HXE.out.1, HXE.out.2]
          go_wp2_with fail
          refine (code_err E _ (HT.out.later HB4.out.bel)).mono ?_
          rintro e w5 ⟨rfl, hb5⟩
          have HB5 := Lib.hid (HB4.out.later hb5)
          clear hb5 HB4
          go_wp2_with fail
          refine (same_any HB5.out.s HB5.out.m).mono ?_
          rintro e W9 ⟨rfl, hb9⟩
          have HB9 := Lib.hid (HB5.out.later hb9)
          clear hb9 HB5
          go_wp2_with fail
          go_roundg (n - (j + 1))
          case measure => rw [HMJ.out]; omega
          case rel => exact ⟨j + 1, rfl, hlt, by go_num, HB9.out.bth⟩

      · skip
        have hk1 : ((c.kd : Int) % 4 == 1) = false := by rw [beq_eq_false_iff_ne]; omega
        have hk2 : ((c.kd : Int) % 4 == 2) = true := by rw [beq_iff_eq]; omega
        have hrem : ∃ lv : Int, c.n.tmod 310 = lv := ⟨_, rfl⟩
        obtain ⟨lv, hlv⟩ := hrem
        by_cases h2 : lv < 2
        · have hg2 : decide (2 ≤ lv) = false := by simp; omega
          go_wp2_with fail
          generalize wr.alloc (.cells #[.int .u8 (c.kd : Int), .int .u8 (c.a0 : Int), .int .u8 (c.a1 : Int), .int .u8 (c.a2 : Int), .int .u8 (c.a3 : Int), .int .i64 c.n] 34) = w2 at *
          generalize wr.heap.size = ab at *
          have k5 : w2.cell? ⟨ab, 5, none⟩ = some (.int .i64 c.n) := by rw [Lib.cell_of_heap HA2.out]; rfl
          refine (back_no HB2.out.s lv (Or.inl h2)).mono ?_
          rintro e w' ⟨rfl, rfl⟩
          clear k5
          go_wp2_with fail
          refine (same_any HB2.out.s HB2.out.m).mono ?_
          rintro e W9 ⟨rfl, hb9⟩
          have HB9 := Lib.hid (HB2.out.later hb9)
          clear hb9 HB2
          go_wp2_with fail
          go_roundg (n - (j + 1))
          case measure => rw [HMJ.out]; omega
          case rel => exact ⟨j + 1, rfl, hlt, by go_num, HB9.out.bth⟩
        · obtain ⟨k, rfl⟩ : ∃ k : Nat, lv = (k : Int) := ⟨lv.toNat, by omega⟩
          have hk : 2 ≤ k := by omega
          have hg2 : decide (2 ≤ k) = true := by simpa using hk
          have hg2' : decide ((2 : Int) ≤ (k : Int)) = true := by simp; omega
          clear h2
          by_cases hgr : N.length < k
          · have hg3 : decide (k < N.length) = false := by simp; omega
            go_wp2_with fail
            generalize wr.alloc (.cells #[.int .u8 (c.kd : Int), .int .u8 (c.a0 : Int), .int .u8 (c.a1 : Int), .int .u8 (c.a2 : Int), .int .u8 (c.a3 : Int), .int .i64 c.n] 34) = w2 at *
            generalize wr.heap.size = ab at *
            have k5 : w2.cell? ⟨ab, 5, none⟩ = some (.int .i64 c.n) := by rw [Lib.cell_of_heap HA2.out]; rfl
            refine (back_no HB2.out.s (k : Int) (Or.inr (by omega))).mono ?_
            rintro e w' ⟨rfl, rfl⟩
            clear k5
            obtain ⟨r0, r1, r2⟩ := HB2.out.m.cells
            go_wp2_with fail
            refine (same_any HB2.out.s HB2.out.m).mono ?_
            rintro e W9 ⟨rfl, hb9⟩
            have HB9 := Lib.hid (HB2.out.later hb9)
            clear hb9 HB2
            go_wp2_with fail
            go_roundg (n - (j + 1))
            case measure => rw [HMJ.out]; omega
            case rel => exact ⟨j + 1, rfl, hlt, by go_num, HB9.out.bth⟩
          · have hle : k ≤ N.length := by omega
            clear hgr
            go_wp2_with fail
            generalize wr.alloc (.cells #[.int .u8 (c.kd : Int), .int .u8 (c.a0 : Int), .int .u8 (c.a1 : Int), .int .u8 (c.a2 : Int), .int .u8 (c.a3 : Int), .int .i64 c.n] 34) = w2 at *
            generalize wr.heap.size = ab at *
            have k5 : w2.cell? ⟨ab, 5, none⟩ = some (.int .i64 c.n) := by rw [Lib.cell_of_heap HA2.out]; rfl
            refine (back_yes HB2.out.s k hk hle).mono ?_
            rintro e w3 ⟨rfl, hs3, hf3⟩
            have HB3 := Lib.hid (HB2.out.made hs3 hf3 (Or.inl rfl))
            clear hs3 hf3 HB2 k5 HA2
            obtain ⟨r0, r1, r2⟩ := HB3.out.m.cells
            by_cases hlt2 : k < N.length
            · have hg3 : decide (k < N.length) = true := by simpa using hlt2
              have hcut := cut_k h N.length hc k hle (by obtain ⟨_, _, q, _⟩ := HB3.out.m.row; exact q)
              have HB4 : Hid (Bt w sb tb mb most g cap1 h k (N.take k) (N.take k) (w3.setCell ⟨mb, 0, none⟩ (.slice (some ⟨h, 0, none⟩) k k))) := HB3.out.rmade (rst_cut HB3.out.m hk hle) (Frm.of_set w3 (by simp) _) (Or.inl rfl)
              go_wp2_with fail
              refine (same_any HB4.out.s HB4.out.m).mono ?_
              rintro e W9 ⟨rfl, hb9⟩
              have HB9 := Lib.hid (HB4.out.later hb9)
              clear hb9 HB4
              go_wp2_with fail
              go_roundg (n - (j + 1))
              case measure => rw [HMJ.out]; omega
              case rel => exact ⟨j + 1, rfl, hlt, by go_num, HB9.out.bth⟩
            · have hg3 : decide (k < N.length) = false := by simpa using hlt2
              have HB4 : Hid (Bt w sb tb mb most g cap1 h hc N N w3) := by
                have := HB3.out
                rw [List.take_of_length_le (by omega)] at this
                exact this
              clear HB3
              go_wp2_with fail
              refine (same_any HB4.out.s HB4.out.m).mono ?_
              rintro e W9 ⟨rfl, hb9⟩
              have HB9 := Lib.hid (HB4.out.later hb9)
              clear hb9 HB4
              go_wp2_with fail
              go_roundg (n - (j + 1))
              case measure => rw [HMJ.out]; omega
              case rel => exact ⟨j + 1, rfl, hlt, by go_num, HB9.out.bth⟩

      · skip
        have hk1 : ((c.kd : Int) % 4 == 1) = false := by rw [beq_eq_false_iff_ne]; omega
        have hk2 : ((c.kd : Int) % 4 == 2) = false := by rw [beq_eq_false_iff_ne]; omega
        go_wp2_with fail
        generalize wr.alloc (.cells #[.int .u8 (c.kd : Int), .int .u8 (c.a0 : Int), .int .u8 (c.a1 : Int), .int .u8 (c.a2 : Int), .int .u8 (c.a3 : Int), .int .i64 c.n] 34) = w2 at *
        generalize wr.heap.size = ab at *
        have k5 : w2.cell? ⟨ab, 5, none⟩ = some (.int .i64 c.n) := by rw [Lib.cell_of_heap HA2.out]; rfl
        refine (kids_any HB2.out.m c.kd c.a0 c.a1 c.a2 c.a3 c.n HOK.out.1 HOK.out.2.1 HOK.out.2.2.1 HOK.out.2.2.2.1 HOK.out.2.2.2.2.1).mono ?_
        rintro e w3 ⟨k, hik, rfl, hb3⟩
        have HIK := Lib.hid hik
        have HB3 := Lib.hid (HB2.out.later hb3)
        clear hik hb3 HB2 HA2 k5
        have HBK := Lib.hid (bel1 w3 (.cells #[.int .u32 (k.1 : Int), .int .u32 (k.2.1 : Int), .int .u32 (k.2.2.1 : Int), .int .u32 (k.2.2.2 : Int)] 48))
        have HKA := Lib.hid (rk_new w3 k)
        have HB4 := Lib.hid (HB3.out.later HBK.out)
        clear HB3 HBK
        go_wp2_with fail
        generalize w3.alloc (.cells #[.int .u32 (k.1 : Int), .int .u32 (k.2.1 : Int), .int .u32 (k.2.2.1 : Int), .int .u32 (k.2.2.2 : Int)] 48) = w4 at *
        generalize w3.heap.size = kb at *
        obtain ⟨u0, u1, u2, u3⟩ := HKA.out.cells
        go_wp2_with fail
        refine (make_any HB4.out.s k HIK.out).mono ?_
        rintro e w5 ⟨g5, cap5, rfl, hs5, hf5, hg5⟩
        have HB5 := Lib.hid (HB4.out.made hs5 hf5 hg5)
        have HK5 : Hid (RKAt w5 kb k) := (hf5.block kb HKA.out.lt (HB4.out.s.not_mem HKA.out (by decide) (by decide))).trans HKA.out
        clear hs5 hf5 hg5 HB4 HKA u0 u1 u2 u3
        obtain ⟨u0, u1, u2, u3⟩ := HK5.out.cells
        have hX : ∃ X : Nat, (mkZ N most k).2.1 = X := ⟨_, rfl⟩
        have hE : ∃ E : Nat, (mkZ N most k).2.2 = E := ⟨_, rfl⟩
        obtain ⟨X, hX⟩ := hX
        obtain ⟨E, hE⟩ := hE
        rw [hX, hE]
        have HXE := Lib.hid (And.intro hX hE)
        have hxx : ((X : Int) != (X : Int)) = false := by simp
        have hee : ((E : Int) != (E : Int)) = false := by simp
        clear hX hE
        go_wp2_with fail
        refine (rmake_any HB5.out.m k HIK.out).mono ?_
        rintro e w6 ⟨h6, hc6, rfl, hs6, hf6, hg6⟩
        have HB6 := Lib.hid (HB5.out.rmade hs6 hf6 hg6)
        clear hs6 hf6 hg6 HB5 HK5 u0 u1 u2 u3
        rw [HXE.out.1, HXE.out.2]
        go_wp2_with fail
        refine (code_err E _ (HT.out.later HB6.out.bel)).mono ?_
        rintro e w7 ⟨rfl, hb7⟩
        have HB7 := Lib.hid (HB6.out.later hb7)
        clear hb7 HB6
        go_wp2_with fail
        refine (same_any HB7.out.s HB7.out.m).mono ?_
        rintro e W9 ⟨rfl, hb9⟩
        have HB9 := Lib.hid (HB7.out.later hb9)
        clear hb9 HB7
        go_wp2_with fail
        go_roundg (n - (j + 1))
        case measure => rw [HMJ.out]; omega
        case rel => exact ⟨j + 1, rfl, hlt, by go_num, HB9.out.bth⟩

    · obtain rfl : j = n := by omega
      have hgj : decide (j < j) = false := by simp
      go_wp2_with fail
      go_ret
      exact ⟨rfl, HB.out.bel⟩
end Go.Proofs.YtjndfdhjipfijaaDoor
