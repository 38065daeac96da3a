-- M26
import Derived.Test.YtnfjmmkokhncoaaGreatM18
import Derived.Test.YtnfjmmkokhncoaaGreatM19
import Derived.Test.YtnfjmmkokhncoaaGreatSp8d
import Derived.Test.YtnfjmmkokhncoaaGreatM25
import Derived.Test.YtnfjmmkokhncoaaGreatSp8p
import Derived.Test.YtnfjmmkokhncoaaGreatM16
import Derived.Test.YtnfjmmkokhncoaaGreatM05
import Derived.Deep.DeepCutAuto
import Derived.Deep.CutRange
import Derived.Deep.CutBlock
section
namespace Go.Proofs.YtnfjmmkokhncoaaGreat
open Go.RowKit

theorem step8_any {w : World} {sb g tb cap most : Nat} {M : List Nd} (h : St w sb g tb cap most M) {n x : Nat} {l : List (Int × Int)} (hpl : Pl8 M n x l) (a : Option Addr) (cap' : Nat) (hr : Rv8 w sb g tb a l) (hl : l.length ≤ 5000) (T : List Place) (hT : Cov T (fun p q => (p, q) ∈ l)) (hroom : M.length + T.length + 3300 ≤ most) (k W H : Nat) (hk : k < 256) (hW : W < 256) (hH : H < 256) (p q : Int) (hp : -2305843009213693952 ≤ p ∧ p ≤ 2305843009213693952) (hq : -2305843009213693952 ≤ q ∧ q ≤ 2305843009213693952) (sl : Value) (over : Bool) (ca : Option Addr) (cs : List (Int × Int)) (cc : Nat) (hsl : sl = .slice ca cs.length cc) (hcs : Pts w w.heap.size ca cs) (hcl : cs.length ≤ 30) (hcf : ∀ d ∈ cs, fits d) :
    Calls Tryz.prog 7 #[.agg #[.pointer (some ⟨sb, 0, none⟩), .int .u32 (x : Int)], .slice a l.length cap', .agg #[.int .u8 (k : Int), .int .i64 p, .int .i64 q, .int .u8 (W : Int), .int .u8 (H : Int), sl, .bool over]] w fun e w' => Out8 w sb g tb most M l a T e w' := by
  by_cases h3 : k % 4 = 3
  · exact step8_trim h hpl a cap' hr hl T hT hroom k W H hk hW hH p q hp hq sl over h3
  by_cases h2 : k % 4 = 2
  · cases hat : (onP p && onP q) with
    | true => exact step8_paste h hpl a cap' hr hl T hT hroom k W H hk hW hH p q hp hq sl over ca cs cc hsl hcs hcl hcf h2 hat
    | false => exact step8_off h hpl a cap' hr hl T hT hroom k W H hk hW hH p q hp hq sl over ca cs cc hsl hcs hcl hcf h2 hat
  have h4 : k % 4 ≤ 1 := by omega
  by_cases h0 : W % 24 = 0 ∨ H % 24 = 0
  · exact step8_no h hpl a cap' hr hl T hT hroom k W H hk hW hH p q hp hq sl over h4 h0
  have h0' : W % 24 ≠ 0 ∧ H % 24 ≠ 0 := ⟨fun e => h0 (Or.inl e), fun e => h0 (Or.inr e)⟩
  cases hr4 : rightR p q (p + ((W % 24 : Nat) : Int)) (q + ((H % 24 : Nat) : Int)) with
  | true => exact step8_good h hpl a cap' hr hl T hT hroom k W H hk hW hH p q hp hq sl over h4 h0' hr4
  | false => exact step8_far h hpl a cap' hr hl T hT hroom k W H hk hW hH p q hp hq sl over h4 h0' hr4
end Go.Proofs.YtnfjmmkokhncoaaGreat
end

section
namespace Go.Proofs.YtnfjmmkokhncoaaGreat
open Go.RowKit
set_option maxRecDepth 100000

/-- An act. -/
structure A8 where
  k : Nat
  p : Int
  q : Int
  W : Nat
  H : Nat
  ca : Option Addr
  cs : List (Int × Int)
  cc : Nat
  over : Bool
/-- Acts in a row that came in, below block B. -/
def A8s (w : World) (B : Nat) (a : Option Addr) (L : List A8) : Prop := ∀ (j : Nat) c, L[j]? = some c → (c.k < 256 ∧ c.W < 256 ∧ c.H < 256) ∧ Pts w B c.ca c.cs ∧ ∃ bk off, a = some ⟨bk, off, none⟩ ∧ bk < B ∧
  w.cell? ⟨bk, off + j * 7, none⟩ = some (.int .u8 (c.k : Int)) ∧ w.cell? ⟨bk, off + j * 7 + 1, none⟩ = some (.int .i64 c.p) ∧ w.cell? ⟨bk, off + j * 7 + 2, none⟩ = some (.int .i64 c.q) ∧ w.cell? ⟨bk, off + j * 7 + 3, none⟩ = some (.int .u8 (c.W : Int)) ∧
  w.cell? ⟨bk, off + j * 7 + 4, none⟩ = some (.int .u8 (c.H : Int)) ∧ w.cell? ⟨bk, off + j * 7 + 5, none⟩ = some (.slice c.ca c.cs.length c.cc) ∧ w.cell? ⟨bk, off + j * 7 + 6, none⟩ = some (.bool c.over)
theorem A8s.later {w w' : World} {B : Nat} {a : Option Addr} {L : List A8} (h : A8s w B a L) (hb : Below B w w') : A8s w' B a L := fun j c hc => by
  obtain ⟨h0, hp, bk, off, e, hB, h1, h2, h3, h4, h5, h6, h7⟩ := h j c hc
  have hk : ∀ i, w'.cell? ⟨bk, i, none⟩ = w.cell? ⟨bk, i, none⟩ := fun i => hb.cell (p := ⟨bk, i, none⟩) hB
  exact ⟨h0, hp.later hb (Nat.le_refl _), bk, off, e, hB, by rw [hk]; exact h1, by rw [hk]; exact h2, by rw [hk]; exact h3, by rw [hk]; exact h4, by rw [hk]; exact h5, by rw [hk]; exact h6, by rw [hk]; exact h7⟩
/-- An act of a size with which the law is tried. -/
def A8.good (c : A8) : Prop := c.cs.length ≤ 30 ∧ (-2305843009213693952 ≤ c.p ∧ c.p ≤ 2305843009213693952) ∧ (-2305843009213693952 ≤ c.q ∧ c.q ≤ 2305843009213693952) ∧ ∀ d ∈ c.cs, fits d
/-- What the test tells. -/
def Ft8 (L : List A8) (e : Ending) : Prop := e = .returned (.bool false) ∨ (e = .returned (.bool true) ∧ L.length ≤ 8 ∧ ∀ c ∈ L, c.good)
theorem ft8_of {L : List A8} {b : Bool} (h : b = true → L.length ≤ 8 ∧ ∀ c ∈ L, c.good) : Ft8 L (.returned (.bool b)) := by
  cases b
  · exact Or.inl rfl
  · exact Or.inr ⟨rfl, h rfl⟩
theorem fits_of_on {d : Int × Int} (h : (onP d.1 && onP d.2) = true) : fits d := by
  unfold onP at h
  unfold fits
  simp only [Bool.and_eq_true, decide_eq_true_eq] at h
  omega
set_option maxHeartbeats 4000000 in
theorem fits8_any (L : List A8) (a : Option Addr) (cap : Nat) (w : World) (h : A8s w w.heap.size a L) (hl : L.length ≤ maxLen) :
    Calls Tryz.prog 5 #[.slice a L.length cap] w fun e w' => Ft8 L e ∧ Below w.heap.size w w' := by
  have HA := Lib.hid h
  have HL := Lib.hid hl
  clear h hl
  go_enter Tryz.func5, Tryz.ntmps5
  go_wp2_with fail
  go_loopg [9] L.length (fun m i wr => ∃ j : Nat, m = L.length - j ∧ j ≤ L.length ∧ i = .int .i64 (j : Int) ∧ (∀ c ∈ L.take j, c.good) ∧ Below w.heap.size w wr)
  case atStart => exact ⟨0, rfl, Nat.zero_le _, rfl, fun c hc => by simp at hc, Below.refl _ _⟩
  case round =>
    obtain ⟨j, hm, hj, rfl, hgood, hb⟩ := hrel
    have HM := Lib.hid hm
    have HG := Lib.hid hgood
    have HB := Lib.hid hb
    clear hm hgood hb
    by_cases hlt : j < L.length
    · obtain ⟨⟨ck, cp, cq, cW, cH, cca, ccs, ccc, cov⟩, hc⟩ : ∃ c, L[j]? = some c := ⟨L[j], List.getElem?_eq_getElem hlt⟩
      obtain ⟨hk, hpt, bk, off, rfl, hbk, c0, c1, c2, c3, c4, c5, c6⟩ := HA.out.later HB.out j _ hc
      have HPT := Lib.hid (HA.out j _ hc).2.1
      have HTK : Hid (L.take (j + 1) = L.take j ++ [⟨ck, cp, cq, cW, cH, cca, ccs, ccc, cov⟩]) := by show _ = _; rw [List.take_add_one, hc]; rfl
      clear hc hk
      have hl := HL.out
      unfold maxLen at hl
      simp only at c0 c1 c2 c3 c4 c5 c6
      clear hpt
      have hgj : decide ((j : Int) < (L.length : Int)) = true := by simp; omega
      have i1 : (0 : Int) ≤ (j : Int) := by omega
      have i2 : (j : Int) < (L.length : Int) := by omega
      go_upto_region 4 with fail
      have hob : (wr.alloc (.cells #[.int .u8 (ck : Int), .int .i64 cp, .int .i64 cq, .int .u8 (cW : Int), .int .u8 (cH : Int), .slice cca ccs.length ccc, .bool cov] 38)).heap[wr.heap.size]? = some (acO8 ck cp cq cW cH (.slice cca ccs.length ccc) cov) := heap_alloc_new wr _
      have HB1 := Lib.hid (HB.out.trans ((bel1 wr (.cells #[.int .u8 (ck : Int), .int .i64 cp, .int .i64 cq, .int .u8 (cW : Int), .int .u8 (cH : Int), .slice cca ccs.length ccc, .bool cov] 38)).mono HB.out.size))
      obtain ⟨q0, q1, q2, q3, q4, q5, q6⟩ := ac_cells8 hob
      have HOB := Lib.hid hob
      clear c0 c1 c2 c3 c4 c5 c6 hob hbk i1 i2
      generalize wr.alloc (.cells #[.int .u8 (ck : Int), .int .i64 cp, .int .i64 cq, .int .u8 (cW : Int), .int .u8 (cH : Int), .slice cca ccs.length ccc, .bool cov] 38) = w1 at *
      generalize wr.heap.size = bo at *
      by_cases t1 : 30 < ccs.length
      · have g1 : decide ((30 : Int) < (ccs.length : Int)) = true := decide_eq_true (by omega)
        go_wp2_with fail
        go_ret
        exact ⟨Or.inl rfl, HB1.out⟩
      have g1 : decide ((30 : Int) < (ccs.length : Int)) = false := decide_eq_false (by omega)
      by_cases t2 : 2305843009213693952 < cp
      · have g2 : decide (2305843009213693952 < cp) = true := decide_eq_true (by omega)
        go_wp2_with fail
        go_ret
        exact ⟨Or.inl rfl, HB1.out⟩
      have g2 : decide (2305843009213693952 < cp) = false := decide_eq_false (by omega)
      by_cases t3 : 2305843009213693952 < cq
      · have g3 : decide (2305843009213693952 < cq) = true := decide_eq_true (by omega)
        go_wp2_with fail
        go_ret
        exact ⟨Or.inl rfl, HB1.out⟩
      have g3 : decide (2305843009213693952 < cq) = false := decide_eq_false (by omega)
      by_cases t4 : cp < -2305843009213693952
      · have g4 : decide (cp < -2305843009213693952) = true := decide_eq_true (by omega)
        go_wp2_with fail
        go_ret
        exact ⟨Or.inl rfl, HB1.out⟩
      have g4 : decide (cp < -2305843009213693952) = false := decide_eq_false (by omega)
      by_cases t5 : cq < -2305843009213693952
      · have g5 : decide (cq < -2305843009213693952) = true := decide_eq_true (by omega)
        go_wp2_with fail
        go_ret
        exact ⟨Or.inl rfl, HB1.out⟩
      have g5 : decide (cq < -2305843009213693952) = false := decide_eq_false (by omega)
      go_wp2_with fail
      go_loopg [44] ccs.length (fun m i wx => ∃ d : Nat, m = ccs.length - d ∧ d ≤ ccs.length ∧ i = .int .i64 (d : Int) ∧ (∀ e ∈ ccs.take d, fits e) ∧ Below w.heap.size w wx)
      case atStart => exact ⟨0, rfl, Nat.zero_le _, rfl, fun e he => by simp at he, HB1.out⟩
      case round =>
        obtain ⟨d, hm2, hd, rfl, hf, hbx⟩ := hrel
        have HM2 := Lib.hid hm2
        have HF := Lib.hid hf
        have HBX := Lib.hid hbx
        clear hm2 hf hbx
        by_cases hlt2 : d < ccs.length
        · obtain ⟨e, he⟩ : ∃ e, ccs[d]? = some e := ⟨ccs[d], List.getElem?_eq_getElem hlt2⟩
          obtain ⟨bk2, off2, hca, hbk2, e0, e1⟩ := (HPT.out.later HBX.out (Nat.le_refl _)) d e he
          have HTE : Hid (ccs.take (d + 1) = ccs.take d ++ [e]) := by show _ = _; rw [List.take_add_one, he]; rfl
          subst hca
          clear he
          have hgd : decide ((d : Int) < (ccs.length : Int)) = true := decide_eq_true (by omega)
          have i1 : (0 : Int) ≤ (d : Int) := by omega
          have i2 : (d : Int) < (ccs.length : Int) := by omega
          go_wp2_with fail
          refine (pright_any e.1 e.2 _).mono ?_
          rintro ev w2 ⟨rfl, hb2⟩
          have HB2 := Lib.hid (HBX.out.trans (((bel1 wr (.cells #[.int .i64 e.1, .int .i64 e.2] 24)).trans (hb2.mono (bel1 _ _).size)).mono HBX.out.size))
          clear hb2 e0 e1
          cases hon : (onP e.1 && onP e.2) with
          | false =>
            go_wp2_with fail
            go_ret
            exact ⟨Or.inl rfl, HB2.out⟩
          | true =>
            have HON := Lib.hid hon
            clear hon
            go_wp2_with fail
            go_roundg (ccs.length - (d + 1))
            case measure => rw [HM2.out]; omega
            case rel =>
              refine ⟨d + 1, rfl, hlt2, by go_num, ?_, HB2.out⟩
              rw [HTE.out]
              intro y hy
              rcases List.mem_append.1 hy with hy | hy
              · exact HF.out y hy
              · rw [List.mem_singleton] at hy
                subst hy
                exact fits_of_on HON.out
        · obtain rfl : d = ccs.length := by omega
          have hgd : decide ((ccs.length : Int) < (ccs.length : Int)) = false := by simp
          have HE := HF.out
          rw [List.take_length] at HE
          have HE2 := Lib.hid HE
          clear HE
          go_wp2_with fail
          go_roundg (L.length - (j + 1))
          case measure => rw [HM.out]; omega
          case rel =>
            refine ⟨j + 1, rfl, hlt, by go_num, ?_, HBX.out⟩
            rw [HTK.out]
            intro x hx
            rcases List.mem_append.1 hx with hx | hx
            · exact HG.out x hx
            · rw [List.mem_singleton] at hx
              subst hx
              exact ⟨(by omega : ccs.length ≤ 30), (by omega : -2305843009213693952 ≤ cp ∧ cp ≤ 2305843009213693952), (by omega : -2305843009213693952 ≤ cq ∧ cq ≤ 2305843009213693952), HE2.out⟩
    · obtain rfl : j = L.length := by omega
      have hgj : decide ((L.length : Int) < (L.length : Int)) = false := by simp
      have HE := HG.out
      rw [List.take_length] at HE
      have HE2 := Lib.hid HE
      clear HE
      go_wp2_with fail
      go_ret
      exact ⟨ft8_of fun hb => ⟨by have := of_decide_eq_true hb; omega, HE2.out⟩, HB.out⟩
end Go.Proofs.YtnfjmmkokhncoaaGreat
end

section
namespace Go.Proofs.YtnfjmmkokhncoaaGreat
open Go.RowKit Go.Maps
set_option maxRecDepth 100000

def loP (a c : Int × Int) : Int × Int := (min a.1 c.1, min a.2 c.2)
def hiP (a c : Int × Int) : Int × Int := (max a.1 c.1, max a.2 c.2)
theorem min_ifR (x y : Int) : (if y < x then y else x) = min x y := by
  split <;> omega
theorem max_ifR (x y : Int) : (if x < y then y else x) = max x y := by
  split <;> omega
theorem ptR_cell {w : World} {b : Nat} {p q : Int} (h : w.heap[b]? = some (ptO7 p q)) : w.cell? ⟨b, 0, none⟩ = some (.int .i64 p) ∧ w.cell? ⟨b, 1, none⟩ = some (.int .i64 q) ∧ w.frozen? ⟨b, 0, none⟩ = false ∧ w.frozen? ⟨b, 1, none⟩ = false :=
  ⟨(pt_cells7 h).1, (pt_cells7 h).2, Lib.frozen_of_heap h 0, Lib.frozen_of_heap h 1⟩
theorem ptR_put {w : World} {b : Nat} {p q : Int} (h : w.heap[b]? = some (ptO7 p q)) (x y : Int) : ((w.setCell ⟨b, 0, none⟩ (.int .i64 x)).setCell ⟨b, 1, none⟩ (.int .i64 y)).heap[b]? = some (ptO7 x y) := by
  unfold ptO7 at *
  simp only [World.setCell, Array.getElem?_modify, h]
  simp
theorem ptR_other {w : World} {b c : Nat} {o : Obj} (h : w.heap[b]? = some o) (hne : b ≠ c) (u v : Value) : ((w.setCell ⟨c, 0, none⟩ u).setCell ⟨c, 1, none⟩ v).heap[b]? = some o := by
  rw [Below.heap_setCell _ _ _ _ hne, Below.heap_setCell _ _ _ _ hne]; exact h
/-- The blocks of Box: two results, the least and the greatest. -/
structure Bq (w : World) (lo hi : Int × Int) (W : World) : Prop where
  bel : Below w.heap.size w W
  r0 : W.heap[w.heap.size]? = some (ptO7 0 0)
  r1 : W.heap[w.heap.size + 1]? = some (ptO7 0 0)
  a : W.heap[w.heap.size + 1 + 1]? = some (ptO7 lo.1 lo.2)
  b : W.heap[w.heap.size + 1 + 1 + 1]? = some (ptO7 hi.1 hi.2)
theorem Bq.drewN {w W : World} {lo hi : Int × Int} (h : Bq w lo hi W) (q : Nat) : Bq w lo hi (W.drewN q) := ⟨⟨h.bel.os, h.bel.tape, h.bel.output, h.bel.size, h.bel.block⟩, h.r0, h.r1, h.a, h.b⟩
theorem Bq.putA {w W : World} {lo hi : Int × Int} (h : Bq w lo hi W) (d : Int × Int) : Bq w d hi ((W.setCell ⟨w.heap.size + 1 + 1, 0, none⟩ (.int .i64 d.1)).setCell ⟨w.heap.size + 1 + 1, 1, none⟩ (.int .i64 d.2)) :=
  ⟨(h.bel.setCell (p := ⟨w.heap.size + 1 + 1, 0, none⟩) (by show _ ≤ w.heap.size + 1 + 1; omega) _).setCell (p := ⟨w.heap.size + 1 + 1, 1, none⟩) (by show _ ≤ w.heap.size + 1 + 1; omega) _, ptR_other h.r0 (by omega) _ _, ptR_other h.r1 (by omega) _ _, ptR_put h.a _ _, ptR_other h.b (by omega) _ _⟩
theorem Bq.putB {w W : World} {lo hi : Int × Int} (h : Bq w lo hi W) (d : Int × Int) : Bq w lo d ((W.setCell ⟨w.heap.size + 1 + 1 + 1, 0, none⟩ (.int .i64 d.1)).setCell ⟨w.heap.size + 1 + 1 + 1, 1, none⟩ (.int .i64 d.2)) :=
  ⟨(h.bel.setCell (p := ⟨w.heap.size + 1 + 1 + 1, 0, none⟩) (by show _ ≤ w.heap.size + 1 + 1 + 1; omega) _).setCell (p := ⟨w.heap.size + 1 + 1 + 1, 1, none⟩) (by show _ ≤ w.heap.size + 1 + 1 + 1; omega) _, ptR_other h.r0 (by omega) _ _, ptR_other h.r1 (by omega) _ _, ptR_other h.a (by omega) _ _, ptR_put h.b _ _⟩
theorem bq_start (w : World) (c : Int × Int) : Bq w c c ((((w.alloc (.cells #[.int .i64 0, .int .i64 0] 45)).alloc (.cells #[.int .i64 0, .int .i64 0] 45)).alloc (.cells #[.int .i64 c.1, .int .i64 c.2] 45)).alloc (.cells #[.int .i64 c.1, .int .i64 c.2] 45)) := by
  have h1 := heap_alloc_new w (.cells #[.int .i64 0, .int .i64 0] 45)
  have h2 := heap_alloc_new (w.alloc (.cells #[.int .i64 0, .int .i64 0] 45)) (.cells #[.int .i64 0, .int .i64 0] 45)
  have h3 := heap_alloc_new ((w.alloc (.cells #[.int .i64 0, .int .i64 0] 45)).alloc (.cells #[.int .i64 0, .int .i64 0] 45)) (.cells #[.int .i64 c.1, .int .i64 c.2] 45)
  have h4 := heap_alloc_new (((w.alloc (.cells #[.int .i64 0, .int .i64 0] 45)).alloc (.cells #[.int .i64 0, .int .i64 0] 45)).alloc (.cells #[.int .i64 c.1, .int .i64 c.2] 45)) (.cells #[.int .i64 c.1, .int .i64 c.2] 45)
  simp only [World.size_alloc] at h2 h3 h4
  refine ⟨by go_grown, keptR (keptR (keptR h1 (bel1 _ _)) (bel1 _ _)) (bel1 _ _), keptR (keptR h2 (bel1 _ _)) (bel1 _ _), keptR h3 (bel1 _ _), h4⟩
theorem loP_take (r : List (Int × Int)) (c d : Int × Int) {j : Nat} (hd : r[j]? = some d) : (r.take (j + 1)).foldl loP c = loP ((r.take j).foldl loP c) d ∧ (r.take (j + 1)).foldl hiP c = hiP ((r.take j).foldl hiP c) d := by
  rw [List.take_add_one, hd]
  simp
end Go.Proofs.YtnfjmmkokhncoaaGreat
end

section
namespace Go.Proofs.YtnfjmmkokhncoaaGreat
open Go.RowKit

theorem loP_is : ∀ (r : List (Int × Int)) (c : Int × Int), ((r.foldl loP c).1 ≤ c.1 ∧ (r.foldl loP c).2 ≤ c.2) ∧ (∀ d ∈ r, (r.foldl loP c).1 ≤ d.1 ∧ (r.foldl loP c).2 ≤ d.2) ∧ (∃ d ∈ c :: r, (r.foldl loP c).1 = d.1) ∧ ∃ d ∈ c :: r, (r.foldl loP c).2 = d.2
  | [], c => ⟨⟨Int.le_refl _, Int.le_refl _⟩, (fun d hd => by cases hd), ⟨c, List.mem_cons_self, rfl⟩, c, List.mem_cons_self, rfl⟩
  | e :: r, c => by
    obtain ⟨⟨h1, h2⟩, h3, ⟨d, hd, h4⟩, d', hd', h5⟩ := loP_is r (loP c e)
    simp only [List.foldl_cons]
    have h1 : (r.foldl loP (loP c e)).1 ≤ min c.1 e.1 := h1
    have h2 : (r.foldl loP (loP c e)).2 ≤ min c.2 e.2 := h2
    refine ⟨⟨by omega, by omega⟩, fun x hx => ?_, ?_, ?_⟩
    · rcases List.mem_cons.1 hx with rfl | hx
      · exact ⟨by omega, by omega⟩
      · exact h3 x hx
    · rcases List.mem_cons.1 hd with rfl | hd
      · have h4 : (r.foldl loP (loP c e)).1 = min c.1 e.1 := h4
        by_cases hc : c.1 ≤ e.1
        · exact ⟨c, List.mem_cons_self, by rw [h4]; omega⟩
        · exact ⟨e, List.mem_cons_of_mem _ List.mem_cons_self, by rw [h4]; omega⟩
      · exact ⟨d, List.mem_cons_of_mem _ (List.mem_cons_of_mem _ hd), h4⟩
    · rcases List.mem_cons.1 hd' with rfl | hd'
      · have h5 : (r.foldl loP (loP c e)).2 = min c.2 e.2 := h5
        by_cases hc : c.2 ≤ e.2
        · exact ⟨c, List.mem_cons_self, by rw [h5]; omega⟩
        · exact ⟨e, List.mem_cons_of_mem _ List.mem_cons_self, by rw [h5]; omega⟩
      · exact ⟨d', List.mem_cons_of_mem _ (List.mem_cons_of_mem _ hd'), h5⟩
theorem hiP_is : ∀ (r : List (Int × Int)) (c : Int × Int), (c.1 ≤ (r.foldl hiP c).1 ∧ c.2 ≤ (r.foldl hiP c).2) ∧ (∀ d ∈ r, d.1 ≤ (r.foldl hiP c).1 ∧ d.2 ≤ (r.foldl hiP c).2) ∧ (∃ d ∈ c :: r, (r.foldl hiP c).1 = d.1) ∧ ∃ d ∈ c :: r, (r.foldl hiP c).2 = d.2
  | [], c => ⟨⟨Int.le_refl _, Int.le_refl _⟩, (fun d hd => by cases hd), ⟨c, List.mem_cons_self, rfl⟩, c, List.mem_cons_self, rfl⟩
  | e :: r, c => by
    obtain ⟨⟨h1, h2⟩, h3, ⟨d, hd, h4⟩, d', hd', h5⟩ := hiP_is r (hiP c e)
    simp only [List.foldl_cons]
    have h1 : max c.1 e.1 ≤ (r.foldl hiP (hiP c e)).1 := h1
    have h2 : max c.2 e.2 ≤ (r.foldl hiP (hiP c e)).2 := h2
    refine ⟨⟨by omega, by omega⟩, fun x hx => ?_, ?_, ?_⟩
    · rcases List.mem_cons.1 hx with rfl | hx
      · exact ⟨by omega, by omega⟩
      · exact h3 x hx
    · rcases List.mem_cons.1 hd with rfl | hd
      · have h4 : (r.foldl hiP (hiP c e)).1 = max c.1 e.1 := h4
        by_cases hc : e.1 ≤ c.1
        · exact ⟨c, List.mem_cons_self, by rw [h4]; omega⟩
        · exact ⟨e, List.mem_cons_of_mem _ List.mem_cons_self, by rw [h4]; omega⟩
      · exact ⟨d, List.mem_cons_of_mem _ (List.mem_cons_of_mem _ hd), h4⟩
    · rcases List.mem_cons.1 hd' with rfl | hd'
      · have h5 : (r.foldl hiP (hiP c e)).2 = max c.2 e.2 := h5
        by_cases hc : e.2 ≤ c.2
        · exact ⟨c, List.mem_cons_self, by rw [h5]; omega⟩
        · exact ⟨e, List.mem_cons_of_mem _ List.mem_cons_self, by rw [h5]; omega⟩
      · exact ⟨d', List.mem_cons_of_mem _ (List.mem_cons_of_mem _ hd'), h5⟩
/-- The least rectangle of cells in a list. -/
theorem isB_list (c : Int × Int) (r : List (Int × Int)) : IsB (fun X Y => (X, Y) ∈ c :: r) ⟨(r.foldl loP c).1, (r.foldl loP c).2, (r.foldl hiP c).1 + 1, (r.foldl hiP c).2 + 1⟩ := by
  obtain ⟨l1, l2, ⟨d1, m1, e1⟩, d2, m2, e2⟩ := loP_is r c
  obtain ⟨h1, h2, ⟨d3, m3, e3⟩, d4, m4, e4⟩ := hiP_is r c
  refine ⟨fun X Y hm => ?_, fun _ => ⟨⟨d1.2, ?_⟩, ⟨d3.2, ?_⟩, ⟨d2.1, ?_⟩, ⟨d4.1, ?_⟩⟩, fun h => absurd List.mem_cons_self (h c.1 c.2)⟩
  · rw [R4.has_iff]
    rcases List.mem_cons.1 hm with e | hm
    · have e1 : X = c.1 := congrArg Prod.fst e
      have e2 : Y = c.2 := congrArg Prod.snd e
      subst e1; subst e2
      simp only
      omega
    · have a := l2 _ hm
      have b := h2 _ hm
      simp only at a b ⊢
      omega
  · simp only [e1]; exact m1
  · simp only [Int.add_sub_cancel, e3]; exact m3
  · simp only [e2]; exact m2
  · simp only [Int.add_sub_cancel, e4]; exact m4
theorem box_nil8 {M : List Nd} (hw : Wf M) {n x : Nat} (h : Pl8 M n x []) : ctZ M x = 0 ∧ bxP M n x = zeR := by
  have h0 : ctZ M x = 0 := (ct_al hw h.sq).2 fun a b => by rw [h.al]; simp
  exact ⟨h0, by unfold bxP; rw [if_pos h0]⟩
theorem box_cons8 {M : List Nd} (hw : Wf M) {n x : Nat} {c : Int × Int} {r : List (Int × Int)} (h : Pl8 M n x (c :: r)) : ctZ M x ≠ 0 ∧ bxP M n x = ⟨(r.foldl loP c).1, (r.foldl loP c).2, (r.foldl hiP c).1 + 1, (r.foldl hiP c).2 + 1⟩ := by
  have hc : alK M n (kidZ M x) c.1 c.2 = true := by rw [h.al]; simp
  have hne : ctZ M x ≠ 0 := fun e => by
    have := (ct_al hw h.sq).1 e c.1 c.2
    rw [hc] at this; cases this
  refine ⟨hne, ?_⟩
  unfold bxP
  rw [if_neg hne]
  exact (isB_plane hw h.sq).uniq ((isB_list c r).of fun X Y => by rw [h.al]; simp) ⟨c.1, c.2, hc⟩
end Go.Proofs.YtnfjmmkokhncoaaGreat
end

section
namespace Go.Proofs.YtnfjmmkokhncoaaGreat
open Go.RowKit Go.Maps
set_option maxRecDepth 100000

set_option maxHeartbeats 8000000 in
theorem lives8_any (w : World) : Calls Tryz.prog 4 #[] w fun e w' => e = .returned (.bool true) ∧ Below w.heap.size w w' := by
  have HPN := Lib.hid (fun W => plane8_any W)
  have HRE := Lib.hid (fun W => rect8_any 0 0 3 2 (by unfold I64; omega) (by unfold I64; omega) W)
  rw [show (0 : Int) + 3 = 3 from rfl, show (0 : Int) + 2 = 2 from rfl] at HRE
  go_enter Tryz.func4, Tryz.ntmps4
  go_wp2_with fail
  refine (HPN.out _).mono ?_
  rintro e W1 ⟨sb, g, tb, cap, x, N, rfl, hS, hem, hlen, hB, l1, l2, l3⟩
  have hlp : Lp w sb g tb 131072 N W1 := ⟨⟨cap, hS⟩, hB, l1, l2, l3⟩
  have HLP := Lib.hid hlp
  have HEM := Lib.hid hem
  clear hS hem hB l1 l2 l3 hlp HPN
  have HP1 := Lib.hid (ob_new8 HLP.out #[.pointer (some ⟨sb, 0, none⟩), .int .u32 (x : Int)] 32)
  have HL1 := Lib.hid (HLP.out.later (bel1 W1 (.cells #[.pointer (some ⟨sb, 0, none⟩), .int .u32 (x : Int)] 32)))
  have HPB : Hid (w.heap.size ≤ W1.heap.size) := HLP.out.bel.size
  obtain ⟨p0, p1⟩ := pl_cells HP1.out.at_
  go_upto_region 4 with fail
  generalize W1.alloc (.cells #[.pointer (some ⟨sb, 0, none⟩), .int .u32 (x : Int)] 32) = W2 at *
  generalize W1.heap.size = pb at *
  clear HLP W1
  have hk : Lp w sb g tb 131072 N W2.drew := HL1.out.drew
  have hk2 : Lp w sb g tb 131072 N (W2.alloc (.cells #[.pointer none, .int .u32 0] 32)).drew := (HL1.out.later (bel1 _ _)).drew
  have hz0 : Ob (W2.alloc (.cells #[.pointer none, .int .u32 0] 32)).drew sb g tb W2.heap.size zeO8 := ob_drew8 (ob_new8 HL1.out _ _)
  have hp0 : Ob W2.drew sb g tb pb (plO sb x) := ob_drew8 HP1.out
  have hp2 : Ob (W2.alloc (.cells #[.pointer none, .int .u32 0] 32)).drew sb g tb pb (plO sb x) := ob_drew8 (HP1.out.later (bel1 _ _))
  have hlt2 := HP1.out.lt
  have hsz := HL1.out.bel.size
  have n1 : ¬ pb = W2.heap.size := by omega
  have n2 : ¬ W2.heap.size = pb := by omega
  have HFL : Hid (∀ W, Lp w sb g tb 131072 N W → Calls Tryz.prog 14 #[.agg #[.pointer (some ⟨sb, 0, none⟩), .int .u32 (x : Int)], .agg #[.int .i64 0, .int .i64 0, .int .i64 3, .int .i64 2], .bool true] W fun e w' => ∃ (g' n y : Nat) (N' : List Nd), e = .returned (.tuple #[.agg #[.pointer (some ⟨sb, 0, none⟩), .int .u32 (y : Int)], .nilIface]) ∧ Nx sb tb 131072 W g N 2016 w' g' N' ∧ Sq N' (n + 1) y ∧ 2 ≤ n ∧ n ≤ 61 ∧ (∀ a b, alK N' n (kidZ N' y) a b = (R4.mk 0 0 3 2).has a b)) := fun W hW => by
    obtain ⟨cap', hs⟩ := hW.st
    exact fill_law hs (n0 := 2) HEM.out (by omega) ⟨0, 0, 3, 2⟩ (by decide) (by omega)
  go_cut [2, 3] from 10 to 16 (fun v2 v3 wx => v3 = .nilIface ∧ ∃ (g' n y : Nat) (N' : List Nd), PlAt w sb g' tb 131072 N' y v2 wx ∧ Sq N' (n + 1) y ∧ 2 ≤ n ∧ n ≤ 61 ∧ (∀ a b, alK N' n (kidZ N' y) a b = (R4.mk 0 0 3 2).has a b))
  case first =>
    go_region_held3 (fun w' => w'.cell? ⟨pb, 0, none⟩ = some (.pointer (some ⟨sb, 0, none⟩)) ∧ w'.cell? ⟨pb, 1, none⟩ = some (.int .u32 (x : Int))) (go_keep)
      (first
        | (go_at_call 8; refine (HRE.out _).mono ?_; rintro e wl ⟨rfl, hb⟩; have hl : Lp w sb g tb 131072 N wl := Lp.later (by assumption) hb; have hpl : Ob wl sb g tb pb (plO sb x) := Ob.later (by assumption) hb; have k1 := pl_cells hpl.at_; have hll := hpl.lt; have hls := hl.bel.size; have m1 : ¬ pb = wl.heap.size := (by omega); have m2 : ¬ wl.heap.size = pb := (by omega); (first | (have hz1 : Ob wl sb g tb W2.heap.size zeO8 := Ob.later (by assumption) hb; have k2 := ze_cells8 hz1.at_) | skip); clear hb)
        | (go_at_call 14; refine (HFL.out _ (by first | exact hl | exact hl.later (bel1 _ _))).mono ?_; rintro e wm ⟨g9, n9, y9, M9, rfl, hnx, hfacts⟩; (first | have hm : Lp w sb g9 tb 131072 M9 wm := Lp.nx hl hnx | have hm : Lp w sb g9 tb 131072 M9 wm := Lp.nx (hl.later (bel1 _ _)) hnx); (first | have hpm : Ob wm sb g9 tb pb (plO sb x) := Ob.nx hpl hnx | have hpm : Ob wm sb g9 tb pb (plO sb x) := Ob.nx (hpl.later (bel1 _ _)) hnx); have k3 := pl_cells hpm.at_; have hmm := hpm.lt; have m3 : ¬ pb = wm.heap.size := (by omega); have m4 : ¬ wm.heap.size = pb := (by omega); (first | (have hz2 : Ob wm sb g9 tb W2.heap.size zeO8 := Ob.nx hz1 hnx; have k4 := ze_cells8 hz2.at_) | (have hz2 : Ob wm sb g9 tb wl.heap.size zeO8 := Ob.nx (ob_new8 hl _ _) hnx; have k4 := ze_cells8 hz2.at_) | skip)))
    all_goals go_wp2_with fail
    all_goals go_meet
    all_goals first | exact ⟨rfl, g9, n9, y9, M9, plAt_put hm hz2 (by omega) y9, hfacts⟩ | exact ⟨rfl, g9, n9, y9, M9, plAt_new hm y9, hfacts⟩
  case rest =>
    obtain ⟨rfl, g3, n, y, N3, ⟨qb, rfl, hqb, hlp, hpl⟩, hsq, hn2, hn61, hal⟩ := hcut
    have HL3 := Lib.hid hlp
    have HP3 := Lib.hid hpl
    have HSQ := Lib.hid hsq
    have HAL := Lib.hid hal
    have hwf : Wf N3 := by obtain ⟨_, hs⟩ := hlp.st; exact hs.wf
    obtain ⟨hbx, hct⟩ := bx_rect hwf hsq (r := ⟨0, 0, 3, 2⟩) (by decide) hal
    have hc6 : ctZ N3 y = 6 := by
      have := ct_list hwf hsq (l := [(0, 0), (1, 0), (2, 0), (0, 1), (1, 1), (2, 1)]) (by decide) (fun a b => by rw [hal]; exact six_rect a b)
      rw [this]; decide
    have hyu : y < 4294967296 := by obtain ⟨_, hs⟩ := hlp.st; exact Sq.u32 hs hsq
    clear hlp hpl hsq hal hk hk2 hz0 hp0 hp2 p0 p1 n1 n2 HFL HL1 HP1
    have HBX : Hid (∀ W, Lp w sb g3 tb 131072 N3 W → Calls Tryz.prog 15 #[.agg #[.pointer (some ⟨sb, 0, none⟩), .int .u32 (y : Int)]] W fun e w' => e = .returned (.tuple #[.agg #[.int .i64 0, .int .i64 0, .int .i64 3, .int .i64 2], .bool true]) ∧ Below W.heap.size W w') := fun W hW => by
      obtain ⟨cap', hs⟩ := hW.st
      have := box8_any hs HSQ.out hn2
      rw [hbx, hc6] at this
      exact this
    have HCT : Hid (∀ W, Lp w sb g3 tb 131072 N3 W → Calls Tryz.prog 16 #[.pointer (some ⟨sb, 0, none⟩), .int .u32 (y : Int)] W fun e w' => e = .returned (.int .u64 6) ∧ W = w') := fun W hW => by
      obtain ⟨cap', hs⟩ := hW.st
      have := count_any hs y hyu
      rw [hc6] at this
      exact this
    obtain ⟨p0, p1⟩ := pl_cells HP3.out.at_
    go_wp2_with fail
    refine (HBX.out _ HL3.out).mono ?_
    rintro e w4 ⟨rfl, hb⟩
    have HL4 := Lib.hid (HL3.out.later hb)
    have HP4 := Lib.hid (HP3.out.later hb)
    clear hb HL3 HP3 p0 p1 HBX
    have HBR := Lib.hid (bel1 w4 (.cells #[.int .i64 0, .int .i64 0, .int .i64 3, .int .i64 2] 42))
    have hr5 : (w4.alloc (.cells #[.int .i64 0, .int .i64 0, .int .i64 3, .int .i64 2] 42)).heap[w4.heap.size]? = some (rcO8 ⟨0, 0, 3, 2⟩) := heap_alloc_new w4 _
    have HL5 := Lib.hid (HL4.out.later HBR.out)
    have HP5 := Lib.hid (HP4.out.later HBR.out)
    obtain ⟨p0, p1⟩ := pl_cells HP5.out.at_
    obtain ⟨c0, c1, c2, c3⟩ := rc_cells8 hr5
    clear hr5
    go_upto_region 8 with fail
    generalize w4.alloc (.cells #[.int .i64 0, .int .i64 0, .int .i64 3, .int .i64 2] 42) = w5 at *
    generalize w4.heap.size = rb at *
    have hme := Up.me w5
    have HC9 := Lib.hid (fun z : Up w5 => Up.callsE (fun W hb => HCT.out W (HL5.out.later hb)) z)
    have HR9 := Lib.hid (fun z : Up w5 => Up.calls (fun W _ => HRE.out W) z)
    have heq := fun W => eqR8 0 0 3 2 0 0 3 2 W
    simp only [beq_self_eq_true, Bool.and_true] at heq
    have g0 := fun z : Up w5 => Up.cell p0 z
    have g1 := fun z : Up w5 => Up.cell p1 z
    have s0 := fun z : Up w5 => Up.cell c0 z
    have s1 := fun z : Up w5 => Up.cell c1 z
    have s2 := fun z : Up w5 => Up.cell c2 z
    have s3 := fun z : Up w5 => Up.cell c3 z
    refine region_up (by kernel_rfl) (by kernel_rfl) ?_
    repeat (go_big_quiet_step ((first | (go_at_call 16; with_reducible exact HC9.out _) | (go_at_call 8; with_reducible exact HR9.out _))))
    refine wpQuiet_nil ?_
    rintro w6 ⟨⟨W6, hW6⟩, rfl⟩
    go_wp2_with fail
    go_ret
    exact ⟨rfl, HL5.out.bel.trans (hW6.mono HL5.out.bel.size)⟩
end Go.Proofs.YtnfjmmkokhncoaaGreat
end
