-- M25
import Derived.Test.YtaapkngpnlnjeaaGreatSp8t
import Derived.Test.YtaapkngpnlnjeaaGreatSp8n
import Derived.Test.YtaapkngpnlnjeaaGreatM16
import Derived.Test.YtaapkngpnlnjeaaGreatSp8d
import Derived.Test.YtaapkngpnlnjeaaGreatM24
import Derived.Test.YtaapkngpnlnjeaaGreatSp8p
section
namespace Go.Proofs.YtaapkngpnlnjeaaGreat
open Go.RowKit

theorem step8_any {w : World} {sb g tb cap most : Nat} {M : List Nd} (h : St w sb g tb cap most M) {n x : Nat} {l : List (Int × Int)} (hpl : Pl8 M n x l) (a : Option Addr) (cap' : Nat) (hr : Rv8 w sb g tb a l) (hl : l.length ≤ 5000) (T : List Place) (hT : Cov T (fun p q => (p, q) ∈ l)) (hroom : M.length + T.length + 3300 ≤ most) (k W H : Nat) (hk : k < 256) (hW : W < 256) (hH : H < 256) (p q : Int) (hp : -2305843009213693952 ≤ p ∧ p ≤ 2305843009213693952) (hq : -2305843009213693952 ≤ q ∧ q ≤ 2305843009213693952) (sl : Value) (over : Bool) (ca : Option Addr) (cs : List (Int × Int)) (cc : Nat) (hsl : sl = .slice ca cs.length cc) (hcs : Pts w w.heap.size ca cs) (hcl : cs.length ≤ 30) (hcf : ∀ d ∈ cs, fits d) :
    Calls Tryz.prog 9 #[.agg #[.pointer (some ⟨sb, 0, none⟩), .int .u32 (x : Int)], .slice a l.length cap', .agg #[.int .u8 (k : Int), .int .i64 p, .int .i64 q, .int .u8 (W : Int), .int .u8 (H : Int), sl, .bool over]] w fun e w' => Out8 w sb g tb most M l a T e w' := by
  by_cases h3 : k % 4 = 3
  · exact step8_trim h hpl a cap' hr hl T hT hroom k W H hk hW hH p q hp hq sl over h3
  by_cases h2 : k % 4 = 2
  · cases hat : (onP p && onP q) with
    | true => exact step8_paste h hpl a cap' hr hl T hT hroom k W H hk hW hH p q hp hq sl over ca cs cc hsl hcs hcl hcf h2 hat
    | false => exact step8_off h hpl a cap' hr hl T hT hroom k W H hk hW hH p q hp hq sl over ca cs cc hsl hcs hcl hcf h2 hat
  have h4 : k % 4 ≤ 1 := by omega
  by_cases h0 : W % 24 = 0 ∨ H % 24 = 0
  · exact step8_no h hpl a cap' hr hl T hT hroom k W H hk hW hH p q hp hq sl over h4 h0
  have h0' : W % 24 ≠ 0 ∧ H % 24 ≠ 0 := ⟨fun e => h0 (Or.inl e), fun e => h0 (Or.inr e)⟩
  cases hr4 : rightR p q (p + ((W % 24 : Nat) : Int)) (q + ((H % 24 : Nat) : Int)) with
  | true => exact step8_good h hpl a cap' hr hl T hT hroom k W H hk hW hH p q hp hq sl over h4 h0' hr4
  | false => exact step8_far h hpl a cap' hr hl T hT hroom k W H hk hW hH p q hp hq sl over h4 h0' hr4
end Go.Proofs.YtaapkngpnlnjeaaGreat
end

section
namespace Go.Proofs.YtaapkngpnlnjeaaGreat
open Go.RowKit
set_option maxRecDepth 100000

/-- An act. -/
structure A8 where
  k : Nat
  p : Int
  q : Int
  W : Nat
  H : Nat
  ca : Option Addr
  cs : List (Int × Int)
  cc : Nat
  over : Bool
/-- Acts in a row that came in, below block B. -/
def A8s (w : World) (B : Nat) (a : Option Addr) (L : List A8) : Prop := ∀ (j : Nat) c, L[j]? = some c → (c.k < 256 ∧ c.W < 256 ∧ c.H < 256) ∧ Pts w B c.ca c.cs ∧ ∃ bk off, a = some ⟨bk, off, none⟩ ∧ bk < B ∧
  w.cell? ⟨bk, off + j * 7, none⟩ = some (.int .u8 (c.k : Int)) ∧ w.cell? ⟨bk, off + j * 7 + 1, none⟩ = some (.int .i64 c.p) ∧ w.cell? ⟨bk, off + j * 7 + 2, none⟩ = some (.int .i64 c.q) ∧ w.cell? ⟨bk, off + j * 7 + 3, none⟩ = some (.int .u8 (c.W : Int)) ∧
  w.cell? ⟨bk, off + j * 7 + 4, none⟩ = some (.int .u8 (c.H : Int)) ∧ w.cell? ⟨bk, off + j * 7 + 5, none⟩ = some (.slice c.ca c.cs.length c.cc) ∧ w.cell? ⟨bk, off + j * 7 + 6, none⟩ = some (.bool c.over)
theorem A8s.later {w w' : World} {B : Nat} {a : Option Addr} {L : List A8} (h : A8s w B a L) (hb : Below B w w') : A8s w' B a L := fun j c hc => by
  obtain ⟨h0, hp, bk, off, e, hB, h1, h2, h3, h4, h5, h6, h7⟩ := h j c hc
  have hk : ∀ i, w'.cell? ⟨bk, i, none⟩ = w.cell? ⟨bk, i, none⟩ := fun i => hb.cell (p := ⟨bk, i, none⟩) hB
  exact ⟨h0, hp.later hb (Nat.le_refl _), bk, off, e, hB, by rw [hk]; exact h1, by rw [hk]; exact h2, by rw [hk]; exact h3, by rw [hk]; exact h4, by rw [hk]; exact h5, by rw [hk]; exact h6, by rw [hk]; exact h7⟩
/-- An act of a size with which the law is tried. -/
def A8.good (c : A8) : Prop := c.cs.length ≤ 30 ∧ (-2305843009213693952 ≤ c.p ∧ c.p ≤ 2305843009213693952) ∧ (-2305843009213693952 ≤ c.q ∧ c.q ≤ 2305843009213693952) ∧ ∀ d ∈ c.cs, fits d
/-- What the test tells. -/
def Ft8 (L : List A8) (e : Ending) : Prop := e = .returned (.bool false) ∨ (e = .returned (.bool true) ∧ L.length ≤ 8 ∧ ∀ c ∈ L, c.good)
theorem ft8_of {L : List A8} {b : Bool} (h : b = true → L.length ≤ 8 ∧ ∀ c ∈ L, c.good) : Ft8 L (.returned (.bool b)) := by
  cases b
  · exact Or.inl rfl
  · exact Or.inr ⟨rfl, h rfl⟩
theorem fits_of_on {d : Int × Int} (h : (onP d.1 && onP d.2) = true) : fits d := by
  unfold onP at h
  unfold fits
  simp only [Bool.and_eq_true, decide_eq_true_eq] at h
  omega
set_option maxHeartbeats 4000000 in
theorem fits8_any (L : List A8) (a : Option Addr) (cap : Nat) (w : World) (h : A8s w w.heap.size a L) (hl : L.length ≤ maxLen) :
    Calls Tryz.prog 7 #[.slice a L.length cap] w fun e w' => Ft8 L e ∧ Below w.heap.size w w' := by
  have HA := Lib.hid h
  have HL := Lib.hid hl
  clear h hl
  go_enter Tryz.func7, Tryz.ntmps7
  go_wp2_with fail
  go_loopg [9] L.length (fun m i wr => ∃ j : Nat, m = L.length - j ∧ j ≤ L.length ∧ i = .int .i64 (j : Int) ∧ (∀ c ∈ L.take j, c.good) ∧ Below w.heap.size w wr)
  case atStart => exact ⟨0, rfl, Nat.zero_le _, rfl, fun c hc => by simp at hc, Below.refl _ _⟩
  case round =>
    obtain ⟨j, hm, hj, rfl, hgood, hb⟩ := hrel
    have HM := Lib.hid hm
    have HG := Lib.hid hgood
    have HB := Lib.hid hb
    clear hm hgood hb
    by_cases hlt : j < L.length
    · obtain ⟨⟨ck, cp, cq, cW, cH, cca, ccs, ccc, cov⟩, hc⟩ : ∃ c, L[j]? = some c := ⟨L[j], List.getElem?_eq_getElem hlt⟩
      obtain ⟨hk, hpt, bk, off, rfl, hbk, c0, c1, c2, c3, c4, c5, c6⟩ := HA.out.later HB.out j _ hc
      have HPT := Lib.hid (HA.out j _ hc).2.1
      have HTK : Hid (L.take (j + 1) = L.take j ++ [⟨ck, cp, cq, cW, cH, cca, ccs, ccc, cov⟩]) := by show _ = _; rw [List.take_add_one, hc]; rfl
      clear hc hk
      have hl := HL.out
      unfold maxLen at hl
      simp only at c0 c1 c2 c3 c4 c5 c6
      clear hpt
      have hgj : decide ((j : Int) < (L.length : Int)) = true := by simp; omega
      have i1 : (0 : Int) ≤ (j : Int) := by omega
      have i2 : (j : Int) < (L.length : Int) := by omega
      go_upto_region 4 with fail
      have hob : (wr.alloc (.cells #[.int .u8 (ck : Int), .int .i64 cp, .int .i64 cq, .int .u8 (cW : Int), .int .u8 (cH : Int), .slice cca ccs.length ccc, .bool cov] 37)).heap[wr.heap.size]? = some (acO8 ck cp cq cW cH (.slice cca ccs.length ccc) cov) := heap_alloc_new wr _
      have HB1 := Lib.hid (HB.out.trans ((bel1 wr (.cells #[.int .u8 (ck : Int), .int .i64 cp, .int .i64 cq, .int .u8 (cW : Int), .int .u8 (cH : Int), .slice cca ccs.length ccc, .bool cov] 37)).mono HB.out.size))
      obtain ⟨q0, q1, q2, q3, q4, q5, q6⟩ := ac_cells8 hob
      have HOB := Lib.hid hob
      clear c0 c1 c2 c3 c4 c5 c6 hob hbk i1 i2
      generalize wr.alloc (.cells #[.int .u8 (ck : Int), .int .i64 cp, .int .i64 cq, .int .u8 (cW : Int), .int .u8 (cH : Int), .slice cca ccs.length ccc, .bool cov] 37) = w1 at *
      generalize wr.heap.size = bo at *
      by_cases t1 : 30 < ccs.length
      · have g1 : decide ((30 : Int) < (ccs.length : Int)) = true := decide_eq_true (by omega)
        go_wp2_with fail
        go_ret
        exact ⟨Or.inl rfl, HB1.out⟩
      have g1 : decide ((30 : Int) < (ccs.length : Int)) = false := decide_eq_false (by omega)
      by_cases t2 : 2305843009213693952 < cp
      · have g2 : decide (2305843009213693952 < cp) = true := decide_eq_true (by omega)
        go_wp2_with fail
        go_ret
        exact ⟨Or.inl rfl, HB1.out⟩
      have g2 : decide (2305843009213693952 < cp) = false := decide_eq_false (by omega)
      by_cases t3 : 2305843009213693952 < cq
      · have g3 : decide (2305843009213693952 < cq) = true := decide_eq_true (by omega)
        go_wp2_with fail
        go_ret
        exact ⟨Or.inl rfl, HB1.out⟩
      have g3 : decide (2305843009213693952 < cq) = false := decide_eq_false (by omega)
      by_cases t4 : cp < -2305843009213693952
      · have g4 : decide (cp < -2305843009213693952) = true := decide_eq_true (by omega)
        go_wp2_with fail
        go_ret
        exact ⟨Or.inl rfl, HB1.out⟩
      have g4 : decide (cp < -2305843009213693952) = false := decide_eq_false (by omega)
      by_cases t5 : cq < -2305843009213693952
      · have g5 : decide (cq < -2305843009213693952) = true := decide_eq_true (by omega)
        go_wp2_with fail
        go_ret
        exact ⟨Or.inl rfl, HB1.out⟩
      have g5 : decide (cq < -2305843009213693952) = false := decide_eq_false (by omega)
      go_wp2_with fail
      go_loopg [44] ccs.length (fun m i wx => ∃ d : Nat, m = ccs.length - d ∧ d ≤ ccs.length ∧ i = .int .i64 (d : Int) ∧ (∀ e ∈ ccs.take d, fits e) ∧ Below w.heap.size w wx)
      case atStart => exact ⟨0, rfl, Nat.zero_le _, rfl, fun e he => by simp at he, HB1.out⟩
      case round =>
        obtain ⟨d, hm2, hd, rfl, hf, hbx⟩ := hrel
        have HM2 := Lib.hid hm2
        have HF := Lib.hid hf
        have HBX := Lib.hid hbx
        clear hm2 hf hbx
        by_cases hlt2 : d < ccs.length
        · obtain ⟨e, he⟩ : ∃ e, ccs[d]? = some e := ⟨ccs[d], List.getElem?_eq_getElem hlt2⟩
          obtain ⟨bk2, off2, hca, hbk2, e0, e1⟩ := (HPT.out.later HBX.out (Nat.le_refl _)) d e he
          have HTE : Hid (ccs.take (d + 1) = ccs.take d ++ [e]) := by show _ = _; rw [List.take_add_one, he]; rfl
          subst hca
          clear he
          have hgd : decide ((d : Int) < (ccs.length : Int)) = true := decide_eq_true (by omega)
          have i1 : (0 : Int) ≤ (d : Int) := by omega
          have i2 : (d : Int) < (ccs.length : Int) := by omega
          go_wp2_with fail
          refine (pright_any e.1 e.2 _).mono ?_
          rintro ev w2 ⟨rfl, hb2⟩
          have HB2 := Lib.hid (HBX.out.trans (((bel1 wr (.cells #[.int .i64 e.1, .int .i64 e.2] 34)).trans (hb2.mono (bel1 _ _).size)).mono HBX.out.size))
          clear hb2 e0 e1
          cases hon : (onP e.1 && onP e.2) with
          | false =>
            go_wp2_with fail
            go_ret
            exact ⟨Or.inl rfl, HB2.out⟩
          | true =>
            have HON := Lib.hid hon
            clear hon
            go_wp2_with fail
            go_roundg (ccs.length - (d + 1))
            case measure => rw [HM2.out]; omega
            case rel =>
              refine ⟨d + 1, rfl, hlt2, by go_num, ?_, HB2.out⟩
              rw [HTE.out]
              intro y hy
              rcases List.mem_append.1 hy with hy | hy
              · exact HF.out y hy
              · rw [List.mem_singleton] at hy
                subst hy
                exact fits_of_on HON.out
        · obtain rfl : d = ccs.length := by omega
          have hgd : decide ((ccs.length : Int) < (ccs.length : Int)) = false := by simp
          have HE := HF.out
          rw [List.take_length] at HE
          have HE2 := Lib.hid HE
          clear HE
          go_wp2_with fail
          go_roundg (L.length - (j + 1))
          case measure => rw [HM.out]; omega
          case rel =>
            refine ⟨j + 1, rfl, hlt, by go_num, ?_, HBX.out⟩
            rw [HTK.out]
            intro x hx
            rcases List.mem_append.1 hx with hx | hx
            · exact HG.out x hx
            · rw [List.mem_singleton] at hx
              subst hx
              exact ⟨(by omega : ccs.length ≤ 30), (by omega : -2305843009213693952 ≤ cp ∧ cp ≤ 2305843009213693952), (by omega : -2305843009213693952 ≤ cq ∧ cq ≤ 2305843009213693952), HE2.out⟩
    · obtain rfl : j = L.length := by omega
      have hgj : decide ((L.length : Int) < (L.length : Int)) = false := by simp
      have HE := HG.out
      rw [List.take_length] at HE
      have HE2 := Lib.hid HE
      clear HE
      go_wp2_with fail
      go_ret
      exact ⟨ft8_of fun hb => ⟨by have := of_decide_eq_true hb; omega, HE2.out⟩, HB.out⟩
end Go.Proofs.YtaapkngpnlnjeaaGreat
end
