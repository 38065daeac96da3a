/- Package rle: a writer's methods: contracts. -/
import Derived.Test.YtjndfdhjipfijaaGreatDoorWtr
import Derived.Test.YtjndfdhjipfijaaGreatDoorShelf
import Derived.Test.YtjndfdhjipfijaaGreatDoorDig0
import Derived.Test.YtjndfdhjipfijaaGreatDoorRl4
import Derived.Test.YtjndfdhjipfijaaGreatDoorGr
import Derived.Deep.RegionHeld3
namespace Go.Proofs.YtjndfdhjipfijaaGreatDoor
open Go.RowKit

/-- The table that strconv reads is as the program lays it. -/
def Tab (w : World) : Prop := Lib.TabIs Tryz.prog w "internal/strconv.uint64pow10" .u64 Lib.pow10Tab
theorem Tryz.tabAt : Tryz.prog.globalNamed "internal/strconv.uint64pow10" = some 1 := by kernel_rfl
theorem var_later {w w' : World} {name : String} {g B : Nat} (hg : Tryz.prog.globalNamed name = some g) (hl : g < B) (hb : Below B w w') : w'.var? Tryz.prog name = w.var? Tryz.prog name := by
  have h := hb.block g hl
  unfold World.var?
  rw [hg]
  simp only [Option.bind]
  rw [h]
theorem Tab.lt {w : World} (h : Tab w) : 1 < w.heap.size := by
  have := Lib.TabIs.cell h Tryz.tabAt 0 (by decide)
  exact blk_lt this
theorem Tab.later {w w' : World} {B : Nat} (h : Tab w) (hb : Below B w w') (hB : 1 < B) : Tab w' := by
  unfold Tab Lib.TabIs
  rw [var_later Tryz.tabAt hB hb]; exact h
theorem below_grown (w : World) (k : Nat) (os : Array Obj) : Below w.heap.size w (Sort.grow (w.drewN k) os) := by
  refine ⟨rfl, rfl, rfl, by simp [Sort.grow], fun i hi => ?_⟩
  simp only [Sort.grow, World.heap_drewN]
  rw [Array.getElem?_append_left hi]
theorem itoa_any (n : Nat) (w : World) (h1 : n ≤ 1000000000) (ht : Tab w) :
    Calls Tryz.prog 38 #[.int .i64 (n : Int)] w fun e w' => e = .returned (.string ⟨(Lib.decDigits n).toArray⟩) ∧ Below w.heap.size w w' := by
  refine (Tryz.strconv_Itoa n (by omega) (by omega) w ht).mono ?_
  rintro e w' ⟨rfl, k, os, rfl⟩
  exact ⟨by rw [itoa_nat], below_grown _ _ _⟩
theorem format_any (n : Nat) (w : World) (h1 : n ≤ 1000000000) (ht : Tab w) :
    Calls Tryz.prog 39 #[.int .i64 (n : Int), .int .i64 10] w fun e w' => e = .returned (.string ⟨(Lib.decDigits n).toArray⟩) ∧ Below w.heap.size w w' := by
  refine (Tryz.strconv_FormatInt_10 n (by omega) (by omega) w ht).mono ?_
  rintro e w' ⟨rfl, k, os, rfl⟩
  exact ⟨by rw [itoa_nat], below_grown _ _ _⟩

theorem ownsRow_later {B e s n : Nat} {v : Value} {xs : List Value} {w w' : World} (h : w.ownsRow B e s v n xs) (hb : Below w.heap.size w w') : w'.ownsRow B e s v n xs := by
  rcases h.2 with ⟨hv, hn⟩ | ⟨g, cap, cur, hv, hg, hgb, r⟩
  · exact ⟨h.1, Or.inl ⟨hv, hn⟩⟩
  · refine ⟨h.1, Or.inr ⟨g, cap, cur, hv, hg, ?_, r⟩⟩
    rw [hb.block g (Array.getElem?_eq_some_iff.1 hgb).1]; exact hgb
theorem WrAt.later {p : Value} {w w' : World} {B b : Nat} {bs : List UInt8} {n : Int} (h : WrAt p w B b bs n) (hb : Below w.heap.size w w') : WrAt p w' B b bs n := by
  obtain ⟨hB, v, hbk, hown, hne⟩ := h
  exact ⟨hB, v, by rw [hb.block b (Array.getElem?_eq_some_iff.1 hbk).1]; exact hbk, ownsRow_later hown hb, hne⟩
theorem Wr.later {w w' : World} {B b : Nat} {bs : List UInt8} {n : Int} (h : Wr w B b bs n) (hb : Below w.heap.size w w') : Wr w' B b bs n := h.elim (fun h => Or.inl (h.later hb)) (fun h => Or.inr (h.later hb))
theorem Wr.line {w : World} {B b : Nat} {bs : List UInt8} {n : Int} (h : Wr w B b bs n) : w.cell? ⟨b, 2, none⟩ = some (.int .i64 n) ∧ w.frozen? ⟨b, 2, none⟩ = false := by
  rcases h with ⟨_, v, hbk, _⟩ | ⟨_, v, hbk, _⟩
  · exact ⟨by rw [Lib.cell_of_heap hbk]; rfl, Lib.frozen_of_heap hbk 2⟩
  · exact ⟨by rw [Lib.cell_of_heap hbk]; rfl, Lib.frozen_of_heap hbk 2⟩
theorem Wr.setLine {w w0 : World} {B b : Nat} {bs : List UInt8} {n : Int} (h : Wr w B b bs n) (m : Int) (hb : Kp B b w0 w) : Wr (w.setCell ⟨b, 2, none⟩ (.int .i64 m)) B b bs m ∧ Kp B b w0 (w.setCell ⟨b, 2, none⟩ (.int .i64 m)) := by
  rcases h with ⟨hB, v, hbk, hown, hne⟩ | ⟨hB, v, hbk, hown, hne⟩
  · exact ⟨Or.inl (WrAt.put hB hbk hown hne rfl), hb.setCell hB 2 _⟩
  · exact ⟨Or.inr (WrAt.put hB hbk hown hne rfl), hb.setCell hB 2 _⟩

set_option maxRecDepth 100000 in
theorem endLine_any (B b : Nat) (bs : List UInt8) (n : Int) (w : World) (h : Wr w B b bs n) (hlen : bs.length + 1 ≤ 1000000000) (hBw : B ≤ w.heap.size) :
    Calls Tryz.prog 25 #[.pointer (some ⟨b, 0, none⟩)] w fun e w' => e = .returned (.tuple #[]) ∧ Wr w' B b (bs ++ [10]) 0 ∧ Kp B b w w' := by
  have HW := Lib.hid h
  clear h
  go_enter Tryz.func25, Tryz.ntmps25
  go_wp2_with fail
  refine (writeByte_any B b bs 10 n _ HW.out hlen hBw).mono ?_
  rintro e w1 ⟨rfl, h1, hb1⟩
  obtain ⟨c2, f2⟩ := h1.line
  have HR := Lib.hid (h1.setLine 0 hb1)
  clear h1 hb1
  go_wp2_with fail
  go_end0
  exact ⟨rfl, HR.out⟩

/-- What put adds, and how long the line is then. -/
def putL (n : Nat) (l : List UInt8) : List UInt8 := if 70 < n + l.length then 10 :: l else l
def putN (n : Nat) (l : List UInt8) : Nat := if 70 < n + l.length then l.length else n + l.length
set_option maxRecDepth 100000 in
theorem put_any (B b : Nat) (bs l : List UInt8) (n : Nat) (w : World) (h : Wr w B b bs n) (hn : n ≤ 1000000) (hlen : bs.length + l.length + 1 ≤ 1000000000) (hBw : B ≤ w.heap.size) :
    Calls Tryz.prog 24 #[.pointer (some ⟨b, 0, none⟩), .string ⟨l.toArray⟩] w fun e w' => e = .returned (.tuple #[]) ∧ Wr w' B b (bs ++ putL n l) (putN n l : Nat) ∧ Kp B b w w' := by
  have hls : (⟨l.toArray⟩ : ByteArray).size = l.length := by simp [ByteArray.size]
  have HWS := Lib.hid (fun bs n w h h1 h2 => writeString_any B b bs l n w h h1 h2)
  obtain ⟨c2, f2⟩ := h.line
  have HW := Lib.hid h
  clear h
  generalize (⟨l.toArray⟩ : ByteArray) = S at *
  by_cases h70 : 70 < n + l.length
  · have hg : decide ((n : Int) + (l.length : Int) > 70) = true := by simp; omega
    have hg' : decide (70 < (n : Int) + (l.length : Int)) = true := by simp; omega
    have HP : Hid (putL n l = 10 :: l) := if_pos h70
    have HN : Hid (putN n l = l.length) := if_pos h70
    go_enter Tryz.func24, Tryz.ntmps24
    go_wp2_with fail
    refine (endLine_any B b bs n _ HW.out (by omega) hBw).mono ?_
    rintro e w1 ⟨rfl, h1, hb1⟩
    have H1 := Lib.hid h1
    have HB1 := Lib.hid hb1
    clear h1 hb1 c2 f2
    go_wp2_with fail
    refine (HWS.out (bs ++ [10]) 0 _ H1.out (by simp; omega) (by have := HB1.out.1.size; omega)).mono ?_
    rintro e w2 ⟨rfl, h2, hb2⟩
    obtain ⟨d2, g2⟩ := h2.line
    have HR := Lib.hid (h2.setLine (l.length : Int) (HB1.out.trans hb2))
    clear h2 hb2
    go_wp2_with fail
    go_end0
    refine ⟨rfl, ?_⟩
    have := HR.out
    rw [List.append_assoc] at this
    rw [HP.out, HN.out]
    exact this
  · have hg : decide ((n : Int) + (l.length : Int) > 70) = false := by simp; omega
    have hg' : decide (70 < (n : Int) + (l.length : Int)) = false := by simp; omega
    have HP : Hid (putL n l = l) := if_neg h70
    have HN : Hid (putN n l = n + l.length) := if_neg h70
    go_enter Tryz.func24, Tryz.ntmps24
    go_wp2_with fail
    refine (HWS.out bs n _ HW.out (by omega) hBw).mono ?_
    rintro e w2 ⟨rfl, h2, hb2⟩
    obtain ⟨d2, g2⟩ := h2.line
    have HR := Lib.hid (h2.setLine ((n : Int) + (l.length : Int)) hb2)
    clear h2 hb2 c2 f2
    go_wp2_with fail
    go_end0
    refine ⟨rfl, ?_⟩
    rw [HP.out, HN.out]
    exact HR.out

set_option maxRecDepth 100000 in
theorem wrun_any (B b : Nat) (bs : List UInt8) (k n : Nat) (tag : UInt8) (w : World) (h : Wr w B b bs n) (ht : Tab w) (hk : 1 ≤ k) (hk2 : k ≤ 1000000000) (hn : n ≤ 1000000) (hlen : bs.length ≤ 900000000) (hBw : B ≤ w.heap.size) :
    Calls Tryz.prog 23 #[.pointer (some ⟨b, 0, none⟩), .int .i64 (k : Int), .string ⟨#[tag]⟩] w fun e w' => e = .returned (.tuple #[]) ∧ Wr w' B b (bs ++ putL n (runL k tag)) (putN n (runL k tag) : Nat) ∧ Kp B b w w' := by
  have HW := Lib.hid h
  have HT := Lib.hid ht
  clear h ht
  by_cases h1 : k = 1
  · subst h1
    have HR : Hid (runL 1 tag = [tag]) := rfl
    go_enter Tryz.func23, Tryz.ntmps23
    go_wp2_with fail
    refine (put_any B b bs [tag] n _ HW.out hn (by simp; omega) hBw).mono ?_
    rintro e w1 ⟨rfl, h1⟩
    have H1 := Lib.hid h1
    clear h1
    go_wp2_with fail
    (try simp only [Exit.inBlock, Exit.then]); refine bodyPost_ret (results_none rfl _ _ _) rfl ?_
    refine ⟨rfl, ?_⟩
    rw [HR.out]; exact H1.out
  · have hq : ((k : Int) == 1) = false := by rw [beq_eq_false_iff_ne]; omega
    have HR : Hid (runL k tag = Lib.decDigits k ++ [tag]) := by
      show runL k tag = _
      unfold runL
      rw [if_neg (by omega), if_neg h1]
    have hl := dec_len k (by omega)
    have hcat := cat_mk (Lib.decDigits k) [tag]
    go_enter Tryz.func23, Tryz.ntmps23
    go_wp2_with fail
    refine (format_any k _ hk2 HT.out).mono ?_
    rintro e w1 ⟨rfl, hb⟩
    have HB := Lib.hid hb
    clear hb
    go_wp2_with fail
    refine (put_any B b bs (Lib.decDigits k ++ [tag]) n _ (HW.out.later HB.out) hn (by simp; omega) (by have := HB.out.size; omega)).mono ?_
    rintro e w2 ⟨rfl, h1, hb1⟩
    have H1 := Lib.hid h1
    have H2 : Hid (Kp B b w w2) := (Kp.of HB.out hBw).trans hb1
    clear h1 hb1
    go_wp2_with fail
    go_end0
    refine ⟨rfl, ?_⟩
    rw [HR.out]; exact ⟨H1.out, H2.out⟩

theorem catS (a b : List UInt8) (h : a.length + b.length ≤ 1000000) (w : World) : (Op.stringOp .add ⟨a.toArray⟩ ⟨b.toArray⟩).run Tryz.prog w = .ok (.string ⟨(a ++ b).toArray⟩) w := by
  have ha : (⟨a.toArray⟩ : ByteArray).size = a.length := by simp [ByteArray.size]
  have hb : (⟨b.toArray⟩ : ByteArray).size = b.length := by simp [ByteArray.size]
  have hn : ¬ (((⟨a.toArray⟩ : ByteArray).size + (⟨b.toArray⟩ : ByteArray).size : Nat) : Int) > IntKind.i64.max := by
    have : IntKind.i64.max = 9223372036854775807 := by decide
    rw [this, ha, hb]; omega
  unfold Op.stringOp
  simp only []
  rw [if_neg hn, cat_mk]; rfl
set_option maxRecDepth 100000 in
set_option maxHeartbeats 1000000 in
theorem wheader_any (B b : Nat) (W H : Nat) (w : World) (h : Wr w B b [] 0) (ht : Tab w) (hW : W ≤ 1024) (hH : H ≤ 1024) (hBw : B ≤ w.heap.size) :
    Calls Tryz.prog 21 #[.pointer (some ⟨b, 0, none⟩), .int .i64 (W : Int), .int .i64 (H : Int)] w fun e w' => e = .returned (.tuple #[]) ∧ Wr w' B b (headL W H ++ [10]) 0 ∧ Kp B b w w' := by
  have HW := Lib.hid h
  have HT := Lib.hid ht
  clear h ht
  have hl1 := dec_len W (by omega)
  have hl2 := dec_len H (by omega)
  have HHL := Lib.hid (headL_len W H hW hH)
  have k1 := catS [120, 32, 61, 32] (Lib.decDigits W) (by simp; omega)
  have k2 := catS ([120, 32, 61, 32] ++ Lib.decDigits W) [44, 32, 121, 32, 61, 32] (by simp; omega)
  have k3 := catS ([120, 32, 61, 32] ++ Lib.decDigits W ++ [44, 32, 121, 32, 61, 32]) (Lib.decDigits H) (by simp; omega)
  have k4 := catS ([120, 32, 61, 32] ++ Lib.decDigits W ++ [44, 32, 121, 32, 61, 32] ++ Lib.decDigits H) [44, 32, 114, 117, 108, 101, 32, 61, 32, 66, 51, 47, 83, 50, 51] (by simp; omega)
  have HE : Hid ([120, 32, 61, 32] ++ Lib.decDigits W ++ [44, 32, 121, 32, 61, 32] ++ Lib.decDigits H ++ [44, 32, 114, 117, 108, 101, 32, 61, 32, 66, 51, 47, 83, 50, 51] = headL W H) := by
    show _ = _
    unfold headL
    simp only [List.append_assoc]
  rw [HE.out] at k4
  have e1 : (⟨([120, 32, 61, 32] : List UInt8).toArray⟩ : ByteArray) = ⟨#[120, 32, 61, 32]⟩ := rfl
  have e2 : (⟨([44, 32, 121, 32, 61, 32] : List UInt8).toArray⟩ : ByteArray) = ⟨#[44, 32, 121, 32, 61, 32]⟩ := rfl
  have e3 : (⟨([44, 32, 114, 117, 108, 101, 32, 61, 32, 66, 51, 47, 83, 50, 51] : List UInt8).toArray⟩ : ByteArray) = ⟨#[44, 32, 114, 117, 108, 101, 32, 61, 32, 66, 51, 47, 83, 50, 51]⟩ := rfl
  rw [e1] at k1
  rw [e2] at k2
  rw [e3] at k4
  clear e1 e2 e3
  have HPT := Lib.hid (fun w h h1 h2 => put_any B b [] (headL W H) 0 w h (by omega) h1 h2)
  have HI1 := Lib.hid (fun w h => itoa_any W w (by omega) h)
  have HI2 := Lib.hid (fun w h => itoa_any H w (by omega) h)
  generalize (⟨(headL W H).toArray⟩ : ByteArray) = S5 at *
  generalize (⟨([120, 32, 61, 32] ++ Lib.decDigits W ++ [44, 32, 121, 32, 61, 32] ++ Lib.decDigits H).toArray⟩ : ByteArray) = S4 at *
  generalize (⟨([120, 32, 61, 32] ++ Lib.decDigits W ++ [44, 32, 121, 32, 61, 32]).toArray⟩ : ByteArray) = S3 at *
  generalize (⟨([120, 32, 61, 32] ++ Lib.decDigits W).toArray⟩ : ByteArray) = S2 at *
  generalize (⟨(Lib.decDigits W).toArray⟩ : ByteArray) = SW at *
  generalize (⟨(Lib.decDigits H).toArray⟩ : ByteArray) = SH at *
  have HP : Hid (putL 0 (headL W H) = headL W H) := if_neg (by have := HHL.out; omega)
  have HN : Hid (putN 0 (headL W H) = (headL W H).length) := by
    show putN _ _ = _
    unfold putN
    rw [if_neg (by have := HHL.out; omega), Nat.zero_add]
  go_enter Tryz.func21, Tryz.ntmps21
  go_wp2_with fail
  refine (HI1.out _ HT.out).mono ?_
  rintro e w1 ⟨rfl, hb1⟩
  have H1 := Lib.hid hb1
  clear hb1
  go_wp2_with fail
  refine (HI2.out _ (HT.out.later H1.out HT.out.lt)).mono ?_
  rintro e w2 ⟨rfl, hb2⟩
  have H2 : Hid (Below w.heap.size w w2) := H1.out.trans (hb2.mono H1.out.size)
  clear hb2
  go_wp2_with fail
  refine (HPT.out _ (HW.out.later H2.out) (by simp; have := HHL.out; omega) (by have := H2.out.size; omega)).mono ?_
  rintro e w3 ⟨rfl, h3, hb3⟩
  have H3 := Lib.hid h3
  have HB3 : Hid (Kp B b w w3) := (Kp.of H2.out hBw).trans hb3
  clear h3 hb3
  go_wp2_with fail
  rw [HP.out, HN.out, List.nil_append] at H3
  refine (endLine_any B b (headL W H) _ _ H3.out (by have := HHL.out; omega) (by have := HB3.out.1.size; omega)).mono ?_
  rintro e w4 ⟨rfl, h4, hb4⟩
  have H4 := Lib.hid h4
  have HB4 : Hid (Kp B b w w4) := HB3.out.trans hb4
  clear h4 hb4
  go_wp2_with fail
  go_end0
  exact ⟨rfl, H4.out, HB4.out⟩
end Go.Proofs.YtjndfdhjipfijaaGreatDoor
