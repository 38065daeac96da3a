/- The law PrefixReads: its walk. -/
import Derived.Test.YtbliddmkmieppaaDoorEvs
import Derived.Test.YtbliddmkmieppaaDoorApd
import Derived.Deep.DeepCutAuto
import Derived.Deep.CutBlock
import Derived.Deep.RegionHeld3
namespace Go.Proofs.YtbliddmkmieppaaDoor
open Go.RowKit Go.Extern.Stop Go.Stop Go.Extern

/-- A reader whose bytes lie from block B on. -/
def RdrB (w : World) (B rb : Nat) (bs : List Int) (pos : Nat) (wr : Int) : Prop :=
  ∃ v, w.heap[rb]? = some (.cells #[v, .int .i64 (pos : Int), .int .i64 wr] 47 (0, 0)) ∧ Own w B v bs ∧ (∀ k, v.ownBlock = some k → k < rb) ∧ pos ≤ bs.length ∧ bs.length ≤ 1000000000
theorem RdrB.rdr {w : World} {B rb : Nat} {bs : List Int} {pos : Nat} {wr : Int} (h : RdrB w B rb bs pos wr) : Rdr w rb bs pos wr := ⟨B, h⟩
theorem RdrB.keep {w w' : World} {B rb : Nat} {bs : List Int} {pos : Nat} {wr : Int} (h : RdrB w B rb bs pos wr) (hB : B ≤ rb) (hb : ∀ k, B ≤ k → k ≤ rb → w'.heap[k]? = w.heap[k]?) : RdrB w' B rb bs pos wr := by
  obtain ⟨v, h1, h2, h3, h4⟩ := h
  exact ⟨v, by rw [hb rb hB (Nat.le_refl _)]; exact h1, own_same h2 (fun k hk => hb k (h2.lt k hk).1 (Nat.le_of_lt (h3 k hk))), h3, h4⟩
theorem read_more (B : Nat) (a : Option Addr) (c : Nat) (bs : List Int) (w : World) (hl : bs.length ≤ 1000000000) (hr : Row .u8 w B a bs) :
    Calls Tryd.prog 5 #[.slice a bs.length c] w fun e w' => ∃ rb, e = .returned (.pointer (some ⟨rb, 0, none⟩)) ∧ w.heap.size ≤ rb ∧ RdrB w' w.heap.size rb bs 0 0 ∧ Below w.heap.size w w' ∧ w'.heap.size = rb + 1 := by
  have HC := Lib.hid (clone_any B a c bs w hl hr)
  clear hr
  go_enter Tryd.func5, Tryd.ntmps5
  go_wp2_with fail
  refine HC.out.mono ?_
  rintro e w1 ⟨v1, rfl, ho, hb⟩
  have HO := Lib.hid ho
  have HB := Lib.hid hb
  obtain ⟨a1, c1, rfl, _⟩ := ho.row
  clear ho hb
  go_wp2
  go_ret
  refine ⟨w1.heap.size, rfl, HB.out.size, ?_, HB.out.alloc HB.out.size _, by simp⟩
  exact ⟨_, heap_alloc_new w1 _, World.ownsRow.alloc HO.out _, fun k hk => (HO.out.lt k hk).2, by omega, hl⟩

/-- Both readers, at one place. -/
def Both (w wr : World) (rb mb : Nat) (bs : List Int) : Prop :=
  ∃ (pos : Nat) (er : Int) (f : Nat), Rdr wr rb bs pos er ∧ RRd wr (rb + 1) mb bs pos er f ∧ (er ≠ 0 → f = pos) ∧ Below w.heap.size w wr
/-- A row's own block alone has turned. -/
structure OnlyV (v : Value) (w w' : World) : Prop where
  os : w'.os = w.os
  tape : w'.tape = w.tape
  output : w'.output = w.output
  size : w'.heap.size = w.heap.size
  block : ∀ k, v.ownBlock ≠ some k → w'.heap[k]? = w.heap[k]?
theorem OnlyV.refl (v : Value) (w : World) : OnlyV v w w := ⟨rfl, rfl, rfl, rfl, fun _ _ => rfl⟩

set_option maxRecDepth 100000 in
set_option maxHeartbeats 1000000 in
theorem preads_great (a0 a1 : Option Addr) (n0 n1 c0 c1 : Nat) (w : World) (h0 : n0 ≤ 9223372036854775807) (h1 : n1 ≤ 9223372036854775807) (h : 2000 < n0 ∨ 60 < n1) :
    Calls Tryd.prog 3 #[.slice a0 n0 c0, .slice a1 n1 c1] w fun e w' => e = .returned (.bool true) ∧ Below w.heap.size w w' := by
  by_cases hg : 2000 < n0
  · go_enter Tryd.func3, Tryd.ntmps3
    go_wp2_with fail
    refine (lives2_any w).mono ?_
    rintro e w1 ⟨rfl, hb⟩
    have HB := Lib.hid hb
    clear hb
    go_wp2_with fail
    refine (lives2_any w1).mono ?_
    rintro e w2 ⟨rfl, hb⟩
    have HB2 := Lib.hid hb
    clear hb
    go_wp2
    go_ret
    exact ⟨rfl, HB.out.trans (HB2.out.mono HB.out.size)⟩
  · have hs : (60 : Int) < (n1 : Int) := by omega
    have hd : decide ((2000 : Int) < (n0 : Int)) = false := decide_eq_false (by omega)
    go_enter Tryd.func3, Tryd.ntmps3
    go_wp2_with fail
    refine (lives2_any w).mono ?_
    rintro e w1 ⟨rfl, hb⟩
    have HB := Lib.hid hb
    clear hb
    go_wp2_with fail
    refine (lives2_any w1).mono ?_
    rintro e w2 ⟨rfl, hb⟩
    have HB2 := Lib.hid hb
    clear hb
    go_wp2
    go_ret
    exact ⟨rfl, HB.out.trans (HB2.out.mono HB.out.size)⟩

theorem own_empty (w : World) (B : Nat) (hB : B ≤ w.heap.size) : (w.alloc (.cells #[] 5)).ownsRow B 5 1 (.slice (some ⟨w.heap.size, 0, none⟩) 0 0) 0 [] :=
  World.ownsRow_made w #[] 0 hB (Nat.zero_le _) rfl

/-- What is known behind the document's Bytes. -/
theorem after_bytes {w w6 w7 : World} {rb mb B0 : Nat} {bs ys : List Int} {p6 : Nat} {e6 : Int} {a6 a7 : Option Addr} {c6 c7 : Nat} (hb : Below w.heap.size w w6) (hrd : Rdr w6 rb bs p6 e6) (ho : Own w6 B0 (.slice a6 ys.length c6) ys) (hr : Row .u8 w7 w7.heap.size a7 ys)
    (hf : ∃ f', RRd w7 (rb + 1) mb bs p6 e6 f' ∧ (e6 ≠ 0 → f' = p6)) (h3 : Only mb w6.drew w7) (hrb : w.heap.size ≤ rb) (hmb : rb < mb) (hB : mb < B0) :
    (convert 22 9 (.slice a6 ys.length c6)).run Tryd.prog w7 = .ok (.string (strOfNums ys)) w7 ∧ (convert 22 9 (.slice a7 ys.length c7)).run Tryd.prog w7 = .ok (.string (strOfNums ys)) w7 ∧ Hid (Both w w7 rb mb bs) ∧ Hid (Own w7 B0 (.slice a6 ys.length c6) ys) := by
  have h3' : Only mb w6 w7 := ⟨h3.os, h3.tape, h3.output, h3.size, h3.block⟩
  have ho7 : Own w7 B0 (.slice a6 ys.length c6) ys := own_same ho (fun k hk => h3'.block k (by have := (ho.lt k hk).1; omega))
  obtain ⟨a, c, e, _, _, hr7⟩ := ho7.row
  obtain ⟨rfl, rfl⟩ : a6 = a ∧ c6 = c := by injection e with e1 e2 e3; exact ⟨e1, e3⟩
  obtain ⟨f', g1, g2⟩ := hf
  exact ⟨str_row hr7 _, str_row hr _, ⟨_, _, f', hrd.keep (h3'.below hmb), g1, g2, hb.trans (h3'.below (by omega))⟩, ho7⟩
theorem both_onlyV {w wc wx : World} {rb mb B0 : Nat} {bs zs : List Int} {v : Value} (hbo : Both w wc rb mb bs) (hon : OnlyV v wc wx) (hv : Own wx B0 v zs) (hrb : w.heap.size ≤ rb) (hmb : rb < mb) (hB : mb < B0) : Both w wx rb mb bs := by
  obtain ⟨pos, er, f, h1, h2, h3, h4⟩ := hbo
  have hb : ∀ k, k ≤ mb → wx.heap[k]? = wc.heap[k]? := fun k hk => hon.block k (fun e => by have := (hv.lt k e).1; omega)
  have hbe : Below (mb + 1) wc wx := ⟨hon.os, hon.tape, hon.output, Nat.le_of_eq hon.size.symm, fun k hk => hb k (by omega)⟩
  exact ⟨pos, er, f, h1.keep (hbe.mono (by omega)), h2.keep (fun k _ hk => hb k hk), h3, h4.trans (hbe.mono (by omega))⟩
theorem kval (x : Int) (h0 : 0 ≤ x) (h1 : x ≤ 65535) : -2 ≤ wrap64 ((wrap64 (IntKind.u16.wrap (x.tdiv 4))).tmod 80 - 2) ∧ wrap64 ((wrap64 (IntKind.u16.wrap (x.tdiv 4))).tmod 80 - 2) ≤ 77 := by
  rw [Int.tdiv_eq_ediv_of_nonneg h0, IntKind.wrap_u16, show x / 4 % 65536 = x / 4 by omega]
  have e : wrap64 (x / 4) = x / 4 := by unfold wrap64; omega
  rw [e, Int.tmod_eq_emod_of_nonneg (by omega)]
  unfold wrap64
  omega
theorem own_split {w : World} {B : Nat} {v : Value} {bs : List Int} (h : w.ownsRow B 5 1 v (0 + bs.length) ([] ++ bs.map (Value.int .u8))) : ∃ a c, v = .slice a bs.length c ∧ Hid (Own w B (.slice a bs.length c) bs) := by
  rw [Nat.zero_add, List.nil_append] at h
  have h' : Own w B v bs := h
  obtain ⟨a, c, rfl, _⟩ := h'.row
  exact ⟨a, c, rfl, h'⟩

/-- What holds once both readers are made. -/
theorem started_ {w w2 w3 w4 : World} {rb : Nat} {bs : List Int} {a5 a8 : Option Addr} {c5 c8 : Nat} (hw2 : Below w.heap.size w w2) (hrd : RdrB w3 w2.heap.size rb bs 0 0) (hw3 : Below w2.heap.size w2 w3) (hsz : w3.heap.size = rb + 1) (hw4 : Below w3.heap.size w3 w4)
    (ho8 : Own w4 (rb + 1) (.slice a8 bs.length c8) bs) (ho5 : Own w2 w.heap.size (.slice a5 bs.length c5) bs) (hge : w2.heap.size ≤ rb) :
    Hid (RdrB (w4.alloc (.cells #[.slice a8 bs.length c8, .int .i64 0, .int .i64 0, .int .i64 0] 29)) w2.heap.size rb bs 0 0) ∧
    Hid (RRd (w4.alloc (.cells #[.slice a8 bs.length c8, .int .i64 0, .int .i64 0, .int .i64 0] 29)) (rb + 1) w4.heap.size bs 0 0 0) ∧
    Hid (Own (w4.alloc (.cells #[.slice a8 bs.length c8, .int .i64 0, .int .i64 0, .int .i64 0] 29)) w.heap.size (.slice a5 bs.length c5) bs ∧ ∀ k, (Value.slice a5 bs.length c5).ownBlock = some k → k < w2.heap.size) ∧
    Hid (Below w.heap.size w (w4.alloc (.cells #[.slice a8 bs.length c8, .int .i64 0, .int .i64 0, .int .i64 0] 29))) := by
  have hs4 := hw4.size
  have hl : bs.length ≤ 1000000000 := by obtain ⟨_, _, _, _, _, h⟩ := hrd; exact h
  have hb : ∀ k, k < rb + 1 → (w4.alloc (.cells #[.slice a8 bs.length c8, .int .i64 0, .int .i64 0, .int .i64 0] 29)).heap[k]? = w3.heap[k]? := fun k hk => by
    rw [Below.heap_alloc _ _ _ (by omega)]; exact hw4.block k (by omega)
  refine ⟨hrd.keep hge (fun k _ hk => hb k (by omega)), ?_, ⟨?_, fun k hk => (ho5.lt k hk).2⟩, ?_⟩
  · exact ⟨_, heap_alloc_new w4 _, World.ownsRow.alloc ho8 _, fun k hk => (ho8.lt k hk).2, by omega, by omega, hl⟩
  · exact own_same ho5 (fun k hk => by
      have := (ho5.lt k hk).2
      rw [hb k (by omega)]; exact hw3.block k this)
  · exact ((hw2.trans (hw3.mono hw2.size)).trans (hw4.mono (Nat.le_trans hw2.size hw3.size))).alloc (Nat.le_trans (Nat.le_trans hw2.size hw3.size) hw4.size) _
/-- What holds once the law's own row is turned. -/
theorem owned_ {w w2 W5 wx : World} {rb mb : Nat} {bs zs : List Int} {v5 : Value} (hrb : RdrB W5 w2.heap.size rb bs 0 0) (hrr : RRd W5 (rb + 1) mb bs 0 0 0) (hb : Below w.heap.size w W5) (hon : OnlyV v5 W5 wx) (hv : Own wx w.heap.size v5 zs) (hk : ∀ k, v5.ownBlock = some k → k < w2.heap.size) (hge : w2.heap.size ≤ rb) :
    Hid (Below w.heap.size w wx) ∧ Hid (Both w wx rb mb bs) := by
  have hne : ∀ k, w2.heap.size ≤ k → v5.ownBlock ≠ some k := fun k h1 h2 => by have := hk k h2; omega
  have hb2 : Below w.heap.size w wx := hb.trans ⟨hon.os, hon.tape, hon.output, Nat.le_of_eq hon.size.symm, fun k h => hon.block k (fun e => by have := (hv.lt k e).1; omega)⟩
  exact ⟨hb2, 0, 0, 0, (hrb.keep hge (fun k h1 _ => hon.block k (hne k h1))).rdr, hrr.keep (fun k h1 _ => hon.block k (hne k (by omega))), fun h => absurd rfl h, hb2⟩

set_option maxRecDepth 100000 in
set_option maxHeartbeats 4000000 in
theorem preads_small (a0 a1 : Option Addr) (c0 c1 : Nat) (bs l : List Int) (w : World) (hty : TypeLaid w) (h0 : bs.length ≤ 2000) (h1 : l.length ≤ 60)
    (r0 : Row .u8 w w.heap.size a0 bs) (r1 : Row .u16 w w.heap.size a1 l) (hn : a0 = none → c0 = 0)
    (z0 : ∀ z ∈ bs, 0 ≤ z ∧ z ≤ 255) (z1 : ∀ z ∈ l, 0 ≤ z ∧ z ≤ 65535) :
    Calls Tryd.prog 3 #[.slice a0 bs.length c0, .slice a1 l.length c1] w fun e w' => e = .returned (.bool true) ∧ Below w.heap.size w w' := by
  obtain ⟨i0, hi, hz0, hz1, hz2⟩ := info_parts Tryd.infoU8
  have HI := Lib.hid hi
  have HZ0 := Lib.hid hz0
  have HZ1 := Lib.hid hz1
  have HZ2 := Lib.hid hz2
  clear hi hz0 hz1 hz2
  have hd : decide ((2000 : Int) < (bs.length : Int)) = false := decide_eq_false (by omega)
  have hd2 : decide ((60 : Int) < (l.length : Int)) = false := decide_eq_false (by omega)
  have R0 := Lib.hid r0
  have R1 := Lib.hid r1
  have Z0 := Lib.hid z0
  have Z1 := Lib.hid z1
  have HN := Lib.hid hn
  have HY := Lib.hid hty
  clear r0 r1 z0 z1 hn hty
  go_enter Tryd.func3, Tryd.ntmps3
  go_wp2_with fail
  refine (lives2_any w).mono ?_
  rintro e w1 ⟨rfl, hb⟩
  have HW1 := Lib.hid hb
  have hs1 := hb.size
  clear hb
  have HRA : Hid (Row .u8 (w1.alloc (.cells #[] 5)) w.heap.size a0 bs) := (R0.out.later HW1.out (Nat.le_refl _)).later (below_alloc1 w1 _) hs1
  have HOE := Lib.hid (own_empty w1 w.heap.size hs1)
  go_wp2_with (at_builtin; refine wpList_append_row rfl _ _ 22 rfl w.heap.size 5 i0 (.int .u8 0) 1 Tryd.underlying22 HI.out HZ0.out HZ1.out HZ2.out rfl _ _ _ rfl HOE.out a0 bs.length c0 .u8 w.heap.size bs rfl rfl HN.out HRA.out ?_ ?_ ?_ ?_; (unfold maxLen; omega); (omega); (simp; omega); intro v5 w2 hown2 hgrow; have HG : Hid ((w1.alloc (.cells #[] 5)).grownBy w2 (some w1.heap.size)) := hgrow; have HO2 := Lib.hid hown2; clear hgrow hown2)
  have hO5 : Own w2 w.heap.size v5 bs := by
    have := HO2.out
    rw [Nat.zero_add, List.nil_append] at this
    exact this
  have HW2 : Hid (Below w.heap.size w w2) := (HW1.out.alloc hs1 _).grown HG.out (by simp; omega) (fun k hk => by have := Option.some.inj hk; omega)
  obtain ⟨a5, c5, rfl, _, _, hr5⟩ := hO5.row
  have HO5 := Lib.hid hO5
  have HR5 := Lib.hid hr5
  clear hO5 hr5 HO2 HG HOE HRA
  refine (read_more w2.heap.size a5 c5 bs w2 (by omega) HR5.out).mono ?_
  rintro e w3 ⟨rb, rfl, hge, hrd, hb, hsz⟩
  have HRD := Lib.hid hrd
  have HW3 := Lib.hid hb
  have HSZ := Lib.hid hsz
  have HB3 := Lib.hid (HW2.out.trans (hb.mono HW2.out.size))
  have hs3 := HB3.out.size
  have hrb : w.heap.size ≤ rb := by have := HW2.out.size; omega
  clear hrd hb hsz
  have HRA : Hid (Row .u8 (w3.alloc (.cells #[] 5)) w.heap.size a0 bs) := (R0.out.later HB3.out (Nat.le_refl _)).later (below_alloc1 w3 _) hs3
  have HOE := Lib.hid (own_empty w3 (rb + 1) (Nat.le_of_eq HSZ.out.symm))
  go_wp2_with (at_builtin; refine wpList_append_row rfl _ _ 22 rfl (rb + 1) 5 i0 (.int .u8 0) 1 Tryd.underlying22 HI.out HZ0.out HZ1.out HZ2.out rfl _ _ _ rfl HOE.out a0 bs.length c0 .u8 w.heap.size bs rfl rfl HN.out HRA.out ?_ ?_ ?_ ?_; (unfold maxLen; omega); (omega); (have := HSZ.out; simp; omega); intro v8 w4 hown4 hgrow; have HG : Hid ((w3.alloc (.cells #[] 5)).grownBy w4 (some w3.heap.size)) := hgrow; obtain ⟨a8, c8, hv8, HO8⟩ := own_split hown4; subst hv8; clear hgrow hown4)
  have hg4 := HG.out.size
  have HB4 : Hid (Below w3.heap.size w3 w4) := (below_alloc1 w3 _).grown HG.out (by simp) (fun k hk => by have := Option.some.inj hk; omega)
  obtain ⟨HRB, HRR, HV5, HB5⟩ := started_ HW2.out HRD.out HW3.out HSZ.out HB4.out HO8.out HO5.out hge
  have hmb : rb < w4.heap.size := by have := HB4.out.size; have := HSZ.out; omega
  clear HRD HW3 HB4 HG HO8 HO5 HOE HRA HB3 HSZ hs3 hg4
  generalize w4.alloc (.cells #[.slice a8 bs.length c8, .int .i64 0, .int .i64 0, .int .i64 0] 29) = W5 at *
  generalize w4.heap.size = mb at *
  go_loopg [43] bs.length (fun m i wx => ∃ (j : Nat) (zs : List Int), m = bs.length - j ∧ j ≤ bs.length ∧ i = .int .i64 (j : Int) ∧ zs.length = bs.length ∧ Own wx w.heap.size (.slice a5 bs.length c5) zs ∧ OnlyV (.slice a5 bs.length c5) W5 wx)
  case atStart => exact ⟨0, bs, by omega, by omega, rfl, rfl, HV5.out.1, OnlyV.refl _ _⟩
  case round =>
    obtain ⟨j, zs, hm, hj, rfl, hzl, hown, hon⟩ := hrel
    have HM := Lib.hid hm
    have HOW := Lib.hid hown
    have HON := Lib.hid hon
    have HZL := Lib.hid hzl
    clear hm hown hon hzl
    by_cases hlt : j < bs.length
    · obtain ⟨g, hg⟩ : ∃ g, a5 = some ⟨g, 0, none⟩ := by
        rcases HOW.out.2 with ⟨_, h⟩ | ⟨g, cap, cur, h, _⟩
        · rw [HZL.out] at h; omega
        · exact ⟨g, by injection h⟩
      subst hg
      have hO := HOW.out
      unfold Own at hO
      rw [HZL.out] at hO
      have hc := hO.cellAt j (by omega)
      rw [List.getElem?_map, List.getElem?_eq_getElem (show j < zs.length by rw [HZL.out]; exact hlt)] at hc
      simp only [Option.map_some] at hc
      have hf := hO.frozenAt j
      have HST := Lib.hid (fun u => (hO.stored j u).1)
      generalize zs[j]'(by rw [HZL.out]; exact hlt) = z at *
      have hlt' : (j : Int) < (bs.length : Int) := by omega
      clear hO
      go_wp2
      go_roundg (bs.length - (j + 1))
      case measure => rw [HM.out]; omega
      case rel =>
        refine ⟨j + 1, zs.set j (bits .xor .u8 z 255), rfl, by omega, by go_num, by rw [List.length_set]; exact HZL.out, ?_, ?_⟩
        · unfold Own
          rw [List.length_set, HZL.out, List.map_set]
          exact HST.out _
        · exact ⟨HON.out.os, HON.out.tape, HON.out.output, by have := HON.out.size; simp [World.setCell]; exact this, fun k hk => by
            rw [Below.heap_setCell _ _ _ k (by intro h; exact hk (by rw [h]; rfl))]; exact HON.out.block k hk⟩
    · obtain ⟨HB6, HI6⟩ := owned_ HRB.out HRR.out HB5.out HON.out HOW.out HV5.out.2 hge
      clear HM HOW HON HZL HRB HRR HV5 HB5
      go_wp2
      go_loopg [55] l.length (fun m i wx => ∃ j : Nat, m = l.length - j ∧ j ≤ l.length ∧ i = .int .i64 (j : Int) ∧ Both w wx rb mb bs)
      case atStart => exact ⟨0, by omega, by omega, rfl, HI6.out⟩
      case round =>
        obtain ⟨i, hm, hi, rfl, hboth⟩ := hrel
        have HM := Lib.hid hm
        have HBO := Lib.hid hboth
        clear hm hboth HI6 HB6
        by_cases hlt2 : i < l.length
        · obtain ⟨x, hxj⟩ : ∃ x, l[i]? = some x := ⟨l[i], List.getElem?_eq_getElem hlt2⟩
          obtain ⟨x0, x1⟩ := Z1.out x (List.mem_of_getElem? hxj)
          obtain ⟨pos, er, f, hrd, hrr, hf, hbel⟩ := HBO.out
          obtain ⟨bk, off, rfl, _, hc⟩ := (R1.out.later hbel (Nat.le_refl _)) i x hxj
          have HRD := Lib.hid hrd
          have HRR := Lib.hid hrr
          have HF := Lib.hid hf
          have HB := Lib.hid hbel
          clear hxj hrd hrr hf hbel HBO
          have hlt2' : (i : Int) < (l.length : Int) := by omega
          go_upto_block 4 with fail
          obtain ⟨k0, k1⟩ := kval x x0 x1
          generalize wrap64 ((wrap64 (IntKind.u16.wrap (x.tdiv 4))).tmod 80 - 2) = K at *
          go_cut [11] (fun ok wx => ok = .bool true ∧ Both w wx rb mb bs)
          case first =>
            by_cases q0 : x % 4 = 0
            · have q0b : (x % 4 == 0) = true := by rw [q0]; rfl
              clear q0
              go_wp2_with fail
              refine (uintE_any _ HRD.out Z0.out).mono ?_
              rintro e w6 ⟨rfl, h1, h2⟩
              have HRD6 := Lib.hid h1
              have HRR6 := Lib.hid (HRR.out.keep (w' := w6) (fun k hk _ => h2.block k (by omega)))
              have HB6 := Lib.hid (HB.out.trans (h2.below hrb))
              clear h1 h2
              go_wp2_with fail
              refine (ruintE_any _ HRR6.out HF.out Z0.out).mono ?_
              rintro e w7 ⟨rfl, ⟨f', h1, h2⟩, h3⟩
              have HI7 : Hid (Both w w7 rb mb bs) := ⟨_, _, f', HRD6.out.keep (h3.below hmb), h1, h2, HB6.out.trans (h3.below (by omega))⟩
              clear h1 h2 h3 HRD6 HRR6 HB6
              generalize (uptoE bs pos er top).1 = U at *
              go_wp2_with fail
              go_meet
              exact ⟨by simp, HI7.out⟩
            · have q0b : (x % 4 == 0) = false := by simpa using q0
              by_cases q1 : x % 4 = 1
              · have q1b : (x % 4 == 1) = true := by rw [q1]; rfl
                clear q0 q1
                go_wp2_with fail
                refine (intE_any _ HRD.out Z0.out).mono ?_
                rintro e w6 ⟨rfl, h1, h2⟩
                have HRD6 := Lib.hid h1
                have HRR6 := Lib.hid (HRR.out.keep (w' := w6) (fun k hk _ => h2.block k (by omega)))
                have HB6 := Lib.hid (HB.out.trans (h2.below hrb))
                clear h1 h2
                go_wp2_with fail
                refine (rintE_any _ HRR6.out HF.out Z0.out).mono ?_
                rintro e w7 ⟨rfl, ⟨f', h1, h2⟩, h3⟩
                have HI7 : Hid (Both w w7 rb mb bs) := ⟨_, _, f', HRD6.out.keep (h3.below hmb), h1, h2, HB6.out.trans (h3.below (by omega))⟩
                clear h1 h2 h3 HRD6 HRR6 HB6
                generalize opn (uptoE bs pos er top).1 = U at *
                go_wp2_with fail
                go_meet
                exact ⟨by simp, HI7.out⟩
              · have q1b : (x % 4 == 1) = false := by simpa using q1
                by_cases q2 : x % 4 = 2
                · have q2b : (x % 4 == 2) = true := by rw [q2]; rfl
                  clear q0 q1 q2
                  go_wp2_with fail
                  refine (uptoE_any _ _ HRD.out Z0.out).mono ?_
                  rintro e w6 ⟨rfl, h1, h2⟩
                  have HRD6 := Lib.hid h1
                  have HRR6 := Lib.hid (HRR.out.keep (w' := w6) (fun k hk _ => h2.block k (by omega)))
                  have HB6 := Lib.hid (HB.out.trans (h2.below hrb))
                  clear h1 h2
                  go_wp2_with fail
                  refine (ruptoE_any _ _ HRR6.out HF.out Z0.out).mono ?_
                  rintro e w7 ⟨rfl, ⟨f', h1, h2⟩, h3⟩
                  have HI7 : Hid (Both w w7 rb mb bs) := ⟨_, _, f', HRD6.out.keep (h3.below hmb), h1, h2, HB6.out.trans (h3.below (by omega))⟩
                  clear h1 h2 h3 HRD6 HRR6 HB6
                  go_wp2_with fail
                  go_meet
                  exact ⟨by simp, HI7.out⟩
                · have q2b : (x % 4 == 2) = false := by simpa using q2
                  clear q0 q1 q2
                  go_wp2_with fail
                  refine (bytesE_any K (by omega) _ HRD.out).mono ?_
                  rintro e w6 ⟨v6, rfl, ho, h1, h2⟩
                  have HRD6 := Lib.hid h1
                  have HRR6 := Lib.hid (HRR.out.keep (w' := w6) (fun k hk hk2 => h2.block k (by have := HRR.out.lt; omega) (by omega)))
                  have hrs := HRR.out.lt
                  have HB6 := Lib.hid (HB.out.trans (h2.below hrb HB.out.size))
                  have HO6 := Lib.hid ho
                  have HMB := Lib.hid (rbytesE_any K (by omega) w6.drew HRR6.out HF.out)
                  clear h1 h2 HRR6
                  generalize byts bs pos er K = Y at *
                  obtain ⟨ys, p6, e6⟩ := Y
                  simp only at ho HRD6 HO6 HMB
                  obtain ⟨a6, c6, rfl, hy1, hy2, hr6⟩ := ho.row
                  have hyl : ys.length ≤ 9223372036854775807 := by unfold maxLen at hy2; omega
                  clear hy1 hy2
                  have hcv6 := str_row (show Row .u8 w6.drew w6.heap.size a6 ys from hr6) c6
                  clear ho hr6
                  generalize wr.heap.size = B0 at *
                  go_upto_region 17 with fail
                  go_cut [11] (fun ok wx => ok = .bool true ∧ Both w wx rb mb bs ∧ Own wx B0 (.slice a6 ys.length c6) ys)
                  case first =>
                    go_region_with (go_at_call 13; refine HMB.out.mono ?_; rintro e w7 ⟨a7, c7, rfl, hr7, hfr, h3⟩; obtain ⟨p1, p2, HI7, HO7⟩ := after_bytes (c7 := c7) HB6.out HRD6.out HO6.out hr7 hfr h3 hrb hmb hrs; clear hr7 hfr h3)
                    all_goals go_wp2_with fail
                    all_goals go_meet
                    all_goals exact ⟨by simp, HI7.out, HO7.out⟩
                  case rest =>
                    obtain ⟨rfl, hbo, hoy⟩ := hcut
                    have HBO := Lib.hid hbo
                    have HOY := Lib.hid hoy
                    clear hbo hoy hcv6 HMB HRD6 HO6 HB6 HRD HRR HF HB
                    go_wp2
                    go_loopg [78] ys.length (fun m i wx => ∃ (j : Nat) (zs : List Int), m = ys.length - j ∧ j ≤ ys.length ∧ i = .int .i64 (j : Int) ∧ zs.length = ys.length ∧ Own wx B0 (.slice a6 ys.length c6) zs ∧ OnlyV (.slice a6 ys.length c6) wc wx)
                    case atStart => exact ⟨0, ys, by omega, by omega, rfl, rfl, HOY.out, OnlyV.refl _ _⟩
                    case round =>
                      obtain ⟨y, zs, hm, hy, rfl, hzl, hown, hon⟩ := hrel
                      have HM3 := Lib.hid hm
                      have HOW := Lib.hid hown
                      have HON := Lib.hid hon
                      have HZL := Lib.hid hzl
                      clear hm hown hon hzl
                      by_cases hlt3 : y < ys.length
                      · obtain ⟨g, hg⟩ : ∃ g, a6 = some ⟨g, 0, none⟩ := by
                          rcases HOW.out.2 with ⟨_, h⟩ | ⟨g, cap, cur, h, _⟩
                          · rw [HZL.out] at h; omega
                          · exact ⟨g, by injection h⟩
                        subst hg
                        have hO := HOW.out
                        unfold Own at hO
                        rw [HZL.out] at hO
                        have hcy := hO.cellAt y (by omega)
                        rw [List.getElem?_map, List.getElem?_eq_getElem (show y < zs.length by rw [HZL.out]; exact hlt3)] at hcy
                        simp only [Option.map_some] at hcy
                        have hfy := hO.frozenAt y
                        have HST := Lib.hid (fun u => (hO.stored y u).1)
                        generalize zs[y]'(by rw [HZL.out]; exact hlt3) = z at *
                        have hlt3' : (y : Int) < (ys.length : Int) := by omega
                        clear hO
                        go_wp2
                        go_roundg (ys.length - (y + 1))
                        case measure => rw [HM3.out]; omega
                        case rel =>
                          refine ⟨y + 1, zs.set y (bits .xor .u8 z 255), rfl, by omega, by go_num, by rw [List.length_set]; exact HZL.out, ?_, ?_⟩
                          · unfold Own
                            rw [List.length_set, HZL.out, List.map_set]
                            exact HST.out _
                          · exact ⟨HON.out.os, HON.out.tape, HON.out.output, by have := HON.out.size; simp [World.setCell]; exact this, fun k hk => by
                              rw [Below.heap_setCell _ _ _ k (by intro h; exact hk (by rw [h]; rfl))]; exact HON.out.block k hk⟩
                      · have HI8 := Lib.hid (both_onlyV HBO.out HON.out HOW.out hrb hmb hrs)
                        clear HM3 HOW HON HZL HBO HOY
                        go_wp2_with fail
                        go_meet
                        exact ⟨rfl, HI8.out⟩
          case rest =>
            obtain ⟨rfl, hbo⟩ := hcut
            obtain ⟨pos, er, f, hrd, hrr, hf, hbel⟩ := hbo
            have HRD2 := Lib.hid hrd
            have HF2 := Lib.hid hf
            have HB2 := Lib.hid hbel
            have hml := hrr.lt
            have hpl : pos ≤ bs.length := by obtain ⟨_, _, _, _, _, h, _⟩ := hrd; exact h
            have HRR2 := Lib.hid hrr
            obtain ⟨v9, hh, _⟩ := hrr
            have m1 := cell_in hh 1
            have m2 := cell_in hh 2
            have m3 := cell_in hh 3
            simp at m1 m2 m3
            clear hrd hf hbel hh HRD HRR HF HB hc
            have hsub : IntKind.i64.wrap ((bs.length : Int) - (pos : Int)) = (bs.length : Int) - (pos : Int) := IntWalk.i64_in _ (by omega)
            by_cases he : er = 0
            · subst he
              by_cases hp : pos < bs.length
              · have hp' : (pos : Int) < (bs.length : Int) := by omega
                have HEC : ∀ {w10 ev2}, ErrIs w10 ev2 (endC 0 pos bs.length) pos → ErrIs w10 ev2 5 pos := fun h => by unfold endC at h; rw [if_pos rfl, if_pos hp] at h; exact h
                go_wp2
                go_quiet (fail)
                go_wp2
                go_quiet (fail)
                go_wp2
                rw [World.drewN_drewN]
                go_region_held3 (fun w' => w'.cell? ⟨mb, 1, none⟩ = some (.int .i64 (pos : Int)) ∧ w'.cell? ⟨mb, 2, none⟩ = some (.int .i64 0) ∧ w'.cell? ⟨mb, 3, none⟩ = some (.int .i64 (f : Int))) (go_keep)
                  (first
                    | (go_at_call 14; refine (left_any (rb := rb) (bs := bs) (pos := pos) (wr := 0) _ ?_).mono ?_; (exact HRD2.out); rintro e w8 ⟨rfl, q8, rfl⟩)
                    | (go_at_call 16; refine (err_v (rb := rb) (bs := bs) (pos := pos) (er := 0) _ ?_).mono ?_; (exact HRD2.out); rintro e w8 ⟨ev1, rfl, hE1, hb8⟩; have HE1 := Lib.hid hE1; have HB8 : Hid (Below wc.heap.size wc w8) := ⟨hb8.os, hb8.tape, hb8.output, hb8.size, hb8.block⟩; have n1 := hb8.cell (p := ⟨mb, 1, none⟩) hml; have n2 := hb8.cell (p := ⟨mb, 2, none⟩) hml; have n3 := hb8.cell (p := ⟨mb, 3, none⟩) hml; clear hE1 hb8)
                    | (go_at_call 15; (with_reducible refine (wrong_any ev1 0 pos f w8 ?_ ?_ ?_).mono ?_); (exact HY.out.later (HB2.out.trans (HB8.out.mono HB2.out.size))); (exact HE1.out); (exact fun h => absurd rfl h); rintro e w9 ⟨rfl, hb9⟩; have HB9 := Lib.hid (HB8.out.trans (hb9.mono HB8.out.size)); have k1 := HB9.out.cell (p := ⟨mb, 1, none⟩) hml; have k2 := HB9.out.cell (p := ⟨mb, 2, none⟩) hml; have k3 := HB9.out.cell (p := ⟨mb, 3, none⟩) hml; clear hb9)
                    | (go_at_call 17; refine (end_v _ (HRD2.out.keep (HB9.out.mono (Nat.le_trans hmb (Nat.le_of_lt hml))))).mono ?_; rintro e w10 ⟨ev2, rfl, hE2, hb10⟩; have HE2 := Lib.hid hE2; have HB10 := Lib.hid (HB9.out.trans (hb10.mono HB9.out.size)); have j1 := HB10.out.cell (p := ⟨mb, 1, none⟩) hml; have j2 := HB10.out.cell (p := ⟨mb, 2, none⟩) hml; have j3 := HB10.out.cell (p := ⟨mb, 3, none⟩) hml; clear hE2 hb10)
                    | (go_at_call 15; (with_reducible refine (wrong_any ev2 5 pos pos w10 ?_ ?_ ?_).mono ?_); (exact HY.out.later (HB2.out.trans (HB10.out.mono HB2.out.size))); (exact HEC HE2.out); (exact fun _ => rfl); rintro e w11 ⟨rfl, hb11⟩; have HB11 := Lib.hid (HB10.out.trans (hb11.mono HB10.out.size)); have g1 := HB11.out.cell (p := ⟨mb, 1, none⟩) hml; have g2 := HB11.out.cell (p := ⟨mb, 2, none⟩) hml; have g3 := HB11.out.cell (p := ⟨mb, 3, none⟩) hml; clear hb11))
                go_wp2_with fail
                go_roundg (l.length - (i + 1))
                case measure => rw [HM.out]; omega
                case rel => exact ⟨i + 1, rfl, by omega, by go_num, pos, 0, f, HRD2.out.keep (HB11.out.mono (Nat.le_trans hmb (Nat.le_of_lt hml))), HRR2.out.keep (fun k _ hk => HB11.out.block k (by omega)), HF2.out, HB2.out.trans (HB11.out.mono HB2.out.size)⟩
              · have hp' : decide (pos < bs.length) = false := decide_eq_false hp
                have HEC : ∀ {w10 ev2}, ErrIs w10 ev2 (endC 0 pos bs.length) pos → ErrIs w10 ev2 0 pos := fun h => by unfold endC at h; rw [if_pos rfl, if_neg hp] at h; exact h
                go_wp2
                go_quiet (fail)
                go_wp2
                go_region_held3 (fun w' => w'.cell? ⟨mb, 1, none⟩ = some (.int .i64 (pos : Int)) ∧ w'.cell? ⟨mb, 2, none⟩ = some (.int .i64 0) ∧ w'.cell? ⟨mb, 3, none⟩ = some (.int .i64 (f : Int))) (go_keep)
                  (first
                    | (go_at_call 14; refine (left_any (rb := rb) (bs := bs) (pos := pos) (wr := 0) _ ?_).mono ?_; (exact HRD2.out); rintro e w8 ⟨rfl, q8, rfl⟩)
                    | (go_at_call 16; refine (err_v (rb := rb) (bs := bs) (pos := pos) (er := 0) _ ?_).mono ?_; (exact HRD2.out); rintro e w8 ⟨ev1, rfl, hE1, hb8⟩; have HE1 := Lib.hid hE1; have HB8 : Hid (Below wc.heap.size wc w8) := ⟨hb8.os, hb8.tape, hb8.output, hb8.size, hb8.block⟩; have n1 := hb8.cell (p := ⟨mb, 1, none⟩) hml; have n2 := hb8.cell (p := ⟨mb, 2, none⟩) hml; have n3 := hb8.cell (p := ⟨mb, 3, none⟩) hml; clear hE1 hb8)
                    | (go_at_call 15; (with_reducible refine (wrong_any ev1 0 pos f w8 ?_ ?_ ?_).mono ?_); (exact HY.out.later (HB2.out.trans (HB8.out.mono HB2.out.size))); (exact HE1.out); (exact fun h => absurd rfl h); rintro e w9 ⟨rfl, hb9⟩; have HB9 := Lib.hid (HB8.out.trans (hb9.mono HB8.out.size)); have k1 := HB9.out.cell (p := ⟨mb, 1, none⟩) hml; have k2 := HB9.out.cell (p := ⟨mb, 2, none⟩) hml; have k3 := HB9.out.cell (p := ⟨mb, 3, none⟩) hml; clear hb9)
                    | (go_at_call 17; refine (end_v _ (HRD2.out.keep (HB9.out.mono (Nat.le_trans hmb (Nat.le_of_lt hml))))).mono ?_; rintro e w10 ⟨ev2, rfl, hE2, hb10⟩; have HE2 := Lib.hid hE2; have HB10 := Lib.hid (HB9.out.trans (hb10.mono HB9.out.size)); have j1 := HB10.out.cell (p := ⟨mb, 1, none⟩) hml; have j2 := HB10.out.cell (p := ⟨mb, 2, none⟩) hml; have j3 := HB10.out.cell (p := ⟨mb, 3, none⟩) hml; clear hE2 hb10)
                    | (go_at_call 15; (with_reducible refine (wrong_any ev2 0 pos f w10 ?_ ?_ ?_).mono ?_); (exact HY.out.later (HB2.out.trans (HB10.out.mono HB2.out.size))); (exact HEC HE2.out); (exact fun h => absurd rfl h); rintro e w11 ⟨rfl, hb11⟩; have HB11 := Lib.hid (HB10.out.trans (hb11.mono HB10.out.size)); have g1 := HB11.out.cell (p := ⟨mb, 1, none⟩) hml; have g2 := HB11.out.cell (p := ⟨mb, 2, none⟩) hml; have g3 := HB11.out.cell (p := ⟨mb, 3, none⟩) hml; clear hb11))
                go_wp2_with fail
                go_roundg (l.length - (i + 1))
                case measure => rw [HM.out]; omega
                case rel => exact ⟨i + 1, rfl, by omega, by go_num, pos, 0, f, HRD2.out.keep (HB11.out.mono (Nat.le_trans hmb (Nat.le_of_lt hml))), HRR2.out.keep (fun k _ hk => HB11.out.block k (by omega)), HF2.out, HB2.out.trans (HB11.out.mono HB2.out.size)⟩
            · have heb : (er == 0) = false := by simpa using he
              have HEC : ∀ {w10 ev2}, ErrIs w10 ev2 (endC er pos bs.length) pos → ErrIs w10 ev2 er pos := fun h => by unfold endC at h; rw [if_neg he] at h; exact h
              go_wp2
              go_quiet (fail)
              go_wp2
              go_region_held3 (fun w' => w'.cell? ⟨mb, 1, none⟩ = some (.int .i64 (pos : Int)) ∧ w'.cell? ⟨mb, 2, none⟩ = some (.int .i64 er) ∧ w'.cell? ⟨mb, 3, none⟩ = some (.int .i64 (f : Int))) (go_keep)
                (first
                  | (go_at_call 14; refine (left_any (rb := rb) (bs := bs) (pos := pos) (wr := er) _ ?_).mono ?_; (exact HRD2.out); rintro e w8 ⟨rfl, q8, rfl⟩)
                  | (go_at_call 16; refine (err_v (rb := rb) (bs := bs) (pos := pos) (er := er) _ ?_).mono ?_; (exact HRD2.out); rintro e w8 ⟨ev1, rfl, hE1, hb8⟩; have HE1 := Lib.hid hE1; have HB8 : Hid (Below wc.heap.size wc w8) := ⟨hb8.os, hb8.tape, hb8.output, hb8.size, hb8.block⟩; have n1 := hb8.cell (p := ⟨mb, 1, none⟩) hml; have n2 := hb8.cell (p := ⟨mb, 2, none⟩) hml; have n3 := hb8.cell (p := ⟨mb, 3, none⟩) hml; clear hE1 hb8)
                  | (go_at_call 15; (with_reducible refine (wrong_any ev1 er pos f w8 ?_ ?_ ?_).mono ?_); (exact HY.out.later (HB2.out.trans (HB8.out.mono HB2.out.size))); (exact HE1.out); (exact HF2.out); rintro e w9 ⟨rfl, hb9⟩; have HB9 := Lib.hid (HB8.out.trans (hb9.mono HB8.out.size)); have k1 := HB9.out.cell (p := ⟨mb, 1, none⟩) hml; have k2 := HB9.out.cell (p := ⟨mb, 2, none⟩) hml; have k3 := HB9.out.cell (p := ⟨mb, 3, none⟩) hml; clear hb9)
                  | (go_at_call 17; refine (end_v _ (HRD2.out.keep (HB9.out.mono (Nat.le_trans hmb (Nat.le_of_lt hml))))).mono ?_; rintro e w10 ⟨ev2, rfl, hE2, hb10⟩; have HE2 := Lib.hid hE2; have HB10 := Lib.hid (HB9.out.trans (hb10.mono HB9.out.size)); have j1 := HB10.out.cell (p := ⟨mb, 1, none⟩) hml; have j2 := HB10.out.cell (p := ⟨mb, 2, none⟩) hml; have j3 := HB10.out.cell (p := ⟨mb, 3, none⟩) hml; clear hE2 hb10)
                  | (go_at_call 15; (with_reducible refine (wrong_any ev2 er pos f w10 ?_ ?_ ?_).mono ?_); (exact HY.out.later (HB2.out.trans (HB10.out.mono HB2.out.size))); (exact HEC HE2.out); (exact HF2.out); rintro e w11 ⟨rfl, hb11⟩; have HB11 := Lib.hid (HB10.out.trans (hb11.mono HB10.out.size)); have g1 := HB11.out.cell (p := ⟨mb, 1, none⟩) hml; have g2 := HB11.out.cell (p := ⟨mb, 2, none⟩) hml; have g3 := HB11.out.cell (p := ⟨mb, 3, none⟩) hml; clear hb11))
              go_wp2_with fail
              go_roundg (l.length - (i + 1))
              case measure => rw [HM.out]; omega
              case rel => exact ⟨i + 1, rfl, by omega, by go_num, pos, er, f, HRD2.out.keep (HB11.out.mono (Nat.le_trans hmb (Nat.le_of_lt hml))), HRR2.out.keep (fun k _ hk => HB11.out.block k (by omega)), HF2.out, HB2.out.trans (HB11.out.mono HB2.out.size)⟩
        · go_wp2
          go_ret
          obtain ⟨_, _, _, _, _, _, hbel⟩ := HBO.out
          exact ⟨rfl, hbel⟩
end Go.Proofs.YtbliddmkmieppaaDoor
