/- Package collect: needed: contract, for a store and for none. -/
import Derived.Test.YtgciceogggldhaaRv13
import Derived.Lib.MinMax
namespace Go.Proofs.Ytgciceogggldhaa
open Go.RowKit Go.Maps
set_option maxRecDepth 100000

theorem infoID13 : (Try.prog.info? 34).map (fun i => (i.zero, i.size, i.bytes)) = some (some (.int .u32 0), 1, 4) := by kernel_rfl
theorem infoId : ∃ i, Try.prog.info? 34 = some i ∧ i.zero = some (.int .u32 0) ∧ i.size = 1 ∧ i.bytes = 4 := by
  obtain ⟨i, hi, h⟩ := Option.map_eq_some_iff.1 infoID13
  simp only [Prod.mk.injEq] at h
  exact ⟨i, hi, h.1, h.2.1, h.2.2⟩
theorem infoBool13 : (Try.prog.info? 4).map (fun i => (i.zero, i.size, i.bytes)) = some (some (.bool false), 1, 1) := by kernel_rfl
theorem infoBool : ∃ i, Try.prog.info? 4 = some i ∧ i.zero = some (.bool false) ∧ i.size = 1 ∧ i.bytes = 1 := by
  obtain ⟨i, hi, h⟩ := Option.map_eq_some_iff.1 infoBool13
  simp only [Prod.mk.injEq] at h
  exact ⟨i, hi, h.1, h.2.1, h.2.2⟩
/-- A row of bools that is made. -/
theorem made_bools (n : Nat) (hn : n ≤ 2000000) : ∃ MC : Array Value, MC = ((List.replicate n false).map Value.bool).toArray ∧ ∀ W : World, (Instr.makeSlice 38 (.int .i64 (n : Int)) (.int .i64 (n : Int))).run Try.prog W = .ok (.slice (some ⟨W.heap.size, 0, none⟩) n n) (W.alloc (.cells MC 4)) := by
  obtain ⟨i0, hi, hz0, hz1, hz2⟩ := infoBool
  refine ⟨madeCells (Value.bool false).cells n, ?_, fun W => ?_⟩
  · apply Array.toList_inj.1
    rw [show (Value.bool false).cells = #[Value.bool false] from rfl, toList_madeCells_one]
    simp
  · have := run_make (P := Try.prog) W 38 4 i0 (.bool false) Try.underlying38 hi hz0 .i64 .i64 n n (by omega) (by omega) (by rw [hz2]; omega) (by omega)
    rw [hz1, Nat.mul_one] at this
    simpa using this
/-- Squares' numbers in a slice, as it came. -/
def LRow (w : World) (a : Option Addr) (L : List Nat) : Prop := ∀ (j x : Nat), L[j]? = some x → x < 4294967296 ∧ ∃ bk off, a = some ⟨bk, off, none⟩ ∧ bk < w.heap.size ∧ w.cell? ⟨bk, off + j, none⟩ = some (.int .u32 (x : Int))
theorem LRow.later {w w' : World} {a : Option Addr} {L : List Nat} (h : LRow w a L) (hb : Below w.heap.size w w') : LRow w' a L := fun j x hx => by
  obtain ⟨h0, bk, off, h1, h2, h3⟩ := h j x hx
  exact ⟨h0, bk, off, h1, Nat.lt_of_lt_of_le h2 hb.size, by rw [hb.cell (p := ⟨bk, off + j, none⟩) h2]; exact h3⟩
theorem LRow.nil (w : World) (a : Option Addr) : LRow w a [] := fun j x hx => by simp at hx
/-- Going down, whatever marking does. -/
def dnG (mk : Nat → List Bool → List Bool) : Nat → List Bool → List Bool
  | 0, b => b
  | i + 1, b => dnG mk i (if nd13 b i then mk i b else b)
theorem dnG_N (N : List Nd) : ∀ (i : Nat) (b : List Bool), dnG (mkB N) i b = dnN N i b
  | 0, _ => rfl
  | i + 1, _ => dnG_N N i _
theorem dnG_id : ∀ (i : Nat) (b : List Bool), dnG (fun _ b => b) i b = b
  | 0, _ => rfl
  | i + 1, b => by show dnG (fun _ b => b) i (if nd13 b i then b else b) = b; rw [ite_self]; exact dnG_id i b
def rtG (n0 : Nat) (b : List Bool) (l : List Nat) : List Bool := l.foldl (fun b x => if x < n0 then b.set x true else b) b
theorem rtG_len (n0 : Nat) : ∀ (l : List Nat) (b : List Bool), (rtG n0 b l).length = b.length
  | [], _ => rfl
  | x :: l, b => (rtG_len n0 l _).trans (by show (if x < n0 then b.set x true else b).length = _; split <;> simp)
theorem rtG_snoc (n0 : Nat) (b : List Bool) (l : List Nat) (x : Nat) : rtG n0 b (l ++ [x]) = if x < n0 then (rtG n0 b l).set x true else rtG n0 b l := by
  unfold rtG; rw [List.foldl_append]; rfl
theorem rtG_N : ∀ (l : List Nat) (b : List Bool), rtG b.length b l = rtB b l
  | [], _ => rfl
  | x :: l, b => by
    show rtG b.length (if x < b.length then b.set x true else b) l = rtB (b.set x true) l
    by_cases h : x < b.length
    · rw [if_pos h, ← rtG_N l (b.set x true), List.length_set]
    · rw [if_neg h, List.set_eq_of_length_le (by omega)]
      exact rtG_N l b
theorem rtG_zero : ∀ (l : List Nat) (b : List Bool), rtG 0 b l = b
  | [], _ => rfl
  | _ :: l, b => rtG_zero l b
theorem take_next13 {l : List Nat} {j z : Nat} (h : l[j]? = some z) : l.take (j + 1) = l.take j ++ [z] := by rw [List.take_add_one, h]; rfl
/-- What marking must do. -/
structure Mkr (mk : Nat → List Bool → List Bool) : Prop where
  len : ∀ i b, (mk i b).length = b.length
  keep : ∀ i b x, i ≤ x → nd13 (mk i b) x = nd13 b x
theorem Mkr.dn {mk : Nat → List Bool → List Bool} (h : Mkr mk) {x : Nat} : ∀ (i : Nat) (b : List Bool), i ≤ x + 1 → nd13 (dnG mk i b) x = nd13 b x
  | 0, _, _ => rfl
  | i + 1, b, hi => by
    show nd13 (dnG mk i (if nd13 b i then mk i b else b)) x = _
    rw [h.dn i _ (by omega)]
    split
    · exact h.keep i b x (by omega)
    · rfl
theorem mkr_N {N : List Nd} (hw : Wf N) : Mkr (mkB N) := by
  refine ⟨mkB_len N, fun i b x h => ?_⟩
  unfold mkB
  split
  · rename_i n hn
    split
    · rename_i hl
      by_cases hi : 2 ≤ i
      · obtain ⟨_, _, k1, k2, k3, k4, _⟩ := hw.up i n hi hn
        exact mk4_ne ⟨by omega, by omega, by omega, by omega⟩
      · have : i = 0 ∨ i = 1 := by omega
        rcases this with rfl | rfl
        · rw [hw.dead] at hn; cases hn; simp at hl
        · rw [hw.alive] at hn; cases hn; simp at hl
    · rfl
  · rfl
theorem mkr_id : Mkr (fun _ b => b) := ⟨fun _ _ => rfl, fun _ _ _ _ => rfl⟩
theorem idx_in {n k : Nat} (h : k < n) : (n : Int) - 1 - (k : Int) = ((n - 1 - k : Nat) : Int) := by omega
set_option maxHeartbeats 4000000 in
theorem needed_gen {w : World} (p : Option Addr) (n0 n : Nat) (mk : Nat → List Bool → List Bool) (hmk : Mkr mk) (hn : n = max n0 2) (hN : n0 ≤ 1048576)
    (hlen : ∀ W, Below w.heap.size w W → Calls Try.prog 8 #[.pointer p] W fun e w' => e = .returned (.int .i64 (n0 : Int)) ∧ W = w')
    (his : ∀ (W : World) (x : Nat), Below w.heap.size w W → x < 4294967296 → Calls Try.prog 26 #[.pointer p, .int .u32 (x : Int)] W fun e w' => e = .returned (.bool (decide (x < n0))) ∧ W = w')
    (hmark : ∀ (W : World) (nb : Nat) (b : List Bool) (x : Nat), Below w.heap.size w W → w.heap.size ≤ nb → BAt W nb b → b.length = n → x < n → Calls Try.prog 36 #[.slice (some ⟨nb, 0, none⟩) n n, .pointer p, .int .u32 (x : Int)] W fun e w' => e = .returned (.tuple #[]) ∧ BAt w' nb (mk x b) ∧ W.grownBy w' (some nb))
    {a : Option Addr} {L : List Nat} {l c : Nat} (hL : LRow w a L) (hl : l = L.length) (hl9 : l ≤ 1000000) (h00 : nd13 (dnG mk n (rtG n0 (b00 n) L)) 0 = true) :
    Calls Try.prog 24 #[.pointer p, .slice a l c] w fun e w' => ∃ (v : Value), e = .returned v ∧ IdRow w' w.heap.size v (ndL (dnG mk n (rtG n0 (b00 n) L)) n) ∧ Below w.heap.size w w' := by
  obtain ⟨F, hF⟩ : ∃ F, dnG mk n (rtG n0 (b00 n) L) = F := ⟨_, rfl⟩
  have HFF := Lib.hid hF
  rw [hF] at h00 ⊢
  have HZ00 := Lib.hid h00
  clear hF h00
  have hn2 : 2 ≤ n := by omega
  have hnm : n ≤ 1048576 := by omega
  have hmx : max (n0 : Int) 2 = (n : Int) := by omega
  obtain ⟨MC, hMC, hmake⟩ := made_bools n (by omega)
  have HMK := Lib.hid hmk
  have HLEN := Lib.hid hlen
  have HIS := Lib.hid his
  have HMARK := Lib.hid hmark
  have HL := Lib.hid hL
  have HLN := Lib.hid hl
  have HL9 := Lib.hid hl9
  have HN := Lib.hid hn
  have HN0 := Lib.hid hN
  have HMC := Lib.hid hMC
  have hlt0 : (0 : Int) < (n : Int) := by omega
  have hlt1 : (1 : Int) < (n : Int) := by omega
  clear hmk hlen his hmark hL hl hl9 hMC hN hn
  go_enter Try.func24, Try.ntmps24
  go_wp2_with fail
  refine (HLEN.out _ (Below.refl _ _)).mono ?_
  rintro e W1 ⟨rfl, rfl⟩
  have HB0 : Hid (BAt (w.alloc (.cells MC 4)) w.heap.size (List.replicate n false)) := by
    show BAt _ _ _
    unfold BAt
    rw [← HMC.out]
    exact heap_alloc_new w _
  have HW0 := Lib.hid (bel1 w (.cells MC 4))
  go_upto_region 2 with fail
  clear hmake HMC
  generalize w.alloc (.cells MC 4) = W0 at *
  obtain ⟨c0, f0⟩ := HB0.out.cell (j := 0) (by simp; omega)
  obtain ⟨c1, f1⟩ := HB0.out.cell (j := 1) (by simp; omega)
  have HB2 : Hid (BAt ((W0.setCell ⟨w.heap.size, 0, none⟩ (.bool true)).setCell ⟨w.heap.size, 1, none⟩ (.bool true)) w.heap.size (b00 n)) := by
    have := (HB0.out.set 0 true).set 1 true
    obtain ⟨m, rfl⟩ : ∃ m, n = m + 2 := ⟨n - 2, by omega⟩
    exact this
  have HW2 : Hid (Below w.heap.size w ((W0.setCell ⟨w.heap.size, 0, none⟩ (.bool true)).setCell ⟨w.heap.size, 1, none⟩ (.bool true))) := (HW0.out.setCell (p := ⟨w.heap.size, 0, none⟩) (Nat.le_refl _) _).setCell (p := ⟨w.heap.size, 1, none⟩) (Nat.le_refl _) _
  go_upto_region 3 with fail
  clear c0 f0 c1 f1 HB0 HW0
  generalize (W0.setCell ⟨w.heap.size, 0, none⟩ (.bool true)).setCell ⟨w.heap.size, 1, none⟩ (.bool true) = W1 at *
  go_wp2_with fail
  go_loopg [7, 21] l (fun mm v7 cnt wr => ∃ j : Nat, mm = l - j ∧ j ≤ l ∧ cnt = .int .i64 (j : Int) ∧ BAt wr w.heap.size (rtG n0 (b00 n) (L.take j)) ∧ Below w.heap.size w wr)
  case atStart => exact ⟨0, rfl, Nat.zero_le _, rfl, HB2.out, HW2.out⟩
  case round =>
    clear HB2 HW2
    obtain ⟨j, hm, hj, rfl, hB, hW⟩ := hrel
    have HMM := Lib.hid hm
    have HB := Lib.hid hB
    have HW := Lib.hid hW
    clear hm hB hW
    by_cases hlt : j < l
    · have hgj : decide (j < l) = true := by simp; omega
      obtain ⟨x, hx⟩ : ∃ x, L[j]? = some x := ⟨_, List.getElem?_eq_getElem (by rw [← HLN.out]; exact hlt)⟩
      obtain ⟨hxu, bk, off, rfl, hbk, hcell⟩ := HL.out j x hx
      have HX := Lib.hid hx
      have cx : wr.cell? ⟨bk, off + j, none⟩ = some (.int .u32 (x : Int)) := by rw [HW.out.cell (p := ⟨bk, off + j, none⟩) hbk]; exact hcell
      have i1 : (j : Int) < (l : Int) := by omega
      have i2 : (0 : Int) ≤ (j : Int) := by omega
      have HT : Hid (rtG n0 (b00 n) (L.take (j + 1)) = if x < n0 then (rtG n0 (b00 n) (L.take j)).set x true else rtG n0 (b00 n) (L.take j)) := by
        show _ = _
        rw [take_next13 hx, rtG_snoc]
      have HBL : Hid ((rtG n0 (b00 n) (L.take j)).length = n) := by
        show _ = _
        rw [rtG_len, b00_len hn2]
      have w1 : IntKind.i64.wrap ((j : Int) + 1) = ((j + 1 : Nat) : Int) := by rw [IntWalk.i64_in _ (by have := HL9.out; omega)]; omega
      clear hx hcell
      go_wp2_with fail
      refine (HIS.out _ x HW.out hxu).mono ?_
      rintro e W3 ⟨rfl, hW3⟩
      rw [← hW3]
      clear hW3 W3
      by_cases hin : x < n0
      · have hg2 : decide (x < n0) = true := by simpa using hin
        obtain ⟨b0, bf⟩ := HB.out.cell (j := x) (by rw [HBL.out]; omega)
        have i3 : (x : Int) < (n : Int) := by omega
        have i4 : (0 : Int) ≤ (x : Int) := by omega
        go_wp2_with fail
        go_roundg (l - (j + 1))
        case measure => rw [HMM.out]; omega
        case rel =>
          refine ⟨j + 1, rfl, by omega, by go_num, ?_, HW.out.setCell (p := ⟨w.heap.size, x, none⟩) (Nat.le_refl _) _⟩
          rw [HT.out, if_pos hin]
          exact HB.out.set x true
      · have hg2 : decide (x < n0) = false := by simpa using hin
        go_wp2_with fail
        go_roundg (l - (j + 1))
        case measure => rw [HMM.out]; omega
        case rel =>
          refine ⟨j + 1, rfl, by omega, by go_num, ?_, HW.out⟩
          rw [HT.out, if_neg hin]
          exact HB.out
    · obtain rfl : j = l := by omega
      have hgj : decide (j < j) = false := by simp
      have HF : Hid (BAt wr w.heap.size (rtG n0 (b00 n) L)) := by
        have := HB.out
        rw [HLN.out, List.take_length] at this
        exact this
      have HFL : Hid ((rtG n0 (b00 n) L).length = n) := by
        show _ = _
        rw [rtG_len, b00_len hn2]
      clear HB HMM hgj hj hlt
      have w1 : IntKind.i64.wrap ((n : Int) - 1) = (n : Int) - 1 := IntWalk.i64_in _ (by omega)
      go_wp2_with fail
      clear w1
      generalize rtG n0 (b00 n) L = Bs at *
      clear HIS HLEN HL
      obtain ⟨ti, hi, hz0, hz1, hz2⟩ := infoId
      have HI := Lib.hid hi
      have HZ0 := Lib.hid hz0
      have HZ1 := Lib.hid hz1
      have HZ2 := Lib.hid hz2
      clear hi hz0 hz1 hz2
      go_loopg [8, 9, 10] n (fun mm v8 v9 v10 wq => ∃ (k : Nat) (b : List Bool) (z : Int), mm = n - k ∧ k ≤ n ∧ v9 = .int .i64 z ∧ z = (n : Int) - 1 - (k : Int) ∧ BAt wq w.heap.size b ∧ b.length = n ∧ dnG mk (n - k) b = F ∧ IdRow wq w.heap.size v8 (dl13 F n k) ∧ Below w.heap.size w wq)
      case atStart => exact ⟨0, Bs, _, rfl, Nat.zero_le _, rfl, by simp, HF.out, HFL.out, HFF.out, IdRow.nil _ _, HW.out⟩
      case round =>
        clear HF HFL HFF HW
        obtain ⟨k, b, z, hm, hk, rfl, hz, hB, hbl, hd, hI, hW⟩ := hrel
        have HMM := Lib.hid hm
        have HB := Lib.hid hB
        have HBL := Lib.hid hbl
        have HD := Lib.hid hd
        have HIR := Lib.hid hI
        have HW := Lib.hid hW
        clear hm hB hbl hd hI hW
        by_cases hlt : k < n
        · obtain ⟨q, hq⟩ : ∃ q, n - 1 - k = q := ⟨_, rfl⟩
          obtain rfl : z = (q : Int) := by omega
          have hgj : decide (0 ≤ (q : Int)) = true := by simp
          obtain ⟨b0, bf⟩ := HB.out.cell (j := q) (by rw [HBL.out]; omega)
          have i1 : (q : Int) < (n : Int) := by omega
          have i2 : (0 : Int) ≤ (q : Int) := by omega
          have w1 : IntKind.i64.wrap ((q : Int) - 1) = (q : Int) - 1 := IntWalk.i64_in _ (by omega)
          have HQ : Hid (n - k = q + 1) := by unfold Hid; omega
          have HQQ : Hid (n - (k + 1) = q) := by unfold Hid; omega
          have HN1 : Hid (n - 1 - k = q) := hq
          have HZ := Lib.hid hz
          have HKN := Lib.hid hlt
          have hd' := HD.out
          rw [HQ.out] at hd'
          have HFQ : Hid (nd13 F q = nd13 b q) := by
            show _ = _
            rw [← hd']
            exact HMK.out.dn _ _ (Nat.le_refl _)
          have HDL : Hid (dl13 F n (k + 1) = dl13 F n k ++ (if nd13 F q then [q] else [])) := by
            show _ = _
            rw [← HN1.out]; rfl
          have HD1 : Hid (dnG mk q (if nd13 b q then mk q b else b) = F) := hd'
          clear hd' hq hz HD hlt
          cases hnd : nd13 b q with
          | true =>
            rw [hnd] at b0 HFQ HD1
            rw [HFQ.out] at HDL
            clear HFQ hnd
            have hc : ((q : Int) % 4294967296) = (q : Int) := by omega
            have HDLL := Lib.hid (dl_len F n k)
            have HI1 := Lib.hid (HIR.out.later (bel1 wr (.cells #[.int .u32 (q : Int)] 34)))
            have HB1 := Lib.hid (HB.out.later (bel1 wr (.cells #[.int .u32 (q : Int)] 34)))
            have HW1 := Lib.hid (HW.out.trans ((bel1 wr (.cells #[.int .u32 (q : Int)] 34)).mono HW.out.size))
            go_wp2_with (at_builtin; refine wpList_append_lies _ rfl _ _ 32 rfl w.heap.size 34 ti (.int .u32 0) 1 4 Try.underlying32 HI.out HZ0.out HZ1.out HZ2.out rfl (by decide) _ _ _ rfl HI1.out ⟨wr.heap.size, 0, none⟩ 1 1 [.int .u32 (q : Int)] rfl rfl (World.news_of_block (heap_alloc_new wr _)) (by intro u hu; simp at hu; subst hu; rfl) (by decide) (by have := HDLL.out; have := HKN.out; unfold maxLen; omega) (by have := HDLL.out; have := HKN.out; omega) (by have := HW1.out.size; exact this) _ rfl ?_; intro g4 c4 W2 hown hgrow hat hlt4; have HOW := Lib.hid hown; have HGR := Lib.hid hgrow; have HAT := Lib.hid hat; clear hown hgrow hat hlt4)
            have HOWI : Hid (IdRow W2 w.heap.size (.slice (some ⟨g4, 0, none⟩) ((dl13 F n k).length + 1) c4) (dl13 F n (k + 1))) := by
              have := HOW.out
              show IdRow _ _ _ _
              rw [HDL.out]
              unfold IdRow
              simpa using this
            have HNB : Hid (u8.ownBlock ≠ some w.heap.size) := HI1.out.apartB HB1.out
            have HB2 := Lib.hid (HB1.out.grown HGR.out (fun e => HNB.out e.symm))
            have HW2 : Hid (Below w.heap.size w W2) := HW1.out.grown HGR.out HW1.out.size (fun k hk => (HI1.out.blk hk).1)
            clear HOW HGR HAT HI1 HB1 HW1 HB HIR HW
            refine (HMARK.out W2 w.heap.size b q HW2.out (Nat.le_refl _) HB2.out HBL.out (by omega)).mono ?_
            rintro e W3 ⟨rfl, hb3, hg3⟩
            have HB3 := Lib.hid hb3
            have HW3 := Lib.hid (HW2.out.grown hg3 HW2.out.size (fun k hk => by simp at hk; omega))
            have HI3 := Lib.hid (HOWI.out.grown hg3 (fun b hb e => HOWI.out.apartB HB2.out (by rw [hb, e])))
            clear hb3 hg3
            go_wp2_with fail
            go_roundg (n - (k + 1))
            case measure => rw [HMM.out]; have := HKN.out; omega
            case rel =>
              refine ⟨k + 1, mk q b, _, rfl, by have := HKN.out; omega, rfl, by have := HZ.out; omega, HB3.out, ?_, ?_, HI3.out, HW3.out⟩
              · rw [HMK.out.len]; exact HBL.out
              · rw [HQQ.out]; exact HD1.out
          | false =>
            rw [hnd] at b0 HFQ HD1
            rw [HFQ.out] at HDL
            clear HFQ hnd
            go_wp2_with fail
            go_roundg (n - (k + 1))
            case measure => rw [HMM.out]; have := HKN.out; omega
            case rel =>
              refine ⟨k + 1, b, _, rfl, by have := HKN.out; omega, rfl, by have := HZ.out; omega, HB.out, HBL.out, ?_, ?_, HW.out⟩
              · rw [HQQ.out]; exact HD1.out
              · rw [HDL.out]; simpa using HIR.out
        · obtain rfl : k = n := by omega
          have hgj : decide (0 ≤ z) = false := by simp; omega
          have HE : Hid (dl13 F k k = (ndL F k).reverse) := dl_all F k
          have HLR : Hid (0 < (dl13 F k k).length) := by
            show 0 < _
            rw [HE.out, List.length_reverse]
            exact List.length_pos_of_mem (ndL_mem.2 ⟨by omega, HZ00.out⟩)
          obtain ⟨bb, bc, hv⟩ := HIR.out.slice HLR.out
          subst hv
          have HIR2 : Hid (IdRow wr w.heap.size (.slice (some ⟨bb, 0, none⟩) (dl13 F k k).length bc) (dl13 F k k)) := HIR.out
          have HDLL := Lib.hid (dl_len F k k)
          clear HIR
          go_wp2_with fail
          refine (reverse_any HIR2.out rfl (by have := HDLL.out; omega)).mono ?_
          rintro e W3 ⟨rfl, hi3, hg3⟩
          have HI3 := Lib.hid hi3
          have HW3 := Lib.hid (HW.out.grown hg3 HW.out.size (fun k hk => by simp at hk; subst hk; exact (HIR2.out.blk rfl).1))
          clear hi3 hg3
          go_wp2_with fail
          go_ret
          refine ⟨_, rfl, ?_, HW3.out⟩
          have := HI3.out
          rw [show (dl13 F k k).reverse = ndL F k by rw [HE.out, List.reverse_reverse]] at this
          exact this
/-- Of a store. -/
theorem needed_any {w : World} {sb g tb cap most : Nat} {N : List Nd} (h : St w sb g tb cap most N) {a : Option Addr} {L : List Nat} {l c : Nat} (hL : LRow w a L) (hl : l = L.length) (hl9 : l ≤ 1000000) :
    Calls Try.prog 24 #[.pointer (some ⟨sb, 0, none⟩), .slice a l c] w fun e w' => ∃ (v : Value), e = .returned v ∧ IdRow w' w.heap.size v (ndL (nedF N L) N.length) ∧ Below w.heap.size w w' := by
  have h2 := h.wf.two
  have hr := h.room
  have hm := h.most_le
  have e1 : dnG (mkB N) N.length (rtG N.length (b00 N.length) L) = nedF N L := by
    rw [dnG_N]
    have := rtG_N L (b00 N.length)
    rw [b00_len h2] at this
    rw [this]; rfl
  have := needed_gen (w := w) (some ⟨sb, 0, none⟩) N.length N.length (mkB N) (mkr_N h.wf) (by omega) (by omega) (fun W hb => len_any (h.later hb)) (fun W x hb hx => is_any (h.later hb) x hx)
    (fun W nb b x hb hn hB hl hx => mark_any (h.later hb) hB hl.symm hl hx) (c := c) hL hl hl9 (by rw [e1]; exact (ned_cl h.wf L).d)
  rw [e1] at this
  exact this
set_option maxHeartbeats 1000000 in
theorem mark_nil {w : World} {nb n x : Nat} (hx : x < 4294967296) : Calls Try.prog 36 #[.slice (some ⟨nb, 0, none⟩) n n, .pointer none, .int .u32 (x : Int)] w fun e w' => e = .returned (.tuple #[]) ∧ Below w.heap.size w w' := by
  go_enter Try.func36, Try.ntmps36
  go_wp2_with fail
  refine (of_nil x hx w).mono ?_
  rintro e W1 ⟨rfl, hb⟩
  have HB1 := Lib.hid hb
  clear hb
  unfold kv
  go_wp2_with fail
  refine bodyPost_ret (results_none rfl _ _ _) rfl ?_
  exact ⟨rfl, HB1.out.trans ((bel1 W1 (.cells #[.int .u32 ((0 : Nat) : Int), .int .u32 ((0 : Nat) : Int), .int .u32 ((0 : Nat) : Int), .int .u32 ((0 : Nat) : Int)] 68)).mono HB1.out.size)⟩
/-- Of none. -/
theorem needed_nil (w : World) {a : Option Addr} {L : List Nat} {l c : Nat} (hL : LRow w a L) (hl : l = L.length) (hl9 : l ≤ 1000000) :
    Calls Try.prog 24 #[.pointer none, .slice a l c] w fun e w' => ∃ (v : Value), e = .returned v ∧ IdRow w' w.heap.size v [0, 1] ∧ Below w.heap.size w w' := by
  have e1 : dnG (fun _ b => b) 2 (rtG 0 (b00 2) L) = [true, true] := by rw [dnG_id, rtG_zero]; rfl
  have := needed_gen (w := w) none 0 2 (fun _ b => b) mkr_id (by omega) (by omega) (fun W hb => len_nil W) (fun W x hb hx => by rw [show decide (x < 0) = false by simp]; exact is_nil x W hx)
    (fun W nb b x hb hn hB hl hx => (mark_nil (by omega)).mono fun e w' ⟨h1, h2⟩ => ⟨h1, hB.later h2, grown_bel h2 _⟩) (c := c) hL hl hl9 (by rw [e1]; rfl)
  rw [e1] at this
  exact this
end Go.Proofs.Ytgciceogggldhaa
