/- The law PrefixPuts: its walk. -/
import Derived.Test.YtbliddmkmieppaaLv2
import Derived.Test.YtbliddmkmieppaaRef2
import Derived.Test.YtbliddmkmieppaaApd
import Derived.Test.YtbliddmkmieppaaCls
import Derived.Laws.MakeOwn
import Derived.Deep.DeepCutAuto
namespace Go.Proofs.Ytbliddmkmieppaa
open Go.RowKit

theorem str_app (x y : List Int) : strOfNums x ++ strOfNums y = strOfNums (x ++ y) := by
  apply ByteArray.ext; simp [strOfNums, ByteArray.data_append]
theorem cat_nums (x y : List Int) (h : x.length + y.length ≤ 1000000) (w : World) : (Op.stringOp .add (strOfNums x) (strOfNums y)).run Try.prog w = .ok (.string (strOfNums (x ++ y))) w := by
  have hn : ¬ (((strOfNums x).size + (strOfNums y).size : Nat) : Int) > IntKind.i64.max := by
    have : IntKind.i64.max = 9223372036854775807 := by decide
    rw [this, strOfNums_size, strOfNums_size]; omega
  unfold Op.stringOp
  simp only []
  rw [if_neg hn, str_app]; rfl
theorem encs_app (x y : List Int) : encs (x ++ y) = encs x ++ encs y := by simp [encs]
theorem upto_encs (xs : List Int) (hr : ∀ z ∈ xs, 0 ≤ z ∧ z ≤ 18446744073709551615) (i : Nat) (z : Int) (hz : xs[i]? = some z) : upto (encs xs) (encs (xs.take i)).length top = (z, (encs (xs.take (i + 1))).length, 0) := by
  have hi : i < xs.length := (List.getElem?_eq_some_iff.1 hz).1
  have e : encs xs = encs (xs.take i) ++ (enc z ++ encs (xs.drop (i + 1))) := by
    have hx : xs[i] = z := by rw [List.getElem?_eq_getElem hi] at hz; exact Option.some.inj hz
    have : xs = xs.take i ++ (z :: xs.drop (i + 1)) := by rw [← hx, List.getElem_cons_drop, List.take_append_drop]
    have h2 : encs (z :: xs.drop (i + 1)) = enc z ++ encs (xs.drop (i + 1)) := by simp [encs]
    rw [← h2, ← encs_app, ← this]
  have hd : (encs xs).drop (encs (xs.take i)).length = enc z ++ encs (xs.drop (i + 1)) := by rw [e]; simp
  obtain ⟨z0, z1⟩ := hr z (List.mem_of_getElem? hz)
  unfold upto
  rw [hd, dec_enc z z0 z1]
  have ht : ¬ top < z := by unfold top; omega
  simp only [if_true, if_neg ht]
  rw [take_next hz, encs_snoc, List.length_append, enc_length]
theorem encs_range (xs : List Int) (hr : ∀ z ∈ xs, 0 ≤ z ∧ z ≤ 18446744073709551615) : ∀ z ∈ encs xs, 0 ≤ z ∧ z ≤ 255 := by
  intro z hz
  unfold encs at hz
  obtain ⟨l, hl, hz⟩ := List.mem_flatten.1 hz
  obtain ⟨x, hx, rfl⟩ := List.mem_map.1 hl
  exact enc_range x (hr x hx).1 (hr x hx).2 z hz

theorem made_any (B k : Nat) (hk : k ≤ 1000) {i0 : TypeInfo} (hi : Try.prog.info? 5 = some i0) (hz0 : i0.zero = some (.int .u8 0)) (hz1 : i0.size = 1) (hz2 : i0.bytes = 1) :
    ∃ MC : Array Value, (∀ W, (Instr.makeSlice 22 (.int .i64 0) (.int .i64 ((k : Int) + 30))).run Try.prog W = .ok (.slice (some ⟨W.heap.size, 0, none⟩) 0 (k + 30)) (W.alloc (.cells MC 5))) ∧
      (∀ W : World, B ≤ W.heap.size → (W.alloc (.cells MC 5)).ownsRow B 5 1 (.slice (some ⟨W.heap.size, 0, none⟩) 0 (k + 30)) 0 []) := by
  refine ⟨madeCells (Value.int .u8 0).cells (k + 30), fun W => ?_, fun W h => ?_⟩
  · have := run_make (P := Try.prog) W 22 5 i0 (.int .u8 0) Try.underlying22 hi hz0 .i64 .i64 0 ((k : Int) + 30) (by omega) (by omega) (by rw [hz2]; omega) (by omega)
    rw [hz1, Nat.mul_one, show ((k : Int) + 30).toNat = k + 30 by omega, show (0 : Int).toNat = 0 from rfl] at this
    exact this
  · exact World.ownsRow_made W _ (k + 30) h (by unfold maxLen; omega) (by rw [size_madeCells, Nat.mul_one])

set_option maxRecDepth 100000 in
set_option maxHeartbeats 1000000 in
theorem pputs_great (a0 a1 a2 : Option Addr) (n0 n1 n2 c0 c1 c2 : Nat) (w : World) (h0 : n0 ≤ 1000000000000000) (h1 : n1 ≤ 1000000000000000) (h2 : n2 ≤ 1000000000000000) (h : 200 < n0 ∨ 100 < n1 + n2) :
    Calls Try.prog 3 #[.slice a0 n0 c0, .slice a1 n1 c1, .slice a2 n2 c2] w fun e w' => e = .returned (.bool true) ∧ Below w.heap.size w w' := by
  by_cases hg : 200 < n0
  · go_enter Try.func3, Try.ntmps3
    go_wp2_with fail
    refine (lives2_any w).mono ?_
    rintro e w1 ⟨rfl, hb⟩
    have HB := Lib.hid hb
    clear hb
    go_wp2_with fail
    refine (lives2_any w1).mono ?_
    rintro e w2 ⟨rfl, hb⟩
    have HB2 := Lib.hid hb
    clear hb
    go_wp2
    go_ret
    exact ⟨rfl, HB.out.trans (HB2.out.mono HB.out.size)⟩
  · have hs : (100 : Int) < (n1 : Int) + (n2 : Int) := by omega
    have hd : decide ((200 : Int) < (n0 : Int)) = false := decide_eq_false (by omega)
    go_enter Try.func3, Try.ntmps3
    go_wp2_with fail
    refine (lives2_any w).mono ?_
    rintro e w1 ⟨rfl, hb⟩
    have HB := Lib.hid hb
    clear hb
    go_wp2_with fail
    refine (lives2_any w1).mono ?_
    rintro e w2 ⟨rfl, hb⟩
    have HB2 := Lib.hid hb
    clear hb
    go_wp2
    go_ret
    exact ⟨rfl, HB.out.trans (HB2.out.mono HB.out.size)⟩

set_option maxRecDepth 100000 in
set_option maxHeartbeats 4000000 in
theorem pputs_small (a0 a1 a2 : Option Addr) (c0 c1 c2 : Nat) (al l s : List Int) (w : World) (h0 : al.length ≤ 200) (h1 : l.length + s.length ≤ 100)
    (r0 : Row .u8 w w.heap.size a0 al) (r1 : Row .u64 w w.heap.size a1 l) (r2 : Row .i64 w w.heap.size a2 s) (hn : a0 = none → c0 = 0)
    (z1 : ∀ z ∈ l, 0 ≤ z ∧ z ≤ 18446744073709551615) (z2 : ∀ z ∈ s, -9223372036854775808 ≤ z ∧ z ≤ 9223372036854775807) :
    Calls Try.prog 3 #[.slice a0 al.length c0, .slice a1 l.length c1, .slice a2 s.length c2] w fun e w' => e = .returned (.bool true) ∧ Below w.heap.size w w' := by
  obtain ⟨i0, hi, hz0, hz1, hz2⟩ := info_parts Try.infoU8
  obtain ⟨MC, hmk, hmade⟩ := made_any w.heap.size al.length (by omega) hi hz0 hz1 hz2
  have HI := Lib.hid hi
  have HZ0 := Lib.hid hz0
  have HZ1 := Lib.hid hz1
  have HZ2 := Lib.hid hz2
  have HMK := Lib.hid hmk
  have HMADE := Lib.hid hmade
  clear hi hz0 hz1 hz2 hmk hmade
  have hd : decide ((200 : Int) < (al.length : Int)) = false := decide_eq_false (by omega)
  have hd2 : decide ((100 : Int) < (l.length : Int) + (s.length : Int)) = false := decide_eq_false (by omega)
  have R0 := Lib.hid r0
  have R1 := Lib.hid r1
  have R2 := Lib.hid r2
  have Z1 := Lib.hid z1
  have Z2 := Lib.hid z2
  have HN := Lib.hid hn
  clear r0 r1 r2 z1 z2 hn
  go_enter Try.func3, Try.ntmps3
  go_wp2_with fail
  refine (lives2_any w).mono ?_
  rintro e w1 ⟨rfl, hb⟩
  have HW1 := Lib.hid hb
  clear hb
  go_upto_region 3 with fail
  go_cut [7] (fun o wx => Own wx w.heap.size o al ∧ Below w.heap.size w wx)
  case first =>
    have hmk := HMK.out
    have HMD := Lib.hid (HMADE.out w1 HW1.out.size)
    have HRA : Hid (Row .u8 (w1.alloc (.cells MC 5)) w.heap.size a0 al) := (R0.out.later HW1.out (Nat.le_refl _)).later (below_alloc1 w1 _) HW1.out.size
    have hws := HW1.out.size
    go_wp2_with (at_builtin; refine wpList_append_row rfl _ _ 22 rfl w.heap.size 5 i0 (.int .u8 0) 1 Try.underlying22 HI.out HZ0.out HZ1.out HZ2.out rfl _ _ _ rfl HMD.out a0 al.length c0 .u8 w.heap.size al rfl rfl HN.out HRA.out ?_ ?_ ?_ ?_; (unfold maxLen; omega); (omega); (simp; omega); intro v' w4 hown4 hgrow; have HG : Hid ((w1.alloc (.cells MC 5)).grownBy w4 (some w1.heap.size)) := hgrow; have HO4 := Lib.hid hown4; clear hgrow hown4)
    go_meet
    refine ⟨?_, (HW1.out.alloc HW1.out.size _).grown HG.out (by simp; omega) (fun k hk => by have := Option.some.inj hk; omega)⟩
    have := HO4.out
    rw [Nat.zero_add, List.nil_append] at this
    exact this
  case rest =>
    obtain ⟨hown, hb⟩ := hcut
    have HWC := Lib.hid hb
    obtain ⟨a7, c7, rfl, _, _, hr7⟩ := hown.row
    have R7 := Lib.hid hr7
    have hcv := fun q => str_row ((R0.out.later hb (Nat.le_refl _)).drewN (q := q)) c0
    clear hown hb hr7 HW1
    have hwc := HWC.out.size
    go_wp2
    go_quiet (fail)
    clear hcv
    go_wp2
    go_loopg [8, 49] l.length (fun m x i wr => ∃ j : Nat, m = l.length - j ∧ j ≤ l.length ∧ i = .int .i64 (j : Int) ∧ x = .string (strOfNums (al ++ encs (l.take j))) ∧ Below wc.heap.size wc wr)
    case atStart => exact ⟨0, by omega, by omega, rfl, by simp [encs], below_drewN (Below.refl _ _) _⟩
    case round =>
      obtain ⟨j, hm, hj, rfl, rfl, hbel⟩ := hrel
      have HM := Lib.hid hm
      have HB := Lib.hid hbel
      clear hm hbel
      by_cases hlt : j < l.length
      · obtain ⟨z, hzj⟩ : ∃ z, l[j]? = some z := ⟨l[j], List.getElem?_eq_getElem hlt⟩
        obtain ⟨bk, off, rfl, _, hc⟩ := ((R1.out.later HWC.out (Nat.le_refl _)).later HB.out hwc) j z hzj
        obtain ⟨z0, z1⟩ := Z1.out z (List.mem_of_getElem? hzj)
        have HT := Lib.hid (take_next hzj)
        clear hzj
        have hcat := cat_nums (al ++ encs (l.take j)) (enc z) (by have h1 := encs_length (l.take j); have h2 := sz_pos z; rw [enc_length, List.length_append]; rw [List.length_take] at h1; omega)
        have hstr : strOfNums (al ++ encs (l.take j) ++ enc z) = strOfNums (al ++ encs (l.take (j + 1))) := by rw [HT.out, encs_snoc, List.append_assoc]
        rw [hstr] at hcat
        clear hstr
        obtain ⟨o0, o1⟩ := opn_range z z0 z1
        have hfo := fold_any (opn z) o0 o1
        rw [fold_opn z z0] at hfo
        have HFO := Lib.hid hfo
        clear hfo
        generalize strOfNums (al ++ encs (l.take j)) = S at *
        generalize hS' : strOfNums (al ++ encs (l.take (j + 1))) = S' at *
        have HS' := Lib.hid hS'
        clear hS'
        go_wp2_with fail
        refine (rnumber_any z z0 z1 _).mono ?_
        rintro e w2 ⟨v2, rfl, ho2, hb2⟩
        have HB2 := Lib.hid (HB.out.trans (hb2.mono HB.out.size))
        obtain ⟨a3, c3, rfl, _, _, hr3⟩ := ho2.row
        have hcv := str_row hr3 c3
        rw [enc_length] at *
        clear ho2 hb2 hr3 hc
        generalize strOfNums (enc z) = E at *
        go_wp2_with fail
        refine (open_any z z0 z1 _).mono ?_
        rintro e w' ⟨rfl, rfl⟩
        go_wp2_with fail
        refine (HFO.out _).mono ?_
        rintro e w' ⟨rfl, rfl⟩
        go_wp2_with fail
        refine (open_any z z0 z1 _).mono ?_
        rintro e w' ⟨rfl, rfl⟩
        go_wp2_with fail
        refine (ropen_any z z0 z1 _).mono ?_
        rintro e w' ⟨rfl, rfl⟩
        go_wp2
        go_roundg (l.length - (j + 1))
        case measure => rw [HM.out]; omega
        case rel => exact ⟨j + 1, rfl, by omega, by go_num, by rw [HS'.out], HB2.out⟩
      · rw [show l.take j = l from List.take_of_length_le (by omega)]
        clear HM
        generalize hSL : strOfNums (al ++ encs l) = SL at *
        have HSL := Lib.hid hSL
        clear hSL
        go_wp2
        go_loopg [9, 73] s.length (fun m x i wx => ∃ j : Nat, m = s.length - j ∧ j ≤ s.length ∧ i = .int .i64 (j : Int) ∧ x = .string (strOfNums (al ++ encs ((s.take j).map fold))) ∧ Below wc.heap.size wc wx)
        case atStart => exact ⟨0, by omega, by omega, rfl, by simp [encs], HB.out⟩
        case round =>
          obtain ⟨i, hm, hi, rfl, rfl, hbel⟩ := hrel
          have HM := Lib.hid hm
          have HC := Lib.hid hbel
          clear hm hbel HB
          by_cases hlt2 : i < s.length
          · obtain ⟨z, hzj⟩ : ∃ z, s[i]? = some z := ⟨s[i], List.getElem?_eq_getElem hlt2⟩
            obtain ⟨bk, off, rfl, _, hc⟩ := ((R2.out.later HWC.out (Nat.le_refl _)).later HC.out hwc) i z hzj
            obtain ⟨z0, z1⟩ := Z2.out z (List.mem_of_getElem? hzj)
            obtain ⟨f0, f1⟩ := fold_range z z0 z1
            have HT := Lib.hid (take_next hzj)
            clear hzj
            have hcat := cat_nums (al ++ encs ((s.take i).map fold)) (enc (fold z)) (by have h1 := encs_length ((s.take i).map fold); have h2 := sz_pos (fold z); rw [enc_length, List.length_append]; rw [List.length_map, List.length_take] at h1; omega)
            have hstr : strOfNums (al ++ encs ((s.take i).map fold) ++ enc (fold z)) = strOfNums (al ++ encs ((s.take (i + 1)).map fold)) := by rw [HT.out, List.map_append, List.map_cons, List.map_nil, encs_snoc, List.append_assoc]
            rw [hstr] at hcat
            clear hstr
            have hfo := open_any (fold z) f0 f1
            rw [opn_fold z] at hfo
            have HFO := Lib.hid hfo
            have HNU := Lib.hid (rnumber_any (fold z) f0 f1)
            have HFZ := Lib.hid (fold_any z z0 z1)
            have HRZ := Lib.hid (rfold_any z z0 z1)
            clear hfo
            generalize strOfNums (al ++ encs ((s.take i).map fold)) = S at *
            generalize hS' : strOfNums (al ++ encs ((s.take (i + 1)).map fold)) = S' at *
            have HS' := Lib.hid hS'
            clear hS'
            generalize fold z = F at *
            go_wp2_with fail
            refine (HRZ.out _).mono ?_
            rintro e w' ⟨rfl, rfl⟩
            go_wp2_with fail
            refine (HNU.out _).mono ?_
            rintro e w2 ⟨v2, rfl, ho2, hb2⟩
            have HB2 := Lib.hid (HC.out.trans (hb2.mono HC.out.size))
            obtain ⟨a3, c3, rfl, _, _, hr3⟩ := ho2.row
            have hcv := str_row hr3 c3
            rw [enc_length] at *
            clear ho2 hb2 hr3 hc
            generalize strOfNums (enc F) = E at *
            go_wp2_with fail
            refine (HFZ.out _).mono ?_
            rintro e w' ⟨rfl, rfl⟩
            go_wp2_with fail
            refine (HFO.out _).mono ?_
            rintro e w' ⟨rfl, rfl⟩
            go_wp2_with fail
            refine (HFZ.out _).mono ?_
            rintro e w' ⟨rfl, rfl⟩
            go_wp2_with fail
            refine (HRZ.out _).mono ?_
            rintro e w' ⟨rfl, rfl⟩
            go_wp2
            go_roundg (s.length - (i + 1))
            case measure => rw [HM.out]; omega
            case rel => exact ⟨i + 1, rfl, by omega, by go_num, by rw [HS'.out], HB2.out⟩
          · rw [show s.take i = s from List.take_of_length_le (by omega)]
            clear HM
            generalize hSS : strOfNums (al ++ encs (s.map fold)) = SS at *
            have HSS := Lib.hid hSS
            clear hSS
            go_wp2_with fail
            refine (puts_any wc.heap.size a7 c7 al a1 c1 l _ HC.out.size (by omega) (by omega) (R7.out.later HC.out (Nat.le_refl _)) (((R1.out.later HWC.out (Nat.le_refl _)).later HC.out hwc).mono hwc) Z1.out).mono ?_
            rintro e w5 ⟨v5, rfl, ho5, hb5⟩
            obtain ⟨a5, c5, rfl, _, _, hr5⟩ := ho5.row
            have R5 := Lib.hid hr5
            have HC5 := Lib.hid (HC.out.trans (hb5.mono HC.out.size))
            clear ho5 hb5 hr5 HC
            go_wp2_with fail
            refine (putInts_any wc.heap.size a7 c7 al a2 c2 s _ HC5.out.size (by omega) (by omega) (R7.out.later HC5.out (Nat.le_refl _)) (((R2.out.later HWC.out (Nat.le_refl _)).later HC5.out hwc).mono hwc) Z2.out).mono ?_
            rintro e w6 ⟨v6, rfl, ho6, hb6⟩
            obtain ⟨a6, c6, rfl, _, _, hr6⟩ := ho6.row
            have hcv5 := str_row (R5.out.later hb6 (Nat.le_refl _)) c5
            have hcv6 := str_row hr6 c6
            rw [HSL.out, List.length_append] at hcv5
            rw [HSS.out, List.length_append] at hcv6
            have HC6 := Lib.hid (HC5.out.trans (hb6.mono HC5.out.size))
            clear ho6 hb6 hr6 HC5 R5
            go_wp2_with fail
            clear hcv5 hcv6
            refine (puts_any wc.heap.size none 0 [] a1 c1 l _ HC6.out.size (by simp) (by omega) Row.nil (((R1.out.later HWC.out (Nat.le_refl _)).later HC6.out hwc).mono hwc) Z1.out).mono ?_
            rintro e w7 ⟨v7, rfl, ho7, hb7⟩
            rw [List.nil_append] at ho7
            obtain ⟨a8, c8, rfl, _, _, hr8⟩ := ho7.row
            have R8 := Lib.hid hr8
            have HC7 := Lib.hid (HC6.out.trans (hb7.mono HC6.out.size))
            clear ho7 hb7 hr8 HC6
            have hel := encs_length l
            have hes := encs_length (s.map fold)
            rw [List.length_map] at hes
            go_wp2_with fail
            refine (putInts_any w7.heap.size a8 c8 (encs l) a2 c2 s _ (Nat.le_refl _) (by omega) (by omega) R8.out (((R2.out.later HWC.out (Nat.le_refl _)).later HC7.out hwc).mono (Nat.le_trans hwc HC7.out.size)) Z2.out).mono ?_
            rintro e w8 ⟨v8, rfl, ho8, hb8⟩
            rw [← encs_app] at ho8
            obtain ⟨a9, c9, rfl, _, _, hr9⟩ := ho8.row
            have R9 := Lib.hid hr9
            have HC8 := Lib.hid (HC7.out.trans (hb8.mono HC7.out.size))
            clear ho8 hb8 hr9 HC7 R8
            have hal : (encs (l ++ s.map fold)).length ≤ 1000000000 := by rw [encs_app, List.length_append]; omega
            go_wp2_with fail
            refine (read_any w8.heap.size a9 c9 (encs (l ++ s.map fold)) _ hal R9.out).mono ?_
            rintro e w9 ⟨rb, rfl, hge, hrd, hb9, _⟩
            have HRD := Lib.hid hrd
            have HW9 := Lib.hid (HWC.out.trans ((HC8.out.trans (hb9.mono HC8.out.size)).mono hwc))
            have hrb : w.heap.size ≤ rb := by have := HC8.out.size; omega
            clear hrd hb9 hge HC8 R9
            have hrg : ∀ z ∈ l ++ s.map fold, 0 ≤ z ∧ z ≤ 18446744073709551615 := by
              intro z hz
              rcases List.mem_append.1 hz with h | h
              · exact Z1.out z h
              · obtain ⟨x, hx, rfl⟩ := List.mem_map.1 h
                exact fold_range x (Z2.out x hx).1 (Z2.out x hx).2
            have HRG := Lib.hid hrg
            have HBY := Lib.hid (encs_range _ hrg)
            have hln : (l ++ s.map fold).length = l.length + s.length := by simp
            have HLN := Lib.hid hln
            have hgl : ∀ i z, l[i]? = some z → (l ++ s.map fold)[i]? = some z := fun i z h => by
              rw [List.getElem?_append_left (List.getElem?_eq_some_iff.1 h).1]; exact h
            have hgs : ∀ i z, s[i]? = some z → (l ++ s.map fold)[l.length + i]? = some (fold z) := fun i z h => by
              rw [List.getElem?_append_right (by omega)]; simp [h]
            have HGL := Lib.hid hgl
            have HGS := Lib.hid hgs
            clear hrg hln hgl hgs hal
            generalize l ++ s.map fold = xs at *
            go_wp2
            go_loopg [119] l.length (fun m i wx => ∃ j : Nat, m = l.length - j ∧ j ≤ l.length ∧ i = .int .i64 (j : Int) ∧ Rdr wx rb (encs xs) (encs (xs.take j)).length 0 ∧ Below w.heap.size w wx)
            case atStart => exact ⟨0, by omega, by omega, rfl, HRD.out, HW9.out⟩
            case round =>
              obtain ⟨k, hm, hk, rfl, hrd, hbel⟩ := hrel
              have HM := Lib.hid hm
              have HR := Lib.hid hrd
              have HD := Lib.hid hbel
              clear hm hrd hbel HRD HW9
              by_cases hlt3 : k < l.length
              · obtain ⟨z, hzj⟩ : ∃ z, l[k]? = some z := ⟨l[k], List.getElem?_eq_getElem hlt3⟩
                obtain ⟨bk, off, rfl, _, hc⟩ := (R1.out.later HD.out (Nat.le_refl _)) k z hzj
                have hu := uint_any _ HR.out HBY.out
                rw [upto_encs xs HRG.out k z (HGL.out k z hzj)] at hu
                have HU := Lib.hid hu
                clear hzj hu
                go_wp2_with fail
                refine HU.out.mono ?_
                rintro e w2 ⟨rfl, h1, h2⟩
                have H1 := Lib.hid h1
                have H2 := Lib.hid (HD.out.trans (h2.below hrb))
                clear h1 h2 hc
                go_wp2
                go_roundg (l.length - (k + 1))
                case measure => rw [HM.out]; omega
                case rel => exact ⟨k + 1, rfl, by omega, by go_num, H1.out, H2.out⟩
              · obtain rfl : k = l.length := by omega
                clear HM
                go_wp2
                go_loopg [130] s.length (fun m i wx => ∃ j : Nat, m = s.length - j ∧ j ≤ s.length ∧ i = .int .i64 (j : Int) ∧ Rdr wx rb (encs xs) (encs (xs.take (l.length + j))).length 0 ∧ Below w.heap.size w wx)
                case atStart => exact ⟨0, by omega, by omega, rfl, HR.out, HD.out⟩
                case round =>
                  obtain ⟨q, hm, hq, rfl, hrd, hbel⟩ := hrel
                  have HM := Lib.hid hm
                  have HR2 := Lib.hid hrd
                  have HD2 := Lib.hid hbel
                  clear hm hrd hbel HR HD
                  by_cases hlt4 : q < s.length
                  · obtain ⟨z, hzj⟩ : ∃ z, s[q]? = some z := ⟨s[q], List.getElem?_eq_getElem hlt4⟩
                    obtain ⟨bk, off, rfl, _, hc⟩ := (R2.out.later HD2.out (Nat.le_refl _)) q z hzj
                    have hu := int_any _ HR2.out HBY.out
                    rw [upto_encs xs HRG.out (l.length + q) (fold z) (HGS.out q z hzj)] at hu
                    simp only [opn_fold] at hu
                    have HU := Lib.hid hu
                    clear hzj hu
                    go_wp2_with fail
                    refine HU.out.mono ?_
                    rintro e w2 ⟨rfl, h1, h2⟩
                    have H1 := Lib.hid h1
                    have H2 := Lib.hid (HD2.out.trans (h2.below hrb))
                    clear h1 h2 hc
                    go_wp2
                    go_roundg (s.length - (q + 1))
                    case measure => rw [HM.out]; omega
                    case rel => exact ⟨q + 1, rfl, by omega, by go_num, H1.out, H2.out⟩
                  · have hfin := HR2.out
                    rw [show xs.take (l.length + q) = xs from List.take_of_length_le (by rw [HLN.out]; omega)] at hfin
                    have HE := Lib.hid (end_done _ hfin)
                    have HL := Lib.hid (fun q => left_any _ (hfin.drewN (q := q)))
                    rw [show ((encs xs).length : Int) - ((encs xs).length : Int) = 0 by omega] at HL
                    clear hfin HM
                    go_wp2_with fail
                    refine HE.out.mono ?_
                    rintro e w2 ⟨rfl, q2, rfl⟩
                    go_wp2_with fail
                    refine (HL.out q2).mono ?_
                    rintro e w2 ⟨rfl, q3, rfl⟩
                    go_wp2
                    go_ret
                    exact ⟨rfl, below_drewN HD2.out _⟩
end Go.Proofs.Ytbliddmkmieppaa
