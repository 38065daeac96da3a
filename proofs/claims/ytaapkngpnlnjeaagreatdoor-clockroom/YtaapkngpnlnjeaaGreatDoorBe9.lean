/- Package base: Read, Next: contracts. -/
import Derived.Test.YtaapkngpnlnjeaaGreatDoorP09
namespace Go.Proofs.YtaapkngpnlnjeaaGreatDoor
open Go.RowKit Go.Maps
set_option maxRecDepth 100000

/-- Is a cell of a square of level 2 alive, by quarter and place? -/
def c2 (N : List Nd) (x i j : Nat) : Bool := decide (kAt (kidZ N (kAt (kidZ N x) i)) j = 1)
/-- The cells of a square of level 2. -/
def Rd (N : List Nd) (x f : Nat) : Prop := f < 65536 ∧ ∀ i j, i < 4 → j < 4 → f.testBit (inQ i j) = c2 N x i j
theorem inQ_inj {a b c d : Nat} (ha : a < 4) (hb : b < 4) (hc : c < 4) (hd : d < 4) (h : inQ a b = inQ c d) : a = c ∧ b = d := by
  unfold inQ at h; omega
theorem inQ_all {k : Nat} (hk : k < 16) : ∃ i j, i < 4 ∧ j < 4 ∧ inQ i j = k := by
  refine ⟨2 * (k / 8) + k % 4 / 2, 2 * (k / 4 % 2) + k % 2, by omega, by omega, ?_⟩
  unfold inQ; omega
theorem Rd.uniq {N : List Nd} {x f g : Nat} (h : Rd N x f) (h' : Rd N x g) : f = g := by
  refine Nat.eq_of_testBit_eq fun k => ?_
  by_cases hk : k < 16
  · obtain ⟨i, j, hi, hj, rfl⟩ := inQ_all hk
    rw [h.2 i j hi hj, h'.2 i j hi hj]
  · have hp : (2 : Nat) ^ 16 ≤ 2 ^ k := Nat.pow_le_pow_right (by decide) (by omega)
    rw [Nat.testBit_lt_two_pow (Nat.lt_of_lt_of_le h.1 hp), Nat.testBit_lt_two_pow (Nat.lt_of_lt_of_le h'.1 hp)]
theorem Fr.rd {N : List Nd} {x f : Nat} (hf : f < 65536) (h : Fr N x f) : Rd N x f := by
  refine ⟨hf, fun i j hi hj => ?_⟩
  unfold c2
  rw [h.2 i hi]
  unfold qK
  rw [kAt_mk4 _ hj]
  cases f.testBit (inQ i j) <;> simp
theorem Rd.fr {N : List Nd} (hw : Wf N) {x f : Nat} (hx : Sq N 2 x) (h : Rd N x f) : Fr N x f := by
  refine ⟨hx, fun i hi => ?_⟩
  have hq := fo_iff.1 (hx.kid hw) i hi
  have hk := fo_iff.1 (hq.kid hw)
  rw [← mk4_kAt (kidZ N (kAt (kidZ N x) i))]
  refine mk4_ext fun j hj => ?_
  have h1 := h.2 i j hi hj
  unfold c2 at h1
  rcases (hk j hj).zero hw with e | e
  · rw [e] at h1 ⊢; rw [h1]; simp
  · rw [e] at h1 ⊢; rw [h1]; simp
theorem or_bit {f k m : Nat} : (f ||| 2 ^ k).testBit m = (f.testBit m || decide (k = m)) := by
  rw [Nat.testBit_or, Nat.testBit_two_pow]
theorem bix0 (a b c d : Bool) (w : World) : (Instr.index 174 (.agg #[.bool a, .bool b, .bool c, .bool d]) (.int .i64 0)).run Tryz.prog w = .ok (.bool a) w := by kernel_rfl
theorem bix1 (a b c d : Bool) (w : World) : (Instr.index 174 (.agg #[.bool a, .bool b, .bool c, .bool d]) (.int .i64 1)).run Tryz.prog w = .ok (.bool b) w := by kernel_rfl
theorem bix2 (a b c d : Bool) (w : World) : (Instr.index 174 (.agg #[.bool a, .bool b, .bool c, .bool d]) (.int .i64 2)).run Tryz.prog w = .ok (.bool c) w := by kernel_rfl
theorem bix3 (a b c d : Bool) (w : World) : (Instr.index 174 (.agg #[.bool a, .bool b, .bool c, .bool d]) (.int .i64 3)).run Tryz.prog w = .ok (.bool d) w := by kernel_rfl
theorem bix (f : Nat → Bool) {i : Nat} (hi : i < 4) (w : World) : (Instr.index 174 (.agg #[.bool (f 0), .bool (f 1), .bool (f 2), .bool (f 3)]) (.int .i64 (i : Int))).run Tryz.prog w = .ok (.bool (f i)) w := by
  have : i = 0 ∨ i = 1 ∨ i = 2 ∨ i = 3 := by omega
  rcases this with rfl | rfl | rfl | rfl
  · exact bix0 _ _ _ _ w
  · exact bix1 _ _ _ _ w
  · exact bix2 _ _ _ _ w
  · exact bix3 _ _ _ _ w
theorem read_bad {w : World} {sb g tb cap most : Nat} {N : List Nd} (h : St w sb g tb cap most N) (x : Nat) (hx : x < 4294967296) (hl : lvZ N x ≠ 2) :
    Calls Tryz.prog 98 #[.pointer (some ⟨sb, 0, none⟩), .int .u32 (x : Int)] w fun e w' => e = .returned (.tuple #[.int .u16 0, .iface 48 (.int .i64 1)]) ∧ w = w' := by
  have HS := Lib.hid h
  have hg : (lvZ N x == 2) = false := by simpa using hl
  have hg' : (lvZ N x != 2) = true := by simpa using hl
  clear h
  go_enter Tryz.func98, Tryz.ntmps98
  go_wp2_with fail
  refine (level_any HS.out x hx).mono ?_
  rintro e w5 ⟨rfl, rfl⟩
  go_wp2_with fail
  go_ret2
  exact ⟨rfl, rfl⟩
theorem read_nil (x : Nat) (hx : x < 4294967296) (w : World) :
    Calls Tryz.prog 98 #[.pointer none, .int .u32 (x : Int)] w fun e w' => e = .returned (.tuple #[.int .u16 0, .iface 48 (.int .i64 1)]) ∧ w = w' := by
  go_enter Tryz.func98, Tryz.ntmps98
  go_wp2_with fail
  refine (level_nil x hx _).mono ?_
  rintro e w5 ⟨rfl, rfl⟩
  go_wp2_with fail
  go_ret2
  exact ⟨rfl, rfl⟩
set_option maxHeartbeats 2000000 in
theorem read_any {w : World} {sb g tb cap most : Nat} {N : List Nd} (h : St w sb g tb cap most N) {x : Nat} (hx : Sq N 2 x) :
    Calls Tryz.prog 98 #[.pointer (some ⟨sb, 0, none⟩), .int .u32 (x : Int)] w fun e w' => ∃ f, Rd N x f ∧ e = .returned (.tuple #[.int .u16 (f : Int), .nilIface]) ∧ Below w.heap.size w w' := by
  have HS := Lib.hid h
  have HX := Lib.hid hx
  have hxu := Sq.u32 h hx
  have HLV := Lib.hid (level_any h x hxu)
  rw [show lvZ N x = ((2 : Nat) : Int) from hx] at HLV
  clear h hx
  go_enter Tryz.func98, Tryz.ntmps98
  go_wp2_with fail
  refine HLV.out.mono ?_
  rintro e w5 ⟨rfl, rfl⟩
  clear HLV
  go_wp2_with fail
  refine (of_sqk HS.out HX.out).mono ?_
  rintro e w5 ⟨rfl, hb⟩
  have HK := Lib.hid (fo_iff.1 (HX.out.kid HS.out.wf))
  have HKZ : Hid (kidZ N x = kidZ N x) := rfl
  generalize hk0 : kidZ N x = k0 at HK HKZ ⊢
  replace HKZ : Hid (kidZ N x = k0) := hk0
  clear hk0
  have HB5 := Lib.hid (hb.trans ((bel1 w5 (.cells #[.int .u32 (k0.1 : Int), .int .u32 (k0.2.1 : Int), .int .u32 (k0.2.2.1 : Int), .int .u32 (k0.2.2.2 : Int)] 63)).mono hb.size))
  have HC := Lib.hid (k_cells (heap_alloc_new w5 (.cells #[.int .u32 (k0.1 : Int), .int .u32 (k0.2.1 : Int), .int .u32 (k0.2.2.1 : Int), .int .u32 (k0.2.2.2 : Int)] 63)))
  clear hb
  obtain ⟨c0, c1, c2, c3⟩ := HC.out
  clear HC
  go_wp2_with fail
  clear c0 c1 c2 c3
  generalize w5.alloc (.cells #[.int .u32 (k0.1 : Int), .int .u32 (k0.2.1 : Int), .int .u32 (k0.2.2.1 : Int), .int .u32 (k0.2.2.2 : Int)] 63) = W6 at *
  generalize w5.heap.size = kb5
  go_loopg [6, 9, 10, 11, 12, 13, 14, 27] 4 (fun m v6 v9 v10 v11 v12 v13 v14 cnt wr => ∃ (i f : Nat), m = 4 - i ∧ i ≤ 4 ∧ cnt = .int .i64 (i : Int) ∧ v6 = .int .u16 (f : Int) ∧ f < 65536 ∧ (∀ a b, a < 4 → b < 4 → f.testBit (inQ a b) = (decide (a < i) && c2 N x a b)) ∧ Below w.heap.size w wr)
  case atStart => exact ⟨0, 0, rfl, Nat.zero_le _, rfl, rfl, by omega, fun a b _ _ => by simp, HB5.out⟩
  case round =>
    clear HB5
    obtain ⟨i, f, hm, hi, rfl, rfl, hf, hb, hB⟩ := hrel
    have HM := Lib.hid hm
    have HF := Lib.hid hf
    have HT := Lib.hid hb
    have HB := Lib.hid hB
    have HS1 := Lib.hid (HS.out.later hB)
    clear hm hf hb hB
    by_cases hlt : i < 4
    · have hgj : decide ((i : Int) < 4) = true := by simp; omega
      have hix := kix k0 hlt
      have HX1 : Hid (Sq N 1 (kAt k0 i)) := HK.out i hlt
      go_wp2_with fail
      refine (of_sqk HS1.out HX1.out).mono ?_
      rintro e w7 ⟨rfl, hb⟩
      have HC2 : Hid (∀ j, c2 N x i j = decide (kAt (kidZ N (kAt k0 i)) j = 1)) := fun j => by unfold c2; rw [HKZ.out]
      have HK2 := Lib.hid (fo_iff.1 (HX1.out.kid HS.out.wf))
      generalize kidZ N (kAt k0 i) = k1 at HC2 HK2 ⊢
      have HB7 := Lib.hid ((HB.out.trans (hb.mono HB.out.size)).trans ((bel1 w7 (.cells #[.int .u32 (k1.1 : Int), .int .u32 (k1.2.1 : Int), .int .u32 (k1.2.2.1 : Int), .int .u32 (k1.2.2.2 : Int)] 63)).mono (Nat.le_trans HB.out.size hb.size)))
      obtain ⟨c0, c1, c2_, c3⟩ := k_cells (heap_alloc_new w7 (.cells #[.int .u32 (k1.1 : Int), .int .u32 (k1.2.1 : Int), .int .u32 (k1.2.2.1 : Int), .int .u32 (k1.2.2.2 : Int)] 63))
      clear hb HB HS1
      go_wp2_with fail
      clear c0 c1 c2_ c3
      generalize w7.alloc (.cells #[.int .u32 (k1.1 : Int), .int .u32 (k1.2.1 : Int), .int .u32 (k1.2.2.1 : Int), .int .u32 (k1.2.2.2 : Int)] 63) = W8 at *
      go_loopg [6, 13, 14, 38] 4 (fun m v6 v13 v14 cnt wr => ∃ (j f : Nat), m = 4 - j ∧ j ≤ 4 ∧ cnt = .int .i64 (j : Int) ∧ v6 = .int .u16 (f : Int) ∧ f < 65536 ∧ (∀ a b, a < 4 → b < 4 → f.testBit (inQ a b) = ((decide (a < i) || (decide (a = i) && decide (b < j))) && c2 N x a b)) ∧ Below w.heap.size w wr)
      case atStart => exact ⟨0, f, rfl, Nat.zero_le _, rfl, rfl, HF.out, fun a b ha hb => by rw [HT.out a b ha hb]; simp, HB7.out⟩
      case round =>
        clear HB7 HT HF
        obtain ⟨j, f2, hm, hj, rfl, rfl, hf, hb, hB⟩ := hrel
        have HM2 := Lib.hid hm
        have HF2 := Lib.hid hf
        have HT2 := Lib.hid hb
        have HB2 := Lib.hid hB
        clear hm hf hb hB
        by_cases hlt2 : j < 4
        · have hgj2 : decide ((j : Int) < 4) = true := by simp; omega
          have hix2 := kix k1 hlt2
          have hc := HC2.out j
          rcases (HK2.out j hlt2).zero HS.out.wf with hz | hz
          · rw [hz] at hix2 hc
            have hc' : c2 N x i j = false := by rw [hc]; decide
            have HC3 := Lib.hid hc'
            clear hc hc' hz
            go_wp2_with fail
            go_roundg (4 - (j + 1))
            case measure => rw [HM2.out]; omega
            case rel =>
              refine ⟨j + 1, f2, rfl, by omega, by go_num, rfl, HF2.out, fun a b ha hb => ?_, HB2.out⟩
              rw [HT2.out a b ha hb]
              by_cases e : a = i ∧ b = j
              · obtain ⟨rfl, rfl⟩ := e
                rw [HC3.out]; simp
              · congr 2
                by_cases e1 : a = i
                · have : b ≠ j := fun e2 => e ⟨e1, e2⟩
                  rw [show decide (b < j + 1) = decide (b < j) by rw [decide_eq_decide]; omega]
                · simp [e1]
          · rw [hz] at hix2 hc
            have hc' : c2 N x i j = true := by rw [hc]; decide
            have HC3 := Lib.hid hc'
            have HIQ := Lib.hid (inQ_any i j hlt hlt2)
            clear hc hc' hz
            go_wp2_with fail
            refine (HIQ.out _).mono ?_
            rintro e w9 ⟨rfl, rfl⟩
            have hl := inQ_lt hlt hlt2
            have hp : (2 : Nat) ^ inQ i j < 65536 := Nat.lt_of_le_of_lt (Nat.pow_le_pow_right (by decide) (show inQ i j ≤ 15 by omega)) (by decide)
            have hpw : (2 : Int) ^ inQ i j = ((2 ^ inQ i j : Nat) : Int) := by rw [Int.natCast_pow]; rfl
            have hw3 : IntKind.u16.wrap ((2 : Int) ^ inQ i j) = (2 : Int) ^ inQ i j := by
              rw [hpw]
              generalize 2 ^ inQ i j = P at hp
              exact IntWalk.u16_in _ (by omega)
            have hw2 := or_u16 f2 (2 ^ inQ i j) HF2.out hp
            rw [← hpw] at hw2
            have HP := Lib.hid (Nat.or_lt_two_pow (n := 16) HF2.out hp)
            clear hp hpw
            go_wp2_with fail
            go_roundg (4 - (j + 1))
            case measure => rw [HM2.out]; omega
            case rel =>
              refine ⟨j + 1, f2 ||| 2 ^ inQ i j, rfl, by omega, by go_num, rfl, HP.out, fun a b ha hb => ?_, HB2.out⟩
              rw [or_bit, HT2.out a b ha hb]
              by_cases e : a = i ∧ b = j
              · obtain ⟨rfl, rfl⟩ := e
                rw [HC3.out]; simp
              · have : inQ i j ≠ inQ a b := fun e2 => e (by obtain ⟨h1, h2⟩ := inQ_inj hlt hlt2 ha hb e2; exact ⟨h1.symm, h2.symm⟩)
                rw [decide_eq_false this, Bool.or_false]
                congr 2
                by_cases e1 : a = i
                · have : b ≠ j := fun e2 => e ⟨e1, e2⟩
                  rw [show decide (b < j + 1) = decide (b < j) by rw [decide_eq_decide]; omega]
                · simp [e1]
        · obtain rfl : j = 4 := by omega
          have hgj2 : decide (((4 : Nat) : Int) < 4) = false := by simp
          go_wp2_with fail
          go_roundg (4 - (i + 1))
          case measure => rw [HM.out]; omega
          case rel =>
            refine ⟨i + 1, f2, rfl, by omega, by go_num, rfl, HF2.out, fun a b ha hb => ?_, HB2.out⟩
            rw [HT2.out a b ha hb]
            congr 1
            rw [Bool.eq_iff_iff]
            simp only [Bool.or_eq_true, Bool.and_eq_true, decide_eq_true_eq]
            omega
    · obtain rfl : i = 4 := by omega
      have hgj : decide (((4 : Nat) : Int) < 4) = false := by simp
      go_wp2_with fail
      go_ret2
      exact ⟨f, ⟨HF.out, fun a b ha hb => by rw [HT.out a b ha hb]; simp [ha]⟩, rfl, HB.out⟩
/-- The square in the middle, one generation later. -/
def nK (f : Nat) : K4 := mk4 fun i => if innF f i then 1 else 0
theorem nK_fo {N : List Nd} (hw : Wf N) (f : Nat) : Fo N 0 (nK f) := by
  refine fo_iff.2 fun j hj => ?_
  unfold nK
  rw [kAt_mk4 _ hj]
  split
  · exact sq_alive hw
  · exact sq_dead hw
theorem next_bad {w : World} {sb g tb cap most : Nat} {N : List Nd} (h : St w sb g tb cap most N) (x : Nat) (hx : x < 4294967296) (hl : lvZ N x ≠ 2) :
    Calls Tryz.prog 91 #[.pointer (some ⟨sb, 0, none⟩), .int .u32 (x : Int)] w fun e w' => e = .returned (.tuple #[.int .u32 0, .iface 48 (.int .i64 1)]) ∧ w = w' := by
  have HS := Lib.hid h
  clear h
  go_enter Tryz.func91, Tryz.ntmps91
  go_wp2_with fail
  refine (read_bad HS.out x hx hl).mono ?_
  rintro e w5 ⟨rfl, rfl⟩
  go_wp2_with fail
  go_ret2
  exact ⟨rfl, rfl⟩
theorem next_nil (x : Nat) (hx : x < 4294967296) (w : World) :
    Calls Tryz.prog 91 #[.pointer none, .int .u32 (x : Int)] w fun e w' => e = .returned (.tuple #[.int .u32 0, .iface 48 (.int .i64 1)]) ∧ w = w' := by
  go_enter Tryz.func91, Tryz.ntmps91
  go_wp2_with fail
  refine (read_nil x hx _).mono ?_
  rintro e w5 ⟨rfl, rfl⟩
  go_wp2_with fail
  go_ret2
  exact ⟨rfl, rfl⟩
set_option maxHeartbeats 2000000 in
theorem next_any {w : World} {sb g tb cap most : Nat} {N : List Nd} (h : St w sb g tb cap most N) {x : Nat} (hx : Sq N 2 x) :
    Calls Tryz.prog 91 #[.pointer (some ⟨sb, 0, none⟩), .int .u32 (x : Int)] w fun e w' => ∃ g' N' f, Rd N x f ∧ Nx sb tb most w g N 1 w' g' N' ∧
      ((∃ r : Nat, e = .returned (.tuple #[.int .u32 (r : Int), .nilIface]) ∧ Sq N' 1 r ∧ kidZ N' r = nK f ∧ ((∃ y, Sq N 1 y ∧ kidZ N y = nK f) → N' = N)) ∨ (e = .returned (.tuple #[.int .u32 0, .iface 48 (.int .i64 7)]) ∧ most ≤ N'.length)) := by
  have HS := Lib.hid h
  have HX := Lib.hid hx
  clear h hx
  go_enter Tryz.func91, Tryz.ntmps91
  go_wp2_with fail
  refine (read_any HS.out HX.out).mono ?_
  rintro e w5 ⟨f, hrd, rfl, hb⟩
  have HRD := Lib.hid hrd
  have HB := Lib.hid (hb.trans ((bel1 w5 (.cells #[.int .u32 0, .int .u32 0, .int .u32 0, .int .u32 0] 63)).mono hb.size))
  have HKB := Lib.hid (heap_alloc_new w5 (.cells #[.int .u32 0, .int .u32 0, .int .u32 0, .int .u32 0] 63))
  have hkb : w.heap.size ≤ w5.heap.size := hb.size
  clear hrd hb
  go_wp2_with fail
  generalize w5.alloc (.cells #[.int .u32 0, .int .u32 0, .int .u32 0, .int .u32 0] 63) = W6 at *
  generalize w5.heap.size = kb at *
  refine (inner_any f HRD.out.1 _).mono ?_
  rintro e w7 ⟨rfl, hb⟩
  have HB7 := Lib.hid (HB.out.trans (hb.mono HB.out.size))
  have HK7 := Lib.hid (kept HKB.out hb)
  clear hb HB HKB
  unfold bV
  go_wp2_with fail
  go_loopg [9, 10, 22] 4 (fun m v9 v10 cnt wr => ∃ (j : Nat) (q : Nat → Nat), m = 4 - j ∧ j ≤ 4 ∧ cnt = .int .i64 (j : Int) ∧ wr.heap[kb]? = some (kO (mk4 q)) ∧ (∀ i, i < j → q i = if innF f i then 1 else 0) ∧ Below w.heap.size w wr)
  case atStart => exact ⟨0, fun _ => 0, rfl, Nat.zero_le _, rfl, HK7.out, fun i hi => by omega, HB7.out⟩
  case round =>
    clear HB7 HK7
    obtain ⟨j, q, hm, hj, rfl, hk, hq, hB⟩ := hrel
    have HM := Lib.hid hm
    have HK := Lib.hid hk
    have HQ := Lib.hid hq
    have HB := Lib.hid hB
    clear hm hk hq hB
    by_cases hlt : j < 4
    · have hgj : decide ((j : Int) < 4) = true := by simp; omega
      have hix := bix (innF f) hlt
      obtain ⟨t3, t4⟩ := k_cell HK.out hlt
      have i3 : (0 : Int) ≤ (j : Int) := by omega
      have i4 : (j : Int) < 4 := by omega
      go_wp2_with fail
      refine (cell_any _ _).mono ?_
      rintro e w8 ⟨he, rfl⟩
      generalize hv : (if innF f j = true then (1 : Nat) else 0) = v at he
      have HV := Lib.hid hv.symm
      clear hv
      subst he
      go_wp2_with fail
      go_roundg (4 - (j + 1))
      case measure => rw [HM.out]; omega
      case rel =>
        refine ⟨j + 1, fun i => if i = j then v else q i, rfl, by omega, by go_num, ?_, fun i hi => ?_, HB.out.setCell (p := ⟨kb, j, none⟩) hkb _⟩
        · rw [k_set HK.out hlt v]
          refine congrArg some (congrArg kO (mk4_ext fun i hi => ?_))
          show (if i = j then v else kAt (mk4 q) i) = _
          rw [kAt_mk4 _ hi]
        · show (if i = j then v else q i) = _
          by_cases e : i = j
          · subst e; rw [if_pos rfl]; exact HV.out
          · rw [if_neg e]; exact HQ.out i (by omega)
    · obtain rfl : j = 4 := by omega
      have hgj : decide (((4 : Nat) : Int) < 4) = false := by simp
      have HE : Hid (mk4 q = nK f) := mk4_ext HQ.out
      rw [HE.out] at HK
      obtain ⟨c0, c1, c2, c3⟩ := k_cells HK.out
      have HS1 := Lib.hid (HS.out.later HB.out)
      have HMK := Lib.hid (make_sq HS1.out (n := 0) (by omega) (nK_fo HS.out.wf f))
      go_wp2_with fail
      refine HMK.out.mono ?_
      rintro e w8 ⟨g8, M8, hnx, hres⟩
      obtain ⟨r, ev, rfl, hres2⟩ := two_out9 hres
      clear hres
      have HNX : Hid (Nx sb tb most w g N 1 w8 g8 M8) := by
        have := (Nx.of_below HS.out HB.out).trans hnx
        exact this.mono (by omega)
      clear hnx HMK
      rcases hres2 with ⟨rfl, hsq⟩ | ⟨rfl, rfl, hfull⟩
      · have HR := Lib.hid hsq
        clear hsq
        go_wp2_with fail
        go_ret2
        exact ⟨g8, M8, f, HRD.out, HNX.out, Or.inl ⟨r, rfl, HR.out⟩⟩
      · have HF := Lib.hid hfull
        clear hfull
        go_wp2_with fail
        go_ret2
        exact ⟨g8, M8, f, HRD.out, HNX.out, Or.inr ⟨rfl, HF.out⟩⟩
end Go.Proofs.YtaapkngpnlnjeaaGreatDoor
