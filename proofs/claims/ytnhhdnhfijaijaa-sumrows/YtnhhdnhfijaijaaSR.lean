/- The law SumRows: its walk. -/
import Derived.Test.YtnhhdnhfijaijaaSl
import Derived.Test.YtnhhdnhfijaijaaCls
import Derived.Test.YtnhhdnhfijaijaaSeq
import Derived.Deep.DeepCutAuto
import Derived.Deep.RegionHeld3
namespace Go.Proofs.Ytnhhdnhfijaijaa
open Go.RowKit

theorem at_mod1 (z : Int) (n : Nat) (h : n ≤ 20000) : ∃ i : Nat, wrap64 ((IntKind.u64.wrap z).tmod ((n : Int) + 1)) = (i : Int) ∧ i ≤ n := by
  have h0 : 0 ≤ IntKind.u64.wrap z := by rw [IntKind.wrap_u64]; omega
  rw [Int.tmod_eq_emod_of_nonneg h0]
  have h1 := Int.emod_nonneg (IntKind.u64.wrap z) (b := (n : Int) + 1) (by omega)
  have h2 := Int.emod_lt_of_pos (IntKind.u64.wrap z) (b := (n : Int) + 1) (by omega)
  refine ⟨(IntKind.u64.wrap z % ((n : Int) + 1)).toNat, ?_, by omega⟩
  generalize IntKind.u64.wrap z % ((n : Int) + 1) = q at *
  unfold wrap64
  omega
theorem str_ne (x y : List Int) (hx : ∀ v ∈ x, 0 ≤ v ∧ v ≤ 255) (hy : ∀ v ∈ y, 0 ≤ v ∧ v ≤ 255) (h : x ≠ y) : ((strOfNums x).toList == (strOfNums y).toList) = false := by
  cases e : (strOfNums x).toList == (strOfNums y).toList
  · rfl
  · exfalso
    apply h
    have e' := eq_of_beq e
    rw [Lib.toList_data, Lib.toList_data, strOfNums_data, strOfNums_data] at e'
    clear e h
    induction x generalizing y with
    | nil => cases y with
      | nil => rfl
      | cons _ _ => simp at e'
    | cons a x ih => cases y with
      | nil => simp at e'
      | cons b y =>
        simp only [List.map_cons, List.cons.injEq] at e'
        obtain ⟨e1, e2⟩ := e'
        have ha := hx a (by simp)
        have hb := hy b (by simp)
        have e3 := congrArg UInt8.toNat e1
        simp only [UInt8.toNat_ofNat'] at e3
        rw [ih y (fun v hv => hx v (List.mem_cons_of_mem _ hv)) (fun v hv => hy v (List.mem_cons_of_mem _ hv)) e2, show a = b by omega]

set_option maxRecDepth 100000 in
set_option maxHeartbeats 1000000 in
theorem srows_great (a0 a2 : Option Addr) (n0 n2 c0 c2 : Nat) (at' : Int) (w : World) (h0 : n0 ≤ 1000000000000000) (h2 : n2 ≤ 1000000000000000) (h : 20000 < n0 + n2) :
    Calls Try.prog 3 #[.slice a0 n0 c0, .int .i64 at', .slice a2 n2 c2] w fun e w' => e = .returned (.bool true) ∧ Below w.heap.size w w' := by
  have hs : (20000 : Int) < (n0 : Int) + (n2 : Int) := by omega
  go_enter Try.func3, Try.ntmps3
  go_wp2_with fail
  refine (lives3_any w).mono ?_
  rintro e w1 ⟨rfl, hb⟩
  have HB := Lib.hid hb
  clear hb
  go_wp2_with fail
  refine (lives3_any w1).mono ?_
  rintro e w2 ⟨rfl, hb⟩
  have HB2 := Lib.hid hb
  clear hb
  go_wp2
  go_ret
  exact ⟨rfl, HB.out.trans (HB2.out.mono HB.out.size)⟩

/-- A variable that holds a state. -/
def StAt (w : World) (sb : Nat) (zs : List Int) : Prop := w.heap[sb]? = some (.cells #[.int .u32 ((crcz zs).toNat : Int), .int .i64 (zs.length : Int)] 27 (0, 0))
theorem StAt.later {w w' : World} {sb : Nat} {zs : List Int} (h : StAt w sb zs) (hb : Below w.heap.size w w') : StAt w' sb zs := by
  unfold StAt at *
  rw [hb.block sb (Array.getElem?_eq_some_iff.1 h).1]; exact h

theorem kept_st {v w3 : World} {n : Nat} {o : Obj} (hv : v.heap[n]? = some o) (h : Below v.heap.size v w3) : w3.heap[n]? = some o := by
  rw [h.block n (Array.getElem?_eq_some_iff.1 hv).1, hv]
theorem kept_drew {W w3 : World} {o : Obj} (h : Below (W.alloc o).drew.heap.size (W.alloc o).drew w3) : w3.heap[W.heap.size]? = some o := kept_st (v := (W.alloc o).drew) (heap_alloc_new W o) h
theorem kept_alloc {W w3 : World} {o : Obj} (h : Below (W.alloc o).heap.size (W.alloc o) w3) : w3.heap[W.heap.size]? = some o := kept_st (heap_alloc_new W o) h
theorem kept_cells {w3 : World} {n : Nat} (h : w3.heap[n]? = some (.cells #[.int .u32 0, .int .i64 0] 27 (0, 0))) :
    w3.cell? ⟨n, 0, none⟩ = some (.int .u32 0) ∧ w3.cell? ⟨n, 1, none⟩ = some (.int .i64 0) ∧ w3.frozen? ⟨n, 0, none⟩ = false ∧ w3.frozen? ⟨n, 1, none⟩ = false := by
  refine ⟨by rw [cell_in h]; rfl, by rw [cell_in h]; rfl, ?_, ?_⟩
  · simp [World.frozen?, h]
  · simp [World.frozen?, h]

theorem block_set2 {w : World} {g i : Nat} {cs : Array Value} {t : TypeId} {fr : Nat × Nat} (h : w.heap[g]? = some (.cells cs t fr)) (v : Value) : (w.setCell ⟨g, i, none⟩ v).heap[g]? = some (.cells (cs.setIfInBounds i v) t fr) := by
  rw [setCell_eq_setRow w g i cs t fr v h]
  exact setRow_heap w g _ _ t _ h
theorem two_set {w : World} {n : Nat} {cs : Array Value} {t : TypeId} (h : w.heap[n]? = some (.cells cs t (0, 0))) (hs : cs.size = 2) (u v : Value) : ((w.setCell ⟨n, 0, none⟩ u).setCell ⟨n, 1, none⟩ v).heap[n]? = some (.cells #[u, v] t (0, 0)) := by
  rw [block_set2 (block_set2 h u) v]
  match cs, hs with
  | ⟨[a, b]⟩, _ => rfl

/-- Whether a row is a sealed one. -/
def IsSealed (y : List Int) : Prop := 4 ≤ y.length ∧ sealed (y.take (y.length - 4)) = y
theorem open_any (zs : List Int) (a : Option Addr) (c : Nat) (w : World) (hr : Row .u8 w w.heap.size a zs) (hn : a = none → c = 0) (hc : zs.length ≤ c) (hz : ∀ z ∈ zs, 0 ≤ z ∧ z ≤ 255) (hl : zs.length ≤ 1000000) :
    Calls Try.prog 11 #[.slice a zs.length c] w fun e w' => Below w.heap.size w w' ∧ ((IsSealed zs ∧ ∃ v', e = .returned (.tuple #[v', .bool true]) ∧ Own w' w.heap.size v' (zs.take (zs.length - 4))) ∨ (¬ IsSealed zs ∧ e = .returned (.tuple #[.slice none 0 0, .bool false]))) := by
  by_cases h4 : 4 ≤ zs.length
  · refine (open_long zs a c w hr hn hc hz h4 hl).mono ?_
    rintro e w' ⟨hb, ⟨h, h'⟩ | ⟨h, h'⟩⟩
    · exact ⟨hb, Or.inl ⟨⟨h4, h⟩, h'⟩⟩
    · exact ⟨hb, Or.inr ⟨fun hh => h hh.2, h'⟩⟩
  · refine (open_short zs.length a c w (by omega)).mono ?_
    rintro e w' ⟨rfl, rfl⟩
    exact ⟨Below.refl _ _, Or.inr ⟨fun hh => h4 hh.1, rfl⟩⟩
theorem sealed_is (zs : List Int) : IsSealed (sealed zs) := by
  refine ⟨by rw [sealed_length]; omega, ?_⟩
  rw [sealed_length, Nat.add_sub_cancel]
  have : (sealed zs).take zs.length = zs := by unfold sealed; simp
  rw [this]
theorem sealed_take (zs : List Int) : (sealed zs).take ((sealed zs).length - 4) = zs := by
  rw [sealed_length, Nat.add_sub_cancel]
  unfold sealed; simp

theorem whole_row {w : World} {g n : Nat} {x : List Int} {t : TypeId} (h : w.heap[g]? = some (.cells ((x ++ List.replicate n 0).map (Value.int .u8)).toArray t (0, 0))) : Row .u8 w w.heap.size (some ⟨g, 0, none⟩) x := by
  intro j z hz
  have hj := (List.getElem?_eq_some_iff.1 hz).1
  refine ⟨g, 0, rfl, (Array.getElem?_eq_some_iff.1 h).1, ?_⟩
  rw [cell_in h, Nat.zero_add, List.getElem?_toArray, List.getElem?_map, List.getElem?_append_left hj, hz]
  rfl
theorem whole_tail {w : World} {g n : Nat} {x : List Int} {t : TypeId} (h : w.heap[g]? = some (.cells ((x ++ List.replicate n 0).map (Value.int .u8)).toArray t (0, 0))) (m : Nat) (hm : m ≤ n) : Row .u8 w w.heap.size (some ⟨g, x.length, none⟩) (List.replicate m 0) := by
  intro j z hz
  have hj := (List.getElem?_eq_some_iff.1 hz).1
  rw [List.length_replicate] at hj
  rw [List.getElem?_replicate, if_pos hj] at hz
  refine ⟨g, x.length, rfl, (Array.getElem?_eq_some_iff.1 h).1, ?_⟩
  rw [cell_in h, List.getElem?_toArray, List.getElem?_map, List.getElem?_append_right (by omega), List.getElem?_replicate, if_pos (by omega)]
  obtain rfl := Option.some.inj hz
  rfl

/-- In a region that draws its order: an operation that yields its value in every world is taken first. -/
theorem any_pure {P : Program} {md : Region.Mode} {ops : Array Oper} {Q : Exit → Act → World → Prop} {i : Nat} {oi : Oper} {v : Value} {fuel : Nat} {listed : Array Bool} {a : Act} {w : World} (hi : ops[i]? = some oi) (hs : Region.noSelect ops = true) (hf : Region.free md ops listed i = true) (hr : (Region.ready md ops listed).contains i = true)
    (hQ : ∀ c a w, Q (.panic c) (a.put oi.dst v) w → Q (.panic c) a w) (hw : Region.wanted oi (yielded ops a.tmps) = true) (hv : ∀ w, (execOp a.eval oi).run P w = .ok (.value v) w)
    (h : wpAny P md ops Q fuel (listed.setIfInBounds i true) (a.put oi.dst v) w) : wpAny P md ops Q (fuel + 1) listed a w :=
  wpAny_take hi hs hf hr hQ (Or.inl ⟨hw, hv⟩) h
/-- An operation that alone may come up. -/
theorem any_one {P : Program} {md : Region.Mode} {ops : Array Oper} {Q : Exit → Act → World → Prop} {i : Nat} {o : Oper} {fuel : Nat} {listed : Array Bool} {a : Act} {w : World} (hr : Region.ready md ops listed = [i]) (ho : ops[i]? = some o) (hw : Region.wanted o (yielded ops a.tmps) = true)
    (h : ∀ K : Act → World → Prop, (∀ a w, wpAny P md ops Q fuel (listed.setIfInBounds i true) a w → K a w) → Oper.wp P o a w K Q) : wpAny P md ops Q (fuel + 1) listed a w :=
  wpAny_ready hr (by simp) (AllReady.cons ho (fun K hK => by rw [if_pos hw]; exact h K hK) AllReady.nil)
theorem own_cut (n g : Nat) (W : World) : (Instr.slice 22 (.slice (some ⟨g, 0, none⟩) n (n + 9)) none (some (.int .i64 ((n : Int) + 4))) none).run Try.prog W = .ok (.slice (some ⟨g, 0, none⟩) (n + 4) (n + 9)) W := by
  rw [run_slice_h (P := Try.prog) (w := W) 22 _ _ _ Try.underlying22 .i64 ((n : Int) + 4) (by omega) (by omega), show Try.prog.elem 22 = 5 by kernel_rfl, Try.sizeOf5]
  simp [Result.andThen, sliced, add_at]
  omega
theorem own_end (n g : Nat) (W : World) : (Instr.slice 22 (.slice (some ⟨g, 0, none⟩) (n + 4) (n + 9)) (some (.int .i64 (n : Int))) none none).run Try.prog W = .ok (.slice (some ⟨g, n, none⟩) 4 9) W := by
  rw [run_slice_l (P := Try.prog) (w := W) 22 _ _ _ Try.underlying22 .i64 (n : Int) (by omega) (by omega), show Try.prog.elem 22 = 5 by kernel_rfl, Try.sizeOf5]
  simp [Result.andThen, sliced, add_at]
theorem join_parts (x : List Int) (k : Nat) (hk : k ≤ x.length) (hl : x.length ≤ 20000) (W : World) :
    Calls Try.prog 16 #[.int .u32 ((crcz (x.take k)).toNat : Int), .int .u32 ((crcz (x.drop k)).toNat : Int), .int .i64 ((x.length : Int) - (k : Int))] W fun e w' => e = .returned (.int .u32 ((crcz x).toNat : Int)) ∧ W = w' := by
  have h := join_crc (x.take k) (x.drop k) ((x.length : Int) - (k : Int)) (by rw [List.length_drop]; omega) (by rw [List.length_drop]; omega) W
  rw [List.take_append_drop] at h
  exact h
theorem sum_st (zs : List Int) (n : Nat) (hn : zs.length = n) (W : World) :
    Calls Try.prog 14 #[.agg #[.int .u32 ((crcz zs).toNat : Int), .int .i64 (n : Int)]] W fun e w' => e = .returned (.int .u32 ((crcz zs).toNat : Int)) ∧ Below W.heap.size W w' := by
  subst hn
  exact sum_any zs W
theorem len_st (zs : List Int) (n : Nat) (hn : zs.length = n) (W : World) :
    Calls Try.prog 15 #[.agg #[.int .u32 ((crcz zs).toNat : Int), .int .i64 (n : Int)]] W fun e w' => e = .returned (.int .i64 (n : Int)) ∧ Below W.heap.size W w' := by
  subst hn
  exact len_any zs W

set_option maxRecDepth 100000 in
set_option maxHeartbeats 40000000 in
theorem srows_small (a0 a2 : Option Addr) (c0 c2 : Nat) (at' : Int) (x y : List Int) (w : World) (h : x.length + y.length ≤ 20000) (hc0 : x.length ≤ c0) (hc2 : y.length ≤ c2)
    (r0 : Row .u8 w w.heap.size a0 x) (r2 : Row .u8 w w.heap.size a2 y) (n0 : a0 = none → c0 = 0) (n2 : a2 = none → c2 = 0)
    (z0 : ∀ v ∈ x, 0 ≤ v ∧ v ≤ 255) (z2 : ∀ v ∈ y, 0 ≤ v ∧ v ≤ 255) :
    Calls Try.prog 3 #[.slice a0 x.length c0, .int .i64 at', .slice a2 y.length c2] w fun e w' => e = .returned (.bool true) ∧ Below w.heap.size w w' := by
  have hd : decide ((20000 : Int) < (x.length : Int) + (y.length : Int)) = false := decide_eq_false (by omega)
  obtain ⟨k, hk, hkn⟩ := at_mod1 at' x.length (by omega)
  obtain ⟨hs3, hr3⟩ := cut_low r0 hc0 k hkn
  obtain ⟨a4, hs4, hr4, hn4⟩ := cut_high r0 n0 hc0 k hkn
  have R0 := Lib.hid r0
  have R2 := Lib.hid r2
  have Z0 := Lib.hid z0
  have Z2 := Lib.hid z2
  have N0 := Lib.hid n0
  have N2 := Lib.hid n2
  have R3 := Lib.hid hr3
  have R4 := Lib.hid hr4
  clear r0 r2 z0 z2 n0 n2 hr3 hr4
  have HK := Lib.hid hk
  clear hk
  have hl3 : (x.take k).length = k := by rw [List.length_take]; omega
  have hl4 : (x.drop k).length = x.length - k := by rw [List.length_drop]
  have HL3 := Lib.hid hl3
  have HL4 := Lib.hid hl4
  have Z3 : Hid (∀ v ∈ x.take k, 0 ≤ v ∧ v ≤ 255) := fun v hv => Z0.out v (List.mem_of_mem_take hv)
  have Z4 : Hid (∀ v ∈ x.drop k, 0 ≤ v ∧ v ≤ 255) := fun v hv => Z0.out v (List.mem_of_mem_drop hv)
  go_enter Try.func3, Try.ntmps3
  go_wp2_with fail
  refine (lives3_any w).mono ?_
  rintro e w1 ⟨rfl, hb⟩
  have HB1 := Lib.hid hb
  clear hb
  have hws := HB1.out.size
  go_upto_region 4 with fail
  rw [HK.out]
  go_cut [8] (fun p wx => ∃ sb, p = .pointer (some ⟨sb, 0, none⟩) ∧ w.heap.size ≤ sb ∧ StAt wx sb (x.take k) ∧ Below w.heap.size w wx)
  case first => as_aux_lemma =>
    have hadd : ∀ W : World, Below w.heap.size w W → Calls Try.prog 8 #[St [], .slice a0 k c0] W fun e w' => e = .returned (.agg #[.int .u32 ((crcz (x.take k)).toNat : Int), .int .i64 (k : Int)]) ∧ Below W.heap.size W w' := by
      intro W hW
      have := add_any [] (x.take k) a0 c0 W ((R3.out.later hW (Nat.le_refl _)).mono hW.size) Z3.out (by rw [HL3.out]; simp; omega)
      unfold St at this
      rw [List.nil_append, HL3.out] at this
      exact this
    have HADD := Lib.hid hadd
    clear hadd
    generalize hX : (crcz (x.take k)).toNat = X at *
    have HX := Lib.hid hX
    clear hX
    have HBD := Lib.hid HB1.out.drew
    go_wp2_with fail
    go_region_with (first | (go_at_call 7; refine (new_any _).mono ?_; rintro e w2 ⟨rfl, hb2⟩; have HB2 := Lib.hid hb2; clear hb2) | (go_at_call 8; refine (HADD.out _ ?_).mono ?_; (first | exact HBD.out.trans (HB2.out.mono HBD.out.size) | exact (HBD.out.alloc HBD.out.size _).trans (HB2.out.mono (by simp; omega)) | exact (HBD.out.trans (HB2.out.mono HBD.out.size)).alloc (Nat.le_trans HBD.out.size HB2.out.size) _); rintro e w3 ⟨rfl, hb3⟩; have HB3 := Lib.hid hb3; clear hb3; (first | (have hA := kept_drew (W := w1) (HB2.out.trans (HB3.out.mono HB2.out.size)); obtain ⟨hq0, hq1, hf0, hf1⟩ := kept_cells hA; have HA := Lib.hid hA; clear hA) | (have hA := kept_alloc (W := w2) HB3.out; obtain ⟨hq0, hq1, hf0, hf1⟩ := kept_cells hA; have HA := Lib.hid hA; clear hA) | skip)))
    all_goals go_wp2
    all_goals go_meet
    · have hb := HBD.out.trans (HB2.out.mono HBD.out.size)
      have hb3 := hb.trans (HB3.out.mono hb.size)
      refine ⟨_, rfl, hb3.size, ?_, hb3.alloc hb3.size _⟩
      unfold StAt
      rw [heap_alloc_new, HL3.out, HX.out]
    · have hb := HBD.out.trans (HB2.out.mono HBD.out.size)
      have hb2 := hb.alloc hb.size (.cells #[.int .u32 0, .int .i64 0] 27)
      have hb3 := hb2.trans (HB3.out.mono hb2.size)
      refine ⟨_, rfl, hb.size, ?_, (hb3.setCell hb.size _).setCell hb.size _⟩
      unfold StAt
      rw [two_set HA.out rfl, HL3.out, HX.out]
    · have hb1 := (HB1.out.alloc HB1.out.size (.cells #[.int .u32 0, .int .i64 0] 27)).drew
      have hb2 := hb1.trans (HB2.out.mono hb1.size)
      have hb3 := hb2.trans (HB3.out.mono hb2.size)
      refine ⟨_, rfl, hws, ?_, (hb3.setCell hws _).setCell hws _⟩
      unfold StAt
      rw [two_set HA.out rfl, HL3.out, HX.out]
  case rest =>
    obtain ⟨sb, rfl, hsb, hst, hbc⟩ := hcut
    have HBC := Lib.hid hbc
    have HST := Lib.hid hst
    have hsl : sb < wc.heap.size := (Array.getElem?_eq_some_iff.1 hst).1
    have hs0 : wc.cell? ⟨sb, 0, none⟩ = some (.int .u32 ((crcz (x.take k)).toNat : Int)) := by rw [cell_in hst]; rfl
    have hs1 : wc.cell? ⟨sb, 1, none⟩ = some (.int .i64 (k : Int)) := by rw [cell_in hst, HL3.out]; rfl
    have HS3 := Lib.hid hs3
    clear hbc hst HB1 hs3
    have hws := HBC.out.size
    have hadd : ∀ W : World, Below w.heap.size w W → Calls Try.prog 8 #[.agg #[.int .u32 ((crcz (x.take k)).toNat : Int), .int .i64 (k : Int)], .slice a4 (x.length - k) (c0 - k)] W fun e w' => e = .returned (.agg #[.int .u32 ((crcz x).toNat : Int), .int .i64 (x.length : Int)]) ∧ Below W.heap.size W w' := by
      intro W hW
      have := add_any (x.take k) (x.drop k) a4 (c0 - k) W ((R4.out.later hW (Nat.le_refl _)).mono hW.size) Z4.out (by rw [HL3.out, HL4.out]; omega)
      unfold St at this
      rw [List.take_append_drop, HL3.out, HL4.out] at this
      exact this
    have HADD := Lib.hid hadd
    clear hadd
    go_upto_region 5 with fail
    go_cut [9] (fun p wx => ∃ tb, p = .pointer (some ⟨tb, 0, none⟩) ∧ wc.heap.size ≤ tb ∧ StAt wx tb x ∧ Below wc.heap.size wc wx)
    case first => as_aux_lemma =>
      generalize hX : (crcz (x.take k)).toNat = X at *
      generalize hY : (crcz x).toNat = Y at *
      have HY := Lib.hid hY
      clear hX hY HST
      have HBD : Hid (Below wc.heap.size wc wc.drew) := (Below.refl _ _).drew
      have HLD := Lib.hid HBC.out.drew
      have hq2 : (wc.alloc (.cells #[.int .u32 0, .int .i64 0] 27)).cell? ⟨sb, 0, none⟩ = some (.int .u32 (X : Int)) := by rw [World.cell?_alloc_past _ _ _ hsl]; exact hs0
      have hq3 : (wc.alloc (.cells #[.int .u32 0, .int .i64 0] 27)).cell? ⟨sb, 1, none⟩ = some (.int .i64 (k : Int)) := by rw [World.cell?_alloc_past _ _ _ hsl]; exact hs1
      go_wp2_with fail
      go_region_with (first | (go_at_call 8; refine (HADD.out _ ?_).mono ?_; (first | exact HLD.out | exact (HBC.out.alloc hws _).drew | exact HLD.out.alloc hws _); rintro e w3 ⟨rfl, hb3⟩; have HB3 := Lib.hid hb3; clear hb3; (first | (have hA := kept_drew (W := wc) HB3.out; obtain ⟨hq0, hq1, hf0, hf1⟩ := kept_cells hA; have HA := Lib.hid hA; clear hA) | skip)))
      all_goals go_wp2
      all_goals go_meet
      · have hb := HBD.out.trans (HB3.out.mono HBD.out.size)
        refine ⟨_, rfl, hb.size, ?_, hb.alloc hb.size _⟩
        unfold StAt
        rw [heap_alloc_new, HY.out]
      all_goals
        have hb1 : Below wc.heap.size wc (wc.alloc (.cells #[.int .u32 0, .int .i64 0] 27)).drew := ((Below.refl _ _).alloc (Nat.le_refl _) _).drew
        have hb3 := hb1.trans (HB3.out.mono hb1.size)
        refine ⟨_, rfl, Nat.le_refl _, ?_, (hb3.setCell (Nat.le_refl _) _).setCell (Nat.le_refl _) _⟩
        unfold StAt
        rw [two_set HA.out rfl, HY.out]
    case rest =>
      obtain ⟨tb, rfl, htb, htt, hbt⟩ := hcut
      have HTT := Lib.hid htt
      have HS2 := Lib.hid (HST.out.later hbt)
      have HB2 := Lib.hid (HBC.out.trans (hbt.mono hws))
      have HS4 := Lib.hid hs4
      clear htb htt hbt HBC HST hws hs0 hs1 hsl HADD hs4
      have hws := HB2.out.size
      obtain ⟨MC, hMC, hmk, hmd⟩ := made_row (x.length + 9) (by omega)
      have hmk' := hmk wc ((x.length : Int) + 9) (by omega)
      have HMC := Lib.hid hMC
      have HHA := Lib.hid (heap_alloc_new wc (.cells MC 5))
      have RW := Lib.hid ((R0.out.later HB2.out (Nat.le_refl _)).mono hws)
      have HAL : Hid (Below wc.heap.size wc (wc.alloc (.cells MC 5))) := (Below.refl _ _).alloc (Nat.le_refl _) _
      clear hmk hmd hMC
      go_wp2_with fail
      refine (rof_any x w.heap.size a0 c0 _ (R0.out.later HB2.out (Nat.le_refl _)) Z0.out (by omega)).mono ?_
      rintro e w' ⟨rfl, rfl⟩
      go_wp2_with (at_builtin; refine apd_whole (w0 := wc) rfl _ _ rfl wc.heap.size wc.heap.size (x.length + 9) MC rfl HHA.out HMC.out (Nat.le_refl _) (by omega) a0 x.length c0 x rfl rfl N0.out (Nat.le_refl _) HAL.out RW.out (by omega) ?_; intro w3 hh3 hb3; rw [show x.length + 9 - x.length = 9 by omega] at hh3; have HH3 := Lib.hid hh3; have HB3 := Lib.hid hb3; clear hh3 hb3)
      clear hmk'
      generalize hg : wc.heap.size = g at *
      have HG := Lib.hid hg
      clear hg HHA HAL HMC
      have hsl2 := HB3.out.size
      have HRO := Lib.hid (whole_row HH3.out)
      refine (seal_any x (some ⟨g, 0, none⟩) (x.length + 9) w3 HRO.out (fun h => by cases h) Z0.out (by omega)).mono ?_
      rintro e w4 ⟨v4, rfl, ho4, hb4⟩
      obtain ⟨a5, c5, rfl, hc5, _, hr5⟩ := ho4.row
      have R5 := Lib.hid hr5
      have HB4 := Lib.hid hb4
      have hc5' : x.length + 4 ≤ c5 := by rw [sealed_length] at hc5; exact hc5
      have hn5 : a5 = none → c5 = 0 := fun h => by
        exfalso
        subst h
        have := hr5.none_nil
        have h2 := congrArg List.length this
        rw [sealed_length] at h2
        simp at h2
      have HN5 := Lib.hid hn5
      clear ho4 hb4 hr5 hn5
      have HOP := Lib.hid (open_any (sealed x) a5 c5 w4 R5.out HN5.out hc5 (sealed_range x Z0.out) (by rw [sealed_length]; omega))
      go_wp2_with fail
      refine HOP.out.mono ?_
      rintro e w5 ⟨hb5, ⟨_, v6, rfl, ho6⟩ | ⟨hno, _⟩⟩
      case inr => exact absurd (sealed_is x) hno
      rw [sealed_take] at ho6
      obtain ⟨a6, c6, rfl, _, _, hr6⟩ := ho6.row
      have R6 := Lib.hid hr6
      have HB5 := Lib.hid hb5
      clear ho6 hb5 hr6 HOP
      have h34 := HB4.out.size
      have h45 := HB5.out.size
      have HBW : Hid (Below w.heap.size w w5) := HB2.out.trans (((HB3.out.mono (Nat.le_of_eq HG.out)).trans ((HB4.out.trans (HB5.out.mono h34)).mono hsl2)).mono HB2.out.size)
      have HT5 : Hid (StAt w5 tb x) := ((HTT.out.later (HB3.out.mono (Nat.le_of_eq HG.out))).later HB4.out).later HB5.out
      have HS5 : Hid (StAt w5 sb (x.take k)) := ((HS2.out.later (HB3.out.mono (Nat.le_of_eq HG.out))).later HB4.out).later HB5.out
      have HH5 := Lib.hid (kept_st (kept_st HH3.out HB4.out) HB5.out)
      have R55 := Lib.hid (R5.out.later HB5.out (Nat.le_refl _))
      clear HB2 HB3 HB4 HB5 HTT HS2 HH3 R5 HRO RW HN5 hc5 HK hsb
      have hws5 := HBW.out.size
      go_upto_region 10 with fail
      go_cut [15, 16] (fun d o wx => ∃ b, o = .bool b ∧ Below w5.heap.size w5 wx ∧ ((b = true ∧ IsSealed y ∧ Own wx w5.heap.size d (y.take (y.length - 4))) ∨ (b = false ∧ ¬ IsSealed y ∧ d = .slice none 0 0)))
      case first => as_aux_lemma =>
        go_wp2_with fail
        refine (open_any y a2 c2 w5 ((R2.out.later HBW.out (Nat.le_refl _)).mono hws5) N2.out hc2 Z2.out (by omega)).mono ?_
        rintro e w6 ⟨hb6, ⟨hy, v7, rfl, ho7⟩ | ⟨hy, rfl⟩⟩
        · have HB6 := Lib.hid hb6
          have HO7 := Lib.hid ho7
          have HYY := Lib.hid hy
          clear hb6 ho7 hy
          go_wp2
          go_meet
          exact ⟨true, rfl, HB6.out, Or.inl ⟨rfl, HYY.out, HO7.out⟩⟩
        · have HB6 := Lib.hid hb6
          have HYY := Lib.hid hy
          clear hb6 hy
          go_wp2
          go_meet
          exact ⟨false, rfl, HB6.out, Or.inr ⟨rfl, HYY.out, rfl⟩⟩
      case rest =>
        obtain ⟨b, rfl, hb6, hdo⟩ := hcut
        have HB6 := Lib.hid hb6
        have HDO := Lib.hid hdo
        clear hb6 hdo
        have h56 := HB6.out.size
        have HBX := Lib.hid (HBW.out.trans (HB6.out.mono hws5))
        go_upto_region 11 with fail
        go_cut [17] (fun r wx => r = .bool b ∧ Below wc.heap.size wc wx)
        case first => as_aux_lemma =>
          have hyb : b = true ↔ IsSealed y := by
            rcases HDO.out with ⟨rfl, h, _⟩ | ⟨rfl, h, _⟩
            · simp [h]
            · simp [h]
          by_cases h4 : 4 ≤ y.length
          · have h4' : (4 : Int) ≤ (y.length : Int) := by omega
            obtain ⟨hs8, hr8⟩ := cut_low R2.out hc2 (y.length - 4) (by omega)
            rw [show ((y.length - 4 : Nat) : Int) = (y.length : Int) - 4 by omega] at hs8
            have hwr : IntKind.i64.wrap ((y.length : Int) - 4) = (y.length : Int) - 4 := IntWalk.i64_in _ (by omega)
            have hif : (if (y.length : Int) - 4 < 0 then 0 else (y.length : Int) - 4) = (y.length : Int) - 4 := if_neg (by omega)
            have hl8 : (y.take (y.length - 4)).length = y.length - 4 := by rw [List.length_take]; omega
            have hmx : max ((y.length : Int) - 4) 0 = (y.length : Int) - 4 := by omega
            have R8 := Lib.hid hr8
            have HHY := Lib.hid hyb
            have HL8 := Lib.hid hl8
            clear hr8 hyb hl8 hl3 hl4
            have hrs : ∀ W : World, Below wc.heap.size wc W → Calls Try.prog 12 #[.slice a2 (y.length - 4) c2] W fun e w' => ∃ v', e = .returned v' ∧ Own w' W.heap.size v' (sealed (y.take (y.length - 4))) ∧ Below W.heap.size W w' := by
              intro W hW
              have hB := HBX.out.trans (hW.mono HBX.out.size)
              have := rseal_any (y.take (y.length - 4)) a2 c2 W ((R8.out.later hB (Nat.le_refl _)).mono hB.size) N2.out (fun v hv => Z2.out v (List.mem_of_mem_take hv)) (by rw [HL8.out]; omega)
              rw [HL8.out] at this
              exact this
            have HRS := Lib.hid hrs
            have HSY := Lib.hid (fun (W : World) (hW : Below wc.heap.size wc W) => str_row (R2.out.later (HBX.out.trans (hW.mono HBX.out.size)) (Nat.le_refl _)) c2)
            have hcy0 := HSY.out wc (Below.refl _ _)
            have hcy1 := HSY.out wc.drew (Below.refl _ _).drew
            clear hrs
            have HEQ : Hid ((((strOfNums (sealed (y.take (y.length - 4)))).toList == (strOfNums y).toList) = b)) := by
              show _ = _
              cases b
              · exact str_ne _ _ (sealed_range _ (fun v hv => Z2.out v (List.mem_of_mem_take hv))) Z2.out (fun he => by have := HHY.out.2 ⟨h4, he⟩; cases this)
              · rw [(HHY.out.1 rfl).2]; simp
            have HSL : Hid ((sealed (y.take (y.length - 4))).length = y.length) := by show _ = _; rw [sealed_length, HL8.out]; omega
            go_wp2_with fail
            have HS9 : Hid (∀ {W : World} {B : Nat} {a9 : Option Addr} (c9 : Nat), Row .u8 W B a9 (sealed (y.take (y.length - 4))) → (convert 22 9 (.slice a9 (sealed (y.take (y.length - 4))).length c9)).run Try.prog W = .ok (.string (strOfNums (sealed (y.take (y.length - 4))))) W) := fun c9 h => str_row h c9
            have hge : decide ((4 : Int) ≤ (y.length : Int)) = true := decide_eq_true h4'
            clear hcy0 hcy1
            have HBC : Hid (Below wc.heap.size wc wc.drew) := (Below.refl _ _).drew
            have heq := HEQ.out
            generalize strOfNums (sealed (y.take (y.length - 4))) = S9 at *
            refine wp_region_any (by kernel_rfl) ?_
            refine wpAny_seq (n := 17) (fuel := 6) rfl (by kernel_rfl) (by intro c a d v w h; cases d <;> exact h) [(0, true), (1, true), (2, true), (3, true), (4, true), (5, true), (6, true), (7, true), (8, true), (9, true), (12, true)] 0 _ _ _ (marks_none 17) (by kernel_rfl) ?_
            refine ⟨_, ?_, rfl, by rfl, ?_, ?_⟩
            rotate_left
            · intro w; go_simp; first | done | rfl
            conv => arg 6; simp only [Act.put, List.setIfInBounds_toArray, List.set_cons_zero, List.set_cons_succ]
            refine ⟨_, ?_, rfl, by rfl, ?_, ?_⟩
            rotate_left
            · intro w; go_simp; first | done | rfl
            conv => arg 6; simp only [Act.put, List.setIfInBounds_toArray, List.set_cons_zero, List.set_cons_succ]
            refine ⟨_, ?_, rfl, by rfl, ?_, ?_⟩
            rotate_left
            · intro w; go_simp; first | done | rfl
            conv => arg 6; simp only [Act.put, List.setIfInBounds_toArray, List.set_cons_zero, List.set_cons_succ]
            refine ⟨_, ?_, rfl, by rfl, ?_, ?_⟩
            rotate_left
            · intro w; go_simp; first | done | rfl
            conv => arg 6; simp only [Act.put, List.setIfInBounds_toArray, List.set_cons_zero, List.set_cons_succ]
            refine ⟨_, ?_, rfl, by rfl, ?_, ?_⟩
            rotate_left
            · intro w; go_simp; first | done | rfl
            conv => arg 6; simp only [Act.put, List.setIfInBounds_toArray, List.set_cons_zero, List.set_cons_succ]
            refine ⟨_, ?_, rfl, by rfl, ?_, ?_⟩
            rotate_left
            · intro w; go_simp; first | done | rfl
            conv => arg 6; simp only [Act.put, List.setIfInBounds_toArray, List.set_cons_zero, List.set_cons_succ]
            refine ⟨_, ?_, rfl, by rfl, ?_, ?_⟩
            rotate_left
            · intro w; go_simp; first | done | rfl
            conv => arg 6; simp only [Act.put, List.setIfInBounds_toArray, List.set_cons_zero, List.set_cons_succ]
            refine ⟨_, ?_, rfl, by rfl, ?_, ?_⟩
            rotate_left
            · intro w; go_simp; first | done | rfl
            conv => arg 6; simp only [Act.put, List.setIfInBounds_toArray, List.set_cons_zero, List.set_cons_succ]
            refine ⟨_, ?_, rfl, by rfl, ?_, ?_⟩
            rotate_left
            · intro w; go_simp; first | done | rfl
            conv => arg 6; simp only [Act.put, List.setIfInBounds_toArray, List.set_cons_zero, List.set_cons_succ]
            refine ⟨_, ?_, rfl, by rfl, ?_, ?_⟩
            rotate_left
            · intro w; go_simp; first | done | rfl
            conv => arg 6; simp only [Act.put, List.setIfInBounds_toArray, List.set_cons_zero, List.set_cons_succ]
            refine ⟨_, ?_, rfl, by rfl, ?_, ?_⟩
            rotate_left
            · intro w; go_simp; first | done | rfl
            conv => arg 6; simp only [Act.put, List.setIfInBounds_toArray, List.set_cons_zero, List.set_cons_succ]
            have HMK : Hid (Marks 17 (marksArr 17 5119) 5119) := marks_arr (by decide)
            change wpAny _ _ _ _ (5 + 1) (marksArr 17 5119) _ _
            refine wpAny_ready (rs := [10, 13]) (by kernel_rfl) (by simp) ?_
            refine AllReady.cons rfl (fun K hK => ?_) (AllReady.cons rfl (fun K hK => ?_) AllReady.nil)
            · as_aux_lemma =>
              rw [if_pos (by rfl)]
              go_simp
              refine (HRS.out _ HBC.out).mono ?_
              rintro e w9 ⟨v9, rfl, ho9, hb9⟩
              have HBC := Lib.hid (HBC.out.trans (hb9.mono HBC.out.size))
              obtain ⟨a9, c9, rfl, _, _, hr9⟩ := ho9.row
              refine hK _ _ ?_
              have HCV9 := Lib.hid (HS9.out c9 hr9)
              clear hK K hb9 ho9 hr9
              conv => arg 7; simp only [Act.put, List.setIfInBounds_toArray, List.set_cons_zero, List.set_cons_succ]
              refine wpAny_ready (rs := [11, 13]) (by kernel_rfl) (by simp) ?_
              refine AllReady.cons rfl (fun K hK => ?_) (AllReady.cons rfl (fun K hK => ?_) AllReady.nil)
              · rw [if_pos (by rfl)]
                have q9 := HCV9.out
                go_simp
                refine hK _ _ ?_
                clear hK K q9
                conv => arg 7; simp only [Act.put, List.setIfInBounds_toArray, List.set_cons_zero, List.set_cons_succ]
                refine any_one (i := 13) (by kernel_rfl) rfl (by rfl) (fun K hK => ?_)
                have qy := HSY.out _ HBC.out
                go_simp
                refine hK _ _ ?_
                clear hK K qy
                conv => arg 7; simp only [Act.put, List.setIfInBounds_toArray, List.set_cons_zero, List.set_cons_succ]
                refine rest_from (fun w' => ∃ q, w' = w9.drewN q) _ 14 [14, 15, 16] (((HMK.out.set (k := 10) (by decide)).set (k := 11) (by decide)).set (k := 13) (by decide)) rfl (by kernel_rfl) (by kernel_rfl) rfl (by kernel_rfl) ⟨0, rfl⟩ ?_
                simp only [List.drop_succ_cons, List.drop_zero]
                repeat (go_big_quiet_step (fail))
                refine wpQuiet_nil ?_
                rintro w5 ⟨q', rfl⟩
                go_wp2_with fail
                go_meet
                exact ⟨rfl, below_drewN HBC.out q'⟩
              · rw [if_pos (by rfl)]
                have qy := HSY.out _ HBC.out
                go_simp
                refine hK _ _ ?_
                clear hK K qy
                conv => arg 7; simp only [Act.put, List.setIfInBounds_toArray, List.set_cons_zero, List.set_cons_succ]
                refine any_one (i := 11) (by kernel_rfl) rfl (by rfl) (fun K hK => ?_)
                have q9 := HCV9.out
                go_simp
                refine hK _ _ ?_
                clear hK K q9
                conv => arg 7; simp only [Act.put, List.setIfInBounds_toArray, List.set_cons_zero, List.set_cons_succ]
                refine rest_from (fun w' => ∃ q, w' = w9.drewN q) _ 14 [14, 15, 16] (((HMK.out.set (k := 10) (by decide)).set (k := 13) (by decide)).set (k := 11) (by decide)) rfl (by kernel_rfl) (by kernel_rfl) rfl (by kernel_rfl) ⟨0, rfl⟩ ?_
                simp only [List.drop_succ_cons, List.drop_zero]
                repeat (go_big_quiet_step (fail))
                refine wpQuiet_nil ?_
                rintro w5 ⟨q', rfl⟩
                go_wp2_with fail
                go_meet
                exact ⟨rfl, below_drewN HBC.out q'⟩
            · as_aux_lemma =>
              rw [if_pos (by rfl)]
              have qy := HSY.out _ HBC.out
              go_simp
              refine hK _ _ ?_
              clear hK K qy
              conv => arg 7; simp only [Act.put, List.setIfInBounds_toArray, List.set_cons_zero, List.set_cons_succ]
              refine any_one (i := 10) (by kernel_rfl) rfl (by rfl) (fun K hK => ?_)
              go_simp
              refine (HRS.out _ HBC.out).mono ?_
              rintro e w9 ⟨v9, rfl, ho9, hb9⟩
              have HBC := Lib.hid (HBC.out.trans (hb9.mono HBC.out.size))
              obtain ⟨a9, c9, rfl, _, _, hr9⟩ := ho9.row
              refine hK _ _ ?_
              have HCV9 := Lib.hid (HS9.out c9 hr9)
              clear hK K hb9 ho9 hr9
              conv => arg 7; simp only [Act.put, List.setIfInBounds_toArray, List.set_cons_zero, List.set_cons_succ]
              refine any_one (i := 11) (by kernel_rfl) rfl (by rfl) (fun K hK => ?_)
              have q9 := HCV9.out
              go_simp
              refine hK _ _ ?_
              clear hK K q9
              conv => arg 7; simp only [Act.put, List.setIfInBounds_toArray, List.set_cons_zero, List.set_cons_succ]
              refine rest_from (fun w' => ∃ q, w' = w9.drewN q) _ 14 [14, 15, 16] (((HMK.out.set (k := 13) (by decide)).set (k := 10) (by decide)).set (k := 11) (by decide)) rfl (by kernel_rfl) (by kernel_rfl) rfl (by kernel_rfl) ⟨0, rfl⟩ ?_
              simp only [List.drop_succ_cons, List.drop_zero]
              repeat (go_big_quiet_step (fail))
              refine wpQuiet_nil ?_
              rintro w5 ⟨q', rfl⟩
              go_wp2_with fail
              go_meet
              exact ⟨rfl, below_drewN HBC.out q'⟩
          · have hge : decide ((4 : Int) ≤ (y.length : Int)) = false := decide_eq_false (by omega)
            have hbf : b = false := by
              cases hb : b
              · rfl
              · exact absurd (hyb.1 hb).1 h4
            subst hbf
            clear hyb
            go_wp2_with fail
            go_quiet (fail)
            go_wp2_with fail
            go_meet
            exact ⟨rfl, below_drewN (Below.refl _ _) _⟩
        case rest =>
          obtain ⟨rfl, hb7⟩ := hcut
          have HB7 : Hid (Below w5.heap.size w5 wc) := HB6.out.trans (hb7.mono h56)
          have HBZ := Lib.hid (HBW.out.trans (HB7.out.mono hws5))
          have hdo : (b = true ∧ IsSealed y ∧ ∃ a7 c7, u15 = .slice a7 (y.length - 4) c7 ∧ Row .u8 wc wc.heap.size a7 (y.take (y.length - 4))) ∨ (b = false ∧ u15 = .slice none 0 0) := by
            rcases HDO.out with ⟨hbt, hy, ho⟩ | ⟨hbf, _, hd⟩
            · obtain ⟨a7, c7, hv, _, _, hr7⟩ := ho.row
              rw [show (y.take (y.length - 4)).length = y.length - 4 by rw [List.length_take]; omega] at hv
              exact Or.inl ⟨hbt, hy, a7, c7, hv, (hr7.later hb7 (Nat.le_refl _)).mono hb7.size⟩
            · exact Or.inr ⟨hbf, hd⟩
          have HS7 := Lib.hid (HS5.out.later HB7.out)
          have HT7 := Lib.hid (HT5.out.later HB7.out)
          have HH7 := Lib.hid (kept_st HH5.out HB7.out)
          have R57 := Lib.hid ((R55.out.mono h45).later HB7.out (Nat.le_refl _))
          have R67 := Lib.hid (R6.out.later HB7.out (Nat.le_refl _))
          have h5c := HB7.out.size
          clear hb7 HB6 HDO HS5 HT5 HH5 R55 R6 HBW HBX h56 HB7 hl3 hl4
          have hwz := HBZ.out.size
          have hcells : ∀ W : World, Below wc.heap.size wc W → W.cell? ⟨sb, 0, none⟩ = some (.int .u32 ((crcz (x.take k)).toNat : Int)) ∧ W.cell? ⟨sb, 1, none⟩ = some (.int .i64 (k : Int)) ∧ W.cell? ⟨tb, 0, none⟩ = some (.int .u32 ((crcz x).toNat : Int)) ∧ W.cell? ⟨tb, 1, none⟩ = some (.int .i64 (x.length : Int)) := by
            intro W hW
            have h1 := HS7.out.later hW
            have h2 := HT7.out.later hW
            unfold StAt at h1 h2
            exact ⟨by rw [cell_in h1]; rfl, by rw [cell_in h1, HL3.out]; rfl, by rw [cell_in h2]; rfl, by rw [cell_in h2]; rfl⟩
          have hstrs : ∀ W : World, Below wc.heap.size wc W → (convert 22 9 (.slice a5 (sealed x).length c5)).run Try.prog W = .ok (.string (strOfNums (sealed x))) W ∧ (convert 22 9 (.slice a6 x.length c6)).run Try.prog W = .ok (.string (strOfNums x)) W ∧ (convert 22 9 (.slice a0 x.length c0)).run Try.prog W = .ok (.string (strOfNums x)) W ∧ (convert 22 9 (.slice (some ⟨g, x.length, none⟩) 4 9)).run Try.prog W = .ok (.string ⟨#[0, 0, 0, 0]⟩) W := by
            intro W hW
            refine ⟨str_row (R57.out.later hW h5c) c5, str_row (R67.out.later hW h5c) c6, str_row (R0.out.later (HBZ.out.trans (hW.mono hwz)) (Nat.le_refl _)) c0, ?_⟩
            have h1 := str_row ((whole_tail HH7.out 4 (by omega)).later hW (Nat.le_refl _)) 9
            rw [show (List.replicate 4 (0 : Int)).length = 4 from rfl, show strOfNums (List.replicate 4 0) = ⟨#[0, 0, 0, 0]⟩ from rfl] at h1
            exact h1
          have hof : ∀ W : World, Below wc.heap.size wc W → Calls Try.prog 13 #[.slice a0 x.length c0] W fun e w' => e = .returned (.int .u32 ((crcz x).toNat : Int)) ∧ Below W.heap.size W w' := by
            intro W hW
            have hB := HBZ.out.trans (hW.mono hwz)
            exact of_any x a0 c0 W ((R0.out.later hB (Nat.le_refl _)).mono hB.size) Z0.out (by omega)
          have hof3 : ∀ W : World, Below wc.heap.size wc W → Calls Try.prog 13 #[.slice a0 k c0] W fun e w' => e = .returned (.int .u32 ((crcz (x.take k)).toNat : Int)) ∧ Below W.heap.size W w' := by
            intro W hW
            have hB := HBZ.out.trans (hW.mono hwz)
            have := of_any (x.take k) a0 c0 W ((R3.out.later hB (Nat.le_refl _)).mono hB.size) Z3.out (by rw [HL3.out]; omega)
            rw [HL3.out] at this
            exact this
          have hof4 : ∀ W : World, Below wc.heap.size wc W → Calls Try.prog 13 #[.slice a4 (x.length - k) (c0 - k)] W fun e w' => e = .returned (.int .u32 ((crcz (x.drop k)).toNat : Int)) ∧ Below W.heap.size W w' := by
            intro W hW
            have hB := HBZ.out.trans (hW.mono hwz)
            have := of_any (x.drop k) a4 (c0 - k) W ((R4.out.later hB (Nat.le_refl _)).mono hB.size) Z4.out (by rw [HL4.out]; omega)
            rw [HL4.out] at this
            exact this
          have hrof : ∀ W : World, Below wc.heap.size wc W → Calls Try.prog 9 #[.slice a0 k c0] W fun e w' => e = .returned (.int .u32 ((crcz (x.take k)).toNat : Int)) ∧ W = w' := by
            intro W hW
            have hB := HBZ.out.trans (hW.mono hwz)
            have := rof_any (x.take k) w.heap.size a0 c0 W (R3.out.later hB (Nat.le_refl _)) Z3.out (by rw [HL3.out]; omega)
            rw [HL3.out] at this
            exact this
          have hrs : ∀ W : World, Below wc.heap.size wc W → Calls Try.prog 12 #[.slice a0 x.length c0] W fun e w' => ∃ v', e = .returned v' ∧ Own w' W.heap.size v' (sealed x) ∧ Below W.heap.size W w' := by
            intro W hW
            have hB := HBZ.out.trans (hW.mono hwz)
            exact rseal_any x a0 c0 W ((R0.out.later hB (Nat.le_refl _)).mono hB.size) N0.out Z0.out (by omega)
          have HSX : Hid (∀ {W : World} {B : Nat} {a9 : Option Addr} (c9 : Nat), Row .u8 W B a9 (sealed x) → (convert 22 9 (.slice a9 (sealed x).length c9)).run Try.prog W = .ok (.string (strOfNums (sealed x))) W) := fun c9 h => str_row h c9
          have HRY := Lib.hid (fun (W : World) (hW : Below wc.heap.size wc W) => R2.out.later (HBZ.out.trans (hW.mono hwz)) (Nat.le_refl _))
          have HCELLS := Lib.hid hcells
          have HSTRS := Lib.hid hstrs
          have HOF := Lib.hid hof
          have HOF3 := Lib.hid hof3
          have HOF4 := Lib.hid hof4
          have HROF := Lib.hid hrof
          have HRS := Lib.hid hrs
          have HJN := Lib.hid (join_parts x k hkn (by omega))
          have HSUM := Lib.hid (sum_st x x.length rfl)
          have HSUM3 := Lib.hid (sum_st (x.take k) k HL3.out)
          have HLEN := Lib.hid (len_st x x.length rfl)
          have HLEN3 := Lib.hid (len_st (x.take k) k HL3.out)
          clear hcells hstrs hof hof3 hof4 hrof hrs HS7 HT7 HH7 R57 R67 R3 R4 Z3 Z4
          generalize (crcz (x.take k)).toNat = XK at *
          generalize (crcz (x.drop k)).toNat = XD at *
          generalize (crcz x).toNat = X at *
          have hw4 : IntKind.i64.wrap ((x.length : Int) + 4) = (x.length : Int) + 4 := IntWalk.i64_in _ (by omega)
          have hwk : IntKind.i64.wrap ((x.length : Int) - (k : Int)) = (x.length : Int) - (k : Int) := IntWalk.i64_in _ (by omega)
          have hwy : IntKind.i64.wrap ((y.length : Int) - 4) = (y.length : Int) - 4 := IntWalk.i64_in _ (by omega)
          have hs3 := HS3.out
          have hs4 := HS4.out
          rcases hdo with ⟨rfl, hy, a7, c7, rfl, hr7⟩ | ⟨rfl, rfl⟩
          · as_aux_lemma =>
            have HBC : Hid (Below wc.heap.size wc wc.drew) := (Below.refl _ _).drew
            have ho1 : ∀ W, (Instr.slice 22 (.slice (some ⟨g, 0, none⟩) x.length (x.length + 9)) none (some (.int .i64 ((x.length : Int) + 4))) none).run Try.prog W = .ok (.slice (some ⟨g, 0, none⟩) (x.length + 4) (x.length + 9)) W := own_cut x.length g
            have ho2 : ∀ W, (Instr.slice 22 (.slice (some ⟨g, 0, none⟩) (x.length + 4) (x.length + 9)) (some (.int .i64 (x.length : Int))) none none).run Try.prog W = .ok (.slice (some ⟨g, x.length, none⟩) 4 9) W := own_end x.length g
            have h4 : 4 ≤ y.length := hy.1
            obtain ⟨hs8, hr8⟩ := cut_low R2.out hc2 (y.length - 4) (by omega)
            rw [show ((y.length - 4 : Nat) : Int) = (y.length : Int) - 4 by omega] at hs8
            have hl8 : (y.take (y.length - 4)).length = y.length - 4 := by rw [List.length_take]; omega
            have hd7 : ∀ W : World, Below wc.heap.size wc W → (convert 22 9 (.slice a7 (y.length - 4) c7)).run Try.prog W = .ok (.string (strOfNums (y.take (y.length - 4)))) W ∧ (convert 22 9 (.slice a2 (y.length - 4) c2)).run Try.prog W = .ok (.string (strOfNums (y.take (y.length - 4)))) W := by
              intro W hW
              have q1 := str_row (hr7.later hW (Nat.le_refl _)) c7
              have q2 := str_row (hr8.later (HBZ.out.trans (hW.mono hwz)) (Nat.le_refl _)) c2
              rw [hl8] at q1 q2
              exact ⟨q1, q2⟩
            have HD7 := Lib.hid hd7
            clear hd7 hr7 hr8 hl8 hy
            go_wp2_with fail
            simp only [List.append]
            refine wp_region_any (by kernel_rfl) ?_
            refine wpAny_seq (n := 108) (fuel := 56) rfl (by kernel_rfl) (by intro c a d v w h; cases d <;> exact h) [(0, true), (2, true), (1, false), (3, true), (4, true), (7, true), (5, false), (6, false), (8, true), (9, true), (10, true), (13, true), (14, true), (11, false), (12, false), (15, true), (16, true), (17, true), (20, true), (18, false), (19, false), (21, true), (22, true), (23, true), (26, true), (27, true), (28, true), (24, false), (25, false), (29, false), (30, true), (31, true), (32, true), (33, true), (34, true), (35, true), (37, true), (38, true), (39, true), (41, true), (42, true), (43, true), (44, true), (46, true), (36, false), (40, false), (45, false), (47, true), (48, true), (49, true), (50, true), (52, true)] 0 _ _ _ (marks_none 108) (by kernel_rfl) ?_
            refine ⟨_, ?_, rfl, by rfl, ?_, ?_⟩
            rotate_left
            · intro w; go_simp; first | done | rfl
            conv => arg 6; simp only [Act.put, List.setIfInBounds_toArray, List.set_cons_zero, List.set_cons_succ]
            refine ⟨_, ?_, rfl, by rfl, ?_, ?_⟩
            rotate_left
            · intro w; go_simp; first | done | rfl
            conv => arg 6; simp only [Act.put, List.setIfInBounds_toArray, List.set_cons_zero, List.set_cons_succ]
            refine ⟨_, rfl, by rfl, fun K hK => ?_⟩
            go_simp
            refine (HOF.out _ HBC.out).mono ?_
            rintro e w9 ⟨rfl, hb9⟩
            refine hK _ _ ?_
            have HBC := Lib.hid (HBC.out.trans (hb9.mono HBC.out.size))
            clear hK K hb9
            conv => arg 6; simp only [Act.put, List.setIfInBounds_toArray, List.set_cons_zero, List.set_cons_succ]
            refine ⟨_, ?_, rfl, by rfl, ?_, ?_⟩
            rotate_left
            · intro w; go_simp; first | done | rfl
            conv => arg 6; simp only [Act.put, List.setIfInBounds_toArray, List.set_cons_zero, List.set_cons_succ]
            refine ⟨_, ?_, rfl, by rfl, ?_, ?_⟩
            rotate_left
            · intro w; go_simp; first | done | rfl
            conv => arg 6; simp only [Act.put, List.setIfInBounds_toArray, List.set_cons_zero, List.set_cons_succ]
            refine ⟨_, ?_, rfl, by rfl, ?_, ?_⟩
            rotate_left
            · intro w; go_simp; first | done | rfl
            conv => arg 6; simp only [Act.put, List.setIfInBounds_toArray, List.set_cons_zero, List.set_cons_succ]
            refine ⟨_, rfl, by rfl, fun K hK => ?_⟩
            obtain ⟨p0, p1, p2, p3⟩ := HCELLS.out _ HBC.out
            go_simp
            refine hK _ _ ?_
            clear hK K p0 p1 p2 p3
            conv => arg 6; simp only [Act.put, List.setIfInBounds_toArray, List.set_cons_zero, List.set_cons_succ]
            refine ⟨_, rfl, by rfl, fun K hK => ?_⟩
            go_simp
            refine (HSUM.out _).mono ?_
            rintro e w9 ⟨rfl, hb9⟩
            refine hK _ _ ?_
            have HBC := Lib.hid (HBC.out.trans (hb9.mono HBC.out.size))
            clear hK K hb9
            conv => arg 6; simp only [Act.put, List.setIfInBounds_toArray, List.set_cons_zero, List.set_cons_succ]
            refine ⟨_, ?_, rfl, by rfl, ?_, ?_⟩
            rotate_left
            · intro w; go_simp; first | done | rfl
            conv => arg 6; simp only [Act.put, List.setIfInBounds_toArray, List.set_cons_zero, List.set_cons_succ]
            refine ⟨_, ?_, rfl, by rfl, ?_, ?_⟩
            rotate_left
            · intro w; go_simp; first | done | rfl
            conv => arg 6; simp only [Act.put, List.setIfInBounds_toArray, List.set_cons_zero, List.set_cons_succ]
            refine ⟨_, ?_, rfl, by rfl, ?_, ?_⟩
            rotate_left
            · intro w; go_simp; first | done | rfl
            conv => arg 6; simp only [Act.put, List.setIfInBounds_toArray, List.set_cons_zero, List.set_cons_succ]
            refine ⟨_, ?_, rfl, by rfl, ?_, ?_⟩
            rotate_left
            · intro w; go_simp; first | done | rfl
            conv => arg 6; simp only [Act.put, List.setIfInBounds_toArray, List.set_cons_zero, List.set_cons_succ]
            refine ⟨_, ?_, rfl, by rfl, ?_, ?_⟩
            rotate_left
            · intro w; go_simp; first | done | rfl
            conv => arg 6; simp only [Act.put, List.setIfInBounds_toArray, List.set_cons_zero, List.set_cons_succ]
            refine ⟨_, rfl, by rfl, fun K hK => ?_⟩
            obtain ⟨p0, p1, p2, p3⟩ := HCELLS.out _ HBC.out
            go_simp
            refine hK _ _ ?_
            clear hK K p0 p1 p2 p3
            conv => arg 6; simp only [Act.put, List.setIfInBounds_toArray, List.set_cons_zero, List.set_cons_succ]
            refine ⟨_, rfl, by rfl, fun K hK => ?_⟩
            go_simp
            refine (HLEN.out _).mono ?_
            rintro e w9 ⟨rfl, hb9⟩
            refine hK _ _ ?_
            have HBC := Lib.hid (HBC.out.trans (hb9.mono HBC.out.size))
            clear hK K hb9
            conv => arg 6; simp only [Act.put, List.setIfInBounds_toArray, List.set_cons_zero, List.set_cons_succ]
            refine ⟨_, ?_, rfl, by rfl, ?_, ?_⟩
            rotate_left
            · intro w; go_simp; first | done | rfl
            conv => arg 6; simp only [Act.put, List.setIfInBounds_toArray, List.set_cons_zero, List.set_cons_succ]
            refine ⟨_, ?_, rfl, by rfl, ?_, ?_⟩
            rotate_left
            · intro w; go_simp; first | done | rfl
            conv => arg 6; simp only [Act.put, List.setIfInBounds_toArray, List.set_cons_zero, List.set_cons_succ]
            refine ⟨_, ?_, rfl, by rfl, ?_, ?_⟩
            rotate_left
            · intro w; go_simp; first | done | rfl
            conv => arg 6; simp only [Act.put, List.setIfInBounds_toArray, List.set_cons_zero, List.set_cons_succ]
            refine ⟨_, ?_, rfl, by rfl, ?_, ?_⟩
            rotate_left
            · intro w; go_simp; first | done | rfl
            conv => arg 6; simp only [Act.put, List.setIfInBounds_toArray, List.set_cons_zero, List.set_cons_succ]
            refine ⟨_, rfl, by rfl, fun K hK => ?_⟩
            obtain ⟨p0, p1, p2, p3⟩ := HCELLS.out _ HBC.out
            go_simp
            refine hK _ _ ?_
            clear hK K p0 p1 p2 p3
            conv => arg 6; simp only [Act.put, List.setIfInBounds_toArray, List.set_cons_zero, List.set_cons_succ]
            refine ⟨_, rfl, by rfl, fun K hK => ?_⟩
            go_simp
            refine (HLEN3.out _).mono ?_
            rintro e w9 ⟨rfl, hb9⟩
            refine hK _ _ ?_
            have HBC := Lib.hid (HBC.out.trans (hb9.mono HBC.out.size))
            clear hK K hb9
            conv => arg 6; simp only [Act.put, List.setIfInBounds_toArray, List.set_cons_zero, List.set_cons_succ]
            refine ⟨_, ?_, rfl, by rfl, ?_, ?_⟩
            rotate_left
            · intro w; go_simp; first | done | rfl
            conv => arg 6; simp only [Act.put, List.setIfInBounds_toArray, List.set_cons_zero, List.set_cons_succ]
            refine ⟨_, ?_, rfl, by rfl, ?_, ?_⟩
            rotate_left
            · intro w; go_simp; first | done | rfl
            conv => arg 6; simp only [Act.put, List.setIfInBounds_toArray, List.set_cons_zero, List.set_cons_succ]
            refine ⟨_, ?_, rfl, by rfl, ?_, ?_⟩
            rotate_left
            · intro w; go_simp; first | done | rfl
            conv => arg 6; simp only [Act.put, List.setIfInBounds_toArray, List.set_cons_zero, List.set_cons_succ]
            refine ⟨_, ?_, rfl, by rfl, ?_, ?_⟩
            rotate_left
            · intro w; go_simp; first | done | rfl
            conv => arg 6; simp only [Act.put, List.setIfInBounds_toArray, List.set_cons_zero, List.set_cons_succ]
            refine ⟨_, ?_, rfl, by rfl, ?_, ?_⟩
            rotate_left
            · intro w; go_simp; first | done | rfl
            conv => arg 6; simp only [Act.put, List.setIfInBounds_toArray, List.set_cons_zero, List.set_cons_succ]
            refine ⟨_, ?_, rfl, by rfl, ?_, ?_⟩
            rotate_left
            · intro w; go_simp; first | done | rfl
            conv => arg 6; simp only [Act.put, List.setIfInBounds_toArray, List.set_cons_zero, List.set_cons_succ]
            refine ⟨_, rfl, by rfl, fun K hK => ?_⟩
            obtain ⟨p0, p1, p2, p3⟩ := HCELLS.out _ HBC.out
            go_simp
            refine hK _ _ ?_
            clear hK K p0 p1 p2 p3
            conv => arg 6; simp only [Act.put, List.setIfInBounds_toArray, List.set_cons_zero, List.set_cons_succ]
            refine ⟨_, rfl, by rfl, fun K hK => ?_⟩
            go_simp
            refine (HSUM3.out _).mono ?_
            rintro e w9 ⟨rfl, hb9⟩
            refine hK _ _ ?_
            have HBC := Lib.hid (HBC.out.trans (hb9.mono HBC.out.size))
            clear hK K hb9
            conv => arg 6; simp only [Act.put, List.setIfInBounds_toArray, List.set_cons_zero, List.set_cons_succ]
            refine ⟨_, rfl, by rfl, fun K hK => ?_⟩
            go_simp
            refine (HROF.out _ HBC.out).mono ?_
            rintro e w9 ⟨rfl, rfl⟩
            refine hK _ _ ?_
            clear hK K
            conv => arg 6; simp only [Act.put, List.setIfInBounds_toArray, List.set_cons_zero, List.set_cons_succ]
            refine ⟨_, ?_, rfl, by rfl, ?_, ?_⟩
            rotate_left
            · intro w; go_simp; first | done | rfl
            conv => arg 6; simp only [Act.put, List.setIfInBounds_toArray, List.set_cons_zero, List.set_cons_succ]
            refine ⟨_, ?_, rfl, by rfl, ?_, ?_⟩
            rotate_left
            · intro w; go_simp; first | done | rfl
            conv => arg 6; simp only [Act.put, List.setIfInBounds_toArray, List.set_cons_zero, List.set_cons_succ]
            refine ⟨_, ?_, rfl, by rfl, ?_, ?_⟩
            rotate_left
            · intro w; go_simp; first | done | rfl
            conv => arg 6; simp only [Act.put, List.setIfInBounds_toArray, List.set_cons_zero, List.set_cons_succ]
            refine ⟨_, ?_, rfl, by rfl, ?_, ?_⟩
            rotate_left
            · intro w; go_simp; first | done | rfl
            conv => arg 6; simp only [Act.put, List.setIfInBounds_toArray, List.set_cons_zero, List.set_cons_succ]
            refine ⟨_, ?_, rfl, by rfl, ?_, ?_⟩
            rotate_left
            · intro w; go_simp; first | done | rfl
            conv => arg 6; simp only [Act.put, List.setIfInBounds_toArray, List.set_cons_zero, List.set_cons_succ]
            refine ⟨_, ?_, rfl, by rfl, ?_, ?_⟩
            rotate_left
            · intro w; go_simp; first | done | rfl
            conv => arg 6; simp only [Act.put, List.setIfInBounds_toArray, List.set_cons_zero, List.set_cons_succ]
            refine ⟨_, ?_, rfl, by rfl, ?_, ?_⟩
            rotate_left
            · intro w; go_simp; first | done | rfl
            conv => arg 6; simp only [Act.put, List.setIfInBounds_toArray, List.set_cons_zero, List.set_cons_succ]
            refine ⟨_, ?_, rfl, by rfl, ?_, ?_⟩
            rotate_left
            · intro w; go_simp; first | done | rfl
            conv => arg 6; simp only [Act.put, List.setIfInBounds_toArray, List.set_cons_zero, List.set_cons_succ]
            refine ⟨_, ?_, rfl, by rfl, ?_, ?_⟩
            rotate_left
            · intro w; go_simp; first | done | rfl
            conv => arg 6; simp only [Act.put, List.setIfInBounds_toArray, List.set_cons_zero, List.set_cons_succ]
            refine ⟨_, ?_, rfl, by rfl, ?_, ?_⟩
            rotate_left
            · intro w; go_simp; first | done | rfl
            conv => arg 6; simp only [Act.put, List.setIfInBounds_toArray, List.set_cons_zero, List.set_cons_succ]
            refine ⟨_, ?_, rfl, by rfl, ?_, ?_⟩
            rotate_left
            · intro w; go_simp; first | done | rfl
            conv => arg 6; simp only [Act.put, List.setIfInBounds_toArray, List.set_cons_zero, List.set_cons_succ]
            refine ⟨_, ?_, rfl, by rfl, ?_, ?_⟩
            rotate_left
            · intro w; go_simp; first | done | rfl
            conv => arg 6; simp only [Act.put, List.setIfInBounds_toArray, List.set_cons_zero, List.set_cons_succ]
            refine ⟨_, ?_, rfl, by rfl, ?_, ?_⟩
            rotate_left
            · intro w; go_simp; first | done | rfl
            conv => arg 6; simp only [Act.put, List.setIfInBounds_toArray, List.set_cons_zero, List.set_cons_succ]
            refine ⟨_, ?_, rfl, by rfl, ?_, ?_⟩
            rotate_left
            · intro w; go_simp; first | done | rfl
            conv => arg 6; simp only [Act.put, List.setIfInBounds_toArray, List.set_cons_zero, List.set_cons_succ]
            refine ⟨_, rfl, by rfl, fun K hK => ?_⟩
            go_simp
            refine (HOF3.out _ HBC.out).mono ?_
            rintro e w9 ⟨rfl, hb9⟩
            refine hK _ _ ?_
            have HBC := Lib.hid (HBC.out.trans (hb9.mono HBC.out.size))
            clear hK K hb9
            conv => arg 6; simp only [Act.put, List.setIfInBounds_toArray, List.set_cons_zero, List.set_cons_succ]
            refine ⟨_, rfl, by rfl, fun K hK => ?_⟩
            go_simp
            refine (HOF4.out _ HBC.out).mono ?_
            rintro e w9 ⟨rfl, hb9⟩
            refine hK _ _ ?_
            have HBC := Lib.hid (HBC.out.trans (hb9.mono HBC.out.size))
            clear hK K hb9
            conv => arg 6; simp only [Act.put, List.setIfInBounds_toArray, List.set_cons_zero, List.set_cons_succ]
            refine ⟨_, rfl, by rfl, fun K hK => ?_⟩
            go_simp
            refine (HJN.out _).mono ?_
            rintro e w9 ⟨rfl, rfl⟩
            refine hK _ _ ?_
            clear hK K
            conv => arg 6; simp only [Act.put, List.setIfInBounds_toArray, List.set_cons_zero, List.set_cons_succ]
            refine ⟨_, ?_, rfl, by rfl, ?_, ?_⟩
            rotate_left
            · intro w; go_simp; first | done | rfl
            conv => arg 6; simp only [Act.put, List.setIfInBounds_toArray, List.set_cons_zero, List.set_cons_succ]
            refine ⟨_, ?_, rfl, by rfl, ?_, ?_⟩
            rotate_left
            · intro w; go_simp; first | done | rfl
            conv => arg 6; simp only [Act.put, List.setIfInBounds_toArray, List.set_cons_zero, List.set_cons_succ]
            refine ⟨_, ?_, rfl, by rfl, ?_, ?_⟩
            rotate_left
            · intro w; go_simp; first | done | rfl
            conv => arg 6; simp only [Act.put, List.setIfInBounds_toArray, List.set_cons_zero, List.set_cons_succ]
            refine ⟨_, ?_, rfl, by rfl, ?_, ?_⟩
            rotate_left
            · intro w; go_simp; first | done | rfl
            conv => arg 6; simp only [Act.put, List.setIfInBounds_toArray, List.set_cons_zero, List.set_cons_succ]
            refine ⟨_, ?_, rfl, by rfl, ?_, ?_⟩
            rotate_left
            · intro w; go_simp; first | done | rfl
            conv => arg 6; simp only [Act.put, List.setIfInBounds_toArray, List.set_cons_zero, List.set_cons_succ]
            have HMK : Hid (Marks 108 (marksArr 108 6755399441055743) 6755399441055743) := marks_arr (by decide)
            change wpAny _ _ _ _ (55 + 1) (marksArr 108 6755399441055743) _ _
            refine wpAny_ready (rs := [51, 53]) (by kernel_rfl) (by simp) ?_
            refine AllReady.cons rfl (fun K hK => ?_) (AllReady.cons rfl (fun K hK => ?_) AllReady.nil)
            · as_aux_lemma =>
              rw [if_pos (by rfl)]
              obtain ⟨q1, q2, q3, q4⟩ := HSTRS.out _ HBC.out
              go_simp
              refine hK _ _ ?_
              clear hK K q1 q2 q3 q4
              conv => arg 7; simp only [Act.put, List.setIfInBounds_toArray, List.set_cons_zero, List.set_cons_succ]
              refine any_one (i := 53) (by kernel_rfl) rfl (by rfl) (fun K hK => ?_)
              go_simp
              refine (HRS.out _ HBC.out).mono ?_
              rintro e w9 ⟨v9, rfl, ho9, hb9⟩
              have HBC := Lib.hid (HBC.out.trans (hb9.mono HBC.out.size))
              obtain ⟨a9, c9, rfl, _, _, hr9⟩ := ho9.row
              refine hK _ _ ?_
              have HR9 := Lib.hid hr9
              clear hK K hb9 ho9 hr9
              conv => arg 7; simp only [Act.put, List.setIfInBounds_toArray, List.set_cons_zero, List.set_cons_succ]
              have q9 := fun q => HSX.out c9 (HR9.out.drewN (q := q))
              have s1 := fun q => (HSTRS.out (w9.drewN q) (below_drewN HBC.out q)).1
              have s2 := fun q => (HSTRS.out (w9.drewN q) (below_drewN HBC.out q)).2.1
              have s3 := fun q => (HSTRS.out (w9.drewN q) (below_drewN HBC.out q)).2.2.1
              have s4 := fun q => (HSTRS.out (w9.drewN q) (below_drewN HBC.out q)).2.2.2
              have s5 := fun q => (HD7.out (w9.drewN q) (below_drewN HBC.out q)).1
              have s6 := fun q => (HD7.out (w9.drewN q) (below_drewN HBC.out q)).2
              refine rest_from (fun w' => ∃ q, w' = w9.drewN q) _ 54 [54, 55, 56, 57, 58, 59, 60, 61, 62, 63, 64, 65, 66, 67, 68, 69, 70, 71, 72, 73, 74, 75, 76, 77, 78, 79, 80, 81, 82, 83, 84, 85, 86, 87, 88, 89, 90, 91, 92, 93, 94, 95, 96, 97, 98, 99, 100, 101, 102, 103, 104, 105, 106, 107] ((HMK.out.set (k := 51) (by decide)).set (k := 53) (by decide)) rfl (by kernel_rfl) (by kernel_rfl) rfl (by kernel_rfl) ⟨0, rfl⟩ ?_
              simp only [List.drop_succ_cons, List.drop_zero]
              repeat (go_big_quiet_step (fail))
              refine wpQuiet_nil ?_
              rintro w5 ⟨q', rfl⟩
              go_wp2_with fail
              go_ret
              exact ⟨rfl, HBZ.out.trans ((below_drewN HBC.out q').mono hwz)⟩
            · as_aux_lemma =>
              rw [if_pos (by rfl)]
              go_simp
              refine (HRS.out _ HBC.out).mono ?_
              rintro e w9 ⟨v9, rfl, ho9, hb9⟩
              have HBC := Lib.hid (HBC.out.trans (hb9.mono HBC.out.size))
              obtain ⟨a9, c9, rfl, _, _, hr9⟩ := ho9.row
              refine hK _ _ ?_
              have HR9 := Lib.hid hr9
              clear hK K hb9 ho9 hr9
              conv => arg 7; simp only [Act.put, List.setIfInBounds_toArray, List.set_cons_zero, List.set_cons_succ]
              refine wpAny_ready (rs := [51, 54]) (by kernel_rfl) (by simp) ?_
              refine AllReady.cons rfl (fun K hK => ?_) (AllReady.cons rfl (fun K hK => ?_) AllReady.nil)
              · rw [if_pos (by rfl)]
                obtain ⟨q1, q2, q3, q4⟩ := HSTRS.out _ HBC.out
                go_simp
                refine hK _ _ ?_
                clear hK K q1 q2 q3 q4
                conv => arg 7; simp only [Act.put, List.setIfInBounds_toArray, List.set_cons_zero, List.set_cons_succ]
                have q9 := fun q => HSX.out c9 (HR9.out.drewN (q := q))
                have s1 := fun q => (HSTRS.out (w9.drewN q) (below_drewN HBC.out q)).1
                have s2 := fun q => (HSTRS.out (w9.drewN q) (below_drewN HBC.out q)).2.1
                have s3 := fun q => (HSTRS.out (w9.drewN q) (below_drewN HBC.out q)).2.2.1
                have s4 := fun q => (HSTRS.out (w9.drewN q) (below_drewN HBC.out q)).2.2.2
                have s5 := fun q => (HD7.out (w9.drewN q) (below_drewN HBC.out q)).1
                have s6 := fun q => (HD7.out (w9.drewN q) (below_drewN HBC.out q)).2
                refine rest_from (fun w' => ∃ q, w' = w9.drewN q) _ 54 [54, 55, 56, 57, 58, 59, 60, 61, 62, 63, 64, 65, 66, 67, 68, 69, 70, 71, 72, 73, 74, 75, 76, 77, 78, 79, 80, 81, 82, 83, 84, 85, 86, 87, 88, 89, 90, 91, 92, 93, 94, 95, 96, 97, 98, 99, 100, 101, 102, 103, 104, 105, 106, 107] ((HMK.out.set (k := 53) (by decide)).set (k := 51) (by decide)) rfl (by kernel_rfl) (by kernel_rfl) rfl (by kernel_rfl) ⟨0, rfl⟩ ?_
                simp only [List.drop_succ_cons, List.drop_zero]
                repeat (go_big_quiet_step (fail))
                refine wpQuiet_nil ?_
                rintro w5 ⟨q', rfl⟩
                go_wp2_with fail
                go_ret
                exact ⟨rfl, HBZ.out.trans ((below_drewN HBC.out q').mono hwz)⟩
              · rw [if_pos (by rfl)]
                have q9 := HSX.out c9 HR9.out
                go_simp
                refine hK _ _ ?_
                clear hK K q9
                conv => arg 7; simp only [Act.put, List.setIfInBounds_toArray, List.set_cons_zero, List.set_cons_succ]
                refine any_one (i := 51) (by kernel_rfl) rfl (by rfl) (fun K hK => ?_)
                obtain ⟨q1, q2, q3, q4⟩ := HSTRS.out _ HBC.out
                go_simp
                refine hK _ _ ?_
                clear hK K q1 q2 q3 q4
                conv => arg 7; simp only [Act.put, List.setIfInBounds_toArray, List.set_cons_zero, List.set_cons_succ]
                have q9 := fun q => HSX.out c9 (HR9.out.drewN (q := q))
                have s1 := fun q => (HSTRS.out (w9.drewN q) (below_drewN HBC.out q)).1
                have s2 := fun q => (HSTRS.out (w9.drewN q) (below_drewN HBC.out q)).2.1
                have s3 := fun q => (HSTRS.out (w9.drewN q) (below_drewN HBC.out q)).2.2.1
                have s4 := fun q => (HSTRS.out (w9.drewN q) (below_drewN HBC.out q)).2.2.2
                have s5 := fun q => (HD7.out (w9.drewN q) (below_drewN HBC.out q)).1
                have s6 := fun q => (HD7.out (w9.drewN q) (below_drewN HBC.out q)).2
                refine rest_from (fun w' => ∃ q, w' = w9.drewN q) _ 55 [55, 56, 57, 58, 59, 60, 61, 62, 63, 64, 65, 66, 67, 68, 69, 70, 71, 72, 73, 74, 75, 76, 77, 78, 79, 80, 81, 82, 83, 84, 85, 86, 87, 88, 89, 90, 91, 92, 93, 94, 95, 96, 97, 98, 99, 100, 101, 102, 103, 104, 105, 106, 107] (((HMK.out.set (k := 53) (by decide)).set (k := 54) (by decide)).set (k := 51) (by decide)) rfl (by kernel_rfl) (by kernel_rfl) rfl (by kernel_rfl) ⟨0, rfl⟩ ?_
                simp only [List.drop_succ_cons, List.drop_zero]
                repeat (go_big_quiet_step (fail))
                refine wpQuiet_nil ?_
                rintro w5 ⟨q', rfl⟩
                go_wp2_with fail
                go_ret
                exact ⟨rfl, HBZ.out.trans ((below_drewN HBC.out q').mono hwz)⟩
          · as_aux_lemma =>
            have HBC : Hid (Below wc.heap.size wc wc.drew) := (Below.refl _ _).drew
            have ho1 : ∀ W, (Instr.slice 22 (.slice (some ⟨g, 0, none⟩) x.length (x.length + 9)) none (some (.int .i64 ((x.length : Int) + 4))) none).run Try.prog W = .ok (.slice (some ⟨g, 0, none⟩) (x.length + 4) (x.length + 9)) W := own_cut x.length g
            have ho2 : ∀ W, (Instr.slice 22 (.slice (some ⟨g, 0, none⟩) (x.length + 4) (x.length + 9)) (some (.int .i64 (x.length : Int))) none none).run Try.prog W = .ok (.slice (some ⟨g, x.length, none⟩) 4 9) W := own_end x.length g
            go_wp2_with fail
            simp only [List.append]
            refine wp_region_any (by kernel_rfl) ?_
            refine wpAny_seq (n := 108) (fuel := 56) rfl (by kernel_rfl) (by intro c a d v w h; cases d <;> exact h) [(0, true), (2, true), (1, false), (3, true), (4, true), (7, true), (5, false), (6, false), (8, true), (9, true), (10, true), (13, true), (14, true), (11, false), (12, false), (15, true), (16, true), (17, true), (20, true), (18, false), (19, false), (21, true), (22, true), (23, true), (26, true), (27, true), (28, true), (24, false), (25, false), (29, false), (30, true), (31, true), (32, true), (33, true), (34, true), (35, true), (37, true), (38, true), (39, true), (41, true), (42, true), (43, true), (44, true), (46, true), (36, false), (40, false), (45, false), (47, true), (48, true), (49, true), (50, true), (52, true)] 0 _ _ _ (marks_none 108) (by kernel_rfl) ?_
            refine ⟨_, ?_, rfl, by rfl, ?_, ?_⟩
            rotate_left
            · intro w; go_simp; first | done | rfl
            conv => arg 6; simp only [Act.put, List.setIfInBounds_toArray, List.set_cons_zero, List.set_cons_succ]
            refine ⟨_, ?_, rfl, by rfl, ?_, ?_⟩
            rotate_left
            · intro w; go_simp; first | done | rfl
            conv => arg 6; simp only [Act.put, List.setIfInBounds_toArray, List.set_cons_zero, List.set_cons_succ]
            refine ⟨_, rfl, by rfl, fun K hK => ?_⟩
            go_simp
            refine (HOF.out _ HBC.out).mono ?_
            rintro e w9 ⟨rfl, hb9⟩
            refine hK _ _ ?_
            have HBC := Lib.hid (HBC.out.trans (hb9.mono HBC.out.size))
            clear hK K hb9
            conv => arg 6; simp only [Act.put, List.setIfInBounds_toArray, List.set_cons_zero, List.set_cons_succ]
            refine ⟨_, ?_, rfl, by rfl, ?_, ?_⟩
            rotate_left
            · intro w; go_simp; first | done | rfl
            conv => arg 6; simp only [Act.put, List.setIfInBounds_toArray, List.set_cons_zero, List.set_cons_succ]
            refine ⟨_, ?_, rfl, by rfl, ?_, ?_⟩
            rotate_left
            · intro w; go_simp; first | done | rfl
            conv => arg 6; simp only [Act.put, List.setIfInBounds_toArray, List.set_cons_zero, List.set_cons_succ]
            refine ⟨_, ?_, rfl, by rfl, ?_, ?_⟩
            rotate_left
            · intro w; go_simp; first | done | rfl
            conv => arg 6; simp only [Act.put, List.setIfInBounds_toArray, List.set_cons_zero, List.set_cons_succ]
            refine ⟨_, rfl, by rfl, fun K hK => ?_⟩
            obtain ⟨p0, p1, p2, p3⟩ := HCELLS.out _ HBC.out
            go_simp
            refine hK _ _ ?_
            clear hK K p0 p1 p2 p3
            conv => arg 6; simp only [Act.put, List.setIfInBounds_toArray, List.set_cons_zero, List.set_cons_succ]
            refine ⟨_, rfl, by rfl, fun K hK => ?_⟩
            go_simp
            refine (HSUM.out _).mono ?_
            rintro e w9 ⟨rfl, hb9⟩
            refine hK _ _ ?_
            have HBC := Lib.hid (HBC.out.trans (hb9.mono HBC.out.size))
            clear hK K hb9
            conv => arg 6; simp only [Act.put, List.setIfInBounds_toArray, List.set_cons_zero, List.set_cons_succ]
            refine ⟨_, ?_, rfl, by rfl, ?_, ?_⟩
            rotate_left
            · intro w; go_simp; first | done | rfl
            conv => arg 6; simp only [Act.put, List.setIfInBounds_toArray, List.set_cons_zero, List.set_cons_succ]
            refine ⟨_, ?_, rfl, by rfl, ?_, ?_⟩
            rotate_left
            · intro w; go_simp; first | done | rfl
            conv => arg 6; simp only [Act.put, List.setIfInBounds_toArray, List.set_cons_zero, List.set_cons_succ]
            refine ⟨_, ?_, rfl, by rfl, ?_, ?_⟩
            rotate_left
            · intro w; go_simp; first | done | rfl
            conv => arg 6; simp only [Act.put, List.setIfInBounds_toArray, List.set_cons_zero, List.set_cons_succ]
            refine ⟨_, ?_, rfl, by rfl, ?_, ?_⟩
            rotate_left
            · intro w; go_simp; first | done | rfl
            conv => arg 6; simp only [Act.put, List.setIfInBounds_toArray, List.set_cons_zero, List.set_cons_succ]
            refine ⟨_, ?_, rfl, by rfl, ?_, ?_⟩
            rotate_left
            · intro w; go_simp; first | done | rfl
            conv => arg 6; simp only [Act.put, List.setIfInBounds_toArray, List.set_cons_zero, List.set_cons_succ]
            refine ⟨_, rfl, by rfl, fun K hK => ?_⟩
            obtain ⟨p0, p1, p2, p3⟩ := HCELLS.out _ HBC.out
            go_simp
            refine hK _ _ ?_
            clear hK K p0 p1 p2 p3
            conv => arg 6; simp only [Act.put, List.setIfInBounds_toArray, List.set_cons_zero, List.set_cons_succ]
            refine ⟨_, rfl, by rfl, fun K hK => ?_⟩
            go_simp
            refine (HLEN.out _).mono ?_
            rintro e w9 ⟨rfl, hb9⟩
            refine hK _ _ ?_
            have HBC := Lib.hid (HBC.out.trans (hb9.mono HBC.out.size))
            clear hK K hb9
            conv => arg 6; simp only [Act.put, List.setIfInBounds_toArray, List.set_cons_zero, List.set_cons_succ]
            refine ⟨_, ?_, rfl, by rfl, ?_, ?_⟩
            rotate_left
            · intro w; go_simp; first | done | rfl
            conv => arg 6; simp only [Act.put, List.setIfInBounds_toArray, List.set_cons_zero, List.set_cons_succ]
            refine ⟨_, ?_, rfl, by rfl, ?_, ?_⟩
            rotate_left
            · intro w; go_simp; first | done | rfl
            conv => arg 6; simp only [Act.put, List.setIfInBounds_toArray, List.set_cons_zero, List.set_cons_succ]
            refine ⟨_, ?_, rfl, by rfl, ?_, ?_⟩
            rotate_left
            · intro w; go_simp; first | done | rfl
            conv => arg 6; simp only [Act.put, List.setIfInBounds_toArray, List.set_cons_zero, List.set_cons_succ]
            refine ⟨_, ?_, rfl, by rfl, ?_, ?_⟩
            rotate_left
            · intro w; go_simp; first | done | rfl
            conv => arg 6; simp only [Act.put, List.setIfInBounds_toArray, List.set_cons_zero, List.set_cons_succ]
            refine ⟨_, rfl, by rfl, fun K hK => ?_⟩
            obtain ⟨p0, p1, p2, p3⟩ := HCELLS.out _ HBC.out
            go_simp
            refine hK _ _ ?_
            clear hK K p0 p1 p2 p3
            conv => arg 6; simp only [Act.put, List.setIfInBounds_toArray, List.set_cons_zero, List.set_cons_succ]
            refine ⟨_, rfl, by rfl, fun K hK => ?_⟩
            go_simp
            refine (HLEN3.out _).mono ?_
            rintro e w9 ⟨rfl, hb9⟩
            refine hK _ _ ?_
            have HBC := Lib.hid (HBC.out.trans (hb9.mono HBC.out.size))
            clear hK K hb9
            conv => arg 6; simp only [Act.put, List.setIfInBounds_toArray, List.set_cons_zero, List.set_cons_succ]
            refine ⟨_, ?_, rfl, by rfl, ?_, ?_⟩
            rotate_left
            · intro w; go_simp; first | done | rfl
            conv => arg 6; simp only [Act.put, List.setIfInBounds_toArray, List.set_cons_zero, List.set_cons_succ]
            refine ⟨_, ?_, rfl, by rfl, ?_, ?_⟩
            rotate_left
            · intro w; go_simp; first | done | rfl
            conv => arg 6; simp only [Act.put, List.setIfInBounds_toArray, List.set_cons_zero, List.set_cons_succ]
            refine ⟨_, ?_, rfl, by rfl, ?_, ?_⟩
            rotate_left
            · intro w; go_simp; first | done | rfl
            conv => arg 6; simp only [Act.put, List.setIfInBounds_toArray, List.set_cons_zero, List.set_cons_succ]
            refine ⟨_, ?_, rfl, by rfl, ?_, ?_⟩
            rotate_left
            · intro w; go_simp; first | done | rfl
            conv => arg 6; simp only [Act.put, List.setIfInBounds_toArray, List.set_cons_zero, List.set_cons_succ]
            refine ⟨_, ?_, rfl, by rfl, ?_, ?_⟩
            rotate_left
            · intro w; go_simp; first | done | rfl
            conv => arg 6; simp only [Act.put, List.setIfInBounds_toArray, List.set_cons_zero, List.set_cons_succ]
            refine ⟨_, ?_, rfl, by rfl, ?_, ?_⟩
            rotate_left
            · intro w; go_simp; first | done | rfl
            conv => arg 6; simp only [Act.put, List.setIfInBounds_toArray, List.set_cons_zero, List.set_cons_succ]
            refine ⟨_, rfl, by rfl, fun K hK => ?_⟩
            obtain ⟨p0, p1, p2, p3⟩ := HCELLS.out _ HBC.out
            go_simp
            refine hK _ _ ?_
            clear hK K p0 p1 p2 p3
            conv => arg 6; simp only [Act.put, List.setIfInBounds_toArray, List.set_cons_zero, List.set_cons_succ]
            refine ⟨_, rfl, by rfl, fun K hK => ?_⟩
            go_simp
            refine (HSUM3.out _).mono ?_
            rintro e w9 ⟨rfl, hb9⟩
            refine hK _ _ ?_
            have HBC := Lib.hid (HBC.out.trans (hb9.mono HBC.out.size))
            clear hK K hb9
            conv => arg 6; simp only [Act.put, List.setIfInBounds_toArray, List.set_cons_zero, List.set_cons_succ]
            refine ⟨_, rfl, by rfl, fun K hK => ?_⟩
            go_simp
            refine (HROF.out _ HBC.out).mono ?_
            rintro e w9 ⟨rfl, rfl⟩
            refine hK _ _ ?_
            clear hK K
            conv => arg 6; simp only [Act.put, List.setIfInBounds_toArray, List.set_cons_zero, List.set_cons_succ]
            refine ⟨_, ?_, rfl, by rfl, ?_, ?_⟩
            rotate_left
            · intro w; go_simp; first | done | rfl
            conv => arg 6; simp only [Act.put, List.setIfInBounds_toArray, List.set_cons_zero, List.set_cons_succ]
            refine ⟨_, ?_, rfl, by rfl, ?_, ?_⟩
            rotate_left
            · intro w; go_simp; first | done | rfl
            conv => arg 6; simp only [Act.put, List.setIfInBounds_toArray, List.set_cons_zero, List.set_cons_succ]
            refine ⟨_, ?_, rfl, by rfl, ?_, ?_⟩
            rotate_left
            · intro w; go_simp; first | done | rfl
            conv => arg 6; simp only [Act.put, List.setIfInBounds_toArray, List.set_cons_zero, List.set_cons_succ]
            refine ⟨_, ?_, rfl, by rfl, ?_, ?_⟩
            rotate_left
            · intro w; go_simp; first | done | rfl
            conv => arg 6; simp only [Act.put, List.setIfInBounds_toArray, List.set_cons_zero, List.set_cons_succ]
            refine ⟨_, ?_, rfl, by rfl, ?_, ?_⟩
            rotate_left
            · intro w; go_simp; first | done | rfl
            conv => arg 6; simp only [Act.put, List.setIfInBounds_toArray, List.set_cons_zero, List.set_cons_succ]
            refine ⟨_, ?_, rfl, by rfl, ?_, ?_⟩
            rotate_left
            · intro w; go_simp; first | done | rfl
            conv => arg 6; simp only [Act.put, List.setIfInBounds_toArray, List.set_cons_zero, List.set_cons_succ]
            refine ⟨_, ?_, rfl, by rfl, ?_, ?_⟩
            rotate_left
            · intro w; go_simp; first | done | rfl
            conv => arg 6; simp only [Act.put, List.setIfInBounds_toArray, List.set_cons_zero, List.set_cons_succ]
            refine ⟨_, ?_, rfl, by rfl, ?_, ?_⟩
            rotate_left
            · intro w; go_simp; first | done | rfl
            conv => arg 6; simp only [Act.put, List.setIfInBounds_toArray, List.set_cons_zero, List.set_cons_succ]
            refine ⟨_, ?_, rfl, by rfl, ?_, ?_⟩
            rotate_left
            · intro w; go_simp; first | done | rfl
            conv => arg 6; simp only [Act.put, List.setIfInBounds_toArray, List.set_cons_zero, List.set_cons_succ]
            refine ⟨_, ?_, rfl, by rfl, ?_, ?_⟩
            rotate_left
            · intro w; go_simp; first | done | rfl
            conv => arg 6; simp only [Act.put, List.setIfInBounds_toArray, List.set_cons_zero, List.set_cons_succ]
            refine ⟨_, ?_, rfl, by rfl, ?_, ?_⟩
            rotate_left
            · intro w; go_simp; first | done | rfl
            conv => arg 6; simp only [Act.put, List.setIfInBounds_toArray, List.set_cons_zero, List.set_cons_succ]
            refine ⟨_, ?_, rfl, by rfl, ?_, ?_⟩
            rotate_left
            · intro w; go_simp; first | done | rfl
            conv => arg 6; simp only [Act.put, List.setIfInBounds_toArray, List.set_cons_zero, List.set_cons_succ]
            refine ⟨_, ?_, rfl, by rfl, ?_, ?_⟩
            rotate_left
            · intro w; go_simp; first | done | rfl
            conv => arg 6; simp only [Act.put, List.setIfInBounds_toArray, List.set_cons_zero, List.set_cons_succ]
            refine ⟨_, ?_, rfl, by rfl, ?_, ?_⟩
            rotate_left
            · intro w; go_simp; first | done | rfl
            conv => arg 6; simp only [Act.put, List.setIfInBounds_toArray, List.set_cons_zero, List.set_cons_succ]
            refine ⟨_, rfl, by rfl, fun K hK => ?_⟩
            go_simp
            refine (HOF3.out _ HBC.out).mono ?_
            rintro e w9 ⟨rfl, hb9⟩
            refine hK _ _ ?_
            have HBC := Lib.hid (HBC.out.trans (hb9.mono HBC.out.size))
            clear hK K hb9
            conv => arg 6; simp only [Act.put, List.setIfInBounds_toArray, List.set_cons_zero, List.set_cons_succ]
            refine ⟨_, rfl, by rfl, fun K hK => ?_⟩
            go_simp
            refine (HOF4.out _ HBC.out).mono ?_
            rintro e w9 ⟨rfl, hb9⟩
            refine hK _ _ ?_
            have HBC := Lib.hid (HBC.out.trans (hb9.mono HBC.out.size))
            clear hK K hb9
            conv => arg 6; simp only [Act.put, List.setIfInBounds_toArray, List.set_cons_zero, List.set_cons_succ]
            refine ⟨_, rfl, by rfl, fun K hK => ?_⟩
            go_simp
            refine (HJN.out _).mono ?_
            rintro e w9 ⟨rfl, rfl⟩
            refine hK _ _ ?_
            clear hK K
            conv => arg 6; simp only [Act.put, List.setIfInBounds_toArray, List.set_cons_zero, List.set_cons_succ]
            refine ⟨_, ?_, rfl, by rfl, ?_, ?_⟩
            rotate_left
            · intro w; go_simp; first | done | rfl
            conv => arg 6; simp only [Act.put, List.setIfInBounds_toArray, List.set_cons_zero, List.set_cons_succ]
            refine ⟨_, ?_, rfl, by rfl, ?_, ?_⟩
            rotate_left
            · intro w; go_simp; first | done | rfl
            conv => arg 6; simp only [Act.put, List.setIfInBounds_toArray, List.set_cons_zero, List.set_cons_succ]
            refine ⟨_, ?_, rfl, by rfl, ?_, ?_⟩
            rotate_left
            · intro w; go_simp; first | done | rfl
            conv => arg 6; simp only [Act.put, List.setIfInBounds_toArray, List.set_cons_zero, List.set_cons_succ]
            refine ⟨_, ?_, rfl, by rfl, ?_, ?_⟩
            rotate_left
            · intro w; go_simp; first | done | rfl
            conv => arg 6; simp only [Act.put, List.setIfInBounds_toArray, List.set_cons_zero, List.set_cons_succ]
            refine ⟨_, ?_, rfl, by rfl, ?_, ?_⟩
            rotate_left
            · intro w; go_simp; first | done | rfl
            conv => arg 6; simp only [Act.put, List.setIfInBounds_toArray, List.set_cons_zero, List.set_cons_succ]
            have HMK : Hid (Marks 108 (marksArr 108 6755399441055743) 6755399441055743) := marks_arr (by decide)
            change wpAny _ _ _ _ (55 + 1) (marksArr 108 6755399441055743) _ _
            refine wpAny_ready (rs := [51, 53]) (by kernel_rfl) (by simp) ?_
            refine AllReady.cons rfl (fun K hK => ?_) (AllReady.cons rfl (fun K hK => ?_) AllReady.nil)
            · as_aux_lemma =>
              rw [if_pos (by rfl)]
              obtain ⟨q1, q2, q3, q4⟩ := HSTRS.out _ HBC.out
              go_simp
              refine hK _ _ ?_
              clear hK K q1 q2 q3 q4
              conv => arg 7; simp only [Act.put, List.setIfInBounds_toArray, List.set_cons_zero, List.set_cons_succ]
              refine any_one (i := 53) (by kernel_rfl) rfl (by rfl) (fun K hK => ?_)
              go_simp
              refine (HRS.out _ HBC.out).mono ?_
              rintro e w9 ⟨v9, rfl, ho9, hb9⟩
              have HBC := Lib.hid (HBC.out.trans (hb9.mono HBC.out.size))
              obtain ⟨a9, c9, rfl, _, _, hr9⟩ := ho9.row
              refine hK _ _ ?_
              have HR9 := Lib.hid hr9
              clear hK K hb9 ho9 hr9
              conv => arg 7; simp only [Act.put, List.setIfInBounds_toArray, List.set_cons_zero, List.set_cons_succ]
              have q9 := fun q => HSX.out c9 (HR9.out.drewN (q := q))
              have s1 := fun q => (HSTRS.out (w9.drewN q) (below_drewN HBC.out q)).1
              have s2 := fun q => (HSTRS.out (w9.drewN q) (below_drewN HBC.out q)).2.1
              have s3 := fun q => (HSTRS.out (w9.drewN q) (below_drewN HBC.out q)).2.2.1
              have s4 := fun q => (HSTRS.out (w9.drewN q) (below_drewN HBC.out q)).2.2.2
              refine rest_from (fun w' => ∃ q, w' = w9.drewN q) _ 54 [54, 55, 56, 57, 58, 59, 60, 61, 62, 63, 64, 65, 66, 67, 68, 69, 70, 71, 72, 73, 74, 75, 76, 77, 78, 79, 80, 81, 82, 83, 84, 85, 86, 87, 88, 89, 90, 91, 92, 93, 94, 95, 96, 97, 98, 99, 100, 101, 102, 103, 104, 105, 106, 107] ((HMK.out.set (k := 51) (by decide)).set (k := 53) (by decide)) rfl (by kernel_rfl) (by kernel_rfl) rfl (by kernel_rfl) ⟨0, rfl⟩ ?_
              simp only [List.drop_succ_cons, List.drop_zero]
              repeat (go_big_quiet_step (fail))
              refine wpQuiet_nil ?_
              rintro w5 ⟨q', rfl⟩
              go_wp2_with fail
              go_ret
              exact ⟨rfl, HBZ.out.trans ((below_drewN HBC.out q').mono hwz)⟩
            · as_aux_lemma =>
              rw [if_pos (by rfl)]
              go_simp
              refine (HRS.out _ HBC.out).mono ?_
              rintro e w9 ⟨v9, rfl, ho9, hb9⟩
              have HBC := Lib.hid (HBC.out.trans (hb9.mono HBC.out.size))
              obtain ⟨a9, c9, rfl, _, _, hr9⟩ := ho9.row
              refine hK _ _ ?_
              have HR9 := Lib.hid hr9
              clear hK K hb9 ho9 hr9
              conv => arg 7; simp only [Act.put, List.setIfInBounds_toArray, List.set_cons_zero, List.set_cons_succ]
              refine wpAny_ready (rs := [51, 54]) (by kernel_rfl) (by simp) ?_
              refine AllReady.cons rfl (fun K hK => ?_) (AllReady.cons rfl (fun K hK => ?_) AllReady.nil)
              · rw [if_pos (by rfl)]
                obtain ⟨q1, q2, q3, q4⟩ := HSTRS.out _ HBC.out
                go_simp
                refine hK _ _ ?_
                clear hK K q1 q2 q3 q4
                conv => arg 7; simp only [Act.put, List.setIfInBounds_toArray, List.set_cons_zero, List.set_cons_succ]
                have q9 := fun q => HSX.out c9 (HR9.out.drewN (q := q))
                have s1 := fun q => (HSTRS.out (w9.drewN q) (below_drewN HBC.out q)).1
                have s2 := fun q => (HSTRS.out (w9.drewN q) (below_drewN HBC.out q)).2.1
                have s3 := fun q => (HSTRS.out (w9.drewN q) (below_drewN HBC.out q)).2.2.1
                have s4 := fun q => (HSTRS.out (w9.drewN q) (below_drewN HBC.out q)).2.2.2
                refine rest_from (fun w' => ∃ q, w' = w9.drewN q) _ 54 [54, 55, 56, 57, 58, 59, 60, 61, 62, 63, 64, 65, 66, 67, 68, 69, 70, 71, 72, 73, 74, 75, 76, 77, 78, 79, 80, 81, 82, 83, 84, 85, 86, 87, 88, 89, 90, 91, 92, 93, 94, 95, 96, 97, 98, 99, 100, 101, 102, 103, 104, 105, 106, 107] ((HMK.out.set (k := 53) (by decide)).set (k := 51) (by decide)) rfl (by kernel_rfl) (by kernel_rfl) rfl (by kernel_rfl) ⟨0, rfl⟩ ?_
                simp only [List.drop_succ_cons, List.drop_zero]
                repeat (go_big_quiet_step (fail))
                refine wpQuiet_nil ?_
                rintro w5 ⟨q', rfl⟩
                go_wp2_with fail
                go_ret
                exact ⟨rfl, HBZ.out.trans ((below_drewN HBC.out q').mono hwz)⟩
              · rw [if_pos (by rfl)]
                have q9 := HSX.out c9 HR9.out
                go_simp
                refine hK _ _ ?_
                clear hK K q9
                conv => arg 7; simp only [Act.put, List.setIfInBounds_toArray, List.set_cons_zero, List.set_cons_succ]
                refine any_one (i := 51) (by kernel_rfl) rfl (by rfl) (fun K hK => ?_)
                obtain ⟨q1, q2, q3, q4⟩ := HSTRS.out _ HBC.out
                go_simp
                refine hK _ _ ?_
                clear hK K q1 q2 q3 q4
                conv => arg 7; simp only [Act.put, List.setIfInBounds_toArray, List.set_cons_zero, List.set_cons_succ]
                have q9 := fun q => HSX.out c9 (HR9.out.drewN (q := q))
                have s1 := fun q => (HSTRS.out (w9.drewN q) (below_drewN HBC.out q)).1
                have s2 := fun q => (HSTRS.out (w9.drewN q) (below_drewN HBC.out q)).2.1
                have s3 := fun q => (HSTRS.out (w9.drewN q) (below_drewN HBC.out q)).2.2.1
                have s4 := fun q => (HSTRS.out (w9.drewN q) (below_drewN HBC.out q)).2.2.2
                refine rest_from (fun w' => ∃ q, w' = w9.drewN q) _ 55 [55, 56, 57, 58, 59, 60, 61, 62, 63, 64, 65, 66, 67, 68, 69, 70, 71, 72, 73, 74, 75, 76, 77, 78, 79, 80, 81, 82, 83, 84, 85, 86, 87, 88, 89, 90, 91, 92, 93, 94, 95, 96, 97, 98, 99, 100, 101, 102, 103, 104, 105, 106, 107] (((HMK.out.set (k := 53) (by decide)).set (k := 54) (by decide)).set (k := 51) (by decide)) rfl (by kernel_rfl) (by kernel_rfl) rfl (by kernel_rfl) ⟨0, rfl⟩ ?_
                simp only [List.drop_succ_cons, List.drop_zero]
                repeat (go_big_quiet_step (fail))
                refine wpQuiet_nil ?_
                rintro w5 ⟨q', rfl⟩
                go_wp2_with fail
                go_ret
                exact ⟨rfl, HBZ.out.trans ((below_drewN HBC.out q').mono hwz)⟩
end Go.Proofs.Ytnhhdnhfijaijaa
