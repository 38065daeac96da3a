/- sum.Seal, the document's Seal, sum.Open: contracts. -/
import Derived.Test.YtnhhdnhfijaijaaSm3
import Derived.Test.YtnhhdnhfijaijaaApd
import Derived.Deep.QuietTactic
import Derived.BigQuiet
namespace Go.Proofs.Ytnhhdnhfijaijaa
open Go.RowKit

/-- A number of 32 bits as four bytes, the greatest first. -/
def four (s : BitVec 32) : List Int := [(s.toNat : Int) / 16777216, (s.toNat : Int) / 65536 % 256, (s.toNat : Int) / 256 % 256, (s.toNat : Int) % 256]
/-- A row, sealed. -/
def sealed (zs : List Int) : List Int := zs ++ four (crcz zs)
theorem four_length (s : BitVec 32) : (four s).length = 4 := rfl
theorem sealed_length (zs : List Int) : (sealed zs).length = zs.length + 4 := by unfold sealed; rw [List.length_append, four_length]
theorem four_range (s : BitVec 32) : ∀ v ∈ four s, 0 ≤ v ∧ v ≤ 255 := by
  have := lt32 s
  intro v hv
  simp only [four, List.mem_cons, List.not_mem_nil, or_false] at hv
  rcases hv with rfl | rfl | rfl | rfl <;> omega
theorem sealed_range (zs : List Int) (h : ∀ v ∈ zs, 0 ≤ v ∧ v ≤ 255) : ∀ v ∈ sealed zs, 0 ≤ v ∧ v ≤ 255 := by
  intro v hv
  rcases List.mem_append.1 hv with hv | hv
  · exact h v hv
  · exact four_range _ v hv

set_option maxRecDepth 100000 in
set_option maxHeartbeats 1000000 in
theorem seal_any (zs : List Int) (a : Option Addr) (c : Nat) (w : World) (hr : Row .u8 w w.heap.size a zs) (hn : a = none → c = 0) (hz : ∀ z ∈ zs, 0 ≤ z ∧ z ≤ 255) (hl : zs.length ≤ 1000000) :
    Calls Try.prog 10 #[.slice a zs.length c] w fun e w' => ∃ v', e = .returned v' ∧ Own w' w.heap.size v' (sealed zs) ∧ Below w.heap.size w w' := by
  have HR := Lib.hid hr
  have HZ := Lib.hid hz
  have HN := Lib.hid hn
  clear hr hz hn
  go_enter Try.func10, Try.ntmps10
  go_wp2_with fail
  refine (of_any zs a c w HR.out HZ.out (by omega)).mono ?_
  rintro e w1 ⟨rfl, hb⟩
  have HB1 := Lib.hid hb
  clear hb
  have hws := HB1.out.size
  obtain ⟨MC, _, hmk, hmd⟩ := made_row (zs.length + 4) (by omega)
  have hmk' := hmk w1 ((zs.length : Int) + 4) (by omega)
  have HMD := Lib.hid (hmd w1 w.heap.size hws)
  have HBA := Lib.hid (HB1.out.alloc hws (.cells MC 5))
  have HLT := Lib.hid (lt32 (crcz zs))
  clear hmk hmd
  go_wp2_with (first | (at_builtin; refine apd_own rfl _ _ rfl w.heap.size _ [] rfl HMD.out a _ c zs rfl rfl HN.out (Nat.le_refl _) HBA.out HR.out ?_ ?_; (simp; omega); (intro v5 w5 h5 hb5; rw [List.nil_append] at h5; have HO5 := Lib.hid h5; have HB5 := Lib.hid hb5; clear h5 hb5)) | (at_builtin; refine apd_own2 rfl _ _ rfl w.heap.size _ zs rfl (HO5.out.alloc _) (some ⟨w5.heap.size, 0, none⟩) 4 4 (w5.heap.size + 1) (four (crcz zs)) rfl rfl (fun h => by cases h) (Nat.le_refl _) (HB5.out.alloc HB5.out.size _) (row_new .u8 w5 (four (crcz zs)) _) ?_ ?_; (rw [four_length]; omega); (intro v6 w6 h6 hb6; have HO6 := Lib.hid h6; have HB6 := Lib.hid hb6; clear h6 hb6)))
  go_ret
  exact ⟨_, rfl, HO6.out, HB6.out⟩

set_option maxRecDepth 100000 in
set_option maxHeartbeats 1000000 in
theorem rseal_any (zs : List Int) (a : Option Addr) (c : Nat) (w : World) (hr : Row .u8 w w.heap.size a zs) (hn : a = none → c = 0) (hz : ∀ z ∈ zs, 0 ≤ z ∧ z ≤ 255) (hl : zs.length ≤ 1000000) :
    Calls Try.prog 12 #[.slice a zs.length c] w fun e w' => ∃ v', e = .returned v' ∧ Own w' w.heap.size v' (sealed zs) ∧ Below w.heap.size w w' := by
  have HR := Lib.hid hr
  have HZ := Lib.hid hz
  have HN := Lib.hid hn
  clear hr hz hn
  have HLT := Lib.hid (lt32 (crcz zs))
  have HMD := Lib.hid (own_built w w.heap.size (Nat.le_refl _))
  have HBA := Lib.hid ((Below.refl w.heap.size w).alloc (Nat.le_refl _) (.cells #[] 5))
  go_enter Try.func12, Try.ntmps12
  go_wp2_with fail
  refine (rof_any zs w.heap.size a c w HR.out HZ.out (by omega)).mono ?_
  rintro e w1 ⟨rfl, rfl⟩
  go_wp2_with (first | (at_builtin; refine apd_own rfl _ _ rfl w.heap.size _ [] rfl HMD.out a _ c zs rfl rfl HN.out (Nat.le_refl _) HBA.out HR.out ?_ ?_; (simp; omega); (intro v5 w5 h5 hb5; rw [List.nil_append] at h5; have HO5 := Lib.hid h5; have HB5 := Lib.hid hb5; clear h5 hb5)) | (at_builtin; refine apd_own2 rfl _ _ rfl w.heap.size _ zs rfl (HO5.out.alloc _) (some ⟨w5.heap.size, 0, none⟩) 4 4 (w5.heap.size + 1) (four (crcz zs)) rfl rfl (fun h => by cases h) (Nat.le_refl _) (HB5.out.alloc HB5.out.size _) (row_new .u8 w5 (four (crcz zs)) _) ?_ ?_; (rw [four_length]; omega); (intro v6 w6 h6 hb6; have HO6 := Lib.hid h6; have HB6 := Lib.hid hb6; clear h6 hb6)))
  go_ret
  exact ⟨_, rfl, HO6.out, HB6.out⟩

theorem add_none (a : Option Addr) : a.map (·.add 0) = a := by
  cases a with
  | none => rfl
  | some ad =>
    obtain ⟨bk, off, o⟩ := ad
    cases o <;> simp [Addr.add]
theorem cut_low {w : World} {B : Nat} {a : Option Addr} {c : Nat} {zs : List Int} (h : Row .u8 w B a zs) (hc : zs.length ≤ c) (k : Nat) (hk : k ≤ zs.length) :
    (∀ w, (Instr.slice 22 (.slice a zs.length c) none (some (.int .i64 (k : Int))) none).run Try.prog w = .ok (.slice a k c) w) ∧ Row .u8 w B a (zs.take k) := by
  refine ⟨fun w => ?_, fun j z hz => ?_⟩
  · rw [run_slice_h (P := Try.prog) (w := w) 22 _ _ _ Try.underlying22 .i64 (k : Int) (by omega) (by omega), show Try.prog.elem 22 = 5 by kernel_rfl, Try.sizeOf5]
    simp [Result.andThen, sliced, add_none]
  · have hj : j < k := by have := (List.getElem?_eq_some_iff.1 hz).1; rw [List.length_take] at this; omega
    rw [List.getElem?_take_of_lt hj] at hz
    exact h j z hz
theorem cut_high {w : World} {B : Nat} {a : Option Addr} {c : Nat} {zs : List Int} (h : Row .u8 w B a zs) (hn : a = none → c = 0) (hc : zs.length ≤ c) (k : Nat) (hk : k ≤ zs.length) :
    ∃ a', (∀ w, (Instr.slice 22 (.slice a zs.length c) (some (.int .i64 (k : Int))) none none).run Try.prog w = .ok (.slice a' (zs.length - k) (c - k)) w) ∧ Row .u8 w B a' (zs.drop k) ∧ (a' = none → c - k = 0) := by
  refine ⟨if c = k then a else a.map (·.add k), fun w => ?_, fun j z hz => ?_, fun hh => ?_⟩
  · rw [run_slice_l (P := Try.prog) (w := w) 22 _ _ _ Try.underlying22 .i64 (k : Int) (by omega) (by omega), show Try.prog.elem 22 = 5 by kernel_rfl, Try.sizeOf5]
    simp [Result.andThen, sliced]
  · have hj : j < zs.length - k := by have := (List.getElem?_eq_some_iff.1 hz).1; simpa using this
    rw [List.getElem?_drop] at hz
    obtain ⟨bk, off, rfl, h2, h3⟩ := h (k + j) z hz
    rw [if_neg (by omega)]
    exact ⟨bk, off + k, by simp [add_at], h2, by rw [Nat.add_assoc]; exact h3⟩
  · by_cases h0 : c = k
    · omega
    · rw [if_neg h0, Option.map_eq_none_iff] at hh
      have := hn hh; omega

theorem or_num (a b c d : Nat) (ha : a < 256) (hb : b < 256) (hc : c < 256) (hd : d < 256) :
    bits .or .u32 (bits .or .u32 (bits .or .u32 ((a : Int) * 16777216) ((b : Int) * 65536)) ((c : Int) * 256)) (d : Int) = (a : Int) * 16777216 + (b : Int) * 65536 + (c : Int) * 256 + (d : Int) := by
  have e1 : a * 16777216 ||| b * 65536 = a * 16777216 + b * 65536 := by
    have := Nat.two_pow_add_eq_or_of_lt (i := 24) (b := b * 65536) (by omega) a
    rw [show (2 ^ 24 : Nat) = 16777216 from rfl, Nat.mul_comm 16777216 a] at this
    exact this.symm
  have e2 : (a * 16777216 + b * 65536) ||| c * 256 = a * 16777216 + b * 65536 + c * 256 := by
    have := Nat.two_pow_add_eq_or_of_lt (i := 16) (b := c * 256) (by omega) (a * 256 + b)
    rw [show (2 ^ 16 : Nat) * (a * 256 + b) = a * 16777216 + b * 65536 by omega] at this
    exact this.symm
  have e3 : (a * 16777216 + b * 65536 + c * 256) ||| d = a * 16777216 + b * 65536 + c * 256 + d := by
    have := Nat.two_pow_add_eq_or_of_lt (i := 8) (b := d) (by omega) (a * 65536 + b * 256 + c)
    rw [show (2 ^ 8 : Nat) * (a * 65536 + b * 256 + c) = a * 16777216 + b * 65536 + c * 256 by omega] at this
    exact this.symm
  rw [show (a : Int) * 16777216 = ((a * 16777216 : Nat) : Int) by omega, show (b : Int) * 65536 = ((b * 65536 : Nat) : Int) by omega, show (c : Int) * 256 = ((c * 256 : Nat) : Int) by omega]
  rw [u32_or_nat _ _ (by omega) (by omega), e1, u32_or_nat _ _ (by omega) (by omega), e2, u32_or_nat _ _ (by omega) (by omega), e3]
  omega
/-- Whether a row's end is its sum. -/
theorem end_is (s : BitVec 32) (a b c d : Nat) (hb : b < 256) (hc : c < 256) (hd : d < 256) :
    (((s.toNat : Int) != (a : Int) * 16777216 + (b : Int) * 65536 + (c : Int) * 256 + (d : Int)) = false) ↔ four s = [(a : Int), (b : Int), (c : Int), (d : Int)] := by
  have hs := lt32 s
  unfold four
  rw [bne_eq_false_iff_eq]
  constructor
  · intro h
    rw [h]
    congr 1
    · omega
    · congr 1
      · omega
      · congr 1
        · omega
        · congr 1
          omega
  · intro h
    simp only [List.cons.injEq, and_true] at h
    omega
theorem four_of (l : List Int) (h : l.length = 4) (hr : ∀ z ∈ l, 0 ≤ z ∧ z ≤ 255) : ∃ a b c d : Nat, l = [(a : Int), (b : Int), (c : Int), (d : Int)] ∧ a < 256 ∧ b < 256 ∧ c < 256 ∧ d < 256 := by
  match l, h with
  | [x, y, z, u], _ =>
    have h1 := hr x (by simp)
    have h2 := hr y (by simp)
    have h3 := hr z (by simp)
    have h4 := hr u (by simp)
    refine ⟨x.toNat, y.toNat, z.toNat, u.toNat, ?_, by omega, by omega, by omega, by omega⟩
    rw [show ((x.toNat : Nat) : Int) = x by omega, show ((y.toNat : Nat) : Int) = y by omega, show ((z.toNat : Nat) : Int) = z by omega, show ((u.toNat : Nat) : Int) = u by omega]
theorem sealed_iff (zs l : List Int) (n : Nat) (h : zs.drop n = l) : sealed (zs.take n) = zs ↔ four (crcz (zs.take n)) = l := by
  unfold sealed
  rw [← h]
  constructor
  · intro e
    have : zs.take n ++ four (crcz (zs.take n)) = zs.take n ++ zs.drop n := by rw [e, List.take_append_drop]
    exact List.append_cancel_left this
  · intro e
    rw [e, List.take_append_drop]

set_option maxRecDepth 100000 in
set_option maxHeartbeats 1000000 in
theorem open_short (n : Nat) (a : Option Addr) (c : Nat) (w : World) (h : n < 4) :
    Calls Try.prog 11 #[.slice a n c] w fun e w' => e = .returned (.tuple #[.slice none 0 0, .bool false]) ∧ w = w' := by
  go_enter Try.func11, Try.ntmps11
  go_wp2
  go_ret2
  exact ⟨rfl, rfl⟩
set_option maxRecDepth 100000 in
set_option maxHeartbeats 1000000 in
theorem open_long (zs : List Int) (a : Option Addr) (c : Nat) (w : World) (hr : Row .u8 w w.heap.size a zs) (hn : a = none → c = 0) (hc : zs.length ≤ c) (hz : ∀ z ∈ zs, 0 ≤ z ∧ z ≤ 255) (h4 : 4 ≤ zs.length) (hl : zs.length ≤ 1000000) :
    Calls Try.prog 11 #[.slice a zs.length c] w fun e w' => Below w.heap.size w w' ∧ ((sealed (zs.take (zs.length - 4)) = zs ∧ ∃ v', e = .returned (.tuple #[v', .bool true]) ∧ Own w' w.heap.size v' (zs.take (zs.length - 4))) ∨ (sealed (zs.take (zs.length - 4)) ≠ zs ∧ e = .returned (.tuple #[.slice none 0 0, .bool false]))) := by
  obtain ⟨hs1, hr1⟩ := cut_low hr hc (zs.length - 4) (by omega)
  have hn1 := hn
  obtain ⟨a2, hs2, hr2, hn2⟩ := cut_high hr hn hc (zs.length - 4) (by omega)
  have HR1 := Lib.hid hr1
  have HR2 := Lib.hid hr2
  have HZ := Lib.hid hz
  have HN1 := Lib.hid hn1
  have HN2 := Lib.hid hn2
  clear hr1 hr2 hn1 hn2 hz hr hn
  rw [show ((zs.length - 4 : Nat) : Int) = (zs.length : Int) - 4 by omega] at hs1 hs2
  rw [show zs.length - (zs.length - 4) = 4 by omega] at hs2
  go_enter Try.func11, Try.ntmps11
  go_wp2_with fail
  go_quiet (fail)
  clear hs1 hs2
  obtain ⟨p0, p1, p2, p3, hdl, hp0, hp1, hp2, hp3⟩ := four_of (zs.drop (zs.length - 4)) (by rw [List.length_drop]; omega) (fun z hz => HZ.out z (List.mem_of_mem_drop hz))
  have HIF := Lib.hid (sealed_iff zs _ _ hdl)
  rw [hdl] at HR2
  have HEI := Lib.hid (end_is (crcz (zs.take (zs.length - 4))) p0 p1 p2 p3 hp1 hp2 hp3)
  have HON := Lib.hid (or_num p0 p1 p2 p3 hp0 hp1 hp2 hp3)
  obtain ⟨bk, off, rfl, _, hc0⟩ := HR2.out 0 _ rfl
  have hc1 : w.cell? ⟨bk, off + 1, none⟩ = some (.int .u8 (p1 : Int)) := by
    obtain ⟨bk', off', he, _, hh⟩ := HR2.out 1 _ rfl
    obtain ⟨rfl, rfl⟩ : bk = bk' ∧ off = off' := by simpa using he
    exact hh
  have hc2 : w.cell? ⟨bk, off + 2, none⟩ = some (.int .u8 (p2 : Int)) := by
    obtain ⟨bk', off', he, _, hh⟩ := HR2.out 2 _ rfl
    obtain ⟨rfl, rfl⟩ : bk = bk' ∧ off = off' := by simpa using he
    exact hh
  have hc3 : w.cell? ⟨bk, off + 3, none⟩ = some (.int .u8 (p3 : Int)) := by
    obtain ⟨bk', off', he, _, hh⟩ := HR2.out 3 _ rfl
    obtain ⟨rfl, rfl⟩ : bk = bk' ∧ off = off' := by simpa using he
    exact hh
  rw [Nat.add_zero] at hc0
  clear hdl
  go_wp2_with fail
  go_quiet (fail)
  rw [HON.out]
  clear HON hc0 hc1 hc2 hc3 HR2 HN2
  generalize (p0 : Int) * 16777216 + (p1 : Int) * 65536 + (p2 : Int) * 256 + (p3 : Int) = N at *
  generalize bits .or .u32 (bits .or .u32 ((p0 : Int) * 16777216) ((p1 : Int) * 65536)) ((p2 : Int) * 256) = M1 at *
  generalize bits .or .u32 ((p0 : Int) * 16777216) ((p1 : Int) * 65536) = M2 at *
  generalize (p0 : Int) * 16777216 = M3 at *
  generalize (p1 : Int) * 65536 = M4 at *
  generalize (p2 : Int) * 256 = M5 at *
  have HBY : Hid (∀ z ∈ zs.take (zs.length - 4), 0 ≤ z ∧ z ≤ 255) := fun z hz => HZ.out z (List.mem_of_mem_take hz)
  have hlt : (zs.take (zs.length - 4)).length = zs.length - 4 := by rw [List.length_take]; omega
  have HLT := Lib.hid hlt
  have HOF := Lib.hid (fun q => of_any (zs.take (zs.length - 4)) a c (w.drewN q) HR1.out HBY.out (by rw [hlt]; omega))
  rw [hlt] at HOF
  clear hlt HZ
  by_cases hse : sealed (zs.take (zs.length - 4)) = zs
  · have htest := HEI.out.2 (HIF.out.1 hse)
    have HSE := Lib.hid hse
    clear hse HEI HIF
    generalize (crcz (zs.take (zs.length - 4))).toNat = X at *
    go_wp2_with fail
    refine (HOF.out _).mono ?_
    rintro e w1 ⟨rfl, hb⟩
    have HB1 : Hid (Below w.heap.size w w1) := ⟨hb.os, hb.tape, hb.output, hb.size, hb.block⟩
    clear hb HOF
    go_wp2_with (at_builtin; refine apd_own rfl _ _ rfl w.heap.size _ [] rfl (World.ownsRow_nil _ _ _ _) a _ c (zs.take (zs.length - 4)) rfl HLT.out HN1.out (Nat.le_refl _) HB1.out HR1.out ?_ ?_; (rw [HLT.out]; simp; omega); (intro v5 w5 h5 hb5; rw [List.nil_append] at h5; have HO5 := Lib.hid h5; have HB5 := Lib.hid hb5; clear h5 hb5))
    go_ret2
    exact ⟨HB5.out, Or.inl ⟨HSE.out, _, rfl, HO5.out⟩⟩
  · have htest : (((crcz (zs.take (zs.length - 4))).toNat : Int) != N) = true := by
      cases h : (((crcz (zs.take (zs.length - 4))).toNat : Int) != N)
      · exact absurd (HIF.out.2 (HEI.out.1 h)) hse
      · rfl
    have HSE := Lib.hid hse
    clear hse HEI HIF
    generalize (crcz (zs.take (zs.length - 4))).toNat = X at *
    go_wp2_with fail
    refine (HOF.out _).mono ?_
    rintro e w1 ⟨rfl, hb⟩
    have HB1 : Hid (Below w.heap.size w w1) := ⟨hb.os, hb.tape, hb.output, hb.size, hb.block⟩
    clear hb HOF
    go_wp2
    go_ret2
    exact ⟨HB1.out, Or.inr ⟨HSE.out, rfl⟩⟩
end Go.Proofs.Ytnhhdnhfijaijaa
