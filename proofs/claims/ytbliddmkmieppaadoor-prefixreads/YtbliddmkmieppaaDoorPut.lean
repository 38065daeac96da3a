/- prefix.put, Put and PutInt: the bytes that they leave behind a row: contracts. -/
import Derived.Test.YtbliddmkmieppaaDoorPf
import Derived.Deep.LoopGhost
import Derived.Deep.RegionWith
import Derived.BigRegion
import Derived.Maps.AppendAt
import Derived.Below
import Derived.Laws.BitsAllLaws
namespace Go.Proofs.YtbliddmkmieppaaDoor
open Go.RowKit

theorem Tryd.infoU8 : (Tryd.prog.info? 5).map (fun i => (i.zero, i.size, i.bytes)) = some (some (.int .u8 0), 1, 1) := by kernel_rfl
/-- A row of bytes of the call's own. -/
def Own (w : World) (B : Nat) (v : Value) (zs : List Int) : Prop := w.ownsRow B 5 1 v zs.length (zs.map (Value.int .u8))

theorem or_fin (m : Nat) (b : Nat) (h : ∀ v : Fin m, v.val ||| b = v.val + b) (V : Int) (h0 : 0 ≤ V) (h1 : V < m) (hm : m ≤ 256) (hb : b < 256) : bits .or .u8 V (b : Int) = V + b := by
  rw [u8_or V b h0 (by omega) (by omega) (by omega)]
  have := h ⟨V.toNat, by omega⟩
  simp only [Int.toNat_natCast] at this ⊢
  omega
theorem or_mk (k : Nat) (hk : 1 ≤ k) (hk9 : k ≤ 9) (V : Int) (h0 : 0 ≤ V) (h1 : V < lim k) : bits .or .u8 V (mk k) = V + mk k := by
  match k, hk, hk9 with
  | 1, _, _ => exact or_fin 128 0 (by decide) V h0 h1 (by decide) (by decide)
  | 2, _, _ => exact or_fin 64 128 (by decide) V h0 h1 (by decide) (by decide)
  | 3, _, _ => exact or_fin 32 192 (by decide) V h0 h1 (by decide) (by decide)
  | 4, _, _ => exact or_fin 16 224 (by decide) V h0 h1 (by decide) (by decide)
  | 5, _, _ => exact or_fin 8 240 (by decide) V h0 h1 (by decide) (by decide)
  | 6, _, _ => exact or_fin 4 248 (by decide) V h0 h1 (by decide) (by decide)
  | 7, _, _ => exact or_fin 2 252 (by decide) V h0 h1 (by decide) (by decide)
  | 8, _, _ => exact or_fin 1 254 (by decide) V h0 h1 (by decide) (by decide)
  | 9, _, _ => exact or_fin 1 255 (by decide) V h0 h1 (by decide) (by decide)
theorem own_put {wr : World} {B g cap : Nat} {bs dn : List Int} {n V : Int} (hO : Own wr B (.slice (some ⟨g, 0, none⟩) (bs.length + sz n) cap) (bs ++ dn)) (hdn : dn = be (sz n) n) (hlen : (bs ++ dn).length = bs.length + sz n)
    (hV : n / 256 ^ (sz n - 1) % 256 = V) (h0 : 0 ≤ n) (h1 : n ≤ 18446744073709551615) :
    Own (wr.setCell ⟨g, bs.length, none⟩ (.int .u8 (bits .or .u8 V (mk (sz n))))).drew B (.slice (some ⟨g, 0, none⟩) (bs.length + sz n) cap) (bs ++ enc n) := by
  obtain ⟨p, q⟩ := sz_pos n
  obtain ⟨a, b⟩ := top_lim n h0 h1
  have hl := lim_le (sz n)
  unfold Own at hO ⊢
  rw [hlen] at hO
  have hs := (hO.stored bs.length (.int .u8 (bits .or .u8 V (mk (sz n))))).1
  rw [or_mk (sz n) p q V (by omega) (by omega), hdn] at hs
  have e1 : (bs ++ enc n).length = bs.length + sz n := by rw [List.length_append, enc_length]
  have e2 : ((bs ++ be (sz n) n).map (Value.int .u8)).set bs.length (.int .u8 (V + mk (sz n))) = (bs ++ enc n).map (Value.int .u8) := by
    obtain ⟨m, hm⟩ : ∃ m, sz n = m + 1 := ⟨sz n - 1, by omega⟩
    rw [enc, hV, hm]
    simp [be]
  rw [e2] at hs
  rw [e1, or_mk (sz n) p q V (by omega) (by omega)]
  exact hs

set_option maxRecDepth 100000 in
set_option maxHeartbeats 1000000 in
theorem put_any (B : Nat) (v : Value) (bs : List Int) (n : Int) (h0 : 0 ≤ n) (h1 : n ≤ 18446744073709551615) (w : World) (hB : B ≤ w.heap.size) (hl : bs.length ≤ 1000000000) (hown : Own w B v bs) :
    Calls Tryd.prog 30 #[v, .int .u64 n] w fun e w' => ∃ v', e = .returned v' ∧ Own w' B v' (bs ++ enc n) ∧ Below B w w' := by
  obtain ⟨i0, hi, hz0, hz1, hz2⟩ := info_parts Tryd.infoU8
  have HI := Lib.hid hi
  have HZ0 := Lib.hid hz0
  have HZ1 := Lib.hid hz1
  have HZ2 := Lib.hid hz2
  clear hi hz0 hz1 hz2
  have HS := Lib.hid (size_any n h0 h1)
  obtain ⟨k1, k9⟩ := sz_pos n
  obtain ⟨a0, c0, hv, hrow⟩ : ∃ a c, v = .slice a bs.length c ∧ True := by
    rcases hown.2 with ⟨h, hn⟩ | ⟨g, cap, cur, h, _⟩
    · exact ⟨none, 0, by rw [h, hn], trivial⟩
    · exact ⟨_, _, h, trivial⟩
  subst hv
  have HO := Lib.hid hown
  clear hown hrow
  go_enter Tryd.func30, Tryd.ntmps30
  go_wp2_with (go_at_call 33; refine (HS.out _).mono ?_; rintro e w' ⟨rfl, rfl⟩)
  go_loopg [0, 7] (sz n) (fun m b i wr => ∃ j : Nat, m = j ∧ j ≤ sz n ∧ i = .int .i64 ((j : Int) - 1) ∧ ∃ dn, dn ++ be j n = be (sz n) n ∧ Own wr B b (bs ++ dn) ∧ Below B w wr)
  case atStart => exact ⟨sz n, rfl, Nat.le_refl _, rfl, [], rfl, by simpa using HO.out, Below.refl _ _⟩
  case round =>
    obtain ⟨j, hm, hj, rfl, dn, hdn, hown, hbel⟩ := hrel
    have HM := Lib.hid hm
    have HD := Lib.hid hdn
    have HW := Lib.hid hown
    have HB := Lib.hid hbel
    clear hm hdn hown hbel
    by_cases hj0 : j = 0
    · subst hj0
      have hdn : dn = be (sz n) n := by simpa [be] using HD.out
      have hlen : (bs ++ dn).length = bs.length + sz n := by rw [hdn, List.length_append, be_length]
      obtain ⟨g, cap, rfl⟩ : ∃ g cap, u0 = .slice (some ⟨g, 0, none⟩) (bs.length + sz n) cap := by
        rcases HW.out.2 with ⟨_, hn⟩ | ⟨g, cap, cur, h, _⟩
        · rw [hlen] at hn; omega
        · exact ⟨g, cap, by rw [h, hlen]⟩
      have hc : wr.cell? ⟨g, bs.length, none⟩ = some (.int .u8 (n / 256 ^ (sz n - 1) % 256)) := by
        have hO := HW.out
        unfold Own at hO
        rw [hlen] at hO
        rw [hO.cellAt bs.length (by omega), hdn]
        obtain ⟨m, hm⟩ : ∃ m, sz n = m + 1 := ⟨sz n - 1, by omega⟩
        rw [hm]
        simp [be]
      have hf : wr.frozen? ⟨g, bs.length, none⟩ = false := by
        have hO := HW.out
        unfold Own at hO
        rw [hlen] at hO
        exact hO.frozenAt _
      generalize hV : n / 256 ^ (sz n - 1) % 256 = V at *
      have HV := Lib.hid hV
      have HDN := Lib.hid hdn
      have HL := Lib.hid hlen
      clear hdn hlen hV
      have hlt : (bs.length : Int) < (bs.length : Int) + (sz n : Int) := by omega
      have HM := Lib.hid (mark_any (sz n) k1 k9)
      go_wp2
      go_region_with (go_at_call 32; refine (HM.out _).mono ?_; rintro e w' ⟨rfl, rfl⟩)
      all_goals go_wp2
      all_goals go_ret
      all_goals refine ⟨_, rfl, ?_, ?_⟩
      all_goals first | exact own_put HW.out HDN.out HL.out HV.out h0 h1 | exact (HB.out.setCell (HW.out.lt g rfl).1 _).drew
    · have hj1 : 1 ≤ j := by omega
      have hlen : (bs ++ dn).length ≤ 1000000020 := by
        have := congrArg List.length HD.out
        rw [List.length_append, be_length, be_length] at this
        rw [List.length_append]; omega
      go_wp2_with (at_builtin; refine wpList_append_own _ rfl _ _ 22 rfl B 5 i0 (.int .u8 0) 1 1 Tryd.underlying22 HI.out HZ0.out HZ1.out HZ2.out rfl (by decide) _ _ _ rfl (HW.out.alloc _) ⟨wr.heap.size, 0, none⟩ 1 1 [.int .u8 (n / 2 ^ (8 * (j - 1)) % 256)] rfl rfl ?_ ?_ ?_ ?_ ?_ ?_; (exact cell_one_new _ _ _); (intro u hu; simp at hu; subst hu; rfl); (unfold maxLen; omega); (omega); (have := HB.out.size; simp; omega); intro v' w4 hown4 hgrow _; have HG := Lib.hid hgrow; have HO4 := Lib.hid hown4; clear hgrow hown4)
      have hW4 : Below B w w4 := (HB.out.alloc (Nat.le_trans hB HB.out.size) _).grown HG.out (by have := HB.out.size; simp; omega) (fun k hk => (HW.out.lt k hk).1)
      have hpow : n / 2 ^ (8 * (j - 1)) % 256 = n / 256 ^ (j - 1) % 256 := by rw [Int.pow_mul]; rfl
      go_roundg (j - 1)
      case measure => rw [HM.out]; omega
      case rel =>
        refine ⟨j - 1, rfl, by omega, by go_num, dn ++ [n / 256 ^ (j - 1) % 256], ?_, ?_, hW4⟩
        · rw [← HD.out, List.append_assoc]
          obtain ⟨m, rfl⟩ : ∃ m, j = m + 1 := ⟨j - 1, by omega⟩
          simp [be]
        · have := HO4.out
          rw [hpow] at this
          unfold Own
          simpa [List.append_assoc, Nat.add_assoc] using this
end Go.Proofs.YtbliddmkmieppaaDoor
