/- The statements' own example, and the first of some errors. -/
import Derived.Test.YtjafmnhnemdedaaDoorRef
namespace Go.Proofs.YtjafmnhnemdedaaDoor
open Go.RowKit Go.Extern.Stop Go.Stop Go.Extern

theorem lives_path (b1 b2 : Nat) : pathB [(b1, ⟨#[114, 111, 119]⟩, 3), (b2, ⟨#[99, 101, 108, 108]⟩, 4)] = [114, 111, 119, 32, 51, 44, 32, 99, 101, 108, 108, 32, 52] := by
  have h3 : Lib.itoa 3 = [51] := by rw [show (3 : Int) = ((3 : Nat) : Int) from rfl, itoa_nat, dec_small 3 (by omega)]; rfl
  have h4 : Lib.itoa 4 = [52] := by rw [show (4 : Int) = ((4 : Nat) : Int) from rfl, itoa_nat, dec_small 4 (by omega)]; rfl
  unfold pathB
  simp only [List.map_cons, List.map_nil, Lib.join_cons, Lib.joinTail, placeL, h3, h4]
  rfl

set_option maxRecDepth 100000 in
set_option maxHeartbeats 1000000 in
theorem lives_any (w : World) (hty : TypeLaid w) (htab : Tab w) :
    Calls Tryd.prog 5 #[] w fun e w' => e = .returned (.bool true) ∧ Below w.heap.size w w' := by
  have hW1 := below_alloc w (.cells #[.string ⟨#[99, 101, 108, 108]⟩, .int .i64 4, .iface 24 (.int .i64 1)] 35)
  have hW2 := hW1.alloc hW1.size (.cells #[.string ⟨#[114, 111, 119]⟩, .int .i64 3, .iface 31 (.pointer (some ⟨w.heap.size, 0, none⟩))] 35)
  have hch : Chain ((w.alloc (.cells #[.string ⟨#[99, 101, 108, 108]⟩, .int .i64 4, .iface 24 (.int .i64 1)] 35)).alloc (.cells #[.string ⟨#[114, 111, 119]⟩, .int .i64 3, .iface 31 (.pointer (some ⟨w.heap.size, 0, none⟩))] 35))
      (.iface 24 (.int .i64 1)) [(w.heap.size + 1, ⟨#[114, 111, 119]⟩, 3), (w.heap.size, ⟨#[99, 101, 108, 108]⟩, 4)] (.iface 31 (.pointer (some ⟨w.heap.size + 1, 0, none⟩))) := by
    refine ⟨rfl, by simp, by simp, _, by simp, rfl, ?_, ?_, _, ?_, rfl⟩
    · exact cell_alloc _ (by simp)
    · exact cell_alloc _ (by simp)
    · exact cell_alloc _ (by simp)
  have hcode := code_num 1 _ _ _ (hty.later hW2) hch
  have hsm : Small [(w.heap.size + 1, ⟨#[114, 111, 119]⟩, 3), (w.heap.size, ⟨#[99, 101, 108, 108]⟩, 4)] := by
    intro x hx
    simp only [List.mem_cons, List.not_mem_nil, or_false] at hx
    rcases hx with rfl | rfl
    · exact ⟨show (⟨#[114, 111, 119]⟩ : ByteArray).size ≤ 100 by decide, show (-9223372036854775808 : Int) ≤ 3 by omega, show (3 : Int) ≤ 9223372036854775807 by omega⟩
    · exact ⟨show (⟨#[99, 101, 108, 108]⟩ : ByteArray).size ≤ 100 by decide, show (-9223372036854775808 : Int) ≤ 4 by omega, show (4 : Int) ≤ 9223372036854775807 by omega⟩
  have HP := fun w' (hb : Below _ _ w') => path_any (.iface 24 (.int .i64 1)) (errText 1).data.toList _ _ (by simp) (Or.inr ⟨1, rfl, rfl⟩) hsm w' (hch.later hb) ((htab.later hW2).later hb) ((hty.later hW2).later hb)
  simp only [lives_path] at HP
  have HP1 := Lib.hid HP
  have HC := Lib.hid hcode
  have HW := Lib.hid hW2
  clear HP hcode hch hsm hW1 hW2 hty htab
  go_enter Tryd.func5, Tryd.ntmps5
  go_wp2_with fail
  refine (at_some _ _ _ _ _).mono ?_
  rintro e w' ⟨rfl, rfl⟩
  go_wp2_with fail
  refine (at_some _ _ _ _ _).mono ?_
  rintro e w' ⟨rfl, rfl⟩
  go_wp2_with fail
  refine HC.out.mono ?_
  rintro e w1 ⟨rfl, hb⟩
  have HB := Lib.hid hb
  clear hb
  go_wp2_with fail
  refine (HP1.out w1 HB.out).mono ?_
  rintro e w2 ⟨rfl, hb⟩
  have HB2 := Lib.hid hb
  clear hb
  go_wp2
  go_ret
  refine ⟨rfl, ?_⟩
  have h1 := HW.out.trans (HB.out.mono HW.out.size)
  exact h1.trans (HB2.out.mono h1.size)

/-- The first that isn't nil. -/
def firstV : List Value → Value
  | [] => .nilIface
  | .nilIface :: r => firstV r
  | v :: _ => v

theorem firstV_app {l r : List Value} (h : ∀ v ∈ l, v = .nilIface) : firstV (l ++ r) = firstV r := by
  induction l with
  | nil => rfl
  | cons x l ih =>
    obtain rfl := h x List.mem_cons_self
    exact ih (fun v hv => h v (List.mem_cons_of_mem _ hv))

set_option maxRecDepth 100000 in
set_option maxHeartbeats 1000000 in
/-- fault.First of errors in a row. -/
theorem first_any (a : Option Addr) (cap : Nat) (vs : List Value) (w : World) (hl : vs.length ≤ 1000) (hv : ∀ v ∈ vs, v = .nilIface ∨ ∃ T y, v = .iface T y)
    (hz : ∀ (j : Nat) v, vs[j]? = some v → ∃ bk, a = some ⟨bk, 0, none⟩ ∧ w.cell? ⟨bk, j, none⟩ = some v) :
    Calls Tryd.prog 18 #[.slice a vs.length cap] w fun e w' => e = .returned (firstV vs) ∧ w = w' := by
  have HZ := Lib.hid hz
  have HV := Lib.hid hv
  clear hz hv
  go_enter Tryd.func18, Tryd.ntmps18
  go_wp2
  go_loopg [7] vs.length (fun k i wr => ∃ j : Nat, k = vs.length - j ∧ j ≤ vs.length ∧ i = .int .i64 j ∧ (∀ v ∈ vs.take j, v = .nilIface) ∧ wr = w)
  case atStart => exact ⟨0, by omega, by omega, rfl, by simp, rfl⟩
  case round =>
    obtain ⟨j, hk, hj, rfl, hn, rfl⟩ := hrel
    have HN := Lib.hid hn
    have HK := Lib.hid hk
    clear hn hk
    by_cases hlt : j < vs.length
    · obtain ⟨v, hvj⟩ : ∃ v, vs[j]? = some v := ⟨vs[j], List.getElem?_eq_getElem hlt⟩
      obtain ⟨bk, rfl, hc⟩ := HZ.out j v hvj
      have HJ := Lib.hid hvj
      have hsplit : vs = vs.take j ++ v :: vs.drop (j + 1) := by
        have hg : vs[j] = v := by have := List.getElem?_eq_getElem hlt; rw [this] at hvj; exact Option.some.inj hvj
        rw [← hg, List.getElem_cons_drop, List.take_append_drop]
      have HS := Lib.hid hsplit
      rcases HV.out v (List.mem_of_getElem? hvj) with rfl | ⟨T, y, rfl⟩
      · clear hvj hsplit
        go_wp2_with fail
        go_roundg (vs.length - (j + 1))
        case measure => rw [HK.out]; omega
        case rel =>
          refine ⟨j + 1, rfl, by omega, by go_num, ?_, rfl⟩
          intro v hv
          rw [List.take_add_one, HJ.out] at hv
          rcases List.mem_append.1 hv with h | h
          · exact HN.out v h
          · simpa using h
      · clear hvj hsplit
        go_wp2
        go_ret
        refine ⟨?_, rfl⟩
        rw [HS.out, firstV_app HN.out]; rfl
    · go_wp2
      go_ret
      refine ⟨?_, rfl⟩
      have h : firstV vs = .nilIface := by
        have := firstV_app (r := []) HN.out
        rw [List.take_of_length_le (by omega)] at this
        simpa [firstV] using this
      rw [h]; rfl
end Go.Proofs.YtjafmnhnemdedaaDoor
