/- The law EvolveNext: its walk, for all inputs. -/
import Derived.Test.YtaapkngpnlnjeaaEN10
import Derived.Lib.SmallJoins
import Derived.OpenShut
import Derived.ProofKit
namespace Go.Proofs.Ytaapkngpnlnjeaa
open Go.ChangeShapes Go.WideShapes Go.RowKit Go.Joins
set_option maxRecDepth 100000

theorem enx_many (n no : Nat) (hl : 4 < n ∨ 4 < no) (p0 p1 : Int) (a ao : Option Addr) (cap capo : Nat) (w : World) : Calls Try.prog 3 #[.slice a n cap, .agg #[.int .u8 p0, .int .u8 p1], .slice ao no capo] w fun e w' => e = .returned (.bool true) ∧ Below w.heap.size w w' := by
  have HB0 := Lib.hid (bel1 w (.cells #[.int .u8 p0, .int .u8 p1] 23))
  by_cases h4 : 4 < n
  · have gl : decide ((4 : Int) < (n : Int)) = true := by simp; omega
    have gl' : decide (4 < n) = true := by simp; omega
    clear hl
    go_enter Try.func3, Try.ntmps3
    go_wp2_with fail
    refine (lives10_any _).mono ?_
    rintro e W1 ⟨rfl, hb⟩
    have HB1 := Lib.hid (HB0.out.trans (hb.mono HB0.out.size))
    clear hb
    go_wp2_with fail
    refine (lives10_any _).mono ?_
    rintro e W2 ⟨rfl, hb⟩
    have HB2 := Lib.hid (HB1.out.trans (hb.mono HB1.out.size))
    clear hb
    go_wp2_with fail
    go_ret
    exact ⟨rfl, HB2.out⟩
  · have gl : decide ((4 : Int) < (n : Int)) = false := by simp; omega
    have gl' : decide (4 < n) = false := by simp; omega
    have gm : decide ((4 : Int) < (no : Int)) = true := by simp; omega
    have gm' : decide (4 < no) = true := by simp; omega
    clear hl
    go_enter Try.func3, Try.ntmps3
    go_wp2_with fail
    refine (lives10_any _).mono ?_
    rintro e W1 ⟨rfl, hb⟩
    have HB1 := Lib.hid (HB0.out.trans (hb.mono HB0.out.size))
    clear hb
    go_wp2_with fail
    refine (lives10_any _).mono ?_
    rintro e W2 ⟨rfl, hb⟩
    have HB2 := Lib.hid (HB1.out.trans (hb.mono HB1.out.size))
    clear hb
    go_wp2_with fail
    go_ret
    exact ⟨rfl, HB2.out⟩
theorem enext_walk (zs : List Int) (wz : ∀ z ∈ zs, (Lit.int .u64 z).wf = true) (a : Option Addr) (n cap : Nat) (hn : zs.length = n) (_ : n ≤ maxLen) (p0 : Int) (wp0 : (Lit.int .u8 p0).wf = true) (p1 : Int) (wp1 : (Lit.int .u8 p1).wf = true)
    (zo : List Int) (wo : ∀ z ∈ zo, (Lit.int .u64 z).wf = true) (ao : Option Addr) (no capo : Nat) (hno : zo.length = no) (_ : no ≤ maxLen) (w : World) (h : Row .u64 w w.heap.size a zs) (ho : Row .u64 w w.heap.size ao zo) :
    Calls Try.prog 3 #[.slice a n cap, .agg #[.int .u8 p0, .int .u8 p1], .slice ao no capo] w fun e w' => e = .returned (.bool true) ∧ Below w.heap.size w w' := by
  by_cases h4 : 4 < n ∨ 4 < no
  · exact enx_many n no h4 p0 p1 a ao cap capo w
  · obtain ⟨p0, rfl⟩ : ∃ k : Nat, p0 = (k : Int) := ⟨p0.toNat, by simp [Lit.wf, IntKind.min, IntKind.max, IntKind.signed, IntKind.bits] at wp0; omega⟩
    obtain ⟨p1, rfl⟩ : ∃ k : Nat, p1 = (k : Int) := ⟨p1.toNat, by simp [Lit.wf, IntKind.min, IntKind.max, IntKind.signed, IntKind.bits] at wp1; omega⟩
    have hp0 : p0 < 256 := by simp [Lit.wf, IntKind.min, IntKind.max, IntKind.signed, IntKind.bits] at wp0; omega
    have hp1 : p1 < 256 := by simp [Lit.wf, IntKind.min, IntKind.max, IntKind.signed, IntKind.bits] at wp1; omega
    obtain ⟨h1, h2, h3⟩ := rowU_of h wz
    obtain ⟨k1, k2, k3⟩ := rowU_of ho wo
    have l1 : (zs.map Int.toNat).length = n := by rw [List.length_map]; exact hn
    have l2 : (zo.map Int.toNat).length = no := by rw [List.length_map]; exact hno
    rw [← l1, ← l2]
    have e4 : (zs.map Int.toNat).length ≤ 4 := by omega
    have e5 : (zo.map Int.toNat).length ≤ 4 := by omega
    have c0 : p0 % 3 = 0 ∨ (p0 % 3 = 1 ∧ p1 % 2 = 0) ∨ (p0 % 3 = 1 ∧ p1 % 2 = 1) ∨ (p0 % 3 = 2 ∧ p1 % 3 = 0) ∨ (p0 % 3 = 2 ∧ p1 % 3 = 1) ∨ (p0 % 3 = 2 ∧ p1 % 3 = 2) := by omega
    rcases c0 with c | ⟨c, d⟩ | ⟨c, d⟩ | ⟨c, d⟩ | ⟨c, d⟩ | ⟨c, d⟩
    · exact enx_0_0 _ _ e4 e5 h3 k3 p0 p1 hp0 hp1 c (by omega) a ao cap capo w h1 h2 k1 k2
    · exact enx_1_0 _ _ e4 e5 h3 k3 p0 p1 hp0 hp1 c d a ao cap capo w h1 h2 k1 k2
    · exact enx_1_1 _ _ e4 e5 h3 k3 p0 p1 hp0 hp1 c d a ao cap capo w h1 h2 k1 k2
    · exact enx_2_0 _ _ e4 e5 h3 k3 p0 p1 hp0 hp1 c d a ao cap capo w h1 h2 k1 k2
    · exact enx_2_1 _ _ e4 e5 h3 k3 p0 p1 hp0 hp1 c d a ao cap capo w h1 h2 k1 k2
    · exact enx_2_2 _ _ e4 e5 h3 k3 p0 p1 hp0 hp1 c d a ao cap capo w h1 h2 k1 k2
theorem okWide_arr8 {P : Program} {w : World} {r : Reach} {b0 : Nat} {t e : TypeId} {n : Nat} {v : Value} (ht : P.underlying t = some (.array n e)) (h : Value.okWide P w r b0 t v) : ∃ cs, v = .agg cs ∧ cs.size = P.cellsOf t := by
  simp only [Value.okWide, ht] at h
  obtain ⟨cs, h1, h2, _⟩ := h
  exact ⟨cs, h1, h2⟩
theorem open_arr8 {H : Type} {enc : TypeId × Value → H} {w : World} {base : Nat} {spare : Nat → Bool} {held : Bool} {r : Reach} {b0 : Nat} {v : Value} {d : DataW H} {p : List MemPlace}
    (hv : Value.okWide Try.prog w r b0 23 v) (h : DataW.Trod enc Try.prog w base spare held 23 v d p) :
    ∃ a b, v = .agg #[.int .u8 a, .int .u8 b] ∧ (Lit.int .u8 a).wf = true ∧ (Lit.int .u8 b).wf = true := by
  obtain ⟨cs, rfl, hsz⟩ := okWide_arr8 Try.underlying23 hv
  obtain ⟨c0, c1, rfl⟩ := array2 (hsz.trans (show Try.prog.cellsOf 23 = 2 by kernel_rfl))
  obtain ⟨fuel, hf⟩ := h
  obtain ⟨xs, m, _, _, _, hl, hi⟩ := DataW.trod_array Try.underlying23 hf
  have hc : Try.prog.cellsOf 5 = 1 := by kernel_rfl
  obtain ⟨y0, y1, rfl⟩ : ∃ y0 y1, xs = [y0, y1] := match xs, hl with
    | [y0, y1], _ => ⟨y0, y1, rfl⟩
  have h0 := hi 0 (by omega)
  have h1 := hi 1 (by omega)
  simp only [hc, Value.cells] at h0 h1
  obtain ⟨a, e0, _, wa⟩ := DataW.trod_int Try.underlying5 h0
  obtain ⟨b, e1, _, wb⟩ := DataW.trod_int Try.underlying5 h1
  simp at e0 e1
  subst e0 e1
  exact ⟨a, b, rfl, wa, wb⟩
end Go.Proofs.Ytaapkngpnlnjeaa
