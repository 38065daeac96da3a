/- Package fault's texts: what place, Error and the numbers' own texts are: contracts, used by the laws' proofs. -/
import Derived.Test.YtjafmnhnemdedaaDoorDig
import Derived.Deep.RegionHeld3
namespace Go.Proofs.YtjafmnhnemdedaaDoor
open Go.RowKit Go.Extern.Stop Go.Stop Go.Extern

/-- The table that strconv.Itoa reads is as the program lays it. -/
def Tab (w : World) : Prop := Lib.TabIs Tryd.prog w "internal/strconv.uint64pow10" .u64 Lib.pow10Tab
theorem Tryd.tabAt : Tryd.prog.globalNamed "internal/strconv.uint64pow10" = some 2 := by kernel_rfl
theorem var_later {w w' : World} {name : String} {g : Nat} (hg : Tryd.prog.globalNamed name = some g) (hl : g < w.heap.size) (hb : Below w.heap.size w w') : w'.var? Tryd.prog name = w.var? Tryd.prog name := by
  have h := hb.block g hl
  unfold World.var?
  rw [hg]
  simp only [Option.bind]
  rw [h]
theorem Tab.lt {w : World} (h : Tab w) : 2 < w.heap.size := by
  have := Lib.TabIs.cell h Tryd.tabAt 0 (by decide)
  exact block_lt this
theorem Tab.later {w w' : World} (h : Tab w) (hb : Below w.heap.size w w') : Tab w' := by
  unfold Tab Lib.TabIs
  rw [var_later Tryd.tabAt h.lt hb]; exact h

theorem itoa_any (n : Int) (w : World) (h0 : -9223372036854775808 ≤ n) (h1 : n ≤ 9223372036854775807) (ht : Tab w) :
    Calls Tryd.prog 35 #[.int .i64 n] w fun e w' => e = .returned (.string ⟨(Lib.itoa n).toArray⟩) ∧ Below w.heap.size w w' := by
  refine (Tryd.strconv_Itoa n h0 h1 w ht).mono ?_
  rintro e w' ⟨rfl, k, os, rfl⟩
  refine ⟨rfl, rfl, rfl, rfl, by simp [Sort.grow], fun i hi => ?_⟩
  simp only [Sort.grow, World.heap_drewN]
  rw [Array.getElem?_append_left hi]

theorem cat_run (a b : ByteArray) (h : a.size + b.size ≤ 1000000) (w : World) : (Op.stringOp .add a b).run Tryd.prog w = .ok (.string (a ++ b)) w := by
  have hn : ¬ ((a.size + b.size : Nat) : Int) > IntKind.i64.max := by
    have : IntKind.i64.max = 9223372036854775807 := by decide
    rw [this]; omega
  unfold Op.stringOp
  simp only []
  rw [if_neg hn]; rfl
theorem size_mk (l : List UInt8) : (⟨l.toArray⟩ : ByteArray).size = l.length := by simp [ByteArray.size]
/-- What place tells. -/
def placeL (s : ByteArray) (n : Int) : List UInt8 := s.data.toList ++ [32] ++ Lib.itoa n
theorem mk_toList (s : ByteArray) : (⟨s.data.toList.toArray⟩ : ByteArray) = s := by simp

set_option maxRecDepth 100000 in
set_option maxHeartbeats 400000 in
theorem place_any (b : Nat) (s : ByteArray) (n : Int) (w : World) (h0 : -9223372036854775808 ≤ n) (h1 : n ≤ 9223372036854775807) (hs : s.size ≤ 1000)
    (hc0 : w.cell? ⟨b, 0, none⟩ = some (.string s)) (hc1 : w.cell? ⟨b, 1, none⟩ = some (.int .i64 n)) (ht : Tab w) :
    Calls Tryd.prog 25 #[.pointer (some ⟨b, 0, none⟩)] w fun e w' => e = .returned (.string ⟨(placeL s n).toArray⟩) ∧ Below w.heap.size w w' := by
  have hl := itoa_len n h0 h1
  have hbl := block_lt hc0
  have HT := Lib.hid ht
  clear ht
  have e1 : (⟨#[32]⟩ : ByteArray).size = 1 := rfl
  have e2 : (s ++ (⟨#[32]⟩ : ByteArray)).size = s.size + 1 := by rw [ByteArray.size_append]; rfl
  have e3 := size_mk (Lib.itoa n)
  have hk1 := cat_run s ⟨#[32]⟩ (by rw [e1]; omega)
  have hk2 := cat_run (s ++ ⟨#[32]⟩) ⟨(Lib.itoa n).toArray⟩ (by rw [e2, e3]; omega)
  clear e1 e2 e3
  go_enter Tryd.func25, Tryd.ntmps25
  go_wp2_with fail
  go_region_held3 (fun w' => w'.cell? ⟨b, 0, none⟩ = some (.string s) ∧ w'.cell? ⟨b, 1, none⟩ = some (.int .i64 n)) (go_keep)
    (first | (go_at_call 35; refine (itoa_any n _ h0 h1 ?_).mono ?_; (exact HT.out); rintro e w' ⟨rfl, hb⟩; have hc0' := hb.cell (p := ⟨b, 0, none⟩) hbl; have hc1' := hb.cell (p := ⟨b, 1, none⟩) hbl))
  go_wp2
  go_ret
  refine ⟨?_, ((Below.refl _ w).drew).trans hb⟩
  unfold placeL
  rw [← cat_mk, ← cat_mk, mk_toList]; rfl
end Go.Proofs.YtjafmnhnemdedaaDoor
