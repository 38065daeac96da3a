/- Package store: Of, Empty: contracts. -/
import Derived.Test.YtchbdkadoamikaaMake7
namespace Go.Proofs.Ytchbdkadoamikaa
open Go.RowKit Go.Maps
set_option maxRecDepth 100000

set_option maxHeartbeats 1000000 in
theorem of_good {w : World} {sb g tb cap most : Nat} {N : List Nd} (h : St w sb g tb cap most N) (x : Nat) (hx : x < 4294967296) {n : Nd} (hn : N[x]? = some n) (hl : 0 < n.lv) :
    Calls Try.prog 18 #[.pointer (some ⟨sb, 0, none⟩), .int .u32 (x : Int)] w fun e w' => e = .returned (.tuple #[kv n.k, .bool true]) ∧ Below w.heap.size w w' := by
  have hlv : lvZ N x = (n.lv : Int) := by unfold lvZ; rw [hn]
  have HB := Lib.hid (bel1 w (.cells #[.int .u32 ((0 : Nat) : Int), .int .u32 ((0 : Nat) : Int), .int .u32 ((0 : Nat) : Int), .int .u32 ((0 : Nat) : Int)] 46))
  have HS := Lib.hid (h.later HB.out)
  have HK := Lib.hid (k_new w (0, 0, 0, 0))
  have hg : decide ((n.lv : Int) < 1) = false := by simp; omega
  have hil : x < N.length := (List.getElem?_eq_some_iff.1 hn).1
  have hi : (x : Int) < (N.length : Int) := by omega
  have hi0 : (0 : Int) ≤ (x : Int) := by omega
  obtain ⟨s0, s1, s2, s3, _, _⟩ := HS.out.sq hn
  obtain ⟨c0, c1, c2, c3⟩ := HS.out.cells
  obtain ⟨u0, u1, u2, u3, f0, f1, f2, f3⟩ := HK.out.cells
  have hLV := level_any HS.out x hx
  rw [hlv] at hLV
  have HLV := Lib.hid hLV
  clear h hn hlv hLV
  simp only [Int.ofNat_zero] at *
  go_enter Try.func18, Try.ntmps18
  go_wp2_with fail
  refine HLV.out.mono ?_
  rintro e w' ⟨rfl, rfl⟩
  go_wp2
  refine bodyPost_ret (v := _) (by simp [results, Try.results18, go_sem]; rfl) rfl ?_
  exact ⟨rfl, bel1 _ _⟩
set_option maxHeartbeats 1000000 in
theorem of_bad {w : World} {sb g tb cap most : Nat} {N : List Nd} (h : St w sb g tb cap most N) (x : Nat) (hx : x < 4294967296) (hl : lvZ N x < 1) :
    Calls Try.prog 18 #[.pointer (some ⟨sb, 0, none⟩), .int .u32 (x : Int)] w fun e w' => e = .returned (.tuple #[kv (0, 0, 0, 0), .bool false]) ∧ Below w.heap.size w w' := by
  have HB := Lib.hid (bel1 w (.cells #[.int .u32 ((0 : Nat) : Int), .int .u32 ((0 : Nat) : Int), .int .u32 ((0 : Nat) : Int), .int .u32 ((0 : Nat) : Int)] 46))
  have HS := Lib.hid (h.later HB.out)
  have hg : decide (lvZ N x < 1) = true := by simpa using hl
  have HLV := Lib.hid (level_any HS.out x hx)
  clear h
  simp only [Int.ofNat_zero] at *
  go_enter Try.func18, Try.ntmps18
  go_wp2_with fail
  refine HLV.out.mono ?_
  rintro e w' ⟨rfl, rfl⟩
  go_wp2
  refine bodyPost_ret (v := _) (by simp [results, Try.results18, go_sem]; rfl) rfl ?_
  exact ⟨rfl, bel1 _ _⟩

theorem em_wf (most : Nat) : ∀ (n : Nat) (N : List Nd) (x : Nat), Wf N → N.length ≤ most → x < N.length → Wf (emZ most n N x).1 ∧ (emZ most n N x).1.length ≤ most ∧ N.length ≤ (emZ most n N x).1.length
  | 0, N, x, hw, hl, _ => ⟨hw, hl, Nat.le_refl _⟩
  | n + 1, N, x, hw, hl, hx => by
    obtain ⟨h1, h2, h3⟩ := mk_wf (x, x, x, x) hw hl
    unfold emZ
    split
    · rename_i he
      have hx' : (mkZ N most (x, x, x, x)).2.1 < (mkZ N most (x, x, x, x)).1.length := mk_lt hw he
      obtain ⟨g1, g2, g3⟩ := em_wf most n _ _ h1 h2 hx'
      exact ⟨g1, g2, Nat.le_trans h3 g3⟩
    · exact ⟨h1, h2, h3⟩
end Go.Proofs.Ytchbdkadoamikaa
