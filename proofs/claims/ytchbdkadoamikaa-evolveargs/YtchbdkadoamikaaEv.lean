/- Package evolve: New, Known, Forget, prune, later: contracts. -/
import Derived.Test.YtchbdkadoamikaaMe
namespace Go.Proofs.Ytchbdkadoamikaa
open Go.RowKit Go.Maps
set_option maxRecDepth 100000

theorem enew_any {w : World} {sb g tb cap most : Nat} {N : List Nd} (h : St w sb g tb cap most N) :
    Calls Try.prog 9 #[.pointer (some ⟨sb, 0, none⟩)] w fun e w' => ∃ mb, e = .returned (.pointer (some ⟨mb, 0, none⟩)) ∧ w.heap.size ≤ mb ∧ Me w' sb g tb most N mb none (fun _ => none) ∧ Below w.heap.size w w' := by
  have HS := Lib.hid h
  clear h
  go_enter Try.func9, Try.ntmps9
  go_wp2_with fail
  go_ret
  have hb := bel1 w (.cells #[.pointer (some ⟨sb, 0, none⟩), .map none, .int .i64 0] 67)
  obtain ⟨l1, l2, l3⟩ := HS.out.lt
  exact ⟨w.heap.size, rfl, Nat.le_refl _, ⟨⟨cap, HS.out.later hb⟩, ⟨0, Nat.zero_le _, heap_alloc_new w _⟩, Or.inl ⟨rfl, fun _ => rfl⟩, (fun a v hv => by cases hv), ⟨by omega, by omega, by omega⟩, (fun b hb => by cases hb)⟩, hb⟩
theorem known_nil (w : World) : Calls Try.prog 13 #[.pointer none] w fun e w' => e = .returned (.int .i64 0) ∧ w = w' := by
  go_enter Try.func13, Try.ntmps13
  go_wp2
  go_ret
  exact ⟨rfl, rfl⟩
theorem forget_nil (w : World) : Calls Try.prog 19 #[.pointer none] w fun e w' => e = .returned (.tuple #[]) ∧ w = w' := by
  go_enter Try.func19, Try.ntmps19
  go_wp2
  refine bodyPost_end (results_none rfl _ _ _) rfl ?_
  exact ⟨rfl, rfl⟩
theorem change_nil (v : Value) (w : World) : Calls Try.prog 20 #[.pointer none, v] w fun e w' => e = .returned (.tuple #[]) ∧ w = w' := by
  go_enter Try.func20, Try.ntmps20
  go_wp2
  refine bodyPost_ret (v := _) (by simp [results, Try.results20, go_sem]; rfl) rfl ?_
  exact ⟨rfl, rfl⟩
theorem enext_nil (x : Nat) (p : Int) (w : World) : Calls Try.prog 11 #[.pointer none, .int .u32 (x : Int), .int .i64 p] w fun e w' => e = .returned (.tuple #[.int .u32 0, .iface 56 (.int .i64 1)]) ∧ w = w' := by
  go_enter Try.func11, Try.ntmps11
  go_wp2
  go_ret2
  exact ⟨rfl, rfl⟩
theorem prune_any {w : World} {sb g tb most mb : Nat} {N : List Nd} {fb : Option Nat} {m : Stp → Option Value} (h : Me w sb g tb most N mb fb m) :
    Calls Try.prog 27 #[.pointer (some ⟨mb, 0, none⟩)] w fun e w' => e = .returned (.tuple #[]) ∧ Below w.heap.size w w' := by
  have HM := Lib.hid (h.later (bel1 w (.cells #[.pointer (some ⟨mb, 0, none⟩)] 30)))
  have HB := Lib.hid (bel1 w (.cells #[.pointer (some ⟨mb, 0, none⟩)] 30))
  have p0 : (w.alloc (.cells #[.pointer (some ⟨mb, 0, none⟩)] 30)).cell? ⟨w.heap.size, 0, none⟩ = some (.pointer (some ⟨mb, 0, none⟩)) := by simp
  clear h
  go_enter Try.func27, Try.ntmps27
  go_upto_region 1 with fail
  generalize w.alloc (.cells #[.pointer (some ⟨mb, 0, none⟩)] 30) = W0 at *
  obtain ⟨th, hth, c0, c1, c2, c3⟩ := HM.out.cells
  have HTH : Hid (th ≤ N.length) := hth
  have g0 := fun z : Up W0 => Up.cell p0 z
  have g1 := fun z : Up W0 => Up.cell c0 z
  have g2 := fun z : Up W0 => Up.cell c2 z
  have HL := Lib.hid (fun z : Up W0 => Up.callsE (fun W hW => by obtain ⟨cap, hs⟩ := (HM.out.later hW).st; exact len_any hs) z)
  have hlt : decide (N.length < th) = false := by simp; omega
  clear hth p0 c0 c1 c2 c3
  have hme := Up.me W0
  refine region_up rfl (by kernel_rfl) ?_
  repeat' (go_big_quiet_step ((first | (go_at_call 12; with_reducible exact HL.out _) | fail)))
  refine wpQuiet_nil ?_
  rintro w2 ⟨⟨W2, hW2⟩, rfl⟩
  go_wp2_with fail
  refine bodyPost_end (results_none rfl _ _ _) rfl ?_
  exact ⟨rfl, HB.out.trans (hW2.mono HB.out.size)⟩
theorem later_any (mb p : Nat) (w : World) : Calls Try.prog 50 #[.pointer (some ⟨mb, 0, none⟩), .int .i64 (p : Int)] w fun e w' => ∃ a b, e = .returned (.func (.func 64) #[] #[.pointer (some ⟨a, 0, none⟩), .pointer (some ⟨b, 0, none⟩)]) ∧
    w.heap.size ≤ a ∧ w.heap.size ≤ b ∧ w'.heap[a]? = some (.cells #[.pointer (some ⟨mb, 0, none⟩)] 30 (0, 0)) ∧ w'.heap[b]? = some (.cells #[.int .i64 (p : Int)] 3 (0, 0)) ∧ Below w.heap.size w w' := by
  have hmf : ∀ (fn : Fn) (first cap : Array Value) (w : World), (Instr.makeFunc fn first cap).run Try.prog w = .ok (.func fn first cap) w := fun _ _ _ _ => rfl
  go_enter Try.func50, Try.ntmps50
  go_wp2_with fail
  go_ret
  refine ⟨w.heap.size, w.heap.size + 1, rfl, Nat.le_refl _, by omega, kept (heap_alloc_new w _) (bel1 _ _), ?_, bel2 w _ _⟩
  have := heap_alloc_new (w.alloc (.cells #[.pointer (some ⟨mb, 0, none⟩)] 30)) (.cells #[.int .i64 (p : Int)] 3)
  simpa using this
end Go.Proofs.Ytchbdkadoamikaa
