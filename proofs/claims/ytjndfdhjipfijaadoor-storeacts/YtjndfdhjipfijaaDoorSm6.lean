/- The law's same: contract. -/
import Derived.Test.YtjndfdhjipfijaaDoorKd6
import Derived.BigQuiet
namespace Go.Proofs.YtjndfdhjipfijaaDoor
open Go.RowKit Go.Maps
set_option maxRecDepth 100000

/-- Both stores, of the same squares. -/
structure Bo (w0 w : World) (sb g tb cap mb h hc most : Nat) (N : List Nd) : Prop where
  s : St w sb g tb cap most N
  m : RSt w mb h hc most N
  bel : Below w0.heap.size w0 w
theorem Bo.later {w0 w w' : World} {sb g tb cap mb h hc most : Nat} {N : List Nd} (b : Bo w0 w sb g tb cap mb h hc most N) (hb : Below w.heap.size w w') : Bo w0 w' sb g tb cap mb h hc most N := ⟨b.s.later hb, b.m.later hb, b.bel.trans (hb.mono b.bel.size)⟩
theorem Bo.drewN {w0 w : World} {sb g tb cap mb h hc most : Nat} {N : List Nd} (b : Bo w0 w sb g tb cap mb h hc most N) (q : Nat) : Bo w0 (w.drewN q) sb g tb cap mb h hc most N := ⟨b.s.drewN q, b.m.drewN q, ⟨b.bel.os, b.bel.tape, b.bel.output, b.bel.size, b.bel.block⟩⟩
set_option maxHeartbeats 4000000 in
theorem same_any {w : World} {sb g tb cap mb h hc most : Nat} {N : List Nd} (hs : St w sb g tb cap most N) (hr : RSt w mb h hc most N) :
    Calls Tryd.prog 14 #[.pointer (some ⟨sb, 0, none⟩), .pointer (some ⟨mb, 0, none⟩)] w fun e w' => e = .returned (.bool true) ∧ Below w.heap.size w w' := by
  have HB : Hid (Bo w w sb g tb cap mb h hc most N) := ⟨hs, hr, Below.refl _ _⟩
  have HLE : Hid (N.length ≤ 1048576) := Nat.le_trans hs.room hs.most_le
  clear hs hr
  go_enter Tryd.func14, Tryd.ntmps14
  obtain ⟨c0, c1, _⟩ := HB.out.m.cells
  have HLEN : Hid (∀ x, Calls Tryd.prog 24 #[.pointer (some ⟨sb, 0, none⟩)] (w.drewN x) fun e w'' => e = .returned (.int .i64 (N.length : Int)) ∧ ∃ m, w'' = w.drewN m) := fun x => (len_any (HB.out.s.drewN x)).mono fun _ _ ⟨he, hm⟩ => ⟨he, x, hm.symm⟩
  have HMRK : Hid (∀ x, Calls Tryd.prog 17 #[.pointer (some ⟨sb, 0, none⟩)] (w.drewN x) fun e w'' => e = .returned (.int .i64 (N.length : Int)) ∧ ∃ m, w'' = w.drewN m) := fun x => (mark_any (HB.out.s.drewN x)).mono fun _ _ ⟨he, hm⟩ => ⟨he, x, hm.symm⟩
  have HROM : Hid (∀ x, Calls Tryd.prog 19 #[.pointer (some ⟨sb, 0, none⟩)] (w.drewN x) fun e w'' => e = .returned (.int .i64 ((most : Int) - (N.length : Int))) ∧ ∃ m, w'' = w.drewN m) := fun x => (room_any (HB.out.s.drewN x)).mono fun _ _ ⟨he, _, hm⟩ => ⟨he, _, hm.trans (World.drewN_drewN _ _ _)⟩
  have hw1 : IntKind.i64.wrap ((most : Int) - (N.length : Int)) = (most : Int) - (N.length : Int) := IntWalk.i64_in _ (by have := HB.out.s.room; have := HB.out.s.most_le; omega)
  go_wp2_with fail
  go_quiet (first | (go_at_call 24; exact HLEN.out _) | (go_at_call 19; exact HROM.out _) | (go_at_call 17; exact HMRK.out _))
  have HB1 := Lib.hid (HB.out.drewN nq)
  clear HLEN HMRK HROM hw1 c0 c1 HB
  generalize w.drewN nq = w1 at *
  obtain ⟨c0, c1, _⟩ := HB1.out.m.cells
  go_wp2_with fail
  clear c0 c1
  go_loopg [5, 6, 7, 8, 9, 51] N.length (fun m iv nv xv kv ov i wr => ∃ j : Nat, m = N.length - j ∧ j ≤ N.length ∧ i = .int .i64 (j : Int) ∧ Bo w wr sb g tb cap mb h hc most N)
  case atStart => exact ⟨0, rfl, Nat.zero_le _, rfl, HB1.out⟩
  case round =>
    obtain ⟨j, hm, hj, rfl, hb⟩ := hrel
    have HM := Lib.hid hm
    have HB := Lib.hid hb
    clear hm hb HB1
    by_cases hlt : j < N.length
    · obtain ⟨n, hn⟩ : ∃ n, N[j]? = some n := ⟨N[j]'hlt, List.getElem?_eq_getElem _⟩
      have hgj : decide (j < N.length) = true := by simpa using hlt
      have hij : (j : Int) < (N.length : Int) := by omega
      have hi0 : (0 : Int) ≤ (j : Int) := by omega
      have HJ : Hid (j < 4294967296) := by have := HLE.out; show _ < _; omega
      have hwj : IntKind.i64.wrap ((j : Int) + 1) = (j : Int) + 1 := IntWalk.i64_in _ (by have := HLE.out; omega)
      have hwu : IntKind.u32.wrap (j : Int) = (j : Int) := IntWalk.u32_in _ (by have := HLE.out; omega)
      obtain ⟨s0, s1, s2, s3, s4, s5⟩ := HB.out.m.sq hn
      have HN := Lib.hid hn
      have HLV : Hid (lvZ N j = (n.lv : Int)) := by show _ = _; unfold lvZ; rw [hn]
      have HCT : Hid (ctZ N j = n.ct) := by show _ = _; unfold ctZ; rw [hn]
      clear hn
      have HBA := Lib.hid (bel1 wr (.cells #[.int .u32 (n.k.1 : Int), .int .u32 (n.k.2.1 : Int), .int .u32 (n.k.2.2.1 : Int), .int .u32 (n.k.2.2.2 : Int), .int .i64 (n.lv : Int), .int .u64 (n.ct : Int)] 64))
      have HNA : Hid (NdAt (wr.alloc (.cells #[.int .u32 (n.k.1 : Int), .int .u32 (n.k.2.1 : Int), .int .u32 (n.k.2.2.1 : Int), .int .u32 (n.k.2.2.2 : Int), .int .i64 (n.lv : Int), .int .u64 (n.ct : Int)] 64)) wr.heap.size n) := heap_alloc_new wr _
      have HB2 := Lib.hid (HB.out.later HBA.out)
      go_wp2_with fail
      generalize wr.alloc (.cells #[.int .u32 (n.k.1 : Int), .int .u32 (n.k.2.1 : Int), .int .u32 (n.k.2.2.1 : Int), .int .u32 (n.k.2.2.2 : Int), .int .i64 (n.lv : Int), .int .u64 (n.ct : Int)] 64) = w2 at *
      generalize wr.heap.size = nb at *
      clear s0 s1 s2 s3 s4 s5 HB HBA
      by_cases hl : 0 < n.lv
      · skip
        have hg0 : decide (0 < n.lv) = true := by simpa using hl
        refine (of_good HB2.out.s j HJ.out HN.out hl).mono ?_
        rintro e w3 ⟨rfl, hb3⟩
        rw [show kv n.k = .agg #[.int .u32 (n.k.1 : Int), .int .u32 (n.k.2.1 : Int), .int .u32 (n.k.2.2.1 : Int), .int .u32 (n.k.2.2.2 : Int)] from rfl]
        have HB3 := Lib.hid (HB2.out.later hb3)
        have HN3 : Hid (NdAt w3 nb n) := by unfold Hid NdAt; rw [hb3.block nb HNA.out.lt]; exact HNA.out
        clear hb3 HB2 HNA hl
        go_wp2_with fail
        have HBK := Lib.hid (bel1 w3 (.cells #[.int .u32 (n.k.1 : Int), .int .u32 (n.k.2.1 : Int), .int .u32 (n.k.2.2.1 : Int), .int .u32 (n.k.2.2.2 : Int)] 52))
        have HKA : Hid (KAt (w3.alloc (.cells #[.int .u32 (n.k.1 : Int), .int .u32 (n.k.2.1 : Int), .int .u32 (n.k.2.2.1 : Int), .int .u32 (n.k.2.2.2 : Int)] 52)) w3.heap.size n.k) := k_new w3 _
        have HB4 := Lib.hid (HB3.out.later HBK.out)
        have HN4 : Hid (NdAt (w3.alloc (.cells #[.int .u32 (n.k.1 : Int), .int .u32 (n.k.2.1 : Int), .int .u32 (n.k.2.2.1 : Int), .int .u32 (n.k.2.2.2 : Int)] 52)) nb n) := by unfold Hid NdAt; rw [HBK.out.block nb HN3.out.lt]; exact HN3.out
        clear HBK HB3 HN3
        generalize w3.alloc (.cells #[.int .u32 (n.k.1 : Int), .int .u32 (n.k.2.1 : Int), .int .u32 (n.k.2.2.1 : Int), .int .u32 (n.k.2.2.2 : Int)] 52) = w4 at *
        generalize w3.heap.size = kb at *
        obtain ⟨n0, n1, n2, n3, n4, n5, _⟩ := HN4.out.cells
        obtain ⟨k0, k1, k2, k3, _⟩ := HKA.out.cells
        have HIS : Hid (∀ x, Calls Tryd.prog 15 #[.pointer (some ⟨sb, 0, none⟩), .int .u32 (j : Int)] (w4.drewN x) fun e w'' => e = .returned (.bool true) ∧ ∃ m, w'' = w4.drewN m) := fun x => (is_any (HB4.out.s.drewN x) j HJ.out).mono fun _ _ ⟨he, hm⟩ => ⟨by rw [he, hgj], x, hm.symm⟩
        have HLL : Hid (∀ x, Calls Tryd.prog 20 #[.pointer (some ⟨sb, 0, none⟩), .int .u32 (j : Int)] (w4.drewN x) fun e w'' => e = .returned (.int .i64 (n.lv : Int)) ∧ ∃ m, w'' = w4.drewN m) := fun x => (level_any (HB4.out.s.drewN x) j HJ.out).mono fun _ _ ⟨he, hm⟩ => ⟨by rw [he, HLV.out], x, hm.symm⟩
        have HCC : Hid (∀ x, Calls Tryd.prog 26 #[.pointer (some ⟨sb, 0, none⟩), .int .u32 (j : Int)] (w4.drewN x) fun e w'' => e = .returned (.int .u64 (n.ct : Int)) ∧ ∃ m, w'' = w4.drewN m) := fun x => (count_any (HB4.out.s.drewN x) j HJ.out).mono fun _ _ ⟨he, hm⟩ => ⟨by rw [he, HCT.out], x, hm.symm⟩
        have hne := arrK_ne n.k n.k
        have hkb : k4b n.k n.k = true := by unfold k4b; simp
        go_wp2_with fail
        go_quiet (first | (go_at_call 15; exact HIS.out _) | (go_at_call 20; exact HLL.out _) | (go_at_call 26; exact HCC.out _))
        go_wp2_with fail
        go_roundg (N.length - (j + 1))
        case measure => rw [HM.out]; omega
        case rel => exact ⟨j + 1, rfl, hlt, by go_num, HB4.out.drewN _⟩
      · skip
        have hg0 : decide (0 < n.lv) = false := by simpa using hl
        refine (of_bad HB2.out.s j HJ.out (by rw [HLV.out]; omega)).mono ?_
        rintro e w3 ⟨rfl, hb3⟩
        rw [show kv (0, 0, 0, 0) = .agg #[.int .u32 0, .int .u32 0, .int .u32 0, .int .u32 0] from rfl]
        have HB3 := Lib.hid (HB2.out.later hb3)
        have HN3 : Hid (NdAt w3 nb n) := by unfold Hid NdAt; rw [hb3.block nb HNA.out.lt]; exact HNA.out
        clear hb3 HB2 HNA hl
        go_wp2_with fail
        have HBK := Lib.hid (bel1 w3 (.cells #[.int .u32 0, .int .u32 0, .int .u32 0, .int .u32 0] 52))
        have HKA : Hid (KAt (w3.alloc (.cells #[.int .u32 0, .int .u32 0, .int .u32 0, .int .u32 0] 52)) w3.heap.size (0, 0, 0, 0)) := k_new w3 (0, 0, 0, 0)
        have HB4 := Lib.hid (HB3.out.later HBK.out)
        have HN4 : Hid (NdAt (w3.alloc (.cells #[.int .u32 0, .int .u32 0, .int .u32 0, .int .u32 0] 52)) nb n) := by unfold Hid NdAt; rw [HBK.out.block nb HN3.out.lt]; exact HN3.out
        clear HBK HB3 HN3
        generalize w3.alloc (.cells #[.int .u32 0, .int .u32 0, .int .u32 0, .int .u32 0] 52) = w4 at *
        generalize w3.heap.size = kb at *
        obtain ⟨n0, n1, n2, n3, n4, n5, _⟩ := HN4.out.cells
        obtain ⟨k0, k1, k2, k3, _⟩ := HKA.out.cells
        have HIS : Hid (∀ x, Calls Tryd.prog 15 #[.pointer (some ⟨sb, 0, none⟩), .int .u32 (j : Int)] (w4.drewN x) fun e w'' => e = .returned (.bool true) ∧ ∃ m, w'' = w4.drewN m) := fun x => (is_any (HB4.out.s.drewN x) j HJ.out).mono fun _ _ ⟨he, hm⟩ => ⟨by rw [he, hgj], x, hm.symm⟩
        have HLL : Hid (∀ x, Calls Tryd.prog 20 #[.pointer (some ⟨sb, 0, none⟩), .int .u32 (j : Int)] (w4.drewN x) fun e w'' => e = .returned (.int .i64 (n.lv : Int)) ∧ ∃ m, w'' = w4.drewN m) := fun x => (level_any (HB4.out.s.drewN x) j HJ.out).mono fun _ _ ⟨he, hm⟩ => ⟨by rw [he, HLV.out], x, hm.symm⟩
        have HCC : Hid (∀ x, Calls Tryd.prog 26 #[.pointer (some ⟨sb, 0, none⟩), .int .u32 (j : Int)] (w4.drewN x) fun e w'' => e = .returned (.int .u64 (n.ct : Int)) ∧ ∃ m, w'' = w4.drewN m) := fun x => (count_any (HB4.out.s.drewN x) j HJ.out).mono fun _ _ ⟨he, hm⟩ => ⟨by rw [he, HCT.out], x, hm.symm⟩
        go_wp2_with fail
        go_quiet (first | (go_at_call 15; exact HIS.out _) | (go_at_call 20; exact HLL.out _) | (go_at_call 26; exact HCC.out _))
        go_wp2_with fail
        go_roundg (N.length - (j + 1))
        case measure => rw [HM.out]; omega
        case rel => exact ⟨j + 1, rfl, hlt, by go_num, HB4.out.drewN _⟩
    · obtain rfl : j = N.length := by omega
      have hgj : decide (N.length < N.length) = false := by simp
      have hwu : IntKind.u32.wrap (N.length : Int) = (N.length : Int) := IntWalk.u32_in _ (by have := HLE.out; omega)
      obtain ⟨c0, c1, _⟩ := HB.out.m.cells
      have HJ : Hid (N.length < 4294967296) := by have := HLE.out; show _ < _; omega
      have hnone : N[N.length]? = none := by simp
      have HLV : Hid (lvZ N N.length = -1) := by show _ = _; unfold lvZ; rw [hnone]
      have HCT : Hid (ctZ N N.length = 0) := by show _ = _; unfold ctZ; rw [hnone]
      clear hnone
      go_wp2_with fail
      refine (of_bad HB.out.s N.length HJ.out (by rw [HLV.out]; omega)).mono ?_
      rintro e w3 ⟨rfl, hb3⟩
      rw [show kv (0, 0, 0, 0) = .agg #[.int .u32 0, .int .u32 0, .int .u32 0, .int .u32 0] from rfl]
      have HB3 := Lib.hid (HB.out.later hb3)
      clear hb3 HB
      go_wp2_with fail
      have HB4 := Lib.hid (HB3.out.later (bel1 w3 (.cells #[.int .u32 0, .int .u32 0, .int .u32 0, .int .u32 0] 52)))
      generalize w3.alloc (.cells #[.int .u32 0, .int .u32 0, .int .u32 0, .int .u32 0] 52) = w4 at *
      refine (is_any HB4.out.s N.length HJ.out).mono ?_
      rintro e w' ⟨rfl, rfl⟩
      go_wp2_with fail
      refine (level_any HB4.out.s N.length HJ.out).mono ?_
      rintro e w' ⟨rfl, rfl⟩
      rw [HLV.out]
      go_wp2_with fail
      refine (count_any HB4.out.s N.length HJ.out).mono ?_
      rintro e w' ⟨rfl, rfl⟩
      rw [HCT.out]
      go_wp2_with fail
      go_ret
      exact ⟨rfl, HB4.out.bel⟩
end Go.Proofs.YtjndfdhjipfijaaDoor
