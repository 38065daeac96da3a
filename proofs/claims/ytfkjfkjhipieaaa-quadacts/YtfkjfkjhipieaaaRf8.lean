/- The document's answers for layer 7: Fits, Level, Set; the law's alike: contracts. -/
import Derived.Test.YtfkjfkjhipieaaaRf7
import Derived.Deep.AppendLies
namespace Go.Proofs.Ytfkjfkjhipieaaa
open Go.RowKit Go.Maps
set_option maxRecDepth 100000

/-- Are all points in the square of level n + 1? -/
def fitB (n : Nat) (l : List (Int × Int)) : Bool := l.all fun c => inS n c.1 && inS n c.2
set_option maxHeartbeats 1000000 in
theorem fits_ref (l : List (Int × Int)) (a : Option Addr) (cap : Nat) (n : Nat) (hn : n < 62) (w : World) (h : Ro w a l) (hl : l.length ≤ 1000) :
    Calls Try.prog 43 #[.slice a l.length cap, .int .i64 ((n : Int) + 1)] w fun e w' => e = .returned (.bool (fitB n l)) ∧ w = w' := by
  have HR := Lib.hid h
  clear h
  go_enter Try.func43, Try.ntmps43
  go_wp2_with fail
  go_loopg [5] l.length (fun m i wr => ∃ j : Nat, m = l.length - j ∧ j ≤ l.length ∧ i = .int .i64 (j : Int) ∧ fitB n (l.take j) = true ∧ wr = w)
  case atStart => exact ⟨0, rfl, Nat.zero_le _, rfl, rfl, rfl⟩
  case round =>
    obtain ⟨j, hm, hj, rfl, hno, rfl⟩ := hrel
    have HM := Lib.hid hm
    have HNO := Lib.hid hno
    clear hm hno
    by_cases hlt : j < l.length
    · obtain ⟨c, hc⟩ : ∃ c, l[j]? = some c := ⟨l[j], List.getElem?_eq_getElem hlt⟩
      obtain ⟨bk, ha, c0, c1⟩ := HR.out j c hc
      have HTK : Hid (l.take (j + 1) = l.take j ++ [c]) := by show _ = _; rw [List.take_add_one, hc]; rfl
      have HMEM : Hid (c ∈ l) := List.mem_of_getElem? hc
      subst ha
      clear hc
      have hgj : decide ((j : Int) < (l.length : Int)) = true := by simp; omega
      have i1 : (0 : Int) ≤ (j : Int) := by omega
      have i2 : (j : Int) < (l.length : Int) := by omega
      go_wp2_with fail
      refine (inside_any c.1 n hn _).mono ?_
      rintro e w1 ⟨rfl, rfl⟩
      go_wp2_with fail
      refine (inside_any c.2 n hn _).mono ?_
      rintro e w1 ⟨rfl, rfl⟩
      have HF : Hid (∀ b, (inS n c.1 && inS n c.2) = b → fitB n (l.take (j + 1)) = b) := fun b hb => by
        rw [HTK.out]
        have := HNO.out
        unfold fitB at this ⊢
        rw [List.all_append, this, Bool.true_and]
        simpa using hb
      have HG : Hid ((inS n c.1 && inS n c.2) = false → fitB n l = false) := fun hb => by
        unfold fitB
        rw [List.all_eq_false]
        exact ⟨c, HMEM.out, by rw [hb]; simp⟩
      cases h1 : inS n c.1 with
      | false =>
        rw [h1] at HG
        have HG2 := Lib.hid (HG.out rfl)
        clear HG HF h1
        go_wp2_with fail
        go_ret
        exact ⟨by rw [HG2.out]; rfl, rfl⟩
      | true =>
        cases h2 : inS n c.2 with
        | false =>
          rw [h1, h2] at HG
          have HG2 := Lib.hid (HG.out rfl)
          clear HG HF h1 h2
          go_wp2_with fail
          go_ret
          exact ⟨by rw [HG2.out]; rfl, rfl⟩
        | true =>
          rw [h1, h2] at HF
          have HF2 := Lib.hid (HF.out true rfl)
          clear HG HF h1 h2
          go_wp2_with fail
          go_roundg (l.length - (j + 1))
          case measure => rw [HM.out]; omega
          case rel => exact ⟨j + 1, rfl, hlt, by go_num, HF2.out, rfl⟩
    · obtain rfl : j = l.length := by omega
      have hgj : decide ((l.length : Int) < (l.length : Int)) = false := by simp
      have HE := HNO.out
      rw [List.take_length] at HE
      have HE2 := Lib.hid HE
      clear HE
      go_wp2_with fail
      go_ret
      exact ⟨by rw [HE2.out]; rfl, rfl⟩
set_option maxHeartbeats 1000000 in
theorem level_ref (l : List (Int × Int)) (a : Option Addr) (cap : Nat) (n L : Nat) (hnL : n ≤ L) (hL : L ≤ 61) (h1 : L = 61 ∨ fitB L l = true) (h2 : ∀ i, n ≤ i → i < L → fitB i l = false) (w : World) (h : Ro w a l) (hl : l.length ≤ 1000) :
    Calls Try.prog 27 #[.slice a l.length cap, .int .i64 ((n : Int) + 1)] w fun e w' => e = .returned (.int .i64 ((L : Int) + 1)) ∧ w = w' := by
  have HR := Lib.hid h
  have H1 := Lib.hid h1
  have H2 := Lib.hid h2
  clear h h1 h2
  go_enter Try.func27, Try.ntmps27
  go_wp2_with fail
  go_loopg [1] (L - n) (fun m i wr => ∃ j : Nat, m = L - j ∧ n ≤ j ∧ j ≤ L ∧ i = .int .i64 ((j : Int) + 1) ∧ wr = w)
  case atStart => exact ⟨n, rfl, Nat.le_refl _, hnL, rfl, rfl⟩
  case round =>
    obtain ⟨j, hm, hnj, hj, rfl, rfl⟩ := hrel
    have HM := Lib.hid hm
    clear hm
    by_cases h62 : j = 61
    · obtain rfl : L = 61 := by omega
      subst h62
      have hg : decide (((61 : Nat) : Int) + 1 < 62) = false := by decide
      go_wp2_with fail
      go_ret
      exact ⟨rfl, rfl⟩
    · have hg : decide ((j : Int) + 1 < 62) = true := by simp; omega
      have HFI := Lib.hid (fits_ref l a cap j (by omega) wr HR.out hl)
      by_cases hlt : j < L
      · have hf := H2.out j hnj hlt
        rw [hf] at HFI
        clear hf
        go_wp2_with fail
        refine HFI.out.mono ?_
        rintro e w1 ⟨rfl, rfl⟩
        go_wp2_with fail
        go_roundg (L - (j + 1))
        case measure => rw [HM.out]; omega
        case rel => exact ⟨j + 1, rfl, by omega, hlt, by go_num, rfl⟩
      · obtain rfl : j = L := by omega
        have hf : fitB j l = true := by rcases H1.out with e | e; exact absurd e h62; exact e
        rw [hf] at HFI
        clear hf
        go_wp2_with fail
        refine HFI.out.mono ?_
        rintro e w1 ⟨rfl, rfl⟩
        go_wp2_with fail
        go_ret
        exact ⟨rfl, rfl⟩
set_option maxHeartbeats 1000000 in
theorem alike_any (l k : List (Int × Int)) (a b : Option Addr) (cap cap' : Nat) (w : World) (h : Ro w a l) (h' : Ro w b k) (hl : l.length ≤ 1000) (hk : k.length ≤ 1000) :
    Calls Try.prog 16 #[.slice a l.length cap, .slice b k.length cap'] w fun e w' => e = .returned (.bool ((l.all fun c => decide (c ∈ k)) && (l.length == k.length))) ∧ Below w.heap.size w w' := by
  have HR := Lib.hid h
  have HR' := Lib.hid h'
  clear h h'
  go_enter Try.func16, Try.ntmps16
  go_wp2_with fail
  go_loopg [6, 9] l.length (fun m v6 i wr => ∃ j : Nat, m = l.length - j ∧ j ≤ l.length ∧ i = .int .i64 (j : Int) ∧ ((l.take j).all fun c => decide (c ∈ k)) = true ∧ Below w.heap.size w wr)
  case atStart => exact ⟨0, rfl, Nat.zero_le _, rfl, rfl, Below.refl _ _⟩
  case round =>
    obtain ⟨j, hm, hj, rfl, hno, hb⟩ := hrel
    have HM := Lib.hid hm
    have HNO := Lib.hid hno
    have HB := Lib.hid hb
    have HR1 := Lib.hid (HR.out.later hb)
    have HR2 := Lib.hid (HR'.out.later hb)
    clear hm hno hb
    by_cases hlt : j < l.length
    · obtain ⟨c, hc⟩ : ∃ c, l[j]? = some c := ⟨l[j], List.getElem?_eq_getElem hlt⟩
      obtain ⟨bk, ha, c0, c1⟩ := HR1.out j c hc
      have HTK : Hid (l.take (j + 1) = l.take j ++ [c]) := by show _ = _; rw [List.take_add_one, hc]; rfl
      have HMEM : Hid (c ∈ l) := List.mem_of_getElem? hc
      subst ha
      clear hc
      have hgj : decide ((j : Int) < (l.length : Int)) = true := by simp; omega
      have i1 : (0 : Int) ≤ (j : Int) := by omega
      have i2 : (j : Int) < (l.length : Int) := by omega
      have HBA := Lib.hid (bel1 wr (.cells #[.int .i64 c.1, .int .i64 c.2] 48))
      have HHA := Lib.hid (has_ref k b cap' c.1 c.2 _ (HR2.out.later HBA.out) hk)
      go_wp2_with fail
      refine HHA.out.mono ?_
      rintro e w1 ⟨rfl, hb⟩
      have hb1 := HBA.out.trans (hb.mono HBA.out.size)
      have HB1 := Lib.hid (HB.out.trans (hb1.mono HB.out.size))
      clear hb hb1 HHA HBA
      by_cases hm : c ∈ k
      · have hd : decide ((c.1, c.2) ∈ k) = true := decide_eq_true hm
        go_wp2_with fail
        go_roundg (l.length - (j + 1))
        case measure => rw [HM.out]; omega
        case rel =>
          refine ⟨j + 1, rfl, hlt, by go_num, ?_, HB1.out⟩
          rw [HTK.out, List.all_append, HNO.out]
          simpa using hm
      · have hd : decide ((c.1, c.2) ∈ k) = false := decide_eq_false hm
        go_wp2_with fail
        go_ret
        refine ⟨?_, HB1.out⟩
        have : (l.all fun c => decide (c ∈ k)) = false := by
          rw [List.all_eq_false]
          exact ⟨c, HMEM.out, by simpa using hm⟩
        rw [this]; rfl
    · obtain rfl : j = l.length := by omega
      have hgj : decide ((l.length : Int) < (l.length : Int)) = false := by simp
      have HE := HNO.out
      rw [List.take_length] at HE
      have HE2 := Lib.hid HE
      clear HE
      have HEQ : Hid (((l.length : Int) == (k.length : Int)) = (l.length == k.length)) := by
        show _ = _
        rw [Bool.eq_iff_iff]; simp only [beq_iff_eq]; omega
      go_wp2_with fail
      go_ret
      exact ⟨by rw [HE2.out, ← HEQ.out]; rfl, HB.out⟩
end Go.Proofs.Ytfkjfkjhipieaaa
