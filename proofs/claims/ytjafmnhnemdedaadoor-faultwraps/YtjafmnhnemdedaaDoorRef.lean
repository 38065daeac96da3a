/- The document's own texts: belvedereref01.Words and Path, over a row of steps. -/
import Derived.Test.YtjafmnhnemdedaaDoorPath
namespace Go.Proofs.YtjafmnhnemdedaaDoor
open Go.RowKit Go.Extern.Stop Go.Stop Go.Extern

/-- A row of steps (What, At), as a slice holds it. -/
def StepsAt (w : World) (a : Option Addr) (l : Links) : Prop := ∀ (j : Nat) x, l[j]? = some x → ∃ bk off, a = some ⟨bk, off, none⟩ ∧ w.cell? ⟨bk, off + j * 2, none⟩ = some (.string x.2.1) ∧ w.cell? ⟨bk, off + j * 2 + 1, none⟩ = some (.int .i64 x.2.2)

theorem digits_q (n : Int) (h0 : -9223372036854775808 ≤ n) (h1 : n ≤ 9223372036854775807) (w : World) (x : Nat) :
    Calls Tryd.prog 26 #[.int .i64 n] (w.drewN x) fun e w'' => e = .returned (.string ⟨(Lib.itoa n).toArray⟩) ∧ ∃ k, w'' = w.drewN k := by
  refine (digits_any n _ h0 h1).mono ?_
  rintro e w' ⟨rfl, k, rfl⟩
  exact ⟨rfl, _, World.drewN_drewN _ _ _⟩

theorem wordsL_snoc (l : Links) (x : Nat × ByteArray × Int) (t : List UInt8) : wordsL (l ++ [x]) t = wordsL l (placeL x.2.1 x.2.2 ++ ([58, 32] ++ t)) := by
  induction l with
  | nil => rfl
  | cons y r ih => simp only [List.cons_append, wordsL, ih]
theorem wordsL_app (l : Links) (t : List UInt8) : wordsL l t = wordsL l [] ++ t := by
  induction l with
  | nil => rfl
  | cons y r ih => simp only [wordsL]; rw [ih]; simp

set_option maxRecDepth 100000 in
set_option maxHeartbeats 1000000 in
theorem words_any (a : Option Addr) (cap : Nat) (l : Links) (inner : ByteArray) (w : World) (hl : l.length ≤ 100) (hsm : Small l) (hin : inner.size ≤ 1000) (hst : StepsAt w a l) :
    Calls Tryd.prog 13 #[.slice a l.length cap, .string inner] w fun e w' => e = .returned (.string ⟨(wordsL l inner.data.toList).toArray⟩) ∧ ∃ k, w' = w.drewN k := by
  have HL := Lib.hid hsm
  have HS := Lib.hid hst
  clear hsm hst
  go_enter Tryd.func13, Tryd.ntmps13
  go_wp2
  go_loopg [5, 6] l.length (fun k s i wr => ∃ j : Nat, k = l.length - j ∧ j ≤ l.length ∧ i = .int .i64 j ∧ s = .string ⟨(wordsL (l.take j) []).toArray⟩ ∧ ∃ q, wr = w.drewN q)
  case atStart => exact ⟨0, by omega, by omega, rfl, by simp [wordsL], 0, rfl⟩
  case round =>
    obtain ⟨j, hk, hj, rfl, rfl, q, hq⟩ := hrel
    have HK := Lib.hid hk
    have HQ := Lib.hid hq
    clear hk hq
    have hwl := wordsL_len (l.take j) [] (fun x hx => HL.out x (List.mem_of_mem_take hx))
    have htl : (l.take j).length ≤ 100 := by simp; omega
    simp only [List.length_nil, Nat.add_zero] at hwl
    have hwl2 : (wordsL (l.take j) []).length ≤ 12300 := by omega
    clear hwl htl
    by_cases hlt : j < l.length
    · obtain ⟨x, hx⟩ : ∃ x, l[j]? = some x := ⟨l[j], List.getElem?_eq_getElem hlt⟩
      obtain ⟨bk, off, rfl, c0, c1⟩ := HS.out j x hx
      obtain ⟨b, s, n⟩ := x
      obtain ⟨s1, s2, s3⟩ := HL.out _ (List.mem_of_getElem? hx)
      simp only [] at s1 s2 s3 c0 c1
      have d0 : wr.cell? ⟨bk, off + j * 2, none⟩ = some (.string s) := by rw [HQ.out]; exact c0
      have d1 : wr.cell? ⟨bk, off + j * 2 + 1, none⟩ = some (.int .i64 n) := by rw [HQ.out]; exact c1
      clear c0 c1
      have HX := Lib.hid hx
      clear hx
      have hil := itoa_len n s2 s3
      have hA0 : (⟨(wordsL (l.take j) []).toArray⟩ : ByteArray).size ≤ 12300 := by rw [size_mk]; exact hwl2
      generalize hA : (⟨(wordsL (l.take j) []).toArray⟩ : ByteArray) = A at hA0 ⊢
      have HA := Lib.hid hA
      clear hA hwl2
      have e1 : (⟨#[32]⟩ : ByteArray).size = 1 := rfl
      have e2 : (⟨#[58, 32]⟩ : ByteArray).size = 2 := rfl
      have e3 := size_mk (Lib.itoa n)
      have k1 := cat_run A s (by omega)
      have k2 := cat_run (A ++ s) ⟨#[32]⟩ (by rw [ByteArray.size_append]; omega)
      have k3 := cat_run (A ++ s ++ ⟨#[32]⟩) ⟨(Lib.itoa n).toArray⟩ (by rw [ByteArray.size_append, ByteArray.size_append]; omega)
      have k4 := cat_run (A ++ s ++ ⟨#[32]⟩ ++ ⟨(Lib.itoa n).toArray⟩) ⟨#[58, 32]⟩ (by rw [ByteArray.size_append, ByteArray.size_append, ByteArray.size_append]; omega)
      clear e1 e2 e3
      have hji : (j : Int) < (l.length : Int) := by omega
      go_wp2_with fail
      go_quiet ((go_at_call 26; exact digits_q n s2 s3 _ _))
      go_wp2_with fail
      go_roundg (l.length - (j + 1))
      case measure => rw [HK.out]; omega
      case rel =>
        refine ⟨j + 1, rfl, by omega, by go_num, ?_, _, by rw [HQ.out]; exact World.drewN_drewN _ _ _⟩
        have e : wordsL (l.take (j + 1)) [] = wordsL (l.take j) [] ++ (s.data.toList ++ ([32] ++ (Lib.itoa n ++ [58, 32]))) := by
          rw [List.take_add_one, HX.out]
          show wordsL (l.take j ++ [(b, s, n)]) [] = _
          rw [wordsL_snoc, wordsL_app]; simp [placeL]
        rw [e, ← cat_mk, HA.out, ← cat_mk, ← cat_mk, ← cat_mk, mk_toList]
        simp only [ByteArray.append_assoc]
    · have HE : Hid (l.take j = l) := List.take_of_length_le (by omega)
      go_wp2
      go_ret
      refine ⟨?_, _, HQ.out⟩
      rw [wordsL_app l, ← cat_mk, mk_toList, HE.out]; rfl

theorem joinTail_snoc (sep : List UInt8) (r : List (List UInt8)) (x : List UInt8) : Lib.joinTail sep (r ++ [x]) = Lib.joinTail sep r ++ (sep ++ x) := by simp [Lib.joinTail]
theorem pathB_snoc (l : Links) (x : Nat × ByteArray × Int) : pathB (l ++ [x]) = (if l.isEmpty then [] else pathB l ++ [44, 32]) ++ placeL x.2.1 x.2.2 := by
  cases l with
  | nil => simp [pathB, Lib.join_one]
  | cons y r =>
    unfold pathB
    simp only [List.cons_append, List.map_cons, List.map_append, List.map_nil, Lib.join_cons, joinTail_snoc, List.isEmpty_cons]
    simp

set_option maxRecDepth 100000 in
set_option maxHeartbeats 1000000 in
theorem refPath_any (a : Option Addr) (cap : Nat) (l : Links) (w : World) (hl : l.length ≤ 100) (hsm : Small l) (hst : StepsAt w a l) :
    Calls Tryd.prog 12 #[.slice a l.length cap] w fun e w' => e = .returned (.string ⟨(pathB l).toArray⟩) ∧ ∃ k, w' = w.drewN k := by
  have HL := Lib.hid hsm
  have HS := Lib.hid hst
  clear hsm hst
  go_enter Tryd.func12, Tryd.ntmps12
  go_wp2
  go_loopg [3, 4] l.length (fun k s i wr => ∃ j : Nat, k = l.length - j ∧ j ≤ l.length ∧ i = .int .i64 j ∧ s = .string ⟨(pathB (l.take j)).toArray⟩ ∧ ∃ q, wr = w.drewN q)
  case atStart => exact ⟨0, by omega, by omega, rfl, by simp [pathB, Lib.join_nil], 0, rfl⟩
  case round =>
    obtain ⟨j, hk, hj, rfl, rfl, q, hq⟩ := hrel
    have HK := Lib.hid hk
    have HQ := Lib.hid hq
    clear hk hq
    have hwl := pathB_len (l.take j) (fun x hx => HL.out x (List.mem_of_mem_take hx))
    have htl : (l.take j).length ≤ 100 := by simp; omega
    have hwl2 : (pathB (l.take j)).length ≤ 12300 := by omega
    clear hwl htl
    by_cases hlt : j < l.length
    · obtain ⟨x, hx⟩ : ∃ x, l[j]? = some x := ⟨l[j], List.getElem?_eq_getElem hlt⟩
      obtain ⟨bk, off, rfl, c0, c1⟩ := HS.out j x hx
      obtain ⟨b, s, n⟩ := x
      obtain ⟨s1, s2, s3⟩ := HL.out _ (List.mem_of_getElem? hx)
      simp only [] at s1 s2 s3 c0 c1
      have d0 : wr.cell? ⟨bk, off + j * 2, none⟩ = some (.string s) := by rw [HQ.out]; exact c0
      have d1 : wr.cell? ⟨bk, off + j * 2 + 1, none⟩ = some (.int .i64 n) := by rw [HQ.out]; exact c1
      clear c0 c1
      have HX := Lib.hid hx
      clear hx
      have hil := itoa_len n s2 s3
      have hji : (j : Int) < (l.length : Int) := by omega
      have hsn : pathB (l.take (j + 1)) = (if (l.take j).isEmpty then [] else pathB (l.take j) ++ [44, 32]) ++ placeL s n := by
        rw [List.take_add_one, HX.out]
        exact pathB_snoc (l.take j) (b, s, n)
      have HSN := Lib.hid hsn
      clear hsn
      have hA0 : (⟨(pathB (l.take j)).toArray⟩ : ByteArray).size ≤ 12300 := by rw [size_mk]; exact hwl2
      generalize hA : (⟨(pathB (l.take j)).toArray⟩ : ByteArray) = A at hA0 ⊢
      have HA := Lib.hid hA
      clear hA hwl2
      have e1 : (⟨#[32]⟩ : ByteArray).size = 1 := rfl
      have e2 : (⟨#[44, 32]⟩ : ByteArray).size = 2 := rfl
      have e3 := size_mk (Lib.itoa n)
      have e4 : (A ++ (⟨#[44, 32]⟩ : ByteArray)).size = A.size + 2 := by rw [ByteArray.size_append]; rfl
      by_cases h0 : j = 0
      · have hb0 : decide ((0 : Int) < (j : Int)) = false := decide_eq_false (by omega)
        have hb1 : decide (0 < j) = false := decide_eq_false (by omega)
        have hb2 : ¬ 0 < j := by omega
        have hem : Hid ((l.take j).isEmpty = true) := by subst h0; exact rfl
        have k1 := cat_run A s (by omega)
        have k2 := cat_run (A ++ s) ⟨#[32]⟩ (by rw [ByteArray.size_append]; omega)
        have k3 := cat_run (A ++ s ++ ⟨#[32]⟩) ⟨(Lib.itoa n).toArray⟩ (by rw [ByteArray.size_append, ByteArray.size_append]; omega)
        have H0 := Lib.hid h0
        clear e1 e2 e3 e4 h0
        go_wp2_with fail
        go_quiet ((go_at_call 26; exact digits_q n s2 s3 _ _))
        go_wp2_with fail
        go_roundg (l.length - (j + 1))
        case measure => rw [HK.out]; omega
        case rel =>
          refine ⟨j + 1, rfl, by omega, by go_num, ?_, _, by rw [HQ.out]; exact World.drewN_drewN _ _ _⟩
          have hA1 : A = ⟨([] : List UInt8).toArray⟩ := by rw [← HA.out, H0.out]; simp [pathB, Lib.join_nil]
          rw [HSN.out, hem.out, if_pos rfl, hA1]
          unfold placeL
          rw [← cat_mk, ← cat_mk, ← cat_mk, mk_toList]
          simp only [ByteArray.append_assoc]
      · have hb0 : decide ((0 : Int) < (j : Int)) = true := decide_eq_true (by omega)
        have hb1 : decide (0 < j) = true := decide_eq_true (by omega)
        have hb2 : 0 < j := by omega
        have hem : Hid ((l.take j).isEmpty = false) := by
          show (l.take j).isEmpty = false
          rw [List.isEmpty_eq_false_iff]
          intro h; have := congrArg List.length h; rw [List.length_take, List.length_nil] at this; omega
        have k0 := cat_run A ⟨#[44, 32]⟩ (by omega)
        have k1 := cat_run (A ++ ⟨#[44, 32]⟩) s (by omega)
        have k2 := cat_run (A ++ ⟨#[44, 32]⟩ ++ s) ⟨#[32]⟩ (by rw [ByteArray.size_append]; omega)
        have k3 := cat_run (A ++ ⟨#[44, 32]⟩ ++ s ++ ⟨#[32]⟩) ⟨(Lib.itoa n).toArray⟩ (by rw [ByteArray.size_append, ByteArray.size_append]; omega)
        clear e1 e2 e3 e4 h0
        go_wp2_with fail
        go_quiet ((go_at_call 26; exact digits_q n s2 s3 _ _))
        go_wp2_with fail
        go_roundg (l.length - (j + 1))
        case measure => rw [HK.out]; omega
        case rel =>
          refine ⟨j + 1, rfl, by omega, by go_num, ?_, _, by rw [HQ.out]; exact World.drewN_drewN _ _ _⟩
          rw [HSN.out, hem.out, if_neg (by simp)]
          unfold placeL
          rw [← cat_mk, ← cat_mk, ← cat_mk, ← cat_mk, HA.out, mk_toList]
          simp only [ByteArray.append_assoc]
    · have HE : Hid (l.take j = l) := List.take_of_length_le (by omega)
      go_wp2
      go_ret
      refine ⟨?_, _, HQ.out⟩
      rw [HE.out]; rfl
end Go.Proofs.YtjafmnhnemdedaaDoor
