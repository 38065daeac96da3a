/- Both readers' methods, whether they have stopped or not: contracts. -/
import Derived.Test.YtbliddmkmieppaaDoorWrg
namespace Go.Proofs.YtbliddmkmieppaaDoor
open Go.RowKit

def uptoE (bs : List Int) (pos : Nat) (er most : Int) : Int × Nat × Int := if er = 0 then upto bs pos most else (0, pos, er)
theorem uptoE_zero (bs : List Int) (pos : Nat) (most : Int) : uptoE bs pos 0 most = upto bs pos most := if_pos rfl
theorem uptoE_more (bs : List Int) (pos : Nat) {er : Int} (most : Int) (h : er ≠ 0) : uptoE bs pos er most = (0, pos, er) := if_neg h

theorem uptoE_any {rb : Nat} {bs : List Int} {pos : Nat} {er : Int} (most : Int) (w : World) (h : Rdr w rb bs pos er) (hb : ∀ z ∈ bs, 0 ≤ z ∧ z ≤ 255) :
    Calls Tryd.prog 10 #[.pointer (some ⟨rb, 0, none⟩), .int .u64 most] w fun e w' => e = .returned (.int .u64 (uptoE bs pos er most).1) ∧ Rdr w' rb bs (uptoE bs pos er most).2.1 (uptoE bs pos er most).2.2 ∧ Only rb w w' := by
  by_cases he : er = 0
  · subst he; rw [uptoE_zero]; exact upto_any most w h hb
  · rw [uptoE_more bs pos most he]
    refine (upto_stopped most w h he).mono ?_
    rintro e w' ⟨rfl, rfl⟩
    exact ⟨rfl, h, Only.refl _ _⟩
theorem uintE_any {rb : Nat} {bs : List Int} {pos : Nat} {er : Int} (w : World) (h : Rdr w rb bs pos er) (hb : ∀ z ∈ bs, 0 ≤ z ∧ z ≤ 255) :
    Calls Tryd.prog 6 #[.pointer (some ⟨rb, 0, none⟩)] w fun e w' => e = .returned (.int .u64 (uptoE bs pos er top).1) ∧ Rdr w' rb bs (uptoE bs pos er top).2.1 (uptoE bs pos er top).2.2 ∧ Only rb w w' := by
  by_cases he : er = 0
  · subst he; rw [uptoE_zero]; exact uint_any w h hb
  · rw [uptoE_more bs pos top he]
    refine (uint_stopped w h he).mono ?_
    rintro e w' ⟨rfl, rfl⟩
    exact ⟨rfl, h, Only.refl _ _⟩
theorem intE_any {rb : Nat} {bs : List Int} {pos : Nat} {er : Int} (w : World) (h : Rdr w rb bs pos er) (hb : ∀ z ∈ bs, 0 ≤ z ∧ z ≤ 255) :
    Calls Tryd.prog 8 #[.pointer (some ⟨rb, 0, none⟩)] w fun e w' => e = .returned (.int .i64 (opn (uptoE bs pos er top).1)) ∧ Rdr w' rb bs (uptoE bs pos er top).2.1 (uptoE bs pos er top).2.2 ∧ Only rb w w' := by
  by_cases he : er = 0
  · subst he; rw [uptoE_zero]; exact int_any w h hb
  · rw [uptoE_more bs pos top he]
    refine (int_stopped w h he).mono ?_
    rintro e w' ⟨rfl, rfl⟩
    exact ⟨rfl, h, Only.refl _ _⟩
theorem ruptoE_any {lo mb : Nat} {bs : List Int} {pos : Nat} {er : Int} {f : Nat} (most : Int) (w : World) (h : RRd w lo mb bs pos er f) (hf : er ≠ 0 → f = pos) (hb : ∀ z ∈ bs, 0 ≤ z ∧ z ≤ 255) :
    Calls Tryd.prog 11 #[.pointer (some ⟨mb, 0, none⟩), .int .u64 most] w fun e w' => e = .returned (.int .u64 (uptoE bs pos er most).1) ∧ (∃ f', RRd w' lo mb bs (uptoE bs pos er most).2.1 (uptoE bs pos er most).2.2 f' ∧ ((uptoE bs pos er most).2.2 ≠ 0 → f' = (uptoE bs pos er most).2.1)) ∧ Only mb w w' := by
  by_cases he : er = 0
  · subst he; rw [uptoE_zero]; exact rupto_any most w h hb
  · rw [uptoE_more bs pos most he]
    refine (rupto_stopped most w h he).mono ?_
    rintro e w' ⟨rfl, rfl⟩
    exact ⟨rfl, ⟨f, h, hf⟩, Only.refl _ _⟩
theorem ruintE_any {lo mb : Nat} {bs : List Int} {pos : Nat} {er : Int} {f : Nat} (w : World) (h : RRd w lo mb bs pos er f) (hf : er ≠ 0 → f = pos) (hb : ∀ z ∈ bs, 0 ≤ z ∧ z ≤ 255) :
    Calls Tryd.prog 7 #[.pointer (some ⟨mb, 0, none⟩)] w fun e w' => e = .returned (.int .u64 (uptoE bs pos er top).1) ∧ (∃ f', RRd w' lo mb bs (uptoE bs pos er top).2.1 (uptoE bs pos er top).2.2 f' ∧ ((uptoE bs pos er top).2.2 ≠ 0 → f' = (uptoE bs pos er top).2.1)) ∧ Only mb w w' := by
  by_cases he : er = 0
  · subst he; rw [uptoE_zero]; exact ruint_any w h hb
  · rw [uptoE_more bs pos top he]
    refine (ruint_stopped w h he).mono ?_
    rintro e w' ⟨rfl, rfl⟩
    exact ⟨rfl, ⟨f, h, hf⟩, Only.refl _ _⟩
theorem rintE_any {lo mb : Nat} {bs : List Int} {pos : Nat} {er : Int} {f : Nat} (w : World) (h : RRd w lo mb bs pos er f) (hf : er ≠ 0 → f = pos) (hb : ∀ z ∈ bs, 0 ≤ z ∧ z ≤ 255) :
    Calls Tryd.prog 9 #[.pointer (some ⟨mb, 0, none⟩)] w fun e w' => e = .returned (.int .i64 (opn (uptoE bs pos er top).1)) ∧ (∃ f', RRd w' lo mb bs (uptoE bs pos er top).2.1 (uptoE bs pos er top).2.2 f' ∧ ((uptoE bs pos er top).2.2 ≠ 0 → f' = (uptoE bs pos er top).2.1)) ∧ Only mb w w' := by
  by_cases he : er = 0
  · subst he; rw [uptoE_zero]; exact rint_any w h hb
  · rw [uptoE_more bs pos top he]
    refine (rint_stopped w h he).mono ?_
    rintro e w' ⟨rfl, rfl⟩
    exact ⟨rfl, ⟨f, h, hf⟩, Only.refl _ _⟩

theorem bytesE_any {rb : Nat} {bs : List Int} {pos : Nat} {er : Int} (n : Int) (hm : n ≤ 9223372036854775807) (w : World) (h : Rdr w rb bs pos er) :
    Calls Tryd.prog 12 #[.pointer (some ⟨rb, 0, none⟩), .int .i64 n] w fun e w' => ∃ v', e = .returned v' ∧ Own w' w.heap.size v' (byts bs pos er n).1 ∧ Rdr w' rb bs (byts bs pos er n).2.1 (byts bs pos er n).2.2 ∧ Ext rb w w' := by
  unfold byts
  have hp : pos ≤ bs.length := by obtain ⟨_, _, _, _, _, h, _⟩ := h; exact h
  by_cases he : er = 0
  · subst he
    rw [if_pos rfl]
    by_cases hn : n ≤ 0
    · rw [if_pos hn]
      refine (bytes_none n w h (.inr hn)).mono ?_
      rintro e w' ⟨rfl, rfl⟩
      exact ⟨_, rfl, World.ownsRow_nil _ _ _ _, h, (Only.refl _ _).ext⟩
    · rw [if_neg hn]
      by_cases hc : (bs.length : Int) - pos < n
      · rw [if_pos hc]
        refine (bytes_cut n w h (by omega) hm hc).mono ?_
        rintro e w' ⟨rfl, h1, h2⟩
        exact ⟨_, rfl, World.ownsRow_nil _ _ _ _, h1, h2.ext⟩
      · rw [if_neg hc]
        obtain ⟨m, rfl⟩ := Int.eq_ofNat_of_zero_le (show 0 ≤ n by omega)
        exact bytes_some m w h (by omega) (by omega)
  · rw [if_neg he]
    refine (bytes_none n w h (.inl he)).mono ?_
    rintro e w' ⟨rfl, rfl⟩
    exact ⟨_, rfl, World.ownsRow_nil _ _ _ _, h, (Only.refl _ _).ext⟩
theorem rbytesE_any {lo mb : Nat} {bs : List Int} {pos : Nat} {er : Int} {f : Nat} (n : Int) (hm : n ≤ 9223372036854775807) (w : World) (h : RRd w lo mb bs pos er f) (hf : er ≠ 0 → f = pos) :
    Calls Tryd.prog 13 #[.pointer (some ⟨mb, 0, none⟩), .int .i64 n] w fun e w' => ∃ a c, e = .returned (.slice a (byts bs pos er n).1.length c) ∧ Row .u8 w' w'.heap.size a (byts bs pos er n).1 ∧ (∃ f', RRd w' lo mb bs (byts bs pos er n).2.1 (byts bs pos er n).2.2 f' ∧ ((byts bs pos er n).2.2 ≠ 0 → f' = (byts bs pos er n).2.1)) ∧ Only mb w w' := by
  unfold byts
  have hp : pos ≤ bs.length := by obtain ⟨_, _, _, _, _, h, _⟩ := h; exact h
  by_cases he : er = 0
  · subst he
    rw [if_pos rfl]
    by_cases hn : n ≤ 0
    · rw [if_pos hn]
      refine (rbytes_none n w h (.inr hn)).mono ?_
      rintro e w' ⟨rfl, rfl⟩
      exact ⟨_, _, rfl, Row.nil, ⟨f, h, fun h => absurd rfl h⟩, Only.refl _ _⟩
    · rw [if_neg hn]
      by_cases hc : (bs.length : Int) - pos < n
      · rw [if_pos hc]
        refine (rbytes_cut n w h (by omega) hm hc).mono ?_
        rintro e w' ⟨rfl, h1, h2⟩
        exact ⟨_, _, rfl, Row.nil, ⟨_, h1, fun _ => rfl⟩, h2⟩
      · rw [if_neg hc]
        obtain ⟨m, rfl⟩ := Int.eq_ofNat_of_zero_le (show 0 ≤ n by omega)
        refine (rbytes_some m w h (by omega) (by omega)).mono ?_
        rintro e w' ⟨a, c, rfl, h1, h2, h3⟩
        refine ⟨a, c, ?_, h1, ⟨f, h2, fun h => absurd rfl h⟩, h3⟩
        rw [List.length_take, List.length_drop, Int.toNat_natCast, Nat.min_eq_left (by omega)]
  · rw [if_neg he]
    refine (rbytes_none n w h (.inl he)).mono ?_
    rintro e w' ⟨rfl, rfl⟩
    exact ⟨_, _, rfl, Row.nil, ⟨f, h, hf⟩, Only.refl _ _⟩
end Go.Proofs.YtbliddmkmieppaaDoor
