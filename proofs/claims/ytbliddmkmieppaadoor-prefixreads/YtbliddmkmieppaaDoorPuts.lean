/- prefix.Put, PutInt and Read: contracts: rows of numbers that are read, and bytes of the call's own. -/
import Derived.Test.YtbliddmkmieppaaDoorPut
namespace Go.Proofs.YtbliddmkmieppaaDoor
open Go.RowKit

/-- A row of numbers, as a slice holds it, below block B. -/
def Row (k : IntKind) (w : World) (B : Nat) (a : Option Addr) (zs : List Int) : Prop :=
  ∀ (j : Nat) z, zs[j]? = some z → ∃ bk off, a = some ⟨bk, off, none⟩ ∧ bk < B ∧ w.cell? ⟨bk, off + j, none⟩ = some (.int k z)
theorem Row.later {k : IntKind} {w w' : World} {B B' : Nat} {a : Option Addr} {zs : List Int} (h : Row k w B a zs) (hb : Below B' w w') (hB : B ≤ B') : Row k w' B a zs := by
  intro j z hz
  obtain ⟨bk, off, h1, h2, h3⟩ := h j z hz
  exact ⟨bk, off, h1, h2, by rw [hb.cell (p := ⟨bk, off + j, none⟩) (show bk < B' by omega)]; exact h3⟩
theorem Row.mono {k : IntKind} {w : World} {B B' : Nat} {a : Option Addr} {zs : List Int} (h : Row k w B a zs) (hB : B ≤ B') : Row k w B' a zs := by
  intro j z hz
  obtain ⟨bk, off, h1, h2, h3⟩ := h j z hz
  exact ⟨bk, off, h1, by omega, h3⟩
theorem Row.nil {k : IntKind} {w : World} {B : Nat} {a : Option Addr} : Row k w B a [] := by intro j z hz; simp at hz
theorem add_at (bk off j : Nat) : (⟨bk, off, none⟩ : Addr).add j = ⟨bk, off + j, none⟩ := by
  unfold Addr.add; split <;> simp_all
theorem Own.row {w : World} {B : Nat} {v : Value} {zs : List Int} (h : Own w B v zs) :
    ∃ a c, v = .slice a zs.length c ∧ zs.length ≤ c ∧ c ≤ maxLen ∧ Row .u8 w w.heap.size a zs := by
  have h' := h
  rcases h.2 with ⟨rfl, hn⟩ | ⟨g, cap, cur, rfl, _, hg, h1, h2, _, _⟩
  · obtain rfl := List.eq_nil_of_length_eq_zero hn
    exact ⟨none, 0, rfl, Nat.le_refl _, Nat.zero_le _, Row.nil⟩
  · refine ⟨_, _, rfl, h1, h2, fun j z hz => ⟨g, 0, rfl, (Array.getElem?_eq_some_iff.1 hg).1, ?_⟩⟩
    have hj : j < zs.length := (List.getElem?_eq_some_iff.1 hz).1
    have := h'.cellAt j (by omega)
    rw [Nat.zero_add, this, List.getElem?_map, hz]; rfl

theorem clone_any (B : Nat) (a : Option Addr) (c : Nat) (bs : List Int) (w : World) (hl : bs.length ≤ 1000000000) (hr : Row .u8 w B a bs) :
    Calls Tryd.prog 20 #[.slice a bs.length c] w fun e w' => ∃ v', e = .returned v' ∧ Own w' w.heap.size v' bs ∧ Below w.heap.size w w' := by
  match a, hr with
  | none, hr =>
    have hn : bs = [] := by
      match bs, hr with
      | [], _ => rfl
      | z :: r, hr => obtain ⟨_, _, h, _⟩ := hr 0 z rfl; cases h
    subst hn
    refine (Tryd.bytes_Clone_nil 0 c w).mono ?_
    rintro e w' ⟨rfl, rfl⟩
    exact ⟨_, rfl, World.ownsRow_nil _ _ _ _, Below.refl _ _⟩
  | some ad, hr =>
    refine (Tryd.bytes_Clone_at ad bs.length c bs w rfl (by omega) (fun i hi => ?_)).mono ?_
    · obtain ⟨bk, off, h1, _, h3⟩ := hr i bs[i] (List.getElem?_eq_getElem hi)
      obtain rfl := Option.some.inj h1
      rw [add_at, h3]
      simp [List.getD, List.getElem?_eq_getElem hi]
    · rintro e w' ⟨v', rfl, h1, _, h3⟩
      exact ⟨v', rfl, h1, h3⟩

/-- The bytes of numbers, one behind the other. -/
def encs (l : List Int) : List Int := (l.map enc).flatten
theorem encs_snoc (l : List Int) (n : Int) : encs (l ++ [n]) = encs l ++ enc n := by simp [encs]
theorem encs_length (l : List Int) : (encs l).length ≤ 9 * l.length := by
  induction l with
  | nil => simp [encs]
  | cons n l ih =>
    have := sz_pos n
    have e : encs (n :: l) = enc n ++ encs l := by simp [encs]
    rw [e, List.length_append, enc_length, List.length_cons]; omega
theorem take_next {l : List Int} {j : Nat} {z : Int} (h : l[j]? = some z) : l.take (j + 1) = l.take j ++ [z] := by rw [List.take_add_one, h]; rfl

set_option maxRecDepth 100000 in
set_option maxHeartbeats 1000000 in
theorem puts_any (B : Nat) (a : Option Addr) (c : Nat) (bs : List Int) (a2 : Option Addr) (c2 : Nat) (l : List Int) (w : World) (hB : B ≤ w.heap.size) (hl : bs.length ≤ 100000) (hl2 : l.length ≤ 1000) (hr : Row .u8 w B a bs) (hr2 : Row .u64 w B a2 l)
    (hz : ∀ z ∈ l, 0 ≤ z ∧ z ≤ 18446744073709551615) :
    Calls Tryd.prog 18 #[.slice a bs.length c, .slice a2 l.length c2] w fun e w' => ∃ v', e = .returned v' ∧ Own w' w.heap.size v' (bs ++ encs l) ∧ Below w.heap.size w w' := by
  have HC := Lib.hid (clone_any B a c bs w (by omega) hr)
  have HR := Lib.hid hr2
  have HZ := Lib.hid hz
  clear hr hr2 hz
  go_enter Tryd.func18, Tryd.ntmps18
  go_wp2_with fail
  refine HC.out.mono ?_
  rintro e w1 ⟨v1, rfl, ho1, hb1⟩
  have HO1 := Lib.hid ho1
  have HB1 := Lib.hid hb1
  clear ho1 hb1
  go_wp2
  go_loopg [5, 12] l.length (fun m o i wr => ∃ j : Nat, m = l.length - j ∧ j ≤ l.length ∧ i = .int .i64 j ∧ Own wr w.heap.size o (bs ++ encs (l.take j)) ∧ Below w.heap.size w wr)
  case atStart => exact ⟨0, by omega, by omega, rfl, by simpa [encs] using HO1.out, HB1.out⟩
  case round =>
    obtain ⟨j, hm, hj, rfl, hown, hbel⟩ := hrel
    have HM := Lib.hid hm
    have HO := Lib.hid hown
    have HB := Lib.hid hbel
    clear hm hown hbel
    by_cases hlt : j < l.length
    · obtain ⟨z, hzj⟩ : ∃ z, l[j]? = some z := ⟨l[j], List.getElem?_eq_getElem hlt⟩
      obtain ⟨bk, off, rfl, _, hc⟩ := (HR.out.later HB.out hB) j z hzj
      obtain ⟨z0, z1⟩ := HZ.out z (List.mem_of_getElem? hzj)
      have HT := Lib.hid (take_next hzj)
      clear hzj
      have hle : (bs ++ encs (l.take j)).length ≤ 1000000000 := by
        have := encs_length (l.take j)
        rw [List.length_take] at this
        rw [List.length_append]; omega
      have HP := Lib.hid (put_any w.heap.size u5 (bs ++ encs (l.take j)) z z0 z1 wr HB.out.size hle HO.out)
      clear hle
      go_wp2_with fail
      refine HP.out.mono ?_
      rintro e w2 ⟨v2, rfl, ho2, hb2⟩
      have HO2 := Lib.hid ho2
      have HB2 := Lib.hid hb2
      clear ho2 hb2
      go_wp2
      go_roundg (l.length - (j + 1))
      case measure => rw [HM.out]; omega
      case rel => exact ⟨j + 1, rfl, by omega, by go_num, by rw [HT.out, encs_snoc, ← List.append_assoc]; exact HO2.out, HB.out.trans HB2.out⟩
    · go_wp2
      go_ret
      refine ⟨_, rfl, ?_, HB.out⟩
      have := HO.out
      rwa [List.take_of_length_le (by omega)] at this

end Go.Proofs.YtbliddmkmieppaaDoor
