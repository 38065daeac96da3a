/- Package rle: a header's line, read: contracts. -/
import Derived.Test.YtjndfdhjipfijaaGreatDoorTx5
import Derived.Test.YtjndfdhjipfijaaGreatDoorRt
namespace Go.Proofs.YtjndfdhjipfijaaGreatDoor
open Go.RowKit

/-! Plain -/
theorem digitVal_dig {b : UInt8} (h : isDig b = true) : Lib.digitVal b = some (b.toNat - 48) := by
  unfold isDig at h
  simp only [Bool.and_eq_true, decide_eq_true_eq] at h
  unfold Lib.digitVal
  rw [if_pos h]
theorem decFrom_val : ∀ (l : List UInt8) (a : Nat), l.all isDig = true → Lib.decFrom a l = some (l.foldl (fun n c => 10 * n + (c.toNat - 48)) a)
  | [], a, _ => rfl
  | b :: r, a, h => by
    simp only [List.all_cons, Bool.and_eq_true] at h
    simp only [Lib.decFrom, digitVal_dig h.1, List.foldl_cons]
    rw [decFrom_val r _ h.2, Nat.mul_comm]
theorem atoi_val {l : List UInt8} (h0 : l ≠ []) (h : l.all isDig = true) : Lib.atoi l = some ((valL l : Nat) : Int) := by
  cases l with
  | nil => exact absurd rfl h0
  | cons b r =>
    have hb : isDig b = true := by simp only [List.all_cons, Bool.and_eq_true] at h; exact h.1
    have h1 : (b == 45) = false := by
      rw [beq_eq_false_iff_ne]; rintro rfl; revert hb; decide
    have h2 : (b == 43) = false := by
      rw [beq_eq_false_iff_ne]; rintro rfl; revert hb; decide
    simp only [Lib.atoi, h1, h2, Bool.false_eq_true, if_false, Lib.decNat, List.isEmpty_cons]
    rw [decFrom_val _ _ h]
    rfl
/-- The ten figures. -/
def figs : List UInt8 := [48, 49, 50, 51, 52, 53, 54, 55, 56, 57]
theorem figs_is (b : UInt8) : figs.contains b = isDig b := by
  have : ∀ n : Fin 256, figs.contains (UInt8.ofNat n.1) = isDig (UInt8.ofNat n.1) := by decide +kernel
  have h := this ⟨b.toNat, b.toNat_lt⟩
  simpa using h
theorem trim_figs (l : List UInt8) : Lib.trimLeftS l figs = l.dropWhile isDig := by
  unfold Lib.trimLeftS
  congr 1
  funext b
  exact figs_is b
theorem take_while (l : List UInt8) : l.take (l.length - (l.dropWhile isDig).length) = l.takeWhile isDig := by
  have h := List.takeWhile_append_dropWhile (p := isDig) (l := l)
  have hl : l.length = (l.takeWhile isDig).length + (l.dropWhile isDig).length := by rw [← List.length_append, h]
  rw [hl, Nat.add_sub_cancel]
  have := List.take_left (l₁ := l.takeWhile isDig) (l₂ := l.dropWhile isDig)
  rwa [h] at this

/-- What a call keeps that writes into one block alone, and makes more. -/
def Oth (b : Nat) (w w' : World) : Prop := Below b w w' ∧ ∀ k, k < w.heap.size → k ≠ b → w'.heap[k]? = w.heap[k]?
theorem Oth.refl (b : Nat) (w : World) : Oth b w w := ⟨Below.refl _ _, fun _ _ _ => rfl⟩
theorem Oth.trans {b : Nat} {w w1 w2 : World} (h : Oth b w w1) (k : Oth b w1 w2) : Oth b w w2 :=
  ⟨h.1.trans k.1, fun i hi hb => by rw [k.2 i (Nat.lt_of_lt_of_le hi h.1.size) hb, h.2 i hi hb]⟩
theorem Oth.of {b : Nat} {w w' : World} (h : Below w.heap.size w w') (hb : b < w.heap.size) : Oth b w w' := ⟨h.mono (Nat.le_of_lt hb), fun k hk _ => h.block k hk⟩
theorem Oth.set {b : Nat} {w0 w : World} (h : Oth b w0 w) (k : Nat) (v : Value) : Oth b w0 (w.setCell ⟨b, k, none⟩ v) :=
  ⟨h.1.setCell (p := ⟨b, k, none⟩) (Nat.le_refl _) _, fun i hi hb => by rw [Below.heap_setCell _ _ _ _ (fun e => hb e)]; exact h.2 i hi hb⟩
theorem Oth.drew {b : Nat} {w0 w : World} (h : Oth b w0 w) : Oth b w0 w.drew := ⟨h.1.drew, h.2⟩

/-- A header in block hb: what is left of its line; whether all was right. -/
def HdAt (w : World) (hb : Nat) (L : List UInt8) (ok : Bool) : Prop := w.heap[hb]? = some (.cells #[.string ⟨L.toArray⟩, .bool ok] 93 (0, 0))
theorem HdAt.cells {w : World} {hb : Nat} {L : List UInt8} {ok : Bool} (h : HdAt w hb L ok) : w.cell? ⟨hb, 0, none⟩ = some (.string ⟨L.toArray⟩) ∧ w.cell? ⟨hb, 1, none⟩ = some (.bool ok) ∧ w.frozen? ⟨hb, 0, none⟩ = false ∧ w.frozen? ⟨hb, 1, none⟩ = false :=
  ⟨by rw [Lib.cell_of_heap h]; rfl, by rw [Lib.cell_of_heap h]; rfl, Lib.frozen_of_heap h 0, Lib.frozen_of_heap h 1⟩
theorem HdAt.lt {w : World} {hb : Nat} {L : List UInt8} {ok : Bool} (h : HdAt w hb L ok) : hb < w.heap.size := (Array.getElem?_eq_some_iff.1 h).1
theorem HdAt.later {w w' : World} {hb : Nat} {L : List UInt8} {ok : Bool} (h : HdAt w hb L ok) (hw : Below w.heap.size w w') : HdAt w' hb L ok := by
  unfold HdAt; rw [hw.block hb h.lt]; exact h
theorem HdAt.set0 {w : World} {hb : Nat} {L : List UInt8} {ok : Bool} (h : HdAt w hb L ok) (L' : List UInt8) : HdAt (w.setCell ⟨hb, 0, none⟩ (.string ⟨L'.toArray⟩)) hb L' ok := by
  unfold HdAt at h ⊢
  simp only [World.setCell, Array.getElem?_modify, h]
  simp
theorem HdAt.set1 {w : World} {hb : Nat} {L : List UInt8} {ok : Bool} (h : HdAt w hb L ok) (ok' : Bool) : HdAt (w.setCell ⟨hb, 1, none⟩ (.bool ok')) hb L ok' := by
  unfold HdAt at h ⊢
  simp only [World.setCell, Array.getElem?_modify, h]
  simp
/-- Without blanks ahead. -/
def skipB (l : List UInt8) : List UInt8 := l.dropWhile (· == 32)

set_option maxRecDepth 100000 in
theorem skipBlanks_any (hb : Nat) (L : List UInt8) (ok : Bool) (w : World) (h : HdAt w hb L ok) :
    Calls Tryz.prog 65 #[.pointer (some ⟨hb, 0, none⟩)] w fun e w' => e = .returned (.tuple #[]) ∧ HdAt w' hb (skipB L) ok ∧ Oth hb w w' := by
  obtain ⟨c0, c1, f0, f1⟩ := h.cells
  have HH := Lib.hid h
  have HTL : Hid (∀ w, Calls Tryz.prog 81 #[.string ⟨L.toArray⟩, .string ⟨#[32]⟩] w fun e w' => e = .returned (.string ⟨(skipB L).toArray⟩) ∧ w = w') := fun w => by
    refine (Tryz.strings_TrimLeft_one ⟨L.toArray⟩ 32 (by decide) w).mono ?_
    rintro e w' ⟨rfl, rfl⟩
    exact ⟨rfl, rfl⟩
  clear h
  go_enter Tryz.func65, Tryz.ntmps65
  go_wp2_with fail
  refine (HTL.out _).mono ?_
  rintro e w' ⟨rfl, rfl⟩
  go_wp2_with fail
  go_end0
  exact ⟨rfl, HH.out.set0 _, (Oth.refl _ _).set 0 _⟩

/-! words -/
def stepW (s : List UInt8 × Bool) (p : List UInt8) : List UInt8 × Bool := (Lib.trimPrefix (skipB s.1) p, s.2 && Lib.hasPrefix (skipB s.1) p)
/-- Strings in a row, as a slice holds them. -/
def Strs (w : World) (bk : Nat) (ws : List (List UInt8)) : Prop := w.heap[bk]? = some (.cells (ws.map fun l => Value.string ⟨l.toArray⟩).toArray 9 (0, 0))
theorem Strs.at {w : World} {bk : Nat} {ws : List (List UInt8)} (h : Strs w bk ws) {j : Nat} {l : List UInt8} (hl : ws[j]? = some l) : w.cell? ⟨bk, j, none⟩ = some (.string ⟨l.toArray⟩) := by
  rw [Lib.cell_of_heap h]; simp [hl]
theorem Strs.oth {w w' : World} {bk hb : Nat} {ws : List (List UInt8)} (h : Strs w bk ws) (ho : Oth hb w w') (hne : bk ≠ hb) : Strs w' bk ws := by
  unfold Strs; rw [ho.2 bk (Array.getElem?_eq_some_iff.1 h).1 hne]; exact h

set_option maxRecDepth 100000 in
set_option maxHeartbeats 1000000 in
theorem words_any (hb bk n c : Nat) (ws : List (List UInt8)) (L : List UInt8) (ok : Bool) (w : World) (h : HdAt w hb L ok) (hs : Strs w bk ws) (hne : bk ≠ hb) (hn : n = ws.length) (hnl : n ≤ 1000) :
    Calls Tryz.prog 45 #[.pointer (some ⟨hb, 0, none⟩), .slice (some ⟨bk, 0, none⟩) n c] w fun e w' => e = .returned (.tuple #[]) ∧ HdAt w' hb (skipB (ws.foldl stepW (L, ok)).1) (ws.foldl stepW (L, ok)).2 ∧ Oth hb w w' := by
  have HH := Lib.hid h
  have HS := Lib.hid hs
  have HN := Lib.hid hn
  clear h hs hn
  go_enter Tryz.func45, Tryz.ntmps45
  go_wp2_with fail
  go_loopg [5, 6, 7, 10] n (fun k a b d i wr => ∃ j : Nat, k = n - j ∧ j ≤ n ∧ i = .int .i64 (j : Int) ∧ HdAt wr hb ((ws.take j).foldl stepW (L, ok)).1 ((ws.take j).foldl stepW (L, ok)).2 ∧ Oth hb w wr)
  case atStart => exact ⟨0, rfl, by omega, rfl, HH.out, Oth.refl _ _⟩
  case round =>
    obtain ⟨j, hk, hj, rfl, hd, ho⟩ := hrel
    have HK := Lib.hid hk
    have HD := Lib.hid hd
    have HO := Lib.hid ho
    clear hk hd ho
    by_cases hlt : j < n
    · obtain ⟨l, hl⟩ : ∃ l, ws[j]? = some l := by have := HN.out; exact ⟨ws[j], List.getElem?_eq_getElem (by omega)⟩
      have x0 := (HS.out.oth HO.out hne).at hl
      have hg : decide ((j : Int) < (n : Int)) = true := by simp; omega
      have hi1 : (j : Int) < (n : Int) := by omega
      have HE : Hid ((ws.take (j + 1)).foldl stepW (L, ok) = stepW ((ws.take j).foldl stepW (L, ok)) l) := by
        show _ = _
        rw [List.take_add_one, hl, List.foldl_append]; rfl
      clear hl
      generalize ((ws.take j).foldl stepW (L, ok)) = S at HD HE
      go_wp2_with fail
      refine (skipBlanks_any hb S.1 S.2 _ HD.out).mono ?_
      rintro e w1 ⟨rfl, h1, ho1⟩
      have HD1 := Lib.hid h1
      have HO1 := Lib.hid (HO.out.trans ho1)
      clear h1 ho1 x0
      obtain ⟨c0, c1, f0, f1⟩ := HD1.out.cells
      have HCP : Hid (∀ w, Calls Tryz.prog 66 #[.string ⟨(skipB S.1).toArray⟩, .string ⟨l.toArray⟩] w fun e w' => e = .returned (.tuple #[.string ⟨(Lib.trimPrefix (skipB S.1) l).toArray⟩, .bool (Lib.hasPrefix (skipB S.1) l)]) ∧ w = w') := fun w => by
        refine (Tryz.strings_CutPrefix ⟨(skipB S.1).toArray⟩ ⟨l.toArray⟩ w).mono ?_
        rintro e w' ⟨rfl, rfl⟩
        exact ⟨rfl, rfl⟩
      go_wp2_with fail
      refine (HCP.out _).mono ?_
      rintro e w' ⟨rfl, rfl⟩
      have HE2 : Hid (stepW S l = (Lib.trimPrefix (skipB S.1) l, S.2 && Lib.hasPrefix (skipB S.1) l)) := rfl
      have HR : Hid (HdAt ((w1.setCell ⟨hb, 0, none⟩ (.string ⟨(Lib.trimPrefix (skipB S.1) l).toArray⟩)).setCell ⟨hb, 1, none⟩ (.bool (S.2 && Lib.hasPrefix (skipB S.1) l))) hb (Lib.trimPrefix (skipB S.1) l) (S.2 && Lib.hasPrefix (skipB S.1) l)) := (HD1.out.set0 _).set1 _
      have HR2 : Hid (Oth hb w ((w1.setCell ⟨hb, 0, none⟩ (.string ⟨(Lib.trimPrefix (skipB S.1) l).toArray⟩)).setCell ⟨hb, 1, none⟩ (.bool (S.2 && Lib.hasPrefix (skipB S.1) l)))) := (HO1.out.set 0 _).set 1 _
      generalize Lib.trimPrefix (skipB S.1) l = L2 at *
      generalize Lib.hasPrefix (skipB S.1) l = q at *
      generalize S.2 = p at *
      cases p <;> cases q
      all_goals go_wp2_with fail
      all_goals go_roundg (n - (j + 1))
      all_goals first
        | (rw [HK.out]; omega)
        | (refine ⟨j + 1, rfl, hlt, by go_num, ?_, HR2.out⟩; rw [HE.out, HE2.out]; exact HR.out)
    · have hje : ws.take j = ws := List.take_of_length_le (by have := HN.out; omega)
      have hg : decide ((j : Int) < (n : Int)) = false := by simp; omega
      rw [hje] at HD
      go_wp2_with fail
      refine (skipBlanks_any hb _ _ _ HD.out).mono ?_
      rintro e w1 ⟨rfl, h1, ho1⟩
      have HD1 := Lib.hid h1
      have HO1 := Lib.hid (HO.out.trans ho1)
      clear h1 ho1
      go_wp2_with fail
      go_end0
      exact ⟨rfl, HD1.out, HO1.out⟩

/-! number -/
theorem bytes_below (w : World) (e : TypeId) (s : ByteArray) : Below w.heap.size w (Lib.bytesWorld w e s) :=
  Lib.below_freeze (Below.drew (Below.refl _ w) |>.alloc (Nat.le_refl _) _) (Nat.le_refl _) _
set_option maxRecDepth 100000 in
theorem Tryz.asciiInfo : (Tryz.prog.info? (Tryz.lays161_ren.t 116)).map (fun i => (i.zero, i.size)) = some (some (.agg (Array.replicate 256 (.bool false))), 256) := by kernel_rfl
set_option maxRecDepth 100000 in
set_option maxHeartbeats 1000000 in
theorem digits_any (L : List UInt8) (w : World) (hl : L.length ≤ 1000000000) :
    Calls Tryz.prog 67 #[.string ⟨L.toArray⟩] w fun e w' => e = .returned (.string ⟨(L.takeWhile isDig).toArray⟩) ∧ Below w.heap.size w w' := by
  have HTL : Hid (∀ w, Calls Tryz.prog 81 #[.string ⟨L.toArray⟩, .string ⟨#[48, 49, 50, 51, 52, 53, 54, 55, 56, 57]⟩] w fun e w' => e = .returned (.string ⟨(L.dropWhile isDig).toArray⟩) ∧ Below w.heap.size w w') := fun w => by
    refine (Any.strings_TrimLeft_laid Tryz.lays161 Tryz.asciiInfo ⟨L.toArray⟩ ⟨figs.toArray⟩ w (by decide) (ascii_of_all (by decide))).mono ?_
    rintro e w' ⟨rfl, hb⟩
    refine ⟨?_, hb⟩
    rw [trim_figs]
  have hs1 := mk_size L
  have hs2 := mk_size (L.dropWhile isDig)
  have hle : (L.dropWhile isDig).length ≤ L.length := by
    have h := congrArg List.length (List.takeWhile_append_dropWhile (p := isDig) (l := L))
    rw [List.length_append] at h
    omega
  have hcut : ∀ w, (Instr.slice 9 (.string ⟨L.toArray⟩) none (some (.int .i64 ((L.length : Int) - ((L.dropWhile isDig).length : Int)))) none).run Tryz.prog w = .ok (.string ⟨(L.takeWhile isDig).toArray⟩) w := by
    intro w
    rw [run_slice_string_h w 9 _ Tryz.underlying9 .i64 _ (by omega) (by rw [mk_size]; omega), cut_mk, List.drop_zero, Nat.sub_zero]
    congr 3
    rw [← take_while]
    congr 3
    omega
  have hw : IntKind.i64.wrap ((L.length : Int) - ((L.dropWhile isDig).length : Int)) = (L.length : Int) - ((L.dropWhile isDig).length : Int) := IntWalk.i64_in _ (by omega)
  generalize (⟨(L.dropWhile isDig).toArray⟩ : ByteArray) = S2 at *
  generalize (⟨(L.takeWhile isDig).toArray⟩ : ByteArray) = S3 at *
  generalize (⟨L.toArray⟩ : ByteArray) = S1 at *
  go_enter Tryz.func67, Tryz.ntmps67
  go_wp2_with fail
  refine (HTL.out _).mono ?_
  rintro e w1 ⟨rfl, hb⟩
  have HB := Lib.hid hb
  clear hb
  go_wp2_with fail
  go_ret
  exact ⟨rfl, HB.out⟩

set_option maxRecDepth 100000 in
set_option maxHeartbeats 1000000 in
/-- side of 1 to 4 figures that say at most 1024. -/
theorem pside_any (d : List UInt8) (n : Nat) (w : World) (h0 : d ≠ []) (h4 : d.length ≤ 4) (hd : d.all isDig = true) (hv : valL d = n) (hn : n ≤ 1024) :
    Calls Tryz.prog 68 #[.string ⟨d.toArray⟩] w fun e w' => e = .returned (.tuple #[.int .i64 (n : Int), .bool true]) ∧ Below w.heap.size w w' := by
  have hs1 := mk_size d
  have HA : Hid (∀ w, Calls Tryz.prog 83 #[.string ⟨d.toArray⟩] w fun e w' => e = .returned (.tuple #[.int .i64 (n : Int), .nilIface]) ∧ Below w.heap.size w w') := fun w => by
    refine (Tryz.strconv_Atoi ⟨d.toArray⟩ (n : Int) (by rw [hs1]; omega) (by rw [← hv]; exact atoi_val h0 hd) w).mono ?_
    rintro e w' ⟨rfl, t, rfl⟩
    exact ⟨rfl, bytes_below _ _ _⟩
  have hg1 : decide ((4 : Int) < (d.length : Int)) = false := by simp; omega
  have hg2 : decide ((1024 : Int) < (n : Int)) = false := by simp; omega
  generalize (⟨d.toArray⟩ : ByteArray) = S at *
  go_enter Tryz.func68, Tryz.ntmps68
  go_wp2_with fail
  refine (HA.out _).mono ?_
  rintro e w1 ⟨rfl, hb⟩
  have HB := Lib.hid hb
  clear hb
  go_wp2_with fail
  go_ret2
  exact ⟨rfl, HB.out⟩
end Go.Proofs.YtjndfdhjipfijaaGreatDoor
