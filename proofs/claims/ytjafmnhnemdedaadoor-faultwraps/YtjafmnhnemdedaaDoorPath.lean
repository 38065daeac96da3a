/- Where an error happened: fault.Path. -/
import Derived.Test.YtjafmnhnemdedaaDoorErr
import Derived.OwnWalk
import Derived.Maps.AppendAt
namespace Go.Proofs.YtjafmnhnemdedaaDoor
open Go.RowKit Go.Extern.Stop Go.Stop Go.Extern

/-- The places of a chain, a comma and a blank between. -/
def pathB (l : Links) : List UInt8 := Lib.join (l.map fun x => placeL x.2.1 x.2.2) [44, 32]
def placeS (x : Nat × ByteArray × Int) : ByteArray := ⟨(placeL x.2.1 x.2.2).toArray⟩
theorem placeS_map (l : Links) : (l.map placeS).map (·.data.toList) = l.map fun x => placeL x.2.1 x.2.2 := by simp [placeS]
theorem lens_le : ∀ (l : Links), Small l → Lib.lens (l.map fun x => placeL x.2.1 x.2.2) ≤ 121 * l.length
  | [], _ => by simp [Lib.lens]
  | (b, s, n) :: r, h => by
    have h1 := h _ (List.mem_cons_self)
    have h2 := lens_le r (fun x hx => h x (List.mem_cons_of_mem _ hx))
    have h3 := placeL_len s n h1.1 h1.2.1 h1.2.2
    simp only [Lib.lens, List.map_cons, List.sum_cons, List.length_cons] at h2 ⊢
    omega
theorem pathB_len (l : Links) (h : Small l) : (pathB l).length ≤ 123 * l.length := by
  match l with
  | [] => simp [pathB, Lib.join_nil]
  | x :: r =>
    have h1 := lens_le (x :: r) h
    unfold pathB
    rw [List.map_cons, Lib.join_length]
    simp only [List.map_cons, List.length_map, List.length_cons, List.length_nil] at h1 ⊢
    omega

theorem ownsRow_later {B e n : Nat} {v : Value} {xs : List Value} {w w' : World} (h : w.ownsRow B e 1 v n xs) (hb : Below w.heap.size w w') : w'.ownsRow B e 1 v n xs :=
  h.kept (row := none) ⟨hb.os, hb.tape, hb.output, hb.size, fun k hk _ => hb.block k hk⟩ (by cases v.ownBlock <;> simp)

theorem Tryd.infoString : (Tryd.prog.info? 9).map (fun i => (i.zero, i.size, i.bytes)) = some (some (.string ⟨#[]⟩), 1, 16) := by kernel_rfl

/-- strings.Join of a row that the call owns. -/
theorem join_own (B : Nat) (v : Value) (l : Links) (w : World) (hsm : Small l) (hl : l.length ≤ 1000) (h : w.ownsRow B 9 1 v l.length (l.map fun x => .string (placeS x))) :
    Calls Tryd.prog 24 #[v, .string ⟨#[44, 32]⟩] w fun e w' => e = .returned (.string ⟨(pathB l).toArray⟩) ∧ Below w.heap.size w w' := by
  have hlen := pathB_len l hsm
  rcases h.2 with ⟨rfl, h0⟩ | ⟨g, cap, cur, rfl, _, hg, hc, hm, hs, hx⟩
  · obtain rfl : l = [] := List.length_eq_zero_iff.1 h0
    refine (Tryd.strings_Join_none none 0 ⟨#[44, 32]⟩ w).mono ?_
    rintro e w' ⟨rfl, rfl⟩
    exact ⟨rfl, Below.refl _ _⟩
  · have e1 : (l.map placeS).length = l.length := by simp
    have hgl : g < w.heap.size := by
      rcases Nat.lt_or_ge g w.heap.size with h' | h'
      · exact h'
      · simp [Array.getElem?_eq_none h'] at hg
    have hp : Lib.join ((l.map placeS).map (·.data.toList)) (⟨#[44, 32]⟩ : ByteArray).data.toList = pathB l := by rw [placeS_map]; rfl
    have hj := Tryd.strings_Join g 0 cap (l.map placeS) ⟨#[44, 32]⟩ w (fun j x hj => by
      have hcell : w.cell? ⟨g, 0 + j, none⟩ = cur[j]? := by rw [Nat.zero_add]; exact Lib.cell_of_heap hg j
      rw [hcell]
      have hjl : j < l.length := by
        have := (List.getElem?_eq_some_iff.1 hj).1
        simpa using this
      have hx' : cur.toList.take l.length = l.map fun x => Value.string (placeS x) := by simpa using hx
      have h2 : (cur.toList.take l.length)[j]? = some (.string x) := by
        rw [hx']
        rw [List.getElem?_map] at hj ⊢
        cases hlj : l[j]? with
        | none => rw [hlj] at hj; simp at hj
        | some y => rw [hlj] at hj; simp at hj ⊢; exact hj
      rw [List.getElem?_take_of_lt hjl] at h2
      simpa using h2) hgl (by rw [e1]; omega) (by rw [e1]; exact hc) (by rw [hp]; omega)
    rw [hp, e1] at hj
    exact hj

set_option maxRecDepth 100000 in
set_option maxHeartbeats 1000000 in
theorem path_any (fin : Value) (t : List UInt8) (l : Links) (v : Value) (hl : l.length ≤ 100) (ht : FinIs fin t) (hsm : Small l) (w : World) (hch : Chain w fin l v) (htab : Tab w) (hty : TypeLaid w) :
    Calls Tryd.prog 11 #[v] w fun e w' => e = .returned (.string ⟨(pathB l).toArray⟩) ∧ Below w.heap.size w w' := by
  obtain ⟨i0, hi, hz0, hz1, hz2⟩ := info_parts Tryd.infoString
  have HI := Lib.hid hi
  have HZ0 := Lib.hid hz0
  have HZ1 := Lib.hid hz1
  have HZ2 := Lib.hid hz2
  have HT := Lib.hid htab
  have HY := Lib.hid hty
  have HF := Lib.hid ht
  have HL := Lib.hid hsm
  have HC := Lib.hid hch
  clear htab ht hsm hch hty hi hz0 hz1 hz2
  go_enter Tryd.func11, Tryd.ntmps11
  go_wp2
  go_loopg [0, 3] (l.length + 1) (fun k e p wr => ∃ r done, k = r.length + 1 ∧ l = done ++ r ∧ Chain w fin r e ∧ wr.ownsRow w.heap.size 9 1 p done.length (done.map fun x => .string (placeS x)) ∧ Below w.heap.size w wr)
  case atStart => exact ⟨l, [], rfl, rfl, HC.out, World.ownsRow_nil _ _ _ _, Below.refl _ _⟩
  case round =>
    obtain ⟨r, done, hk, hd, hcr, hown, hbw⟩ := hrel
    have HK := Lib.hid hk
    have HD := Lib.hid hd
    have HCR := Lib.hid hcr
    have HO := Lib.hid hown
    have HW := Lib.hid hbw
    have hdl : done.length ≤ 100 := by have := congrArg List.length hd; simp only [List.length_append] at this; omega
    clear hk hd hcr hown hbw
    have hba := below_alloc wr (.cells #[.pointer none] 31)
    have HBA := Lib.hid hba
    have HW1 := Lib.hid (HW.out.trans (hba.mono HW.out.size))
    have HY1 := Lib.hid ((HY.out.later HW.out).later hba)
    have HO1 := Lib.hid (ownsRow_later HO.out hba)
    clear hba
    have ht1 : (wr.alloc (.cells #[.pointer none] 31)).cell? ⟨wr.heap.size, 0, none⟩ = some (.pointer none) := by simp
    have hf1 : (wr.alloc (.cells #[.pointer none] 31)).frozen? ⟨wr.heap.size, 0, none⟩ = false := by simp
    have HT1 := Lib.hid ht1
    have HF1 := Lib.hid hf1
    clear ht1 hf1
    match r with
    | [] =>
      obtain rfl : u0 = fin := HCR.out
      have hdone : done = l := by have := HD.out; simp at this; exact this.symm
      have HDN := Lib.hid hdone
      clear hdone
      rcases HF.out with ⟨rfl, _⟩ | ⟨c, rfl, _⟩
      · go_wp2_with fail
        refine (as_nil _ _).mono ?_
        rintro e w' ⟨rfl, rfl⟩
        go_wp2_with fail
        refine (join_own w.heap.size _ done _ (by rw [HDN.out]; exact HL.out) (by omega) HO1.out).mono ?_
        rintro e w' ⟨rfl, hb⟩
        have Hb := Lib.hid hb
        clear hb
        go_wp2
        go_ret
        refine ⟨?_, HW1.out.trans (Hb.out.mono HW1.out.size)⟩
        rw [← HDN.out]; rfl
      · go_wp2_with fail
        refine (as8F _ _ ⟨wr.heap.size, 0, none⟩ (.pointer none) _ (fun e w' => e = .returned (.bool false) ∧ Below (wr.alloc (.cells #[.pointer none] 31)).heap.size (wr.alloc (.cells #[.pointer none] 31)) w') HY1.out HT1.out (fun b0 W hW hb0 => by
          refine (as23F_none c ⟨wr.heap.size, 0, none⟩ b0 W).mono ?_
          rintro e w' ⟨rfl, hb⟩
          exact ⟨false, rfl, rfl, hW.trans (hb.mono hW.size)⟩)).mono ?_
        rintro e w' ⟨rfl, hb⟩
        have HO2 := Lib.hid (ownsRow_later HO1.out hb)
        have HW2 := Lib.hid (HW1.out.trans (hb.mono HW1.out.size))
        clear hb
        go_wp2_with fail
        refine (join_own w.heap.size _ done _ (by rw [HDN.out]; exact HL.out) (by omega) HO2.out).mono ?_
        rintro e w'' ⟨rfl, hb⟩
        have Hb := Lib.hid hb
        clear hb
        go_wp2
        go_ret
        refine ⟨?_, HW2.out.trans (Hb.out.mono HW2.out.size)⟩
        rw [← HDN.out]; rfl
    | (b, s, n) :: r' =>
      obtain ⟨rfl, c0, c1, x, c2, hx⟩ := HCR.out
      have hmem : (b, s, n) ∈ l := by rw [HD.out]; simp
      obtain ⟨s1, s2, s3⟩ := HL.out _ hmem
      clear hmem
      simp only [] at s1 s2 s3
      have hbl := block_lt c0
      have C0 := Lib.hid c0
      have C1 := Lib.hid c1
      have C2 := Lib.hid c2
      have HX := Lib.hid hx
      clear c0 c1 c2 hx
      have hwz := HW.out.size
      go_wp2_with fail
      refine (as8F _ _ ⟨wr.heap.size, 0, none⟩ (.pointer none) _ (fun e w' => e = .returned (.bool true) ∧ Below (wr.alloc (.cells #[.pointer none] 31)).heap.size ((wr.alloc (.cells #[.pointer none] 31)).setCell ⟨wr.heap.size, 0, none⟩ (.pointer (some ⟨b, 0, none⟩))) w') HY1.out HT1.out (fun b0 W hW hb0 => by
        refine (as23F ⟨b, 0, none⟩ ⟨wr.heap.size, 0, none⟩ b0 (.pointer none) W (by rw [hW.cell (p := ⟨wr.heap.size, 0, none⟩) (by simp)]; exact HT1.out) (by rw [hW.frozen (p := ⟨wr.heap.size, 0, none⟩) (by simp)]; exact HF1.out) hb0).mono ?_
        rintro e w' ⟨rfl, hb⟩
        exact ⟨true, rfl, rfl, (below_setBoth hW _ _).trans (hb.mono hW.size)⟩)).mono ?_
      rintro e w2 ⟨rfl, hb⟩
      have hz2 : wr.heap.size + 1 ≤ w2.heap.size := by have := hb.size; simpa [World.setCell] using this
      have hf2 : w2.cell? ⟨wr.heap.size, 0, none⟩ = some (.pointer (some ⟨b, 0, none⟩)) := by
        rw [hb.cell (p := ⟨wr.heap.size, 0, none⟩) (by simp)]; exact World.cell?_setCell_same _ _ _ HT1.out
      have hb2 : Below wr.heap.size wr w2 := below_set_new hb
      have HO2 := Lib.hid (ownsRow_later HO.out hb2)
      have HW2 := Lib.hid (HW.out.trans (hb2.mono hwz))
      clear hb hb2
      go_wp2_with fail
      refine (place_any b s n _ s2 s3 (by omega) (by rw [HW2.out.cell (p := ⟨b, 0, none⟩) hbl]; exact C0.out) (by rw [HW2.out.cell (p := ⟨b, 1, none⟩) hbl]; exact C1.out) (HT.out.later HW2.out)).mono ?_
      rintro e w3 ⟨rfl, hb3⟩
      have hf3 : w3.cell? ⟨wr.heap.size, 0, none⟩ = some (.pointer (some ⟨b, 0, none⟩)) := by
        rw [hb3.cell (p := ⟨wr.heap.size, 0, none⟩) (by show wr.heap.size < _; omega)]; exact hf2
      have HO3 := Lib.hid (ownsRow_later HO2.out hb3)
      have HW3 := Lib.hid (HW2.out.trans (hb3.mono HW2.out.size))
      have hz3 := hb3.size
      clear hb3 hf2
      have hne : ∀ k, u3.ownBlock = some k → w.heap.size ≤ k ∧ k < wr.heap.size := fun k hk => HO.out.lt k hk
      have HNE := Lib.hid hne
      clear hne
      go_wp2_with (at_builtin; refine wpList_append_own _ rfl _ _ 63 rfl w.heap.size 9 i0 (.string ⟨#[]⟩) 1 16 Tryd.underlying63 HI.out HZ0.out HZ1.out HZ2.out rfl (by decide) _ _ _ rfl (HO3.out.alloc _) ⟨w3.heap.size, 0, none⟩ 1 1 [.string ⟨(placeL s n).toArray⟩] rfl rfl ?c1 ?c2 ?c3 ?c4 ?c5 ?_)
      case c1 => exact cell_one_new _ _ _
      case c2 => intro u hu; simp at hu; subst hu; rfl
      case c3 => unfold maxLen; omega
      case c4 => omega
      case c5 => have := HW3.out.size; simp; omega
      intro v' w4 hown4 hgrow _
      have hW4 : Below w.heap.size w w4 := (HW3.out.alloc HW3.out.size _).grown hgrow (by have := HW3.out.size; simp; omega) (fun k hk => (HNE.out k hk).1)
      have hf4 : w4.cell? ⟨wr.heap.size, 0, none⟩ = some (.pointer (some ⟨b, 0, none⟩)) := by
        have h1 := cell_alloc (.cells #[.string ⟨(placeL s n).toArray⟩] 9) hf3
        rw [World.cell?_of_block (w := w3.alloc (.cells #[.string ⟨(placeL s n).toArray⟩] 9)) (hgrow.block wr.heap.size (by simp; omega) (fun e => by have := (HNE.out _ e.symm).2; omega))]; exact h1
      have hf5 : w4.cell? ⟨b, 2, none⟩ = some x := by rw [hW4.cell (p := ⟨b, 2, none⟩) hbl]; exact C2.out
      have HW4 := Lib.hid hW4
      have HO4 := Lib.hid hown4
      clear hW4 hown4 hgrow hf3
      go_wp2
      go_roundg (r'.length + 1)
      case measure => rw [HK.out]; simp
      case rel =>
        refine ⟨r', done ++ [(b, s, n)], rfl, by rw [HD.out]; simp, HX.out, ?_, HW4.out⟩
        simpa [placeS] using HO4.out
end Go.Proofs.YtjafmnhnemdedaaDoor
