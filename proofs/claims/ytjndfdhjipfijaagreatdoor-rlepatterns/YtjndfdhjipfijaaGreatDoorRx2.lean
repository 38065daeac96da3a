/- Layer 5, the document's answer: Text's walk. -/
import Derived.Test.YtjndfdhjipfijaaGreatDoorRx
import Derived.Deep.CutBlock
namespace Go.Proofs.YtjndfdhjipfijaaGreatDoor
open Go.RowKit

/-- What a round of the document's Text keeps. -/
structure RT5 (w : World) (P : Array Value) (v : Value) (R : List (List UInt8)) (W : World) : Prop where
  bel : Below w.heap.size w W
  pat : BlkAt W w.heap.size P 35
  own : OwnS W (w.heap.size + 1) v R
theorem RT5.later {w W W' : World} {P : Array Value} {v : Value} {R : List (List UInt8)} (h : RT5 w P v R W) (hb : Below W.heap.size W W') : RT5 w P v R W' :=
  ⟨h.bel.trans (hb.mono h.bel.size), by unfold BlkAt; rw [hb.block _ (Array.getElem?_eq_some_iff.1 h.pat).1]; exact h.pat, h.own.later hb⟩
theorem RT5.drewN {w W : World} {P : Array Value} {v : Value} {R : List (List UInt8)} (h : RT5 w P v R W) (q : Nat) : RT5 w P v R (W.drewN q) := ⟨below_drewN h.bel q, h.pat, h.own⟩
theorem RT5.put {w W W' : World} {P : Array Value} {v v' : Value} {R R' : List (List UInt8)} (h : RT5 w P v R W) (hk : Kb (w.heap.size + 1) W W') (ho : OwnS W' (w.heap.size + 1) v' R') : RT5 w P v' R' W' :=
  ⟨h.bel.trans (hk.1.mono (Nat.le_succ _)), h.pat.kb hk (by decide), ho⟩
theorem okFrom_mem (W H : Nat) : ∀ (l : List (Nat × Nat)) (x y : Nat), okFrom W H x y l → ∀ c ∈ l, c.1 < W ∧ c.2 < H
  | [], _, _, _, c, hc => by cases hc
  | d :: l, _, _, ⟨_, h2, h3, h4⟩, c, hc => by
    rcases List.mem_cons.1 hc with rfl | hc
    · exact ⟨h2, h3⟩
    · exact okFrom_mem W H l _ _ h4 c hc
theorem segs_few {W H : Nat} {cs : List (Nat × Nat)} (hW : W ≤ 1024) (hH : H ≤ 1024) (ho : okFrom W H 0 0 cs) (hl : cs.length ≤ 20000) : cost (segs none 0 0 cs) ≤ 190000 := by
  have := cost_all W H hW hH cs ho
  omega
theorem cost_mem : ∀ (rs : List (List UInt8)) (r : List UInt8), r ∈ rs → r.length ≤ cost rs
  | q :: rs, r, h => by
    have hc : cost (q :: rs) = q.length + 1 + cost rs := rfl
    rcases List.mem_cons.1 h with rfl | h
    · omega
    · have := cost_mem rs r h; omega
theorem cost_len : ∀ (rs : List (List UInt8)), rs.length ≤ cost rs
  | [] => Nat.le_refl _
  | r :: rs => by have := cost_len rs; simp only [cost, List.foldr_cons, List.length_cons] at this ⊢; omega

theorem blk_two {w : World} {b : Nat} {x y : Value} {T : TypeId} (h : BlkAt w b #[x, y] T) : w.cell? ⟨b, 0, none⟩ = some x ∧ w.cell? ⟨b, 1, none⟩ = some y := ⟨by rw [Lib.cell_of_heap h]; rfl, by rw [Lib.cell_of_heap h]; rfl⟩
set_option maxRecDepth 100000 in
set_option maxHeartbeats 4000000 in
theorem rtext_any (W H : Nat) (cs : List (Nat × Nat)) (w : World) (n cap : Nat) (a : Option Addr) (hp : Pts w w.heap.size a (cs.map zc)) (hn : n = cs.length) (hW : W ≤ 1024) (hH : H ≤ 1024) (ho : okFrom W H 0 0 cs) (hl : cs.length ≤ 20000) :
    Calls Tryz.prog 12 #[.agg #[.int .i64 (W : Int), .int .i64 (H : Int), .slice a n cap]] w fun e w' => e = .returned (.string ⟨(textL W H cs).toArray⟩) ∧ Below w.heap.size w w' := by
  have HP := Lib.hid hp
  have HO := Lib.hid ho
  have HN := Lib.hid hn
  have HCO := Lib.hid (segs_few hW hH ho hl)
  have HHL := Lib.hid (headL_len W H hW hH)
  have HB := Lib.hid (okFrom_mem W H cs 0 0 ho)
  have hnl : n ≤ 20000 := by omega
  clear hp ho hn
  have HP0 : Hid (RT5 w #[.int .i64 (W : Int), .int .i64 (H : Int), .slice a n cap] (.slice none 0 0) [] (w.alloc (.cells #[.int .i64 (W : Int), .int .i64 (H : Int), .slice a n cap] 35))) := ⟨bel1 _ _, heap_alloc_new w _, World.ownsRow_nil _ _ _ _⟩
  have hl1 := dec_len W (by omega)
  have hl2 := dec_len H (by omega)
  have k1 := catS [120, 32, 61, 32] (Lib.decDigits W) (by simp; omega)
  have k2 := catS ([120, 32, 61, 32] ++ Lib.decDigits W) [44, 32, 121, 32, 61, 32] (by simp; omega)
  have k3 := catS ([120, 32, 61, 32] ++ Lib.decDigits W ++ [44, 32, 121, 32, 61, 32]) (Lib.decDigits H) (by simp; omega)
  have k4 := catS ([120, 32, 61, 32] ++ Lib.decDigits W ++ [44, 32, 121, 32, 61, 32] ++ Lib.decDigits H) [44, 32, 114, 117, 108, 101, 32, 61, 32, 66, 51, 47, 83, 50, 51, 10] (by simp; omega)
  have HE : Hid ([120, 32, 61, 32] ++ Lib.decDigits W ++ [44, 32, 121, 32, 61, 32] ++ Lib.decDigits H ++ [44, 32, 114, 117, 108, 101, 32, 61, 32, 66, 51, 47, 83, 50, 51, 10] = headL W H ++ [10]) := by
    show _ = _
    unfold headL
    simp only [List.append_assoc]
    rfl
  rw [HE.out] at k4
  have e1 : (⟨([120, 32, 61, 32] : List UInt8).toArray⟩ : ByteArray) = ⟨#[120, 32, 61, 32]⟩ := rfl
  have e2 : (⟨([44, 32, 121, 32, 61, 32] : List UInt8).toArray⟩ : ByteArray) = ⟨#[44, 32, 121, 32, 61, 32]⟩ := rfl
  have e3 : (⟨([44, 32, 114, 117, 108, 101, 32, 61, 32, 66, 51, 47, 83, 50, 51, 10] : List UInt8).toArray⟩ : ByteArray) = ⟨#[44, 32, 114, 117, 108, 101, 32, 61, 32, 66, 51, 47, 83, 50, 51, 10]⟩ := rfl
  rw [e1] at k1
  rw [e2] at k2
  rw [e3] at k4
  clear e1 e2 e3
  have HI1 := Lib.hid (fun w => digits_nat W W w (Nat.le_refl _) (by omega))
  have HI2 := Lib.hid (fun w => digits_nat H H w (Nat.le_refl _) (by omega))
  go_enter Tryz.func12, Tryz.ntmps12
  go_upto_region 1 with fail
  generalize (w.alloc (.cells #[.int .i64 (W : Int), .int .i64 (H : Int), .slice a n cap] 35)) = w0 at *
  have c0 : w0.cell? ⟨w.heap.size, 0, none⟩ = some (.int .i64 (W : Int)) := by rw [Lib.cell_of_heap HP0.out.pat]; rfl
  have c1 : w0.cell? ⟨w.heap.size, 1, none⟩ = some (.int .i64 (H : Int)) := by rw [Lib.cell_of_heap HP0.out.pat]; rfl
  generalize hS5 : (⟨(headL W H ++ [10]).toArray⟩ : ByteArray) = S5 at *
  have HS5 := Lib.hid hS5
  clear hS5
  generalize (⟨([120, 32, 61, 32] ++ Lib.decDigits W ++ [44, 32, 121, 32, 61, 32] ++ Lib.decDigits H).toArray⟩ : ByteArray) = S4 at *
  generalize (⟨([120, 32, 61, 32] ++ Lib.decDigits W ++ [44, 32, 121, 32, 61, 32]).toArray⟩ : ByteArray) = S3 at *
  generalize (⟨([120, 32, 61, 32] ++ Lib.decDigits W).toArray⟩ : ByteArray) = S2 at *
  generalize (⟨(Lib.decDigits W).toArray⟩ : ByteArray) = SW at *
  generalize (⟨(Lib.decDigits H).toArray⟩ : ByteArray) = SH at *
  go_quiet (first | (go_at_call 32; with_reducible exact quietly HI1.out _ _) | (go_at_call 32; with_reducible exact quietly HI2.out _ _))
  go_wp2_with fail
  have HP1 := Lib.hid (HP0.out.drewN nq)
  clear HP0 c0 c1 k1 k2 k3 k4 HI1 HI2 hl1 hl2
  generalize w0.drewN nq = w1 at *
  clear w0
  go_loopg [4, 5, 6, 7, 8, 9] n (fun k v4 v5 v6 v7 v8 v9 wr => ∃ (j x y : Nat) (prev : Option (Nat × Nat)) (R : List (List UInt8)), k = n - j ∧ j ≤ n ∧ v7 = .int .i64 (j : Int) ∧ v5 = .int .i64 (x : Int) ∧ v6 = .int .i64 (y : Int) ∧ (prev = if j = 0 then none else cs[j - 1]?) ∧ rst W H prev (cs.drop j) x y ∧ segs none 0 0 cs = R ++ segs prev x y (cs.drop j) ∧ RT5 w #[.int .i64 (W : Int), .int .i64 (H : Int), .slice a n cap] v4 R wr)
  case atStart => exact ⟨0, 0, 0, none, [], rfl, by omega, rfl, rfl, rfl, rfl, Or.inl ⟨rfl, rfl, rfl, HO.out⟩, rfl, HP1.out⟩
  case round =>
    obtain ⟨j, x, y, prev, R, hk, hj, rfl, rfl, rfl, hpv, hst, hsg, hrt⟩ := hrel
    have HK := Lib.hid hk
    have HPV := Lib.hid hpv
    have HST := Lib.hid hst
    have HSG := Lib.hid hsg
    have HRT := Lib.hid hrt
    clear hk hpv hst hsg hrt HP1
    have hRl : R.length ≤ 200000 := by
      have h1 := HCO.out
      have h2 := cost_len (segs none 0 0 cs)
      rw [HSG.out, List.length_append] at h2
      rw [HSG.out] at h1
      omega
    have c2 : wr.cell? ⟨w.heap.size, 2, none⟩ = some (.slice a n cap) := by rw [Lib.cell_of_heap HRT.out.pat]; rfl
    by_cases hlt : j < n
    · obtain ⟨c, hc⟩ : ∃ c, cs[j]? = some c := ⟨cs[j]'(by have := HN.out; omega), List.getElem?_eq_getElem _⟩
      have HDR : Hid (cs.drop j = c :: cs.drop (j + 1)) := by
        show _ = _
        obtain ⟨hj', he⟩ := List.getElem?_eq_some_iff.1 hc
        rw [List.drop_eq_getElem_cons hj', he]
      obtain ⟨bk, off, rfl, hbk⟩ : ∃ bk off, a = some ⟨bk, off, none⟩ ∧ bk < w.heap.size := by
        obtain ⟨bk, off, h1, h2, _⟩ := HP.out j (zc c) (by simp [hc])
        exact ⟨bk, off, h1, h2⟩
      obtain ⟨x0, x1⟩ := (HP.out.later HRT.out.bel (Nat.le_refl _)).atj (j := j) (c := zc c) (by simp [hc])
      have y0 : wr.cell? ⟨bk, off + j * 2, none⟩ = some (.int .i64 (c.1 : Int)) := x0
      have y1 : wr.cell? ⟨bk, off + j * 2 + 1, none⟩ = some (.int .i64 (c.2 : Int)) := x1
      clear x0 x1
      have hg : decide ((j : Int) < (n : Int)) = true := by simp; omega
      have hi1 : (j : Int) < (n : Int) := by omega
      have HCJ := Lib.hid hc
      rw [HDR.out] at HST HSG
      clear hc
      go_upto_region 9 with fail
      have HRT2 : Hid (RT5 w #[.int .i64 (W : Int), .int .i64 (H : Int), .slice (some ⟨bk, off, none⟩) n cap] u4 R (wr.alloc (.cells #[.int .i64 (c.1 : Int), .int .i64 (c.2 : Int)] 53))) := HRT.out.later (bel1 _ _)
      have HC2 : Hid (BlkAt (wr.alloc (.cells #[.int .i64 (c.1 : Int), .int .i64 (c.2 : Int)] 53)) wr.heap.size #[.int .i64 (c.1 : Int), .int .i64 (c.2 : Int)] 53) := heap_alloc_new wr _
      have hpl : w.heap.size < wr.heap.size := (Array.getElem?_eq_some_iff.1 HRT.out.pat).1
      clear y0 y1 c2 HRT
      have hcb : w.heap.size < wr.heap.size := hpl
      generalize wr.alloc (.cells #[.int .i64 (c.1 : Int), .int .i64 (c.2 : Int)] 53) = w2 at *
      generalize wr.heap.size = cb at *
      have c2 : w2.cell? ⟨w.heap.size, 2, none⟩ = some (.slice (some ⟨bk, off, none⟩) n cap) := by rw [Lib.cell_of_heap HRT2.out.pat]; rfl
      have q0 : w2.cell? ⟨cb, 0, none⟩ = some (.int .i64 (c.1 : Int)) := by rw [Lib.cell_of_heap HC2.out]; rfl
      have q1 : w2.cell? ⟨cb, 1, none⟩ = some (.int .i64 (c.2 : Int)) := by rw [Lib.cell_of_heap HC2.out]; rfl
      go_cut [60] from 34 to 59 (fun b wx => b = .bool (goesOn prev c) ∧ ∃ q, wx = w2.drewN q)
      case first =>
        rcases Nat.eq_zero_or_pos j with hj0 | hj0
        · subst hj0
          have hpn : prev = none := HPV.out
          subst hpn
          go_quiet (fail)
          go_wp2_with fail
          go_meet
          exact ⟨rfl, _, rfl⟩
        · obtain ⟨p, hp⟩ : ∃ p, cs[j - 1]? = some p := ⟨cs[j - 1]'(by have := HN.out; omega), List.getElem?_eq_getElem _⟩
          have hpn : prev = some p := by rw [HPV.out, if_neg (by omega), hp]
          subst hpn
          obtain ⟨z0, z1⟩ := (HP.out.later HRT2.out.bel (Nat.le_refl _)).atj (j := j - 1) (c := zc p) (by simp [hp])
          have y0 : w2.cell? ⟨bk, off + (j - 1) * 2, none⟩ = some (.int .i64 (p.1 : Int)) := z0
          have y1 : w2.cell? ⟨bk, off + (j - 1) * 2 + 1, none⟩ = some (.int .i64 (p.2 : Int)) := z1
          have hpb := HB.out p (List.mem_of_getElem? hp)
          obtain ⟨j', rfl⟩ : ∃ j', j = j' + 1 := ⟨j - 1, by omega⟩
          rw [Nat.add_sub_cancel] at y0 y1
          have hw1 : IntKind.i64.wrap (((j' + 1 : Nat) : Int) - 1) = (j' : Int) := by rw [IntWalk.i64_in _ (by omega)]; omega
          have hw2 : IntKind.i64.wrap ((p.1 : Int) + 1) = (p.1 : Int) + 1 := IntWalk.i64_in _ (by omega)
          have hi5 : (j' : Int) < (n : Int) := by omega
          have hgj : decide ((0 : Int) < ((j' + 1 : Nat) : Int)) = true := by simp
          clear hp z0 z1
          by_cases hyy : c.2 = p.2
          · have g1 : ((p.2 : Int) == (c.2 : Int)) = true := by rw [beq_iff_eq]; omega
            by_cases hxx : c.1 = p.1 + 1
            · have g2 : ((p.1 : Int) + 1 == (c.1 : Int)) = true := by rw [beq_iff_eq]; omega
              have HG : Hid (goesOn (some p) c = true) := by show _ = _; simp [goesOn, hyy, hxx]
              clear hyy hxx
              go_quiet (fail)
              go_wp2_with fail
              go_meet
              exact ⟨by rw [HG.out], _, rfl⟩
            · have g2 : ((p.1 : Int) + 1 == (c.1 : Int)) = false := by rw [beq_eq_false_iff_ne]; omega
              have HG : Hid (goesOn (some p) c = false) := by show _ = _; simp [goesOn, hxx]
              clear hyy hxx
              go_quiet (fail)
              go_wp2_with fail
              go_meet
              exact ⟨by rw [HG.out], _, rfl⟩
          · have g1 : ((p.2 : Int) == (c.2 : Int)) = false := by rw [beq_eq_false_iff_ne]; omega
            have HG : Hid (goesOn (some p) c = false) := by show _ = _; simp [goesOn, hyy]
            clear hyy
            go_quiet (fail)
            go_wp2_with fail
            go_meet
            exact ⟨by rw [HG.out], _, rfl⟩
      case rest =>
      obtain ⟨rfl, qq, rfl⟩ := hcut
      have HRT3 := Lib.hid (HRT2.out.drewN qq)
      have HC3 : Hid (BlkAt (w2.drewN qq) cb #[.int .i64 (c.1 : Int), .int .i64 (c.2 : Int)] 53) := HC2.out
      have HPX : Hid (∀ (i : Nat) (d : Nat × Nat), cs[i]? = some d → (w2.drewN qq).cell? ⟨bk, off + i * 2, none⟩ = some (.int .i64 (d.1 : Int)) ∧ (w2.drewN qq).cell? ⟨bk, off + i * 2 + 1, none⟩ = some (.int .i64 (d.2 : Int))) := fun i d hd => (HP.out.later HRT3.out.bel (Nat.le_refl _)).atj (j := i) (c := zc d) (by simp [hd])
      clear HRT2 HC2 c2 q0 q1
      generalize w2.drewN qq = w3 at *
      clear w2
      cases hgo : goesOn prev c with
      | true =>
        obtain ⟨r1, r2⟩ := rst_on HST.out hgo
        have R1 := Lib.hid r1
        have R2 := Lib.hid r2
        have hwj : IntKind.i64.wrap ((j : Int) + 1) = (j : Int) + 1 := IntWalk.i64_in _ (by omega)
        clear r1 r2 hgo
        go_wp2_with fail
        go_roundg (n - (j + 1))
        case measure => rw [HK.out]; omega
        case rel => exact ⟨j + 1, x, y, some c, R, rfl, hlt, by go_num, rfl, rfl, by rw [if_neg (by omega), Nat.add_sub_cancel, HCJ.out], R1.out, by rw [HSG.out, R2.out], HRT3.out⟩
      | false =>
        obtain ⟨r1, r2, r3, r4, r5, r6⟩ := rst_new HST.out hgo
        have R4 := Lib.hid r4
        have R6 := Lib.hid r6
        have R1 := Lib.hid r1
        clear r1 r4 r6 hgo
        go_upto_block 2 with fail
        have c2 : w3.cell? ⟨w.heap.size, 2, none⟩ = some (.slice (some ⟨bk, off, none⟩) n cap) := by rw [Lib.cell_of_heap HRT3.out.pat]; rfl
        have q0 : w3.cell? ⟨cb, 0, none⟩ = some (.int .i64 (c.1 : Int)) := by rw [Lib.cell_of_heap HC3.out]; rfl
        have q1 : w3.cell? ⟨cb, 1, none⟩ = some (.int .i64 (c.2 : Int)) := by rw [Lib.cell_of_heap HC3.out]; rfl
        have hrl : (cs.drop (j + 1)).length = n - (j + 1) := by rw [List.length_drop]; have := HN.out; omega
        have HRL := Lib.hid hrl
        clear hrl
        go_cut [9] from 61 to 97 (fun nv wx => nv = .int .i64 ((1 + stretch c (cs.drop (j + 1)) : Nat) : Int) ∧ ∃ q, wx = w3.drewN q)
        case first =>
          go_wp2_with fail
          go_loopg [9] (n - (j + 1)) (fun kk v9 wx => ∃ m q : Nat, kk = n - (j + 1) - m ∧ m ≤ n - (j + 1) ∧ v9 = .int .i64 ((m : Int) + 1) ∧ (∀ i, i < m → (cs.drop (j + 1))[i]? = some (c.1 + 1 + i, c.2)) ∧ wx = w3.drewN q)
          case atStart => exact ⟨0, 0, rfl, by omega, rfl, fun i hi => by omega, rfl⟩
          case round =>
            obtain ⟨m, q, hk2, hm, rfl, hall, rfl⟩ := hrel
            have HK2 := Lib.hid hk2
            have HALL := Lib.hid hall
            clear hk2 hall
            obtain ⟨t, ht⟩ : ∃ t, t = j + (m + 1) := ⟨_, rfl⟩
            have hw1 : IntKind.i64.wrap ((j : Int) + ((m : Int) + 1)) = (t : Int) := by rw [IntWalk.i64_in _ (by omega)]; omega
            have hw3 : IntKind.i64.wrap ((m : Int) + 1 + 1) = (m : Int) + 1 + 1 := IntWalk.i64_in _ (by omega)
            have hw4 : IntKind.i64.wrap ((c.1 : Int) + ((m : Int) + 1)) = (c.1 : Int) + ((m : Int) + 1) := IntWalk.i64_in _ (by omega)
            by_cases hlt2 : t < n
            · obtain ⟨d, hd⟩ : ∃ d, cs[t]? = some d := ⟨cs[t]'(by have := HN.out; omega), List.getElem?_eq_getElem _⟩
              have HD : Hid ((cs.drop (j + 1))[m]? = some d) := by show _ = _; rw [List.getElem?_drop, ← hd, ht]; congr 1; omega
              obtain ⟨y0, y1⟩ := HPX.out t d hd
              have hgt : decide ((t : Int) < (n : Int)) = true := by simp; omega
              have hit : (t : Int) < (n : Int) := by omega
              have HT2 := Lib.hid ht
              clear hd ht
              by_cases hyy : d.2 = c.2
              · have g1 : ((d.2 : Int) == (c.2 : Int)) = true := by rw [beq_iff_eq]; omega
                by_cases hxx : d.1 = c.1 + 1 + m
                · have g2 : ((d.1 : Int) == (c.1 : Int) + ((m : Int) + 1)) = true := by rw [beq_iff_eq]; omega
                  have HXX := Lib.hid hxx
                  have HYY := Lib.hid hyy
                  clear hxx hyy
                  go_wp2_with fail
                  go_quiet (fail)
                  go_wp2_with fail
                  go_roundg (n - (j + 1) - (m + 1))
                  case measure => rw [HK2.out]; have := HT2.out; omega
                  case rel =>
                    refine ⟨m + 1, _, rfl, by have := HT2.out; omega, by go_num, fun i hi => ?_, rfl⟩
                    rcases Nat.lt_or_ge i m with h | h
                    · exact HALL.out i h
                    · obtain rfl : i = m := by omega
                      rw [HD.out]; congr 1; exact Prod.ext HXX.out HYY.out
                · have g2 : ((d.1 : Int) == (c.1 : Int) + ((m : Int) + 1)) = false := by rw [beq_eq_false_iff_ne]; omega
                  have HSTR : Hid (stretch c (cs.drop (j + 1)) = m) := stretch_is _ c m HALL.out (by rw [HD.out]; intro e; obtain rfl := Option.some.inj e; exact hxx rfl)
                  clear hxx hyy
                  go_wp2_with fail
                  go_quiet (fail)
                  go_wp2_with fail
                  go_meet
                  exact ⟨by rw [HSTR.out]; congr 1; omega, _, World.drewN_drewN _ _ _⟩
              · have g1 : ((d.2 : Int) == (c.2 : Int)) = false := by rw [beq_eq_false_iff_ne]; omega
                have HSTR : Hid (stretch c (cs.drop (j + 1)) = m) := stretch_is _ c m HALL.out (by rw [HD.out]; intro e; obtain rfl := Option.some.inj e; exact hyy rfl)
                clear hyy
                go_wp2_with fail
                go_quiet (fail)
                go_wp2_with fail
                go_meet
                exact ⟨by rw [HSTR.out]; congr 1; omega, _, World.drewN_drewN _ _ _⟩
            · have HSTR : Hid (stretch c (cs.drop (j + 1)) = m) := stretch_is _ c m HALL.out (by rw [List.getElem?_eq_none (by rw [HRL.out]; omega)]; simp)
              have hgt : decide ((t : Int) < (n : Int)) = false := by simp; omega
              clear ht
              go_wp2_with fail
              go_quiet (fail)
              go_wp2_with fail
              go_meet
              exact ⟨by rw [HSTR.out]; congr 1; omega, _, World.drewN_drewN _ _ _⟩
        case rest =>
        obtain ⟨rfl, q2, rfl⟩ := hcut
        have HRT4 := Lib.hid (HRT3.out.drewN q2)
        have HC4 : Hid (BlkAt (w3.drewN q2) cb #[.int .i64 (c.1 : Int), .int .i64 (c.2 : Int)] 53) := HC3.out
        clear HRT3 HC3 HPX c2 q0 q1
        generalize w3.drewN q2 = w4 at *
        clear w3
        obtain ⟨N, hN⟩ : ∃ N, 1 + stretch c (cs.drop (j + 1)) = N := ⟨_, rfl⟩
        rw [hN]
        rw [hN] at R4 R6
        have hN2 : N ≤ 1024 := by omega
        have hN3 : c.1 + N ≤ 1024 := by omega
        clear hN r5
        have q0 : w4.cell? ⟨cb, 0, none⟩ = some (.int .i64 (c.1 : Int)) := by rw [Lib.cell_of_heap HC4.out]; rfl
        have q1 : w4.cell? ⟨cb, 1, none⟩ = some (.int .i64 (c.2 : Int)) := by rw [Lib.cell_of_heap HC4.out]; rfl
        have HB4 : Hid (w.heap.size + 1 ≤ w4.heap.size) := (Array.getElem?_eq_some_iff.1 HRT4.out.pat).1
        go_upto_if 101 with fail
        go_cut [4, 5, 6] from 98 to 111 (fun v4 v5 v6 wx => v5 = .int .i64 ((nxX x y c.2 : Nat) : Int) ∧ v6 = .int .i64 (c.2 : Int) ∧ RT5 w #[.int .i64 (W : Int), .int .i64 (H : Int), .slice (some ⟨bk, off, none⟩) n cap] v4 (R ++ sdL y c.2) wx ∧ BlkAt wx cb #[.int .i64 (c.1 : Int), .int .i64 (c.2 : Int)] 53)
        case first =>
          by_cases hy : y < c.2
          · have hgy : decide ((y : Int) < (c.2 : Int)) = true := by simp; omega
            have HE1 : Hid (sdL y c.2 = [runL (c.2 - y) 36]) := if_pos hy
            have HE3 : Hid (nxX x y c.2 = 0) := if_pos hy
            have hw : IntKind.i64.wrap ((c.2 : Int) - (y : Int)) = ((c.2 - y : Nat) : Int) := by rw [IntWalk.i64_in _ (by omega)]; omega
            have HRN : Hid (∀ W', Calls Tryz.prog 33 #[.int .i64 ((c.2 - y : Nat) : Int), .string ⟨#[36]⟩] W' fun e w' => e = .returned (.string ⟨(runL (c.2 - y) 36).toArray⟩) ∧ W' = w') := fun W' => rrun (c.2 - y) [36] W' (by omega) (by simp)
            generalize hL : runL (c.2 - y) 36 = LL at *
            clear hL
            generalize hKK : c.2 - y = kk at *
            go_wp2_with fail
            refine (HRN.out _).mono ?_
            rintro e w' ⟨rfl, rfl⟩
            go_wp2_with (at_builtin; refine apd_str rfl _ _ rfl (w.heap.size + 1) _ R rfl HRT4.out.own LL _ rfl rfl HB4.out (by omega) ?_; intro v' w5 h5 hk5; have HR5 := Lib.hid (HRT4.out.put hk5 h5); have HC5 := Lib.hid (HC4.out.kb hk5 (by decide)); obtain ⟨s0, s1⟩ := blk_two HC5.out; clear h5 hk5)
            go_meet
            refine ⟨by rw [HE3.out]; rfl, rfl, ?_, HC5.out⟩
            rw [HE1.out]
            exact HR5.out
          · have hgy : decide ((y : Int) < (c.2 : Int)) = false := by simp; omega
            have HE1 : Hid (sdL y c.2 = []) := if_neg hy
            have HE3 : Hid (nxX x y c.2 = x) := if_neg hy
            have HYE : Hid (y = c.2) := by have := R1.out; show _ = _; omega
            go_wp2_with fail
            go_meet
            refine ⟨by rw [HE3.out], by rw [HYE.out], ?_, HC4.out⟩
            rw [HE1.out, List.append_nil]
            exact HRT4.out
        case rest =>
        obtain ⟨rfl, rfl, hr5, hc5⟩ := hcut
        have HR5 := Lib.hid hr5
        have HC5 := Lib.hid hc5
        have hx1 : nxX x y c.2 ≤ c.1 := by have := R1.out; unfold nxX; split <;> omega
        have hRl2 : (R ++ sdL y c.2).length ≤ 200001 := by rw [List.length_append]; have : (sdL y c.2).length ≤ 1 := by unfold sdL; split <;> simp
                                                           omega
        clear hr5 hc5 HRT4 HC4 HB4 q0 q1
        generalize nxX x y c.2 = X at *
        generalize hRR : R ++ sdL y c.2 = R2 at *
        have HRR := Lib.hid hRR
        clear hRR
        obtain ⟨q0, q1⟩ := blk_two HC5.out
        have HB5 : Hid (w.heap.size + 1 ≤ wc.heap.size) := (Array.getElem?_eq_some_iff.1 HR5.out.pat).1
        have hw : IntKind.i64.wrap ((c.1 : Int) - (X : Int)) = ((c.1 - X : Nat) : Int) := by rw [IntWalk.i64_in _ (by omega)]; omega
        have HRN : Hid (∀ W', Calls Tryz.prog 33 #[.int .i64 ((c.1 - X : Nat) : Int), .string ⟨#[98]⟩] W' fun e w' => e = .returned (.string ⟨(runL (c.1 - X) 98).toArray⟩) ∧ W' = w') := fun W' => rrun (c.1 - X) [98] W' (by omega) (by simp)
        have HRO : Hid (∀ W', Calls Tryz.prog 33 #[.int .i64 (N : Int), .string ⟨#[111]⟩] W' fun e w' => e = .returned (.string ⟨(runL N 111).toArray⟩) ∧ W' = w') := fun W' => rrun N [111] W' (by omega) (by simp)
        generalize runL (c.1 - X) 98 = LB at *
        generalize runL N 111 = LO at *
        generalize c.1 - X = kk at *
        go_wp2_with fail
        refine (HRN.out _).mono ?_
        rintro e w' ⟨rfl, rfl⟩
        go_wp2_with (at_builtin; refine apd_str rfl _ _ rfl (w.heap.size + 1) _ R2 rfl HR5.out.own LB _ rfl rfl HB5.out (by omega) ?_; intro v' w5 h5 hk5; have HR6 := Lib.hid (HR5.out.put hk5 h5); have HC6 := Lib.hid (HC5.out.kb hk5 (by decide)); clear h5 hk5)
        have HB6 : Hid (w.heap.size + 1 ≤ w5.heap.size) := (Array.getElem?_eq_some_iff.1 HR6.out.pat).1
        clear q0 q1
        refine (HRO.out _).mono ?_
        rintro e w' ⟨rfl, rfl⟩
        go_wp2_with (at_builtin; refine apd_str rfl _ _ rfl (w.heap.size + 1) _ (R2 ++ [LB]) rfl HR6.out.own LO _ rfl rfl HB6.out (by simp; omega) ?_; intro v' w6 h6 hk6; have HR7 := Lib.hid (HR6.out.put hk6 h6); have HC7 := Lib.hid (HC6.out.kb hk6 (by decide)); obtain ⟨s0, s1⟩ := blk_two HC7.out; have hw9 : IntKind.i64.wrap ((c.1 : Int) + (N : Int)) = ((c.1 + N : Nat) : Int) := (by rw [IntWalk.i64_in _ (by omega)]; omega); have hwj : IntKind.i64.wrap ((j : Int) + 1) = (j : Int) + 1 := IntWalk.i64_in _ (by omega); clear h6 hk6)
        go_roundg (n - (j + 1))
        case measure => rw [HK.out]; omega
        case rel =>
          refine ⟨j + 1, c.1 + N, c.2, some c, R2 ++ [LB] ++ [LO], rfl, hlt, by go_num, by go_num, rfl, by rw [if_neg (by omega), Nat.add_sub_cancel, HCJ.out], R4.out, ?_, HR7.out⟩
          rw [HSG.out, R6.out, ← HRR.out]
          simp only [List.append_assoc]
    · have hdr : cs.drop j = [] := List.drop_eq_nil_of_le (by have := HN.out; omega)
      have hsg : segs none 0 0 cs = R := by
        have := HSG.out
        rw [hdr] at this
        simpa [segs] using this
      have HBD : Hid (bodyL cs = wrapL 0 (R ++ [[33]]) ++ [10]) := by show _ = _; unfold bodyL; rw [hsg]
      have HCO2 : Hid (cost (R ++ [[33]]) ≤ 190002) := by
        show _ ≤ _
        rw [cost_app, ← hsg]
        have h1 := HCO.out
        have h2 : cost [[(33 : UInt8)]] = 2 := rfl
        omega
      have hg : decide ((j : Int) < (n : Int)) = false := by simp; omega
      have HB5 : Hid (w.heap.size + 1 ≤ wr.heap.size) := (Array.getElem?_eq_some_iff.1 HRT.out.pat).1
      clear hdr hsg HSG HST HPV
      go_wp2_with (at_builtin; refine apd_str rfl _ _ rfl (w.heap.size + 1) _ R rfl HRT.out.own [33] _ rfl rfl HB5.out (by omega) ?_; intro v' w5 h5 hk5; have HR5 := Lib.hid (HRT.out.put hk5 h5); clear h5 hk5)
      generalize hRS : R ++ [[33]] = RS at *
      have HRS : Hid (RS ≠ []) := by show _ ≠ _; rw [← hRS]; simp
      have hRl2 : RS.length ≤ 200001 := by rw [← hRS]; simp; omega
      obtain ⟨g, cp, hv, _⟩ := HR5.out.own.form (by have := List.length_pos_iff.2 HRS.out; omega)
      subst hv
      have HCE : Hid (∀ (t : Nat) (r : List UInt8), RS[t]? = some r → w5.cell? ⟨g, t, none⟩ = some (.string ⟨r.toArray⟩)) := fun t r ht => by
        have h1 : t < RS.length := (List.getElem?_eq_some_iff.1 ht).1
        have h0 := HR5.out.own
        unfold OwnS at h0
        rw [h0.cellAt t (by omega)]
        simp [strsV, ht]
      have HBEL := Lib.hid HR5.out.bel
      clear hRS c2 HRT HR5 HB5
      rw [← HS5.out]
      obtain ⟨m, hm⟩ : ∃ m, m = RS.length := ⟨_, rfl⟩
      rw [← hm]
      go_loopg [3, 10, 11] m (fun k v3 v10 v11 wx => ∃ (t wd : Nat) (D : List UInt8), k = m - t ∧ t ≤ m ∧ v11 = .int .i64 (t : Int) ∧ v10 = .int .i64 (wd : Int) ∧ v3 = .string ⟨(headL W H ++ [10] ++ D).toArray⟩ ∧ wrapL 0 RS = D ++ wrapL wd (RS.drop t) ∧ wd ≤ 200000 ∧ wx = w5)
      case atStart => exact ⟨0, 0, [], rfl, by omega, rfl, rfl, by rw [List.append_nil], rfl, by omega, rfl⟩
      case round =>
        obtain ⟨t, wd, D, hk, ht, rfl, rfl, rfl, hwr, hwd, rfl⟩ := hrel
        have HK2 := Lib.hid hk
        have HWR := Lib.hid hwr
        have HDL : Hid (D.length ≤ 190002) := by
          have h1 := wrapL_cost RS 0
          rw [hwr, List.length_append] at h1
          have := HCO2.out
          show _ ≤ _
          omega
        clear hk hwr
        by_cases hlt2 : t < m
        · obtain ⟨r, hr⟩ : ∃ r, RS[t]? = some r := ⟨RS[t]'(by omega), List.getElem?_eq_getElem _⟩
          have HDR : Hid (RS.drop t = r :: RS.drop (t + 1)) := by
            show _ = _
            obtain ⟨hj', he⟩ := List.getElem?_eq_some_iff.1 hr
            rw [List.drop_eq_getElem_cons hj', he]
          have hrlen : r.length ≤ 190002 := by
            have h1 := cost_mem RS r (List.mem_of_getElem? hr)
            have := HCO2.out
            omega
          have y0 := HCE.out t r hr
          have hls := mk_size r
          have hgt : decide ((t : Int) < (m : Int)) = true := by simp; omega
          have hit : (t : Int) < (m : Int) := by omega
          have hwt : IntKind.i64.wrap ((t : Int) + 1) = (t : Int) + 1 := IntWalk.i64_in _ (by omega)
          have hww : IntKind.i64.wrap ((wd : Int) + (r.length : Int)) = (wd : Int) + (r.length : Int) := IntWalk.i64_in _ (by omega)
          have hhd := HHL.out
          have hdl := HDL.out
          have k1 := catS (headL W H ++ [10] ++ D) [10] (by simp; omega)
          have k2 := catS (headL W H ++ [10] ++ D ++ [10]) r (by simp; omega)
          have k3 := catS (headL W H ++ [10] ++ D) r (by simp; omega)
          have e1 : (⟨([10] : List UInt8).toArray⟩ : ByteArray) = ⟨#[10]⟩ := rfl
          rw [e1] at k1
          have HST2 : Hid (wrapL wd (RS.drop t) = putL wd r ++ wrapL (putN wd r) (RS.drop (t + 1))) := by show _ = _; rw [HDR.out, wrapL_cons]
          clear hr e1
          by_cases h70 : 70 < wd + r.length
          · have hg7 : decide ((70 : Int) < (wd : Int) + (r.length : Int)) = true := by simp; omega
            have HP1 : Hid (putL wd r = 10 :: r) := if_pos h70
            have HP2 : Hid (putN wd r = r.length) := if_pos h70
            generalize hA : (⟨(headL W H ++ [10] ++ D ++ [10] ++ r).toArray⟩ : ByteArray) = SA at *
            generalize (⟨(headL W H ++ [10] ++ D ++ [10]).toArray⟩ : ByteArray) = SB at *
            have HA := Lib.hid hA
            clear hA k3 h70 hhd hdl
            generalize (⟨r.toArray⟩ : ByteArray) = SR at *
            generalize (⟨(headL W H ++ [10] ++ D).toArray⟩ : ByteArray) = SD at *
            go_wp2_with fail
            go_roundg (m - (t + 1))
            case measure => rw [HK2.out]; omega
            case rel =>
              refine ⟨t + 1, r.length, D ++ [10] ++ r, rfl, hlt2, by go_num, by go_num, ?_, ?_, by omega, rfl⟩
              · rw [← HA.out]; simp only [List.append_assoc]
              · rw [HWR.out, HST2.out, HP1.out, HP2.out]; simp
          · have hg7 : decide ((70 : Int) < (wd : Int) + (r.length : Int)) = false := by simp; omega
            have HP1 : Hid (putL wd r = r) := if_neg h70
            have HP2 : Hid (putN wd r = wd + r.length) := if_neg h70
            generalize hA : (⟨(headL W H ++ [10] ++ D ++ r).toArray⟩ : ByteArray) = SA at *
            have HA := Lib.hid hA
            have hwd2 : wd + r.length ≤ 200000 := by omega
            clear hA k1 k2 h70 hhd hdl
            generalize (⟨r.toArray⟩ : ByteArray) = SR at *
            generalize (⟨(headL W H ++ [10] ++ D).toArray⟩ : ByteArray) = SD at *
            go_wp2_with fail
            go_roundg (m - (t + 1))
            case measure => rw [HK2.out]; omega
            case rel =>
              refine ⟨t + 1, wd + r.length, D ++ r, rfl, hlt2, by go_num, by go_num, ?_, ?_, hwd2, rfl⟩
              · rw [← HA.out]; simp only [List.append_assoc]
              · rw [HWR.out, HST2.out, HP1.out, HP2.out]; simp
        · have htd : RS.drop t = [] := List.drop_eq_nil_of_le (by omega)
          have HE9 : Hid (headL W H ++ [10] ++ D ++ [10] = textL W H cs) := by
            show _ = _
            have h1 := HWR.out
            rw [htd] at h1
            unfold textL
            rw [HBD.out, h1]
            simp [wrapL]
          have hgt : decide ((t : Int) < (m : Int)) = false := by simp; omega
          have hhd := HHL.out
          have hdl := HDL.out
          have k1 := catS (headL W H ++ [10] ++ D) [10] (by simp; omega)
          have e1 : (⟨([10] : List UInt8).toArray⟩ : ByteArray) = ⟨#[10]⟩ := rfl
          rw [e1, HE9.out] at k1
          clear e1 htd hhd hdl
          generalize (⟨(headL W H ++ [10] ++ D).toArray⟩ : ByteArray) = SD at *
          go_wp2_with fail
          go_ret
          exact ⟨rfl, HBEL.out⟩
end Go.Proofs.YtjndfdhjipfijaaGreatDoor
