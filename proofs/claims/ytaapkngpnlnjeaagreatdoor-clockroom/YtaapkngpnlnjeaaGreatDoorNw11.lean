/- Package clock: New; the law's right: contracts. -/
import Derived.Test.YtaapkngpnlnjeaaGreatDoorSu11
import Derived.Test.YtaapkngpnlnjeaaGreatDoorP15
namespace Go.Proofs.YtaapkngpnlnjeaaGreatDoor
open Go.RowKit Go.Maps
set_option maxRecDepth 100000

theorem put_tmN {w w' : World} {sb tb most g g' c b : Nat} {N N' : List Nd} {p v z : Value} (h : Nx sb tb most w g N c w' g' N') (hb : Ob w' sb g' tb b (.cells #[p, v, z] 37 (0, 0))) (hw : w.heap.size ≤ b) (p' v' z' : Value) :
    ∃ W, ((w'.setCell ⟨b, 0, none⟩ p').setCell ⟨b, 1, none⟩ v').setCell ⟨b, 2, none⟩ z' = W ∧ Nx sb tb most w g N c W g' N' ∧ Ob W sb g' tb b (.cells #[p', v', z'] 37 (0, 0)) := by
  have h0 : Ob (w'.setCell ⟨b, 0, none⟩ p') sb g' tb b (.cells #[p', v, z] 37 (0, 0)) := ⟨by have := hb.at_; simp only [World.setCell, Array.getElem?_modify, this]; simp, hb.sb_, hb.g_, hb.tb_⟩
  have h1 : Ob ((w'.setCell ⟨b, 0, none⟩ p').setCell ⟨b, 1, none⟩ v') sb g' tb b (.cells #[p', v', z] 37 (0, 0)) := ⟨by have := hb.at_; simp only [World.setCell, Array.getElem?_modify, this]; simp, hb.sb_, hb.g_, hb.tb_⟩
  have h2 : Ob (((w'.setCell ⟨b, 0, none⟩ p').setCell ⟨b, 1, none⟩ v').setCell ⟨b, 2, none⟩ z') sb g' tb b (.cells #[p', v', z'] 37 (0, 0)) := ⟨by have := hb.at_; simp only [World.setCell, Array.getElem?_modify, this]; simp, hb.sb_, hb.g_, hb.tb_⟩
  exact ⟨_, rfl, ((h.set hb hw p').set h0 hw v').set h1 hw z', h2⟩
set_option maxHeartbeats 4000000 in
theorem new_clock {w : World} {sb g tb cap most : Nat} {N : List Nd} (h : St w sb g tb cap most N) :
    Calls Tryz.prog 21 #[.pointer (some ⟨sb, 0, none⟩)] w fun e w' => ∃ g' N', Nx sb tb most w g N 3 w' g' N' ∧
      ((∃ r : Nat, e = .returned (.tuple #[.agg #[.pointer (some ⟨sb, 0, none⟩), .int .u32 (r : Int), .int .u64 0], .nilIface]) ∧ Em N' 3 r ∧ HasEm N' 3) ∨ (e = .returned (.tuple #[.agg #[.pointer none, .int .u32 0, .int .u64 0], .iface 48 (.int .i64 7)]) ∧ most ≤ N'.length)) := by
  have HB := Lib.hid (bel1 w (.cells #[.pointer none, .int .u32 0, .int .u64 0] 37))
  have HO0 := Lib.hid (Ob.new h #[.pointer none, .int .u32 0, .int .u64 0] 37)
  have HN0 := Lib.hid (Nx.of_below h HB.out)
  have HS0 := Lib.hid (h.later HB.out)
  clear h
  go_enter Tryz.func21, Tryz.ntmps21
  go_upto_region 1 with fail
  generalize w.alloc (.cells #[.pointer none, .int .u32 0, .int .u64 0] 37) = W0 at *
  go_wp2_with fail
  refine (qnew_any HS0.out).mono ?_
  rintro e w1 ⟨g1, N1, hnx, hres⟩
  have HN1 := Lib.hid ((HN0.out.trans hnx).mono (show 0 + 3 ≤ 3 by omega))
  have HO1 := Lib.hid (HO0.out.nx hnx)
  clear hnx HN0 HO0 HS0
  obtain ⟨cap1, hs1⟩ := HN1.out.st
  have HS1 := Lib.hid hs1
  clear hs1
  rcases hres with ⟨r, rfl, hem, hE⟩ | ⟨rfl, hf⟩
  · unfold plV
    have HE := Lib.hid (And.intro hem hE)
    have hb2 := bel1 w1 (.cells #[.pointer (some ⟨sb, 0, none⟩), .int .u32 (r : Int)] 34)
    have HP2 := Lib.hid (Ob.new HS1.out #[.pointer (some ⟨sb, 0, none⟩), .int .u32 (r : Int)] 34)
    have HN2 := Lib.hid ((HN1.out.trans (Nx.of_below HS1.out hb2)).mono (show 3 + 0 ≤ 3 by omega))
    have HO2 := Lib.hid (HO1.out.later hb2)
    clear hem hE hb2
    go_upto_region 4 with fail
    generalize w1.alloc (.cells #[.pointer (some ⟨sb, 0, none⟩), .int .u32 (r : Int)] 34) = w2 at *
    generalize w1.heap.size = pb at *
    obtain ⟨p0, p1⟩ := pl_cells HP2.out.at_
    obtain ⟨⟨q0, q1, q2⟩, f0, f1, f2⟩ := tm3_cells HO2.out.at_
    obtain ⟨W, hW, hNW, hRW⟩ := put_tmN HN2.out HO2.out (Nat.le_refl _) (.pointer (some ⟨sb, 0, none⟩)) (.int .u32 ((r : Nat) : Int)) (.int .u64 0)
    go_wp2_with fail
    refine bodyPost_ret (tm_ret11 rfl rfl rfl hRW.at_) rfl ?_
    exact ⟨g1, N1, hNW, Or.inl ⟨r, rfl, HE.out.1, HE.out.2⟩⟩
  · have HF := Lib.hid hf
    have hb2 := bel1 w1 (.cells #[.pointer none, .int .u32 0] 34)
    have HN2 := Lib.hid ((HN1.out.trans (Nx.of_below HS1.out hb2)).mono (show 3 + 0 ≤ 3 by omega))
    have HO2 := Lib.hid (HO1.out.later hb2)
    clear hf hb2
    go_upto_region 2 with fail
    generalize w1.alloc (.cells #[.pointer none, .int .u32 0] 34) = w2 at *
    obtain ⟨⟨q0, q1, q2⟩, f0, f1, f2⟩ := tm3_cells HO2.out.at_
    obtain ⟨W, hW, hNW, hRW⟩ := put_tmN HN2.out HO2.out (Nat.le_refl _) (.pointer none) (.int .u32 0) (.int .u64 0)
    go_wp2_with fail
    refine bodyPost_ret (tm_ret11 rfl rfl rfl hRW.at_) rfl ?_
    exact ⟨g1, N1, hNW, Or.inr ⟨rfl, HF.out⟩⟩
/-- A row of points that came in, or was made, below block B. -/
def Pt11 (w : World) (B : Nat) (a : Option Addr) (cs : List (Int × Int)) : Prop := ∀ (j : Nat) c, cs[j]? = some c → ∃ bk off, a = some ⟨bk, off, none⟩ ∧ bk < B ∧ w.cell? ⟨bk, off + j * 2, none⟩ = some (.int .i64 c.1) ∧ w.cell? ⟨bk, off + j * 2 + 1, none⟩ = some (.int .i64 c.2)
theorem Pt11.later {w w' : World} {B : Nat} {a : Option Addr} {cs : List (Int × Int)} (h : Pt11 w B a cs) (hb : Below B w w') : Pt11 w' B a cs := fun j c hc => by
  obtain ⟨bk, off, h1, h2, h3, h4⟩ := h j c hc
  exact ⟨bk, off, h1, h2, (hb.cell (p := ⟨bk, off + j * 2, none⟩) h2).trans h3, (hb.cell (p := ⟨bk, off + j * 2 + 1, none⟩) h2).trans h4⟩
def Nr11 (c : Int × Int) : Prop := (-288230376151711744 ≤ c.1 ∧ c.1 < 288230376151711744) ∧ -288230376151711744 ≤ c.2 ∧ c.2 < 288230376151711744
/-- What right tells. -/
def Rt11 (cs : List (Int × Int)) (e : Ending) : Prop := e = .returned (.bool false) ∨ (e = .returned (.bool true) ∧ cs.length ≤ 40 ∧ ∀ c ∈ cs, Nr11 c)
theorem rt11_of {cs : List (Int × Int)} {b : Bool} (h : b = true → cs.length ≤ 40 ∧ ∀ c ∈ cs, Nr11 c) : Rt11 cs (.returned (.bool b)) := by
  cases b
  · exact Or.inl rfl
  · exact Or.inr ⟨rfl, h rfl⟩
set_option maxHeartbeats 4000000 in
theorem right_clock (cs : List (Int × Int)) (a : Option Addr) (cap : Nat) (w : World) (h : Pt11 w w.heap.size a cs) (hl : cs.length ≤ maxLen) :
    Calls Tryz.prog 7 #[.slice a cs.length cap] w fun e w' => Rt11 cs e ∧ Below w.heap.size w w' := by
  have HP := Lib.hid h
  have HL := Lib.hid hl
  clear h hl
  go_enter Tryz.func7, Tryz.ntmps7
  go_wp2_with fail
  go_loopg [7] cs.length (fun m i wr => ∃ j : Nat, m = cs.length - j ∧ j ≤ cs.length ∧ i = .int .i64 (j : Int) ∧ (∀ c ∈ cs.take j, Nr11 c) ∧ Below w.heap.size w wr)
  case atStart => exact ⟨0, rfl, Nat.zero_le _, rfl, fun c hc => by simp at hc, Below.refl _ _⟩
  case round =>
    obtain ⟨j, hm, hj, rfl, hgood, hb⟩ := hrel
    have HM := Lib.hid hm
    have HG := Lib.hid hgood
    have HB := Lib.hid hb
    clear hm hgood hb
    by_cases hlt : j < cs.length
    · obtain ⟨c, hc⟩ : ∃ c, cs[j]? = some c := ⟨cs[j], List.getElem?_eq_getElem hlt⟩
      obtain ⟨bk, off, rfl, hbk, c0, c1⟩ := HP.out.later HB.out j c hc
      have HTK : Hid (cs.take (j + 1) = cs.take j ++ [c]) := by show _ = _; rw [List.take_add_one, hc]; rfl
      clear hc
      have hgj : decide ((j : Int) < (cs.length : Int)) = true := decide_eq_true (by omega)
      have i1 : (0 : Int) ≤ (j : Int) := by omega
      have i2 : (j : Int) < (cs.length : Int) := by omega
      have hb1 := bel1 wr (.cells #[.int .i64 c.1, .int .i64 c.2] 55)
      have hcell : (wr.alloc (.cells #[.int .i64 c.1, .int .i64 c.2] 55)).heap[wr.heap.size]? = some (ptO c.1 c.2) := heap_alloc_new wr _
      have HB1 := Lib.hid (HB.out.trans (hb1.mono HB.out.size))
      obtain ⟨d0, d1⟩ := pt_cells hcell
      have hl := HL.out
      unfold maxLen at hl
      clear hb1 hcell
      go_upto_region 4 with fail
      clear c0 c1 hgj i1 i2
      generalize wr.alloc (.cells #[.int .i64 c.1, .int .i64 c.2] 55) = w1 at *
      generalize wr.heap.size = pb at *
      obtain ⟨p, q⟩ := c
      simp only at d0 d1
      by_cases t1 : p < -288230376151711744
      · have g1 : decide (p < -288230376151711744) = true := decide_eq_true t1
        go_wp2_with fail
        go_ret
        exact ⟨Or.inl rfl, HB1.out⟩
      have g1 : decide (p < -288230376151711744) = false := decide_eq_false t1
      by_cases t2 : 288230376151711744 ≤ p
      · have g2 : decide (288230376151711744 ≤ p) = true := decide_eq_true t2
        go_wp2_with fail
        go_ret
        exact ⟨Or.inl rfl, HB1.out⟩
      have g2 : decide (288230376151711744 ≤ p) = false := decide_eq_false t2
      by_cases t3 : q < -288230376151711744
      · have g3 : decide (q < -288230376151711744) = true := decide_eq_true t3
        go_wp2_with fail
        go_ret
        exact ⟨Or.inl rfl, HB1.out⟩
      have g3 : decide (q < -288230376151711744) = false := decide_eq_false t3
      by_cases t4 : 288230376151711744 ≤ q
      · have g4 : decide (288230376151711744 ≤ q) = true := decide_eq_true t4
        go_wp2_with fail
        go_ret
        exact ⟨Or.inl rfl, HB1.out⟩
      have g4 : decide (288230376151711744 ≤ q) = false := decide_eq_false t4
      have HNR : Hid (Nr11 (p, q)) := ⟨⟨by show -288230376151711744 ≤ p; omega, by show p < _; omega⟩, by show -288230376151711744 ≤ q; omega, by show q < _; omega⟩
      go_wp2_with fail
      go_roundg (cs.length - (j + 1))
      case measure => rw [HM.out]; omega
      case rel =>
        refine ⟨j + 1, rfl, hlt, by go_num, ?_, HB1.out⟩
        rw [HTK.out]
        intro x hx
        rcases List.mem_append.1 hx with hx | hx
        · exact HG.out x hx
        · rw [List.mem_singleton] at hx
          subst hx
          exact HNR.out
    · obtain rfl : j = cs.length := by omega
      have hgj : decide ((cs.length : Int) < (cs.length : Int)) = false := by simp
      have HE := HG.out
      rw [List.take_length] at HE
      have HE2 := Lib.hid HE
      clear HE
      go_wp2_with fail
      go_ret
      exact ⟨rt11_of fun hb => ⟨by have := of_decide_eq_true hb; omega, HE2.out⟩, HB.out⟩
end Go.Proofs.YtaapkngpnlnjeaaGreatDoor
