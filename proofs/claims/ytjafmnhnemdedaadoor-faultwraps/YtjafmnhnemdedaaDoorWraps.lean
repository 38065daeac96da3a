/- The law FaultWraps: its walk: for every number, row of steps and other number the call returns true and changes nothing that was there. -/
import Derived.Test.YtjafmnhnemdedaaDoorNone
import Derived.Deep.RegionWith
namespace Go.Proofs.YtjafmnhnemdedaaDoor
open Go.RowKit Go.Extern.Stop Go.Stop Go.Extern

set_option maxRecDepth 100000 in
set_option maxHeartbeats 2000000 in
theorem wraps_great (n m : Int) (a : Option Addr) (len cap : Nat) (w : World) (hty : TypeLaid w) (htab : Tab w) (hlen : len ≤ 9223372036854775807) (h : 60 < len) :
    Calls Tryd.prog 3 #[.int .u8 n, .slice a len cap, .int .u8 m] w fun e w' => e = .returned (.bool true) ∧ Below w.heap.size w w' := by
  have H1 := Lib.hid (lives_any w hty htab)
  have HY := Lib.hid hty
  have HT := Lib.hid htab
  clear hty htab
  go_enter Tryd.func3, Tryd.ntmps3
  go_wp2_with fail
  refine H1.out.mono ?_
  rintro e w1 ⟨rfl, hb⟩
  have HB := Lib.hid hb
  clear hb
  go_wp2_with fail
  refine (lives_any w1 (HY.out.later HB.out) (HT.out.later HB.out)).mono ?_
  rintro e w2 ⟨rfl, hb⟩
  have HB2 := Lib.hid hb
  clear hb
  go_wp2
  go_ret
  exact ⟨rfl, HB.out.trans (HB2.out.mono HB.out.size)⟩

theorem Tryd.methodErrorF (a : Addr) (w : World) : (Go.method 242 31 (.pointer (some a)) "Error").run Tryd.prog w = .ok (19, .pointer (some a)) w := by kernel_rfl
theorem Tryd.nilAheadErrorF (a : Addr) (w : World) : (nilAhead 242 31 (.pointer (some a)) "Error").run Tryd.prog w = .ok (some false) w := by kernel_rfl

theorem is_empty (v : Value) (w : World) : Calls Tryd.prog 16 #[v, .slice none 0 0] w fun e w' => e = .returned (.bool false) ∧ w = w' := by
  go_enter Tryd.func16, Tryd.ntmps16
  go_wp2
  refine wp_loop_rounds 1 ?_
  rw [rounds_succ]
  go_wp2
  go_ret
  exact ⟨rfl, rfl⟩

theorem StepsAt.later {w w' : World} {a : Option Addr} {l : Links} (h : StepsAt w a l) (hb : Below w.heap.size w w') : StepsAt w' a l := by
  intro j z hz
  obtain ⟨bk, off, h1, h2, h3⟩ := h j z hz
  have hl := block_lt h2
  exact ⟨bk, off, h1, by rw [hb.cell (p := ⟨bk, off + j * 2, none⟩) hl]; exact h2, by rw [hb.cell (p := ⟨bk, off + j * 2 + 1, none⟩) hl]; exact h3⟩

/-- Two rows of links that say the same steps. -/
def Alike (r l : Links) : Prop := r.map (·.2) = l.map (·.2)
theorem Alike.words {r l : Links} (h : Alike r l) (t : List UInt8) : wordsL r t = wordsL l t := by
  induction r generalizing l with
  | nil => cases l with
    | nil => rfl
    | cons y l => simp [Alike] at h
  | cons x r ih => cases l with
    | nil => simp [Alike] at h
    | cons y l =>
      obtain ⟨xb, xs, xn⟩ := x
      obtain ⟨yb, ys, yn⟩ := y
      simp only [Alike, List.map_cons, List.cons.injEq, Prod.mk.injEq] at h
      obtain ⟨⟨rfl, rfl⟩, h⟩ := h
      simp only [wordsL, ih h]
theorem Alike.path {r l : Links} (h : Alike r l) : pathB r = pathB l := by
  unfold pathB
  have e : ∀ q : Links, (q.map fun x => placeL x.2.1 x.2.2) = (q.map (·.2)).map fun x => placeL x.1 x.2 := fun q => by simp
  rw [e, e, h]
theorem Alike.small {r l : Links} (h : Alike r l) (hs : Small l) : Small r := by
  intro x hx
  have : x.2 ∈ l.map (·.2) := by rw [← h]; exact List.mem_map.2 ⟨x, hx, rfl⟩
  obtain ⟨y, hy, e⟩ := List.mem_map.1 this
  rw [← e]; exact hs y hy
theorem Alike.length {r l : Links} (h : Alike r l) : r.length = l.length := by simpa using congrArg List.length h

/-- A region that draws its order, whose operations keep to a class of worlds: one walk in the text's order. -/
theorem region_class {P : Program} {id : Nat} {Q : Exit → Act → World → Prop} {a : Act} {w : World} {l : List Oper} (C : World → Prop) (hm : P.follows .mixedOrders = true) (hB : Region.lexB .any l.toArray = true) (hC : C { w with drawn := w.drawn + 1 })
    (h : wpQuiet P l.toArray C (fun a' => ∀ w', C w' → Q .normal a' w') l a) : (Code.region id l.toArray true).wp P Q a w :=
  wp_region_quiet (C := C) hm hB hC (by simpa using h)

/-- Some operations of such a region have come up, the first k; the others keep to a class of worlds. -/
theorem rest_class {P : Program} {md : Region.Mode} {Q : Exit → Act → World → Prop} {a : Act} {w : World} {L : List Oper} {fuel : Nat} {listed : Array Bool} (C : World → Prop) (k : Nat) (hs : Region.noSelect L.toArray = true)
    (hf : (L.drop k).length = fuel) (hB : Region.lexFrom md L.toArray fuel k listed = true) (hC : C w)
    (h : wpQuiet P L.toArray C (fun a' => ∀ w', C w' → Q .normal a' w') (L.drop k) a) : wpAny P md L.toArray Q fuel listed a w := by
  subst hf
  exact wpAny_of_quiet (Q := fun a' => ∀ w', C w' → Q .normal a' w') (fun _ w' hw' h => h w' hw') _ _ _ _ hC (wpAnyQ_lex hs (L.drop k) k listed a (fun j => by simp) hB h)

/-- The worlds behind the law's errors.As: nothing of wr has changed; the next block holds the Fault at b. -/
def After (wr : World) (b : Nat) : Type := { W : World // Below wr.heap.size wr W ∧ W.cell? ⟨wr.heap.size, 0, none⟩ = some (.pointer (some ⟨b, 0, none⟩)) }

/-- The worlds in which nothing below has changed, and the law's variable f is nil still. -/
def Still (w : World) (f : Nat) : Type := { W : World // Below w.heap.size w W ∧ W.cell? ⟨f, 0, none⟩ = some (.pointer none) }

set_option maxRecDepth 100000 in
set_option maxHeartbeats 4000000 in
theorem wraps_small (n m : Int) (n0 : 0 ≤ n) (n1 : n ≤ 255) (m0 : 0 ≤ m) (m1 : m ≤ 255) (a : Option Addr) (cap : Nat) (L : Links) (w : World) (hty : TypeLaid w) (htab : Tab w) (hlen : L.length ≤ 60) (hst : StepsAt w a L)
    (hr : ∀ x ∈ L, -9223372036854775808 ≤ x.2.2 ∧ x.2.2 ≤ 9223372036854775807) (hsz : ∀ x ∈ L, x.2.1.size ≤ 9223372036854775807) :
    Calls Tryd.prog 3 #[.int .u8 n, .slice a L.length cap, .int .u8 m] w fun e w' => e = .returned (.bool true) ∧ Below w.heap.size w w' := by
  have H1 := Lib.hid (lives_any w hty htab)
  have HY := Lib.hid hty
  have HT := Lib.hid htab
  have HS := Lib.hid hst
  have HR := Lib.hid hr
  have HZ := Lib.hid hsz
  clear hty htab hst hr hsz
  have hb2 : decide ((60 : Int) < (L.length : Int)) = false := decide_eq_false (by omega)
  go_enter Tryd.func3, Tryd.ntmps3
  go_wp2_with fail
  refine H1.out.mono ?_
  rintro e w1 ⟨rfl, hb⟩
  have HW1 := Lib.hid hb
  clear hb
  go_wp2_with fail
  have hc1 : 1 ≤ 1 + n % 11 := by omega
  have hc2 : 1 + n % 11 ≤ 11 := by omega
  have hd1 : 1 ≤ 1 + m % 11 := by omega
  have hd2 : 1 + m % 11 ≤ 11 := by omega
  generalize 1 + n % 11 = c at hc1 hc2 ⊢
  generalize 1 + m % 11 = d at hd1 hd2 ⊢
  refine (of_num c _).mono ?_
  rintro e w' ⟨rfl, rfl⟩
  rw [show ofNum c = .iface 24 (.int .i64 c) by unfold ofNum; rw [if_neg (by omega)]]
  go_wp2_with fail
  go_loopg [9, 10] (L.length + 1) (fun k e i wr => ∃ (j : Nat) (r : Links), k = j + 1 ∧ j ≤ L.length ∧ i = .int .i64 ((j : Int) - 1) ∧ Alike r (L.drop j) ∧ (∀ x ∈ L.drop j, x.2.1.size ≤ 100) ∧ Chain wr (.iface 24 (.int .i64 c)) r e ∧ Below w.heap.size w wr)
  case atStart => exact ⟨L.length, [], rfl, Nat.le_refl _, rfl, by simp [Alike], by simp, rfl, HW1.out⟩
  case round =>
    obtain ⟨j, r, hk, hj, rfl, hal, hsm, hch, hbw⟩ := hrel
    have HK := Lib.hid hk
    have HA := Lib.hid hal
    have HM := Lib.hid hsm
    have HC := Lib.hid hch
    have HW := Lib.hid hbw
    obtain ⟨T, y, rfl⟩ : ∃ T y, u9 = .iface T y := by
      match r, hch with
      | [], h => exact ⟨_, _, h⟩
      | (_, _, _) :: _, ⟨h, _⟩ => exact ⟨_, _, h⟩
    clear hk hal hsm hch hbw
    by_cases h0 : j = 0
    · subst h0
      have hal : Alike r L := by simpa using HA.out
      have hsmL : Small L := fun x hx => ⟨HM.out x (by simpa using hx), (HR.out x hx).1, (HR.out x hx).2⟩
      have HAL := Lib.hid hal
      have HSL := Lib.hid hsmL
      have HSR := Lib.hid (hal.small hsmL)
      have hrl := hal.length
      have HRL := Lib.hid hrl
      clear hal hsmL hrl HA HM
      have hba := below_alloc wr (.cells #[.pointer none] 31)
      have HW1' := Lib.hid (HW.out.trans (hba.mono HW.out.size))
      have HC1 := Lib.hid (HC.out.later hba)
      have ht1 : (wr.alloc (.cells #[.pointer none] 31)).cell? ⟨wr.heap.size, 0, none⟩ = some (.pointer none) := by simp
      have hf1 : (wr.alloc (.cells #[.pointer none] 31)).frozen? ⟨wr.heap.size, 0, none⟩ = false := by simp
      have HT1 := Lib.hid ht1
      have HF1 := Lib.hid hf1
      have HBA := Lib.hid hba
      clear ht1 hf1 hba
      match r with
      | [] =>
        obtain ⟨rfl, rfl⟩ : T = 24 ∧ y = .int .i64 c := by
          have : (Value.iface T y) = .iface 24 (.int .i64 c) := HC.out
          simpa using this
        obtain rfl : L = [] := List.length_eq_zero_iff.1 HRL.out.symm
        have has : ∀ x : Still w wr.heap.size, Calls Tryd.prog 8 #[.iface 24 (.int .i64 c), .iface 33 (.pointer (some ⟨wr.heap.size, 0, none⟩))] x.1 fun e w'' => e = .returned (.bool false) ∧ ∃ y : Still w wr.heap.size, w'' = y.1 := by
          rintro ⟨W, hW, ht⟩
          refine as8F _ _ _ (.pointer none) W _ (HY.out.later hW) ht (fun b0 W2 hW2 hb0 => ?_)
          refine (as23F_none c _ b0 W2).mono ?_
          rintro e w' ⟨rfl, hb⟩
          have hb' := hW2.trans (hb.mono hW2.size)
          exact ⟨false, rfl, rfl, ⟨w', hW.trans (hb'.mono hW.size), by rw [hb'.cell (p := ⟨wr.heap.size, 0, none⟩) (lt_of_cell ht)]; exact ht⟩, rfl⟩
        have HAS := Lib.hid has
        clear has
        have hne : Nonempty (Still w wr.heap.size) := ⟨⟨_, HW1'.out, HT1.out⟩⟩
        go_wp2_with fail
        refine region_class (fun w' => ∃ x : Still w wr.heap.size, w' = x.1) (by kernel_rfl) (by kernel_rfl) ⟨⟨_, HW1'.out.drew, HT1.out⟩, rfl⟩ ?_
        repeat (go_big_quiet_step ((go_at_call 8; exact HAS.out _)))
        refine wpQuiet_nil ?_
        rintro w2 ⟨⟨W2, hW2, _⟩, rfl⟩
        have HW2 := Lib.hid hW2
        clear hW2 hne HAS
        -- TAIL0
        -- TAIL0
        -- TAIL0
        -- TAIL0
        -- TAIL0
        -- TAIL0
        have HC2 : Hid (Chain w2 (.iface 24 (.int .i64 c)) [] (.iface 24 (.int .i64 c))) := rfl
        -- the law's last line
        go_wp2_with fail
        refine (code_num c [] _ _ (HY.out.later HW2.out) HC2.out).mono ?_
        rintro e w3 ⟨rfl, hb⟩
        have HC3 := Lib.hid (HC2.out.later hb)
        have HW3 := Lib.hid (HW2.out.trans (hb.mono HW2.out.size))
        clear hb
        go_wp2_with fail
        refine (path_any _ (errText c).data.toList [] _ (by have := HRL.out; omega) (Or.inr ⟨c, rfl, rfl⟩) HSR.out _ HC3.out (HT.out.later HW3.out) (HY.out.later HW3.out)).mono ?_
        rintro e w4 ⟨rfl, hb⟩
        have HC4 := Lib.hid (HC3.out.later hb)
        have HW4 := Lib.hid (HW3.out.trans (hb.mono HW3.out.size))
        clear hb
        rw [HAL.out.path]
        go_wp2_with fail
        refine (refPath_any _ cap [] _ (by omega) HSL.out (HS.out.later HW4.out)).mono ?_
        rintro e w5 ⟨rfl, k5, hk5⟩
        have hb5 : Below w4.heap.size w4 w5 := by rw [hk5]; exact ⟨rfl, rfl, rfl, Nat.le_refl _, fun _ _ => rfl⟩
        have HC5 := Lib.hid (HC4.out.later hb5)
        have HW5 := Lib.hid (HW4.out.trans (hb5.mono HW4.out.size))
        clear hb5 hk5
        generalize (⟨(pathB []).toArray⟩ : ByteArray) = PB
        go_wp2_with fail
        refine (errText_is c _).mono ?_
        rintro e w5 ⟨rfl, rfl⟩
        have HC6 := Lib.hid HC5.out
        have HW6 := Lib.hid HW5.out
        go_wp2_with fail
        refine (errText_is c _).mono ?_
        rintro e w' ⟨rfl, rfl⟩
        go_wp2_with fail
        refine (words_any _ cap [] (errText c) _ (by omega) HSL.out (by have := errText_len c; omega) (HS.out.later HW6.out)).mono ?_
        rintro e w7 ⟨rfl, k7, hk7⟩
        have hb7 : Below w5.heap.size w5 w7 := by rw [hk7]; exact ⟨rfl, rfl, rfl, Nat.le_refl _, fun _ _ => rfl⟩
        have HC7 := Lib.hid (HC6.out.later hb7)
        have HW7 := Lib.hid (HW6.out.trans (hb7.mono HW6.out.size))
        clear hb7 hk7
        rw [show (⟨(wordsL [] (errText c).data.toList).toArray⟩ : ByteArray) = errText c from mk_toList _]
        generalize errText c = WB
        go_wp2_with fail
        refine (is15E c c [] _ _ HC7.out).mono ?_
        rintro e w' ⟨rfl, rfl⟩
        rw [show (c == c) = true by simp]
        go_wp2_with fail
        refine (is15E c d [] _ _ HC7.out).mono ?_
        rintro e w' ⟨rfl, rfl⟩
        generalize hB : (c == d) = B
        have HB := Lib.hid hB
        go_wp2_with fail
        refine (is_row (numIs c) _ [d] w7 (by simp) (fun z => isNumber_num c z [] _ _ (HC7.out.later (below_alloc _ _)))).mono ?_
        rintro e w8 ⟨rfl, hw8⟩
        have hb8 : Below w7.heap.size w7 w8 := by rw [← hw8]; exact below_alloc _ _
        have HC8 := Lib.hid (HC7.out.later hb8)
        have HW8 := Lib.hid (HW7.out.trans (hb8.mono HW7.out.size))
        clear hb8 hw8
        rw [show [d].any (numIs c) = B by rw [← HB.out]; simp [numIs]; omega]
        go_wp2_with fail
        refine (is_row (numIs c) _ [d, c, 0] w8 (by simp) (fun z => isNumber_num c z [] _ _ (HC8.out.later (below_alloc _ _)))).mono ?_
        rintro e w9 ⟨rfl, hw9⟩
        have hb9 : Below w8.heap.size w8 w9 := by rw [← hw9]; exact below_alloc _ _
        have HC9 := Lib.hid (HC8.out.later hb9)
        have HW9 := Lib.hid (HW8.out.trans (hb9.mono HW8.out.size))
        clear hb9 hw9
        rw [show [d, c, 0].any (numIs c) = true by simp [numIs]; omega]
        go_wp2_with fail
        refine (is_row (numIs c) _ [0] w9 (by simp) (fun z => isNumber_num c z [] _ _ (HC9.out.later (below_alloc _ _)))).mono ?_
        rintro e w10 ⟨rfl, hw10⟩
        have hb10 : Below w9.heap.size w9 w10 := by rw [← hw10]; exact below_alloc _ _
        have HW10 := Lib.hid (HW9.out.trans (hb10.mono HW9.out.size))
        clear hb10 hw10
        rw [show [0].any (numIs c) = false by simp [numIs]]
        go_wp2_with fail
        refine (is_empty _ _).mono ?_
        rintro e w' ⟨rfl, rfl⟩
        go_wp2
        go_ret
        exact ⟨rfl, HW10.out⟩
      | (b, s, q) :: r' =>
        obtain ⟨hv, cb0, cb1, x, cb2, hxr⟩ := HC.out
        obtain ⟨rfl, rfl⟩ : T = 31 ∧ y = .pointer (some ⟨b, 0, none⟩) := by simpa using hv
        obtain ⟨X0, hX0⟩ : ∃ X0, L[0]? = some X0 := ⟨L[0]'(by have := HRL.out; simp at this; omega), List.getElem?_eq_getElem _⟩
        obtain ⟨bk, off, rfl, cl0, cl1⟩ := (HS.out.later HW.out) 0 X0 hX0
        obtain ⟨_, s', q'⟩ := X0
        obtain ⟨rfl, rfl⟩ : s = s' ∧ q = q' := by
          have h1 := HAL.out
          cases L with
          | nil => simp at hX0
          | cons z L' =>
            simp only [List.getElem?_cons_zero, Option.some.injEq] at hX0
            subst hX0
            simp only [Alike, List.map_cons, List.cons.injEq, Prod.mk.injEq] at h1
            exact ⟨h1.1.1, h1.1.2⟩
        simp only [Nat.zero_mul, Nat.add_zero] at cl0 cl1
        have hLp : 0 < L.length := by have := HRL.out; simp at this; omega
        have hLp1 : decide (0 < L.length) = true := decide_eq_true hLp
        have hLp2 : decide ((0 : Int) < (L.length : Int)) = true := decide_eq_true (by omega)
        have hbb := block_lt cb0
        have hbk := block_lt cl0
        have B0 := Lib.hid cb0
        have B1 := Lib.hid cb1
        have B2 := Lib.hid cb2
        have L0 := Lib.hid cl0
        have L1 := Lib.hid cl1
        have has : ∀ W, Below wr.heap.size wr W → W.cell? ⟨wr.heap.size, 0, none⟩ = some (.pointer none) → W.frozen? ⟨wr.heap.size, 0, none⟩ = false → Calls Tryd.prog 8 #[.iface 31 (.pointer (some ⟨b, 0, none⟩)), .iface 33 (.pointer (some ⟨wr.heap.size, 0, none⟩))] W fun e w' => e = .returned (.bool true) ∧ w'.cell? ⟨wr.heap.size, 0, none⟩ = some (.pointer (some ⟨b, 0, none⟩)) ∧ Below wr.heap.size wr w' := by
          intro W hW ht hf
          have htl := lt_of_cell ht
          refine as8F _ _ _ (.pointer none) W _ ((HY.out.later HW.out).later hW) ht (fun b0 W2 hW2 hb0 => ?_)
          refine (as23F ⟨b, 0, none⟩ ⟨wr.heap.size, 0, none⟩ b0 (.pointer none) W2 (by rw [hW2.cell (p := ⟨wr.heap.size, 0, none⟩) htl]; exact ht) (by rw [hW2.frozen (p := ⟨wr.heap.size, 0, none⟩) htl]; exact hf) hb0).mono ?_
          rintro e w' ⟨rfl, hb⟩
          have hb' := (below_setBoth hW2 ⟨wr.heap.size, 0, none⟩ (.pointer (some ⟨b, 0, none⟩))).trans (hb.mono hW2.size)
          refine ⟨true, rfl, rfl, ?_, ?_⟩
          · rw [hb'.cell (p := ⟨wr.heap.size, 0, none⟩) htl]; exact World.cell?_setCell_same _ _ _ ht
          · exact (hW.setCell (p := ⟨wr.heap.size, 0, none⟩) (Nat.le_refl _) _).trans (hb'.mono (by show wr.heap.size ≤ W.heap.size; exact Nat.le_of_lt htl))
        have HAS := Lib.hid has
        have HXR := Lib.hid hxr
        have q0 : ∀ X : After wr b, X.1.cell? ⟨b, 0, none⟩ = some (.string s) := fun X => by rw [X.2.1.cell (p := ⟨b, 0, none⟩) hbb]; exact B0.out
        have q1 : ∀ X : After wr b, X.1.cell? ⟨b, 1, none⟩ = some (.int .i64 q) := fun X => by rw [X.2.1.cell (p := ⟨b, 1, none⟩) hbb]; exact B1.out
        have q2 : ∀ X : After wr b, X.1.cell? ⟨b, 2, none⟩ = some x := fun X => by rw [X.2.1.cell (p := ⟨b, 2, none⟩) hbb]; exact B2.out
        have q3 : ∀ X : After wr b, X.1.cell? ⟨bk, off, none⟩ = some (.string s) := fun X => by rw [X.2.1.cell (p := ⟨bk, off, none⟩) hbk]; exact L0.out
        have q4 : ∀ X : After wr b, X.1.cell? ⟨bk, off + 1, none⟩ = some (.int .i64 q) := fun X => by rw [X.2.1.cell (p := ⟨bk, off + 1, none⟩) hbk]; exact L1.out
        have q5 : ∀ X : After wr b, X.1.cell? ⟨wr.heap.size, 0, none⟩ = some (.pointer (some ⟨b, 0, none⟩)) := fun X => X.2.2
        have HU : Hid (∀ X : After wr b, Calls Tryd.prog 10 #[.pointer (some ⟨b, 0, none⟩)] X.1 fun e w'' => e = .returned x ∧ ∃ y : After wr b, w'' = y.1) := by
          intro X
          refine (unwrap_some b x X.1 (q2 X)).mono ?_
          rintro e w' ⟨rfl, h⟩
          exact ⟨rfl, X, h.symm⟩
        have HCD : Hid (∀ X : After wr b, Calls Tryd.prog 9 #[x] X.1 fun e w'' => e = .returned (.int .i64 c) ∧ ∃ y : After wr b, w'' = y.1) := by
          intro X
          refine (code_num c r' x X.1 ((HY.out.later HW.out).later X.2.1) (HXR.out.later X.2.1)).mono ?_
          rintro e w' ⟨rfl, hb⟩
          exact ⟨rfl, ⟨w', X.2.1.trans (hb.mono X.2.1.size), by rw [hb.cell (p := ⟨wr.heap.size, 0, none⟩) (lt_of_cell X.2.2)]; exact X.2.2⟩, rfl⟩
        clear hv hX0 has hxr cb0 cb1 cb2 cl0 cl1
        go_wp2_with fail
        refine wp_region_any (by kernel_rfl) ?_
        refine wpAny_take (i := 0) (v := ?_) rfl (by kernel_rfl) (by kernel_rfl) (by kernel_rfl) (fun _ _ _ h => h) (Or.inl ⟨by rfl, ?_⟩) ?_
        rotate_left
        · intro w; go_simp; first | done | rfl
        simp only [Act.put, List.setIfInBounds_toArray]
        refine wpAny_take (i := 1) (v := ?_) rfl (by kernel_rfl) (by kernel_rfl) (by kernel_rfl) (fun _ _ _ h => h) (Or.inl ⟨by rfl, ?_⟩) ?_
        rotate_left
        · intro w; go_simp; first | done | rfl
        simp only [Act.put]
        refine wpAny_take (i := 3) (v := ?_) rfl (by kernel_rfl) (by kernel_rfl) (by kernel_rfl) (fun _ _ _ h => h) (Or.inl ⟨by rfl, ?_⟩) ?_
        rotate_left
        · intro w; go_simp; first | done | rfl
        simp only [Act.put]
        refine wpAny_take (i := 4) (v := ?_) rfl (by kernel_rfl) (by kernel_rfl) (by kernel_rfl) (fun _ _ _ h => h) (Or.inl ⟨by rfl, ?_⟩) ?_
        rotate_left
        · intro w; go_simp; first | done | rfl
        simp only [Act.put]
        refine wpAny_take (i := 5) (v := ?_) rfl (by kernel_rfl) (by kernel_rfl) (by kernel_rfl) (fun _ _ _ h => h) (Or.inl ⟨by rfl, ?_⟩) ?_
        rotate_left
        · intro w; go_simp; first | done | rfl
        simp only [Act.put]
        refine wpAny_ready (rs := [2]) (by kernel_rfl) (by simp) ?_
        refine AllReady.cons rfl (fun K hK => ?_) AllReady.nil
        go_simp
        refine (HAS.out _ ?_ ?_ ?_).mono ?_
        · exact HBA.out.drew
        · exact HT1.out
        · exact HF1.out
        rintro e w2 ⟨rfl, hfc, hb2⟩
        have hne : Nonempty (After wr b) := ⟨⟨w2, hb2, hfc⟩⟩
        refine hK _ _ ?_
        clear hK K
        try simp only [Act.put, List.setIfInBounds_toArray, List.set_cons_zero, List.set_cons_succ]
        refine rest_class (fun w' => ∃ x : After wr b, w' = x.1) 6 (by kernel_rfl) rfl (by kernel_rfl) ⟨⟨w2, hb2, hfc⟩, rfl⟩ ?_
        clear hfc hb2
        simp only [List.drop_succ_cons, List.drop_zero]
        repeat (go_big_quiet_step ((first | (go_at_call 10; exact HU.out _) | (go_at_call 9; exact HCD.out _))))
        refine wpQuiet_nil ?_
        rintro w2 ⟨⟨W2, hW2, _⟩, rfl⟩
        have HC2 := Lib.hid (HC.out.later hW2)
        have HW2 := Lib.hid (HW.out.trans (hW2.mono HW.out.size))
        have mF := Tryd.methodErrorF
        have nF := Tryd.nilAheadErrorF
        clear hW2 hne HAS HU HCD q0 q1 q2 q3 q4 q5 hbb hbk
        -- the law's last line
        go_wp2_with fail
        refine (code_num c ((b, s, q) :: r') _ _ (HY.out.later HW2.out) HC2.out).mono ?_
        rintro e w3 ⟨rfl, hb⟩
        have HC3 := Lib.hid (HC2.out.later hb)
        have HW3 := Lib.hid (HW2.out.trans (hb.mono HW2.out.size))
        clear hb
        go_wp2_with fail
        refine (path_any _ (errText c).data.toList ((b, s, q) :: r') _ (by have := HRL.out; omega) (Or.inr ⟨c, rfl, rfl⟩) HSR.out _ HC3.out (HT.out.later HW3.out) (HY.out.later HW3.out)).mono ?_
        rintro e w4 ⟨rfl, hb⟩
        have HC4 := Lib.hid (HC3.out.later hb)
        have HW4 := Lib.hid (HW3.out.trans (hb.mono HW3.out.size))
        clear hb
        rw [HAL.out.path]
        go_wp2_with fail
        refine (refPath_any _ cap L _ (by omega) HSL.out (HS.out.later HW4.out)).mono ?_
        rintro e w5 ⟨rfl, k5, hk5⟩
        have hb5 : Below w4.heap.size w4 w5 := by rw [hk5]; exact ⟨rfl, rfl, rfl, Nat.le_refl _, fun _ _ => rfl⟩
        have HC5 := Lib.hid (HC4.out.later hb5)
        have HW5 := Lib.hid (HW4.out.trans (hb5.mono HW4.out.size))
        clear hb5 hk5
        generalize (⟨(pathB L).toArray⟩ : ByteArray) = PB
        go_wp2_with fail
        refine (error_any _ (errText c).data.toList ((b, s, q) :: r') (by have := HRL.out; omega) (Or.inr ⟨c, rfl, rfl⟩) HSR.out _ (fun _ => HC5.out) (HT.out.later HW5.out)).mono ?_
        rintro e w6 ⟨rfl, hb⟩
        have HC6 := Lib.hid (HC5.out.later hb)
        have HW6 := Lib.hid (HW5.out.trans (hb.mono HW5.out.size))
        clear hb
        rw [show restL ((b, s, q) :: r') (errText c).data.toList = wordsL L (errText c).data.toList from HAL.out.words _]
        go_wp2_with fail
        refine (errText_is c _).mono ?_
        rintro e w' ⟨rfl, rfl⟩
        go_wp2_with fail
        refine (words_any _ cap L (errText c) _ (by omega) HSL.out (by have := errText_len c; omega) (HS.out.later HW6.out)).mono ?_
        rintro e w7 ⟨rfl, k7, hk7⟩
        have hb7 : Below w6.heap.size w6 w7 := by rw [hk7]; exact ⟨rfl, rfl, rfl, Nat.le_refl _, fun _ _ => rfl⟩
        have HC7 := Lib.hid (HC6.out.later hb7)
        have HW7 := Lib.hid (HW6.out.trans (hb7.mono HW6.out.size))
        clear hb7 hk7

        generalize (⟨(wordsL L (errText c).data.toList).toArray⟩ : ByteArray) = WB
        go_wp2_with fail
        refine (is15E c c ((b, s, q) :: r') _ _ HC7.out).mono ?_
        rintro e w' ⟨rfl, rfl⟩
        rw [show (c == c) = true by simp]
        go_wp2_with fail
        refine (is15E c d ((b, s, q) :: r') _ _ HC7.out).mono ?_
        rintro e w' ⟨rfl, rfl⟩
        generalize hB : (c == d) = B
        have HB := Lib.hid hB
        go_wp2_with fail
        refine (is_row (numIs c) _ [d] w7 (by simp) (fun z => isNumber_num c z ((b, s, q) :: r') _ _ (HC7.out.later (below_alloc _ _)))).mono ?_
        rintro e w8 ⟨rfl, hw8⟩
        have hb8 : Below w7.heap.size w7 w8 := by rw [← hw8]; exact below_alloc _ _
        have HC8 := Lib.hid (HC7.out.later hb8)
        have HW8 := Lib.hid (HW7.out.trans (hb8.mono HW7.out.size))
        clear hb8 hw8
        rw [show [d].any (numIs c) = B by rw [← HB.out]; simp [numIs]; omega]
        go_wp2_with fail
        refine (is_row (numIs c) _ [d, c, 0] w8 (by simp) (fun z => isNumber_num c z ((b, s, q) :: r') _ _ (HC8.out.later (below_alloc _ _)))).mono ?_
        rintro e w9 ⟨rfl, hw9⟩
        have hb9 : Below w8.heap.size w8 w9 := by rw [← hw9]; exact below_alloc _ _
        have HC9 := Lib.hid (HC8.out.later hb9)
        have HW9 := Lib.hid (HW8.out.trans (hb9.mono HW8.out.size))
        clear hb9 hw9
        rw [show [d, c, 0].any (numIs c) = true by simp [numIs]; omega]
        go_wp2_with fail
        refine (is_row (numIs c) _ [0] w9 (by simp) (fun z => isNumber_num c z ((b, s, q) :: r') _ _ (HC9.out.later (below_alloc _ _)))).mono ?_
        rintro e w10 ⟨rfl, hw10⟩
        have hb10 : Below w9.heap.size w9 w10 := by rw [← hw10]; exact below_alloc _ _
        have HW10 := Lib.hid (HW9.out.trans (hb10.mono HW9.out.size))
        clear hb10 hw10
        rw [show [0].any (numIs c) = false by simp [numIs]]
        go_wp2_with fail
        refine (is_empty _ _).mono ?_
        rintro e w' ⟨rfl, rfl⟩
        go_wp2
        go_ret
        exact ⟨rfl, HW10.out⟩
    · obtain ⟨i, rfl⟩ : ∃ i, j = i + 1 := ⟨j - 1, by omega⟩
      have hil : i < L.length := by omega
      obtain ⟨x, hx⟩ : ∃ x, L[i]? = some x := ⟨L[i], List.getElem?_eq_getElem hil⟩
      obtain ⟨bk, off, rfl, c0, c1⟩ := (HS.out.later HW.out) i x hx
      have hx2 := HR.out _ (List.mem_of_getElem? hx)
      have hx3 := HZ.out _ (List.mem_of_getElem? hx)
      have hdr : L.drop i = x :: L.drop (i + 1) := by
        have hg : L[i] = x := by have := List.getElem?_eq_getElem hil; rw [this] at hx; exact Option.some.inj hx
        rw [← hg, List.getElem_cons_drop]
      have HD := Lib.hid hdr
      clear hdr hx
      obtain ⟨b, s, q⟩ := x
      simp only [] at c0 c1 hx2 hx3
      have e1 : (((i + 1 : Nat) : Int) - 1) = (i : Int) := by omega
      rw [e1]
      clear e1 h0
      have hii : (i : Int) < (L.length : Int) := by omega
      have hbl := block_lt c0
      by_cases hbig : 100 < s.size
      · go_wp2_with fail
        go_ret
        exact ⟨rfl, HW.out⟩
      · have hsb : decide ((100 : Int) < (s.size : Int)) = false := decide_eq_false (by omega)
        go_wp2_with fail
        go_region_held3 (fun w' => w'.cell? ⟨bk, off + i * 2, none⟩ = some (.string s) ∧ w'.cell? ⟨bk, off + i * 2 + 1, none⟩ = some (.int .i64 q)) (go_keep)
          (first | (go_at_call 7; refine (at_some _ _ _ _ _).mono ?_; rintro e w' ⟨rfl, hw'⟩; have HWW := Lib.hid hw'; have c0' : w'.cell? ⟨bk, off + i * 2, none⟩ = some (.string s) := (by rw [← hw']; exact cell_alloc _ c0); have c1' : w'.cell? ⟨bk, off + i * 2 + 1, none⟩ = some (.int .i64 q) := (by rw [← hw']; exact cell_alloc _ c1); clear hw'))
        go_wp2_with fail
        have hbn : Below wr.heap.size wr w' := by
          rw [← HWW.out]; exact ((Below.refl _ wr).drew).alloc (Nat.le_refl _) _
        go_roundg (i + 1)
        case measure => rw [HK.out]; omega
        case rel =>
          refine ⟨i, (wr.heap.size, s, q) :: r, rfl, by omega, rfl, ?_, ?_, ?_, HW.out.trans (hbn.mono HW.out.size)⟩
          · show ((wr.heap.size, s, q) :: r).map (·.2) = (L.drop i).map (·.2)
            rw [HD.out, List.map_cons, List.map_cons]
            exact congrArg _ HA.out
          · intro x hx
            rw [HD.out] at hx
            rcases List.mem_cons.1 hx with rfl | h
            · show s.size ≤ 100; omega
            · exact HM.out x h
          · refine ⟨rfl, ?_, ?_, .iface T y, ?_, HC.out.later hbn⟩
            all_goals (rw [← HWW.out]; exact Lib.cell_of_heap (heap_new wr.drew _ _) _)
end Go.Proofs.YtjafmnhnemdedaaDoor
