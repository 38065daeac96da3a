-- M30
import Derived.Test.YtnfjmmkokhncoaaGreatSrp
import Derived.Test.YtnfjmmkokhncoaaGreatM29
import Derived.Test.YtnfjmmkokhncoaaGreatM16
import Derived.Test.YtnfjmmkokhncoaaGreatM12
import Derived.Test.YtnfjmmkokhncoaaGreatM07
import Derived.Laws.AppendOwnNone
section
namespace Go.Proofs.YtnfjmmkokhncoaaGreat

theorem lexZ_trans {a b c : Int × Int} (h : lexZ a b) (h' : lexZ b c) : lexZ a c := by unfold lexZ at *; omega
theorem lexZ_not {a b : Int × Int} (h : lexZ a b) : ¬ lexZ b a := by unfold lexZ at *; omega
theorem lexZ_ne {a b : Int × Int} (h : ¬ lexZ a b) (hne : a ≠ b) : lexZ b a := by
  have : a.1 ≠ b.1 ∨ a.2 ≠ b.2 := by
    by_cases e1 : a.1 = b.1
    · exact Or.inr (fun e2 => hne (Prod.ext e1 e2))
    · exact Or.inl e1
  unfold lexZ at *; omega
/-- One more in its place. -/
theorem ins_strict {out : List (Int × Int)} {c : Int × Int} {k : Nat} (hk : k ≤ out.length) (hs : out.Pairwise lexZ) (hlow : ∀ j d, j + 1 = k → out[j]? = some d → lexZ d c) (hhi : ∀ j d, k ≤ j → out[j]? = some d → lexZ c d) : (out.take k ++ c :: out.drop k).Pairwise lexZ := by
  rw [List.pairwise_append]
  refine ⟨hs.sublist (List.take_sublist k out), ?_, fun x hx y hy => ?_⟩
  · rw [List.pairwise_cons]
    refine ⟨fun y hy => ?_, hs.sublist (List.drop_sublist k out)⟩
    obtain ⟨i, hi, rfl⟩ := List.mem_iff_getElem.1 hy
    rw [List.getElem_drop]
    exact hhi (k + i) _ (by omega) (List.getElem?_eq_getElem _)
  · have hxc : lexZ x c := by
      obtain ⟨i, hi, rfl⟩ := List.mem_iff_getElem.1 hx
      rw [List.getElem_take]
      rw [List.length_take] at hi
      obtain ⟨m, rfl⟩ : ∃ m, k = m + 1 := ⟨k - 1, by omega⟩
      have hm : m < out.length := by omega
      have hl := hlow m _ rfl (List.getElem?_eq_getElem hm)
      by_cases e : i = m
      · subst e; exact hl
      · exact lexZ_trans (List.pairwise_iff_getElem.1 hs i m (by omega) hm (by omega)) hl
    rcases List.mem_cons.1 hy with rfl | hy
    · exact hxc
    · obtain ⟨i, hi, rfl⟩ := List.mem_iff_getElem.1 hy
      rw [List.getElem_drop]
      exact lexZ_trans hxc (hhi (k + i) _ (by omega) (List.getElem?_eq_getElem _))
/-- Points sorted, each once: they rise. -/
theorem sortZ_strict {l : List (Int × Int)} (h : l.Nodup) : (sortZ l).Pairwise lexZ := by
  have h1 := sortZ_sorted l
  have h2 : (sortZ l).Nodup := (List.mergeSort_perm l leZ).nodup_iff.2 h
  exact (h1.and h2).imp fun h => lexZ_ne h.1 (fun e => h.2 e.symm)
theorem sortZ_len (l : List (Int × Int)) : (sortZ l).length = l.length := (List.mergeSort_perm l leZ).length_eq
/-- What is wanted is what is got. -/
theorem want_got {out got : List (Int × Int)} {f : Int × Int → Bool} (h : out.Pairwise lexZ) (hg : got.Nodup) (hm : ∀ c, c ∈ got ↔ c ∈ out ∧ f c = true) : out.filter f = sortZ got :=
  strict_ext (fun _ _ => lexZ_not) _ _ (h.filter f) (sortZ_strict hg) fun x => by rw [List.mem_filter, sortZ_mem, hm]
end Go.Proofs.YtnfjmmkokhncoaaGreat
end

section
namespace Go.Proofs.YtnfjmmkokhncoaaGreat
open Go.RowKit Go.Maps
set_option maxRecDepth 100000

/-- append(own, row of points...), the row nil or not. -/
theorem wpList_append_pts {P : Program} {w : World} {ops : Array Oper} {rest : List Oper} {o : Oper} {a : Act} {Q : Exit → Act → World → Prop} (hgd : o.guard = none) (s x : Operand) (t : TypeId)
    (ho : o.op = .call { callee := .builtin .append, args := #[s, x], argTypes := #[t, t] })
    (base : Nat) (e : TypeId) (i : TypeInfo) (z : Value) (bytes : Nat) (ht : P.underlying t = some (.slice e)) (hi : P.info? e = some i) (hz : i.zero = some z)
    (hsize : i.size = 2) (hby : i.bytes = bytes) (hzs : z.cells.size = 2)
    (v : Value) (n : Nat) (xs : List Value) (hs : a.eval s = v) (hown : w.ownsRow base e 2 v n xs)
    (A : Option Addr) (m c : Nat) (zs : List (Int × Int)) (hx : a.eval x = .slice A m c) (hm : zs.length = m) (hA : A = none → c = 0) (hrow : Rk8 w A zs)
    (h63 : n + m ≤ maxLen) (hbytes : (n + m) * bytes ≤ 140737488355328) (hbase : base ≤ w.heap.size)
    (h : ∀ v' w', w'.ownsRow base e 2 v' (n + m) (xs ++ ptVs zs) → w.grownBy w' v.ownBlock → (v'.ownBlock = v.ownBlock ∨ v'.ownBlock = some w.heap.size) → wpList P ops Q rest (a.put o.dst v') w') : wpList P ops Q (o :: rest) a w := by
  match A, hA, hrow, hx with
  | none, hA, hrow, hx =>
    obtain rfl : zs = [] := by
      match zs, hrow with
      | [], _ => rfl
      | z :: r, h => obtain ⟨_, _, h, _⟩ := h 0 z rfl; cases h
    obtain rfl : 0 = m := hm
    obtain rfl := hA rfl
    refine wpList_append_own_none hgd s x t ho base e i 2 ht hi v n xs hs hown hx (h v w ?_ ⟨rfl, rfl, rfl, Nat.le_refl _, fun _ _ _ => rfl⟩ (Or.inl rfl))
    simpa [ptVs] using hown
  | some ad, _, hrow, hx =>
    refine wpList_append_own_at (w := w) hgd s x t ho base e i z 2 bytes ht hi hz hsize hby hzs (by decide) v n xs hs hown ad m c (ptVs zs) hx (by rw [ptVs_len, hm]) (fun j u hu => ?_) (fun u hu => ?_) h63 hbytes hbase (fun v' w' h1 h2 _ h4 => h v' w' h1 h2 h4)
    · obtain ⟨e1, e2⟩ := ptVs_at zs (j / 2)
      have hj := (List.getElem?_eq_some_iff.1 hu).1
      rw [ptVs_len] at hj
      obtain ⟨bk, off, e, h1, h2⟩ := hrow (j / 2) _ (List.getElem?_eq_getElem (show j / 2 < zs.length by omega))
      obtain rfl := Option.some.inj e
      rw [List.getElem?_eq_getElem (show j / 2 < zs.length by omega)] at e1 e2
      rw [add_at]
      by_cases hp : j % 2 = 0
      · rw [show j / 2 * 2 = j by omega] at e1 h1
        rw [e1] at hu
        rw [h1]; exact hu
      · rw [show j / 2 * 2 + 1 = j by omega] at e2
        rw [show off + j / 2 * 2 + 1 = off + j by omega] at h2
        rw [e2] at hu
        rw [h2]; exact hu
    · unfold ptVs at hu
      obtain ⟨c, _, hc⟩ := List.mem_flatMap.1 hu
      simp at hc
      rcases hc with rfl | rfl <;> rfl
theorem owp_keepS {w w' : World} {B : Nat} {v : Value} {l : List (Int × Int)} (h : OwP w B v l) (hk : ∀ b, v.ownBlock = some b → w'.heap[b]? = w.heap[b]?) : OwP w' B v l := by
  refine ⟨h.1, ?_⟩
  rcases h.2 with hn | ⟨g, cp, cur, hv, hB, hg, r⟩
  · exact Or.inl hn
  · exact Or.inr ⟨g, cp, cur, hv, hB, by rw [hk g (by rw [hv]; rfl)]; exact hg, r⟩
theorem owp_laterS {w w' : World} {B : Nat} {v : Value} {l : List (Int × Int)} (h : OwP w B v l) (hb : Below w.heap.size w w') : OwP w' B v l := owp_keepS h fun b hv => hb.block b (World.ownsRow.lt h b hv).2
/-- out[:k]. -/
theorem own_cut_lo {w : World} {B : Nat} {v : Value} {l : List (Int × Int)} (h : OwP w B v l) (k : Nat) (hk : k ≤ l.length) : ∃ A c, (∀ W : World, (Instr.slice 35 v none (some (.int .i64 (k : Int))) none).run Tryz.prog W = .ok (.slice A k c) W) ∧ Rk8 w A (l.take k) ∧ (A = none → c = 0) := by
  rcases h.2 with ⟨hv, hn0⟩ | ⟨g, cp, cur, hv, hB, hg, h1, h2, _, _⟩
  · obtain rfl : l = [] := List.eq_nil_of_length_eq_zero hn0
    obtain rfl : k = 0 := by simpa using hk
    subst hv
    refine ⟨none, 0, fun W => ?_, by rw [List.take_nil]; exact Rk8.nil _ _, fun _ => rfl⟩
    rw [run_slice_h (P := Tryz.prog) (w := W) 35 _ _ _ Tryz.underlying35 .i64 (((0 : Nat) : Int)) (by omega) (by omega), show Tryz.prog.elem 35 = 45 by kernel_rfl]
    simp [Result.andThen, sliced]
  · subst hv
    refine ⟨some ⟨g, 0, none⟩, cp, fun W => ?_, fun j c hc => ?_, fun e => by cases e⟩
    · rw [run_slice_h (P := Tryz.prog) (w := W) 35 _ _ _ Tryz.underlying35 .i64 (k : Int) (by omega) (by omega), show Tryz.prog.elem 35 = 45 by kernel_rfl]
      simp [Result.andThen, sliced, add_at]
    · have hj := (List.getElem?_eq_some_iff.1 hc).1
      rw [List.length_take] at hj
      rw [List.getElem?_take_of_lt (by omega)] at hc
      obtain ⟨e1, e2⟩ := ptVs_at l j
      rw [hc] at e1 e2
      exact ⟨g, 0, rfl, by rw [Nat.zero_add, World.ownsRow.cellAt h (j * 2) (by omega)]; exact e1, by rw [Nat.zero_add, World.ownsRow.cellAt h (j * 2 + 1) (by omega)]; exact e2⟩
/-- out[k:]. -/
theorem own_cut_hi {w : World} {B : Nat} {v : Value} {l : List (Int × Int)} (h : OwP w B v l) (k : Nat) (hk : k ≤ l.length) : ∃ A c, (∀ W : World, (Instr.slice 35 v (some (.int .i64 (k : Int))) none none).run Tryz.prog W = .ok (.slice A (l.length - k) c) W) ∧ Rk8 w A (l.drop k) ∧ (A = none → c = 0) := by
  rcases h.2 with ⟨hv, hn0⟩ | ⟨g, cp, cur, hv, hB, hg, h1, h2, _, _⟩
  · obtain rfl : l = [] := List.eq_nil_of_length_eq_zero hn0
    obtain rfl : k = 0 := by simpa using hk
    subst hv
    refine ⟨none, 0, fun W => ?_, by rw [List.drop_nil]; exact Rk8.nil _ _, fun _ => rfl⟩
    rw [run_slice_l (P := Tryz.prog) (w := W) 35 _ _ _ Tryz.underlying35 .i64 (((0 : Nat) : Int)) (by omega) (by omega), show Tryz.prog.elem 35 = 45 by kernel_rfl]
    simp [Result.andThen, sliced]
  · subst hv
    refine ⟨if cp = k then some ⟨g, 0, none⟩ else some ⟨g, k * 2, none⟩, cp - k, fun W => ?_, fun j c hc => ?_, fun e => by split at e <;> cases e⟩
    · rw [run_slice_l (P := Tryz.prog) (w := W) 35 _ _ _ Tryz.underlying35 .i64 (k : Int) (by omega) (by omega), show Tryz.prog.elem 35 = 45 by kernel_rfl, Tryz.sizeOf45]
      simp [Result.andThen, sliced, add_at]
    · have hj := (List.getElem?_eq_some_iff.1 hc).1
      rw [List.length_drop] at hj
      rw [List.getElem?_drop] at hc
      obtain ⟨e1, e2⟩ := ptVs_at l (k + j)
      rw [hc] at e1 e2
      rw [if_neg (by omega)]
      refine ⟨g, k * 2, rfl, ?_, ?_⟩
      · rw [show k * 2 + j * 2 = (k + j) * 2 by omega, World.ownsRow.cellAt h ((k + j) * 2) (by omega)]; exact e1
      · rw [show k * 2 + j * 2 + 1 = (k + j) * 2 + 1 by omega, World.ownsRow.cellAt h ((k + j) * 2 + 1) (by omega)]; exact e2
/-- The order of the document. -/
def ltB (a b : Int × Int) : Bool := decide (a.2 < b.2) || (decide (a.2 = b.2) && decide (a.1 < b.1))
theorem ltB_iff {a b : Int × Int} : ltB a b = true ↔ lexZ a b := by simp [ltB, lexZ]
theorem ahead_any (a b : Int × Int) (w : World) : Calls Tryz.prog 28 #[.agg #[.int .i64 a.1, .int .i64 a.2], .agg #[.int .i64 b.1, .int .i64 b.2]] w fun e w' => e = .returned (.bool (ltB a b)) ∧ Below w.heap.size w w' := by
  have HB := Lib.hid (bel2 w (.cells #[.int .i64 a.1, .int .i64 a.2] 45) (.cells #[.int .i64 b.1, .int .i64 b.2] 45))
  obtain ⟨a1, a2⟩ := a
  obtain ⟨b1, b2⟩ := b
  simp only at *
  have HV : Hid (ltB (a1, a2) (b1, b2) = (decide (a2 < b2) || (decide (a2 = b2) && decide (a1 < b1)))) := rfl
  generalize ltB (a1, a2) (b1, b2) = v at *
  go_enter Tryz.func28, Tryz.ntmps28
  by_cases h1 : a2 < b2
  · have d1 : decide (a2 < b2) = true := decide_eq_true h1
    rw [d1] at HV
    go_wp2_with fail
    go_ret
    exact ⟨by rw [HV.out]; rfl, HB.out⟩
  · have d1 : decide (a2 < b2) = false := decide_eq_false h1
    rw [d1] at HV
    by_cases h2 : a2 = b2
    · have d2 : decide (a2 = b2) = true := decide_eq_true h2
      have d2' : (a2 == b2) = true := by simp [h2]
      rw [d2] at HV
      clear h2 d2
      by_cases h3 : a1 < b1
      · have d3 : decide (a1 < b1) = true := decide_eq_true h3
        rw [d3] at HV
        go_wp2_with fail
        go_ret
        exact ⟨by rw [HV.out]; rfl, HB.out⟩
      · have d3 : decide (a1 < b1) = false := decide_eq_false h3
        rw [d3] at HV
        go_wp2_with fail
        go_ret
        exact ⟨by rw [HV.out]; rfl, HB.out⟩
    · have d2 : decide (a2 = b2) = false := decide_eq_false h2
      have d2' : (a2 == b2) = false := by simp [h2]
      rw [d2] at HV
      go_wp2_with fail
      go_ret
      exact ⟨by rw [HV.out]; rfl, HB.out⟩
theorem ins_mem {out l : List (Int × Int)} {c : Int × Int} {j k : Nat} (h : ∀ d, d ∈ out ↔ d ∈ l.take j) (hj : l[j]? = some c) (d : Int × Int) : d ∈ out.take k ++ c :: out.drop k ↔ d ∈ l.take (j + 1) := by
  have e : d ∈ out.take k ++ c :: out.drop k ↔ d = c ∨ d ∈ out := by
    have := List.take_append_drop k out
    conv => rhs; rw [← this]
    simp only [List.mem_append, List.mem_cons]
    constructor
    · rintro (h | h | h)
      · exact Or.inr (Or.inl h)
      · exact Or.inl h
      · exact Or.inr (Or.inr h)
    · rintro (h | h | h)
      · exact Or.inr (Or.inl h)
      · exact Or.inl h
      · exact Or.inr (Or.inr h)
  rw [e, h d, List.take_add_one, hj]
  simp only [Option.toList_some, List.mem_append, List.mem_singleton]
  exact Or.comm
set_option maxHeartbeats 8000000 in
theorem sorted_any (l : List (Int × Int)) (a : Option Addr) (cap : Nat) (w : World) (h : Ro w a l) (hl : l.length ≤ 1000000) (hnd : l.Nodup) :
    Calls Tryz.prog 9 #[.slice a l.length cap] w fun e w' => ∃ (v : Value) (out : List (Int × Int)), e = .returned v ∧ OwP w' w.heap.size v out ∧ out.Pairwise lexZ ∧ (∀ c, c ∈ out ↔ c ∈ l) ∧ out.length = l.length ∧ Below w.heap.size w w' := by
  have HR := Lib.hid h
  have HND := Lib.hid hnd
  obtain ⟨i0, hi0, hz0, hz1, hz2⟩ := infoP7
  have HI := Lib.hid hi0
  have HZ0 := Lib.hid hz0
  have HZ1 := Lib.hid hz1
  have HZ2 := Lib.hid hz2
  have HAH := Lib.hid ahead_any
  clear hi0 hz0 hz1 hz2 h hnd
  go_enter Tryz.func9, Tryz.ntmps9
  go_wp2_with fail
  go_loopg [3, 4, 5, 6] l.length (fun mm v3 v4 v5 v6 wr => ∃ (j : Nat) (out : List (Int × Int)), mm = l.length - j ∧ j ≤ l.length ∧ v4 = .int .i64 (j : Int) ∧ OwP wr w.heap.size v3 out ∧ out.Pairwise lexZ ∧ (∀ c, c ∈ out ↔ c ∈ l.take j) ∧ out.length = j ∧ Below w.heap.size w wr)
  case atStart => exact ⟨0, [], rfl, Nat.zero_le _, rfl, own_nil _ _, List.Pairwise.nil, fun c => by simp, rfl, Below.refl _ _⟩
  case round =>
    obtain ⟨j, out, hm, hj, rfl, hO, hs, hmem, hlen, hB⟩ := hrel
    have HM := Lib.hid hm
    have HO := Lib.hid hO
    have HS := Lib.hid hs
    have HME := Lib.hid hmem
    have HLE := Lib.hid hlen
    have HB := Lib.hid hB
    clear hm hO hs hmem hlen hB
    by_cases hlt : j < l.length
    · obtain ⟨c, hc⟩ : ∃ c, l[j]? = some c := ⟨l[j], List.getElem?_eq_getElem hlt⟩
      have HC := Lib.hid hc
      obtain ⟨bk, ha, l1, l2⟩ := (HR.out.later HB.out) j c hc
      subst ha
      have hgj : decide ((j : Int) < (l.length : Int)) = true := by simp; omega
      have i1 : (0 : Int) ≤ (j : Int) := by omega
      have i2 : (j : Int) < (l.length : Int) := by omega
      obtain ⟨ao, co, hv, hro, hob⟩ := HO.out.ro
      subst hv
      have HRO := Lib.hid hro
      rw [HLE.out] at HO ⊢
      clear hro hob hc
      have hno : c ∉ out := fun hin => by
        have h1 := (HME.out c).1 hin
        obtain ⟨i, hi, he⟩ := List.mem_iff_getElem.1 h1
        rw [List.getElem_take] at he
        rw [List.length_take] at hi
        have h2 := List.pairwise_iff_getElem.1 HND.out i j (by omega) hlt (by omega)
        rw [List.getElem?_eq_getElem hlt] at HC
        exact h2 (he.trans (Option.some.inj HC.out).symm)
      have HNO := Lib.hid hno
      clear hno
      go_wp2_with fail
      generalize hwo : wr = wo at *
      clear hwo
      go_loopg [5] j (fun mm v5 wi => ∃ k : Nat, mm = k ∧ k ≤ j ∧ v5 = .int .i64 (k : Int) ∧ (∀ i d, k ≤ i → out[i]? = some d → lexZ c d) ∧ Below wo.heap.size wo wi)
      case atStart => exact ⟨j, rfl, Nat.le_refl _, rfl, fun i d hi hd => by have := (List.getElem?_eq_some_iff.1 hd).1; have := HLE.out; omega, Below.refl _ _⟩
      case round =>
        obtain ⟨k, hmk, hk, rfl, hhi, hBi⟩ := hrel
        have HMK := Lib.hid hmk
        have HHI := Lib.hid hhi
        have HBI := Lib.hid hBi
        clear hmk hhi hBi
        clear l1 l2
        obtain ⟨bk', e', l1, l2⟩ := (HR.out.later (HB.out.trans (HBI.out.mono HB.out.size))) j c HC.out
        cases e'
        go_upto_region 6 with fail
        go_cut [28] from 15 to 29 (fun v28 wx => ∃ b : Bool, v28 = .bool b ∧ (b = true → 0 < k ∧ ∀ d, out[k - 1]? = some d → lexZ c d) ∧ (b = false → ∀ i d, i + 1 = k → out[i]? = some d → lexZ d c) ∧ Below wr.heap.size wr wx)
        case first =>
          have hne := Up.me wr
          by_cases hk0 : 0 < k
          · obtain ⟨d, hd⟩ : ∃ d, out[k - 1]? = some d := ⟨out[k - 1]'(by have := HLE.out; omega), List.getElem?_eq_getElem _⟩
            obtain ⟨bo, rfl, o1, o2⟩ := (HRO.out.later HBI.out) (k - 1) d hd
            have q0 := fun z : Up wr => Up.cell l1 z
            have q1 := fun z : Up wr => Up.cell l2 z
            have q2 := fun z : Up wr => Up.cell o1 z
            have q3 := fun z : Up wr => Up.cell o2 z
            have HS1 := Lib.hid (fun z : Up wr => Up.calls (fun W _ => HAH.out c d W) z)
            have hgk : decide ((0 : Int) < (k : Int)) = true := by simp; omega
            have hgk' : decide ((k : Int) > 0) = true := by simp; omega
            have hk1 : wrap64 ((k : Int) - 1) = ((k - 1 : Nat) : Int) := by rw [IntWalk.wrap64_in _ (by omega)]; omega
            have hk2 : IntKind.i64.wrap ((k : Int) - 1) = ((k - 1 : Nat) : Int) := by rw [IntWalk.i64_in _ (by omega)]; omega
            have i3 : (0 : Int) ≤ ((k - 1 : Nat) : Int) := by omega
            have i4 : ((k - 1 : Nat) : Int) < (j : Int) := by omega
            refine region_up (by kernel_rfl) (by kernel_rfl) ?_
            repeat (go_big_quiet_step ((go_at_call 28; with_reducible exact HS1.out _)))
            refine wpQuiet_nil ?_
            rintro w2 ⟨⟨W2, hW2⟩, rfl⟩
            have hrel : (ltB c d = true → 0 < k ∧ ∀ d', out[k - 1]? = some d' → lexZ c d') ∧ (ltB c d = false → ∀ i d', i + 1 = k → out[i]? = some d' → lexZ d' c) := by
              refine ⟨fun hb => ⟨hk0, fun d' hd' => ?_⟩, fun hb i d' hi hd' => ?_⟩
              · rw [hd] at hd'
                obtain rfl := Option.some.inj hd'
                exact ltB_iff.1 hb
              · rw [show i = k - 1 by omega, hd] at hd'
                obtain rfl := Option.some.inj hd'
                refine lexZ_ne (fun h => by rw [ltB_iff.2 h] at hb; cases hb) (fun e => ?_)
                exact HNO.out (e ▸ List.mem_of_getElem? hd)
            go_wp2_with fail
            go_meet
            exact ⟨_, rfl, hrel.1, hrel.2, hW2⟩
          · obtain rfl : k = 0 := by omega
            have hgk : decide ((((0 : Nat) : Int)) > 0) = false := by simp
            have hgk' : decide ((0 : Int) < ((0 : Nat) : Int)) = false := by simp
            refine region_up (by kernel_rfl) (by kernel_rfl) ?_
            repeat (go_big_quiet_step (fail))
            refine wpQuiet_nil ?_
            rintro w2 ⟨⟨W2, hW2⟩, rfl⟩
            go_wp2_with fail
            go_meet
            exact ⟨false, rfl, fun h => (by cases h), fun _ i d' hi _ => (by omega), hW2⟩
        case rest =>
          obtain ⟨b, rfl, hbt, hbf, hBx⟩ := hcut
          cases b with
          | true =>
            obtain ⟨hk0, hlt2⟩ := hbt rfl
            have hk1 : wrap64 ((k : Int) - 1) = ((k - 1 : Nat) : Int) := by rw [IntWalk.wrap64_in _ (by omega)]; omega
            have hk2 : IntKind.i64.wrap ((k : Int) - 1) = ((k - 1 : Nat) : Int) := by rw [IntWalk.i64_in _ (by omega)]; omega
            go_wp2_with fail
            go_roundg (k - 1)
            case measure => rw [HMK.out]; omega
            case rel =>
              refine ⟨k - 1, rfl, by omega, rfl, fun i d hi hd => ?_, HBI.out.trans (hBx.mono HBI.out.size)⟩
              by_cases e : i = k - 1
              · subst e; exact hlt2 d hd
              · exact HHI.out i d (by omega) hd
          | false =>
            have HLOW := Lib.hid (hbf rfl)
            have HBX := Lib.hid (HBI.out.trans (hBx.mono HBI.out.size))
            clear hbt hbf hBx HBI l1 l2 HMK
            obtain ⟨A1, c1, hcut1, hrow1, hA1⟩ := own_cut_lo (owp_laterS HO.out HBX.out) k (by have := HLE.out; omega)
            have HR1 := Lib.hid hrow1
            have HA1 := Lib.hid hA1
            clear hrow1 hA1
            have hsz := HB.out.size
            have hsx := HBX.out.size
            go_upto_region 8 with fail
            have hw0 : (wc.alloc (.cells #[] 45)).ownsRow wc.heap.size 45 2 (.slice (some ⟨wc.heap.size, 0, none⟩) 0 0) 0 [] := ⟨rfl, Or.inr ⟨wc.heap.size, 0, #[], rfl, Nat.le_refl _, heap_alloc_new wc _, Nat.le_refl _, Nat.zero_le _, rfl, rfl⟩⟩
            have HW0 := Lib.hid hw0
            clear hw0
            go_upto_region 9 with (at_builtin; refine wpList_append_pts rfl _ _ 35 rfl wc.heap.size 45 i0 (.agg #[.int .i64 0, .int .i64 0]) 16 Tryz.underlying35 HI.out HZ0.out HZ1.out HZ2.out rfl _ 0 [] rfl HW0.out A1 k c1 (out.take k) rfl ?_ HA1.out ?_ ?_ ?_ ?_ ?_; (rw [List.length_take]; have := HLE.out; omega); (exact HR1.out.later (bel1 _ _)); (unfold maxLen; omega); (omega); (simp); intro v1 w1 hown1 hgrow1 _; have HG1 := Lib.hid hgrow1; have HO1 := Lib.hid hown1; clear hgrow1 hown1)
            have HB1 : Hid (Below wc.heap.size wc w1) := ((Below.refl _ wc).alloc (Nat.le_refl _) _).grown HG1.out (by simp) (fun b hb => (World.ownsRow.lt HW0.out b hb).1)
            clear HG1 HW0 HR1 HA1 hcut1
            obtain ⟨bk2, e2, l1, l2⟩ := (HR.out.later ((HB.out.trans (HBX.out.mono HB.out.size)).trans (HB1.out.mono (Nat.le_trans hsz hsx)))) j c HC.out
            cases e2
            have hs1 := HB1.out.size
            go_upto_region 10 with (at_builtin; refine wpList_append_own _ rfl _ _ 35 rfl wc.heap.size 45 i0 (.agg #[.int .i64 0, .int .i64 0]) 2 16 Tryz.underlying35 HI.out HZ0.out HZ1.out HZ2.out rfl (by decide) _ _ _ rfl (World.ownsRow.alloc HO1.out _) ⟨w1.heap.size, 0, none⟩ 1 1 [.int .i64 c.1, .int .i64 c.2] rfl rfl ?_ ?_ ?_ ?_ ?_ ?_; (exact cell_pair _ _ _ _); (intro u hu; simp at hu; rcases hu with rfl | rfl <;> rfl); (unfold maxLen; omega); (omega); (simp; omega); intro v2 w2 hown2 hgrow2 _; have HG2 := Lib.hid hgrow2; have HO2 := Lib.hid hown2; clear hgrow2 hown2)
            have HB2 : Hid (Below wc.heap.size wc w2) := (HB1.out.alloc HB1.out.size _).grown HG2.out (by simp; omega) (fun b hb => (World.ownsRow.lt HO1.out b hb).1)
            clear HG2 HO1 HB1 l1 l2
            obtain ⟨A3, c3, hcut3, hrow3, hA3⟩ := own_cut_hi (owp_laterS (owp_laterS HO.out HBX.out) (HB2.out.mono (by omega))) k (by have := HLE.out; omega)
            rw [HLE.out] at hcut3
            have HR3 := Lib.hid hrow3
            have HA3 := Lib.hid hA3
            clear hrow3 hA3
            have hs2 := HB2.out.size
            go_wp2_with (at_builtin; refine wpList_append_pts rfl _ _ 35 rfl wc.heap.size 45 i0 (.agg #[.int .i64 0, .int .i64 0]) 16 Tryz.underlying35 HI.out HZ0.out HZ1.out HZ2.out rfl _ (0 + k + 1) _ rfl HO2.out A3 (j - k) c3 (out.drop k) rfl ?_ HA3.out HR3.out ?_ ?_ ?_ ?_; (rw [List.length_drop, HLE.out]); (unfold maxLen; omega); (omega); (omega); intro v3 w3 hown3 hgrow3 _; have HG3 := Lib.hid hgrow3; have HO3 := Lib.hid hown3; clear hgrow3 hown3)
            have HB3 : Hid (Below wc.heap.size wc w3) := HB2.out.grown HG3.out hs2 (fun b hb => (World.ownsRow.lt HO2.out b hb).1)
            have hfin : OwP w3 w.heap.size v3 (out.take k ++ c :: out.drop k) := by
              refine OwP.mono (B := wc.heap.size) ?_ (by omega)
              have h3 := HO3.out
              have e1 : (out.take k ++ c :: out.drop k).length = 0 + k + 1 + (j - k) := by
                rw [List.length_append, List.length_cons, List.length_take, List.length_drop, HLE.out]; omega
              have e2 : ptVs (out.take k ++ c :: out.drop k) = [] ++ ptVs (out.take k) ++ [.int .i64 c.1, .int .i64 c.2] ++ ptVs (out.drop k) := by
                simp [ptVs]
              unfold OwP
              rw [e1, e2]
              exact h3
            have HFI := Lib.hid hfin
            clear hfin HG3 HO3
            go_roundg (l.length - (j + 1))
            case measure => rw [HM.out]; omega
            case rel =>
              refine ⟨j + 1, out.take k ++ c :: out.drop k, rfl, hlt, by go_num, HFI.out, ins_strict (by have := HLE.out; omega) HS.out HLOW.out HHI.out, ins_mem HME.out HC.out, ?_, (HB.out.trans (HBX.out.mono HB.out.size)).trans (HB3.out.mono (Nat.le_trans hsz hsx))⟩
              rw [List.length_append, List.length_cons, List.length_take, List.length_drop, HLE.out]; omega
    · obtain rfl : j = l.length := by omega
      have hgs : decide ((l.length : Int) < (l.length : Int)) = false := by simp
      go_wp2_with fail
      go_ret
      exact ⟨_, out, rfl, HO.out, HS.out, fun c => by rw [HME.out c, List.take_length], HLE.out, HB.out⟩
end Go.Proofs.YtnfjmmkokhncoaaGreat
end
