-- M20
import Derived.Test.YtnfjmmkokhncoaaGreatM18
import Derived.Test.YtnfjmmkokhncoaaGreatProg
import Derived.WalkKit
import Derived.WalkLawsBesides
import Derived.Lib.Hide
import Derived.IntWalk
import Derived.Deep.LoopGhost
import Derived.Deep.RegionWith
import Derived.BigRegion
import Derived.Maps.AppendAt
import Derived.Below
import Derived.Laws.BytesArg
import Derived.RowKitTokens
import Derived.Lib.Builder
import Derived.Lib.AppendStr
import Derived.Lib.UnsafeStr
import Derived.Lib.MakeNoZero
import Derived.Lib.Strings
import Derived.Lib.Slices
import Derived.Lib.Walk
import Derived.Laws.Externs
import Derived.Laws.IdiomCopy
import Derived.Shelf.RegionOpenPlain
import Derived.Lib.FrozenHead
import Derived.Lib.OthersKept
import Derived.Lib.ItoaNum
import Derived.Deep.QuietTactic
import Derived.BigQuiet
import Derived.Laws.DeepStrings4
section
namespace Go.Proofs.YtnfjmmkokhncoaaGreat
open Go.RowKit
set_option maxRecDepth 100000

theorem setL8_nodup {l : List (Int × Int)} (h : l.Nodup) (p : Int × Int) (alive : Bool) : (setL l p alive).Nodup := by
  unfold setL
  cases alive with
  | false => simp only [Bool.false_eq_true, if_false, List.append_nil]; exact h.filter _
  | true =>
    simp only [if_true]
    refine List.nodup_append.2 ⟨h.filter _, by simp, fun a ha b hb e => ?_⟩
    simp at hb
    rw [e, hb] at ha
    simp at ha
theorem setL8_mem {l : List (Int × Int)} {p c : Int × Int} {alive : Bool} : c ∈ setL l p alive ↔ (if c = p then alive = true else c ∈ l) := by
  unfold setL
  rw [List.mem_append, List.mem_filter]
  by_cases e : c = p
  · subst e; cases alive <;> simp
  · cases alive <;> simp [e]
theorem setL8_len {l : List (Int × Int)} (p : Int × Int) (alive : Bool) : (setL l p alive).length ≤ l.length + 1 := by
  unfold setL
  rw [List.length_append]
  have := List.length_filter_le (fun c => !decide (c = p)) l
  cases alive <;> simp <;> omega
/-- Many cells set. -/
def setA (l ps : List (Int × Int)) (alive : Bool) : List (Int × Int) := ps.foldl (fun a c => setL a c alive) l
theorem setA_snoc (l ps : List (Int × Int)) (c : Int × Int) (alive : Bool) : setA l (ps ++ [c]) alive = setL (setA l ps alive) c alive := by unfold setA; rw [List.foldl_append]; rfl
theorem setA_nodup (alive : Bool) : ∀ (ps l : List (Int × Int)), l.Nodup → (setA l ps alive).Nodup
  | [], _, h => h
  | c :: r, _, h => setA_nodup alive r _ (setL8_nodup h c alive)
theorem setA_mem (alive : Bool) : ∀ (ps l : List (Int × Int)) (c : Int × Int), c ∈ setA l ps alive ↔ (if c ∈ ps then alive = true else c ∈ l)
  | [], l, c => by simp [setA]
  | d :: r, l, c => by
    show c ∈ setA (setL l d alive) r alive ↔ _
    rw [setA_mem alive r, setL8_mem]
    by_cases h1 : c ∈ r
    · simp [h1]
    · by_cases h2 : c = d
      · simp [h2]
      · simp [h1, h2]
theorem setA_len (alive : Bool) : ∀ (ps l : List (Int × Int)), (setA l ps alive).length ≤ l.length + ps.length
  | [], l => by simp [setA]
  | d :: r, l => by
    show (setA (setL l d alive) r alive).length ≤ _
    have h1 := setA_len alive r (setL l d alive)
    have h2 := setL8_len (l := l) d alive
    simp only [List.length_cons]
    omega
theorem Pl8.in_ {M : List Nd} {n x : Nat} {l : List (Int × Int)} (h : Pl8 M n x l) {a b : Int} (hm : (a, b) ∈ l) : inS n a = true ∧ inS n b = true := by
  have := h.al a b
  rw [decide_eq_true hm] at this
  unfold alK at this
  simp only [Bool.and_eq_true] at this
  exact ⟨this.1.1, this.1.2⟩
theorem in_of_rect {n : Nat} {r : R4} (hr : inR n r) {a b : Int} (h : r.has a b = true) : inS n a = true ∧ inS n b = true := by
  obtain ⟨⟨h1, h2⟩, h3, h4⟩ := R4.has_iff.1 h
  obtain ⟨⟨g1, g2⟩, g3, g4⟩ := hr
  exact ⟨inS_iff.2 (by omega), inS_iff.2 (by omega)⟩
/-- A plane that has a function's cells, and a list of them. -/
theorem pl_of_con {M' : List Nd} {n y : Nat} {f : Int → Int → Nat} {l' : List (Int × Int)} (hc : Con M' (n + 1) y f) (h2 : 2 ≤ n) (hn : l'.Nodup) (hon : ∀ c, c ∈ l' → (onP c.1 && onP c.2) = true)
    (hin : ∀ a b, (a, b) ∈ l' → inS n a = true ∧ inS n b = true) (hf : ∀ a b, inS n a = true → inS n b = true → (f (a + 2 ^ n) (b + 2 ^ n) = 1 ↔ (a, b) ∈ l')) : Pl8 M' n y l' := by
  refine ⟨hc.1, h2, hn, hon, fun a b => ?_⟩
  rw [al_con hc]
  cases ha : inS n a with
  | false =>
    rw [decide_eq_false (fun hm => by have := (hin a b hm).1; rw [ha] at this; cases this)]
    rfl
  | true =>
    cases hb : inS n b with
    | false =>
      rw [decide_eq_false (fun hm => by have := (hin a b hm).2; rw [hb] at this; cases this)]
      rfl
    | true =>
      rw [Bool.eq_iff_iff]
      simp only [Bool.true_and, beq_iff_eq, decide_eq_true_eq]
      exact hf a b ha hb
theorem on_of_rect {r : R4} (hr : rightR r.x r.y r.X r.Y = true) {a b : Int} (h : r.has a b = true) : (onP a && onP b) = true := by
  unfold rightR onP at hr
  unfold onP
  simp only [Bool.and_eq_true, decide_eq_true_eq, Bool.not_eq_true'] at hr ⊢
  obtain ⟨⟨h1, h2⟩, h3, h4⟩ := R4.has_iff.1 h
  omega
theorem fill_pl8 {M M' : List Nd} {n x n' y : Nat} {l l' : List (Int × Int)} {r : R4} {al : Bool} (hpl : Pl8 M n x l) (hnn : n ≤ n') (hin : inR n' r) (hr : rightR r.x r.y r.X r.Y = true) (hc : Con M' (n' + 1) y (Fp M n (kidZ M x) n' (shR r n') (b2n al)))
    (hnd : l'.Nodup) (hm : ∀ a b, (a, b) ∈ l' ↔ (if r.has a b = true then al = true else (a, b) ∈ l)) : Pl8 M' n' y l' := by
  refine pl_of_con hc (Nat.le_trans hpl.two hnn) hnd (fun c hc => ?_) (fun a b hab => ?_) (fun a b ha hb => ?_)
  · have := (hm c.1 c.2).1 hc
    by_cases e : r.has c.1 c.2 = true
    · exact on_of_rect hr e
    · rw [if_neg e] at this; exact hpl.on c this
  · have := (hm a b).1 hab
    by_cases e : r.has a b = true
    · exact in_of_rect hin e
    · rw [if_neg e] at this
      obtain ⟨h1, h2⟩ := hpl.in_ this
      exact ⟨inS_mono hnn h1, inS_mono hnn h2⟩
  · rw [hm a b]
    unfold Fp
    rw [shR_has, show a + 2 ^ n' - 2 ^ n' = a by omega, show b + 2 ^ n' - 2 ^ n' = b by omega, hpl.al]
    by_cases e : r.has a b = true
    · rw [if_pos e, if_pos e]; cases al <;> simp [b2n]
    · rw [if_neg e, if_neg e]
      by_cases e2 : (a, b) ∈ l <;> simp [e2]
theorem mvL_mem {L : List (Int × Int)} {p q a b : Int} : (a, b) ∈ mvL L p q ↔ (a - p, b - q) ∈ L := by
  unfold mvL
  rw [List.mem_map]
  constructor
  · rintro ⟨c, hc, e⟩
    simp only [Prod.mk.injEq] at e
    rw [show (a - p, b - q) = c by refine Prod.ext ?_ ?_ <;> simp only <;> omega]
    exact hc
  · intro h
    exact ⟨_, h, by simp only [Prod.mk.injEq]; omega⟩
theorem shR_no (n : Nat) (a b : Int) : (shR ⟨0, 0, 0, 0⟩ n).has (a + 2 ^ n) (b + 2 ^ n) = false := by
  rw [shR_has]
  exact R4.has_no (R4.no_iff.2 (by simp)) a b
theorem paste_pl8 {M M' : List Nd} {n x n' y : Nat} {l l' L : List (Int × Int)} {p q : Int} {r : R4} {over : Bool} (hpl : Pl8 M n x l) (hnn : n ≤ n') (hin : inR n' r) (hr : rightR r.x r.y r.X r.Y = true)
    (hL : ∀ a b, (a, b) ∈ mvL L p q → r.has a b = true) (hc : Con M' (n' + 1) y (Tp M n (kidZ M x) n' (shR (if over then ⟨0, 0, 0, 0⟩ else r) n') 0 (mvL (mvL L p q) (2 ^ n') (2 ^ n'))))
    (hnd : l'.Nodup) (hm : ∀ a b, (a, b) ∈ l' ↔ ((a, b) ∈ mvL L p q ∨ ((a, b) ∈ l ∧ (over = true ∨ r.has a b = false)))) : Pl8 M' n' y l' := by
  refine pl_of_con hc (Nat.le_trans hpl.two hnn) hnd (fun c hc => ?_) (fun a b hab => ?_) (fun a b ha hb => ?_)
  · rcases (hm c.1 c.2).1 hc with h | h
    · exact on_of_rect hr (hL _ _ h)
    · exact hpl.on c h.1
  · rcases (hm a b).1 hab with h | h
    · exact in_of_rect hin (hL _ _ h)
    · obtain ⟨h1, h2⟩ := hpl.in_ h.1
      exact ⟨inS_mono hnn h1, inS_mono hnn h2⟩
  · rw [hm a b]
    unfold Tp Fp
    rw [show a + 2 ^ n' - 2 ^ n' = a by omega, show b + 2 ^ n' - 2 ^ n' = b by omega, hpl.al]
    have hmv : (a + 2 ^ n', b + 2 ^ n') ∈ mvL (mvL L p q) (2 ^ n') (2 ^ n') ↔ (a, b) ∈ mvL L p q := by
      rw [mvL_mem, show a + 2 ^ n' - 2 ^ n' = a by omega, show b + 2 ^ n' - 2 ^ n' = b by omega]
    by_cases h1 : (a, b) ∈ mvL L p q
    · rw [if_pos (hmv.2 h1)]; simp [h1]
    · rw [if_neg (fun h => h1 (hmv.1 h))]
      cases over with
      | true =>
        simp only [if_true]
        rw [shR_no]
        by_cases e2 : (a, b) ∈ l <;> simp [e2, h1]
      | false =>
        simp only [Bool.false_eq_true, if_false]
        rw [shR_has]
        cases e : r.has a b <;> by_cases e2 : (a, b) ∈ l <;> simp [e2, h1]
theorem fill_room {M M' : List Nd} {n x n' : Nat} {l : List (Int × Int)} {p q : Int} {wd hd : Nat} {al : Bool} {T : List Place} (hw : Wf M') (hpl : Pl8 M n x l) (hT : Cov T (fun a b => (a, b) ∈ l)) (hwd : wd < 24) (hhd : hd < 24) (h61 : n' ≤ 61)
    (h : New8 M (n' + 1) (Fp M n (kidZ M x) n' (shR ⟨p, q, p + (wd : Int), q + (hd : Int)⟩ n') (b2n al)) M') : M'.length ≤ M.length + (T.length + 3109 + 100) := by
  have := room8 hw h h61 (T ++ fillT p q) (fun X Y => ?_) (fun X Y hv j h1 h2 => ?_)
  · rw [List.length_append, fillT_len] at this; exact this
  · unfold Fp
    split
    · cases al <;> simp [b2n]
    · split <;> simp
  · unfold Fp at hv
    by_cases e : (shR ⟨p, q, p + (wd : Int), q + (hd : Int)⟩ n').has X Y = true
    · have e' : (R4.mk p q (p + (wd : Int)) (q + (hd : Int))).has (X - 2 ^ n') (Y - 2 ^ n') = true := by
        rw [← shR_has _ n', show X - 2 ^ n' + 2 ^ n' = X by omega, show Y - 2 ^ n' + 2 ^ n' = Y by omega]; exact e
      obtain ⟨⟨a1, a2⟩, a3, a4⟩ := R4.has_iff.1 e'
      simp only at a1 a2 a3 a4
      exact List.mem_append_right _ (fillT_mem ⟨a1, by omega⟩ ⟨a3, by omega⟩ j h1 h2)
    · rw [if_neg e, hpl.al] at hv
      by_cases e2 : (X - 2 ^ n', Y - 2 ^ n') ∈ l
      · exact List.mem_append_left _ (hT _ _ e2 j h1 h2)
      · simp [e2] at hv
theorem paste_room {M M' : List Nd} {n x n' : Nat} {l L : List (Int × Int)} {p q : Int} {rc : R4} {T : List Place} (hw : Wf M') (hpl : Pl8 M n x l) (hT : Cov T (fun a b => (a, b) ∈ l)) (h61 : n' ≤ 61) (hl : L.length ≤ 30)
    (h : New8 M (n' + 1) (Tp M n (kidZ M x) n' (shR rc n') 0 (mvL (mvL L p q) (2 ^ n') (2 ^ n'))) M') : M'.length ≤ M.length + (T.length + 1830 + 100) := by
  have hlen : (mvL L p q).length = L.length := by unfold mvL; rw [List.length_map]
  have := room8 hw h h61 (T ++ cellT (mvL L p q)) (fun X Y => ?_) (fun X Y hv j h1 h2 => ?_)
  · rw [List.length_append, cellT_len, hlen] at this; omega
  · unfold Tp Fp
    split
    · simp
    · split
      · simp
      · split <;> simp
  · unfold Tp Fp at hv
    by_cases e : (X, Y) ∈ mvL (mvL L p q) (2 ^ n') (2 ^ n')
    · exact List.mem_append_right _ (cellT_mem (mvL_mem.1 e) j h1 h2)
    · rw [if_neg e] at hv
      by_cases e1 : (shR rc n').has X Y = true
      · rw [if_pos e1] at hv; cases hv
      · rw [if_neg e1, hpl.al] at hv
        by_cases e2 : (X - 2 ^ n', Y - 2 ^ n') ∈ l
        · exact List.mem_append_left _ (hT _ _ e2 j h1 h2)
        · simp [e2] at hv
theorem cov_fill {l l' : List (Int × Int)} {p q : Int} {wd hd : Nat} {al : Bool} {T : List Place} (hT : Cov T (fun a b => (a, b) ∈ l)) (hwd : wd < 24) (hhd : hd < 24) (hm : ∀ a b, (a, b) ∈ l' ↔ (if (R4.mk p q (p + (wd : Int)) (q + (hd : Int))).has a b = true then al = true else (a, b) ∈ l)) : Cov (T ++ fillT p q) (fun a b => (a, b) ∈ l') := by
  intro a b h j h1 h2
  by_cases e : (R4.mk p q (p + (wd : Int)) (q + (hd : Int))).has a b = true
  · obtain ⟨⟨a1, a2⟩, a3, a4⟩ := R4.has_iff.1 e
    simp only at a1 a2 a3 a4
    exact List.mem_append_right _ (fillT_mem ⟨a1, by omega⟩ ⟨a3, by omega⟩ j h1 h2)
  · have := (hm a b).1 h
    rw [if_neg e] at this
    exact List.mem_append_left _ (hT a b this j h1 h2)
theorem cov_paste {l l' L : List (Int × Int)} {p q : Int} {T : List Place} (hT : Cov T (fun a b => (a, b) ∈ l)) (hm : ∀ a b, (a, b) ∈ l' → (a, b) ∈ mvL L p q ∨ (a, b) ∈ l) : Cov (T ++ cellT (mvL L p q)) (fun a b => (a, b) ∈ l') := by
  intro a b h j h1 h2
  rcases hm a b h with e | e
  · exact List.mem_append_right _ (cellT_mem e j h1 h2)
  · exact List.mem_append_left _ (hT a b e j h1 h2)
end Go.Proofs.YtnfjmmkokhncoaaGreat
end

section
namespace Go.Proofs.YtnfjmmkokhncoaaGreat
open Go.RowKit

theorem Tryz.infoU8 : (Tryz.prog.info? 5).map (fun i => (i.zero, i.size, i.bytes)) = some (some (.int .u8 0), 1, 1) := by kernel_rfl
/-- A row of bytes of the call's own. -/
def Own (w : World) (B : Nat) (v : Value) (zs : List Int) : Prop := w.ownsRow B 5 1 v zs.length (zs.map (Value.int .u8))


/-- A row of numbers, as a slice holds it, below block B. -/
def Row (k : IntKind) (w : World) (B : Nat) (a : Option Addr) (zs : List Int) : Prop :=
  ∀ (j : Nat) z, zs[j]? = some z → ∃ bk off, a = some ⟨bk, off, none⟩ ∧ bk < B ∧ w.cell? ⟨bk, off + j, none⟩ = some (.int k z)
theorem Row.later {k : IntKind} {w w' : World} {B B' : Nat} {a : Option Addr} {zs : List Int} (h : Row k w B a zs) (hb : Below B' w w') (hB : B ≤ B') : Row k w' B a zs := by
  intro j z hz
  obtain ⟨bk, off, h1, h2, h3⟩ := h j z hz
  exact ⟨bk, off, h1, h2, by rw [hb.cell (p := ⟨bk, off + j, none⟩) (show bk < B' by omega)]; exact h3⟩
theorem Row.mono {k : IntKind} {w : World} {B B' : Nat} {a : Option Addr} {zs : List Int} (h : Row k w B a zs) (hB : B ≤ B') : Row k w B' a zs := by
  intro j z hz
  obtain ⟨bk, off, h1, h2, h3⟩ := h j z hz
  exact ⟨bk, off, h1, by omega, h3⟩
theorem Row.nil {k : IntKind} {w : World} {B : Nat} {a : Option Addr} : Row k w B a [] := by intro j z hz; simp at hz
theorem add_at (bk off j : Nat) : (⟨bk, off, none⟩ : Addr).add j = ⟨bk, off + j, none⟩ := by
  unfold Addr.add; split <;> simp_all
theorem Own.row {w : World} {B : Nat} {v : Value} {zs : List Int} (h : Own w B v zs) :
    ∃ a c, v = .slice a zs.length c ∧ zs.length ≤ c ∧ c ≤ maxLen ∧ Row .u8 w w.heap.size a zs := by
  have h' := h
  rcases h.2 with ⟨rfl, hn⟩ | ⟨g, cap, cur, rfl, _, hg, h1, h2, _, _⟩
  · obtain rfl := List.eq_nil_of_length_eq_zero hn
    exact ⟨none, 0, rfl, Nat.le_refl _, Nat.zero_le _, Row.nil⟩
  · refine ⟨_, _, rfl, h1, h2, fun j z hz => ⟨g, 0, rfl, (Array.getElem?_eq_some_iff.1 hg).1, ?_⟩⟩
    have hj : j < zs.length := (List.getElem?_eq_some_iff.1 hz).1
    have := h'.cellAt j (by omega)
    rw [Nat.zero_add, this, List.getElem?_map, hz]; rfl

theorem cell_in {w : World} {b : Nat} {cs : Array Value} {t : TypeId} (h : w.heap[b]? = some (.cells cs t (0, 0))) (i : Nat) : w.cell? ⟨b, i, none⟩ = cs[i]? := cell_of_row w b i cs t (0, 0) h
theorem Row.drewN {k : IntKind} {w : World} {B : Nat} {a : Option Addr} {zs : List Int} (h : Row k w B a zs) {q : Nat} : Row k (w.drewN q) B a zs := h
theorem take_next {l : List Int} {j : Nat} {z : Int} (h : l[j]? = some z) : l.take (j + 1) = l.take j ++ [z] := by rw [List.take_add_one, h]; rfl

theorem below_alloc1 (w : World) (o : Obj) : Below w.heap.size w (w.alloc o) := (Below.refl _ _).alloc (Nat.le_refl _) o
theorem row_new (k : IntKind) (w : World) (zs : List Int) (t : TypeId) : Row k (w.alloc (.cells (zs.map (Value.int k)).toArray t)) (w.heap.size + 1) (some ⟨w.heap.size, 0, none⟩) zs := by
  intro j z hz
  refine ⟨w.heap.size, 0, rfl, by omega, ?_⟩
  rw [cell_in (heap_alloc_new w _)]
  simp [hz]
end Go.Proofs.YtnfjmmkokhncoaaGreat
end

section
namespace Go.Proofs.YtnfjmmkokhncoaaGreat
open Go.RowKit

theorem Tryz.cellsU8 : Tryz.prog.cellsOf 5 = 1 := by kernel_rfl
theorem Own.ne {w : World} {B : Nat} {v : Value} {n : Nat} {xs : List Value} {b : Nat} {cs : Array Value} {T : TypeId} {fr : Nat × Nat} (hown : w.ownsRow B 5 1 v n xs) (hb : w.heap[b]? = some (.cells cs T fr)) (hT : T ≠ 5) : v.ownBlock ≠ some b := by
  rcases hown.2 with ⟨rfl, _⟩ | ⟨g, cap, cur, rfl, _, hg, _⟩
  · simp [Value.ownBlock]
  · intro h
    simp only [Value.ownBlock, Option.some.injEq] at h
    subst h
    rw [hg] at hb
    simp only [Option.some.injEq, Obj.cells.injEq] at hb
    exact hT hb.2.1.symm

/-- What a writer's methods keep: all below block B, and every block but the writer's and its bytes'. -/
def Kp (B b : Nat) (w w' : World) : Prop := Below B w w' ∧ Lib.OthersKept 5 (some b) w w'
theorem Kp.refl (B b : Nat) (w : World) : Kp B b w w := ⟨Below.refl _ _, Lib.OthersKept.refl _ _ _⟩
theorem Kp.trans {B b : Nat} {w w1 w2 : World} (h : Kp B b w w1) (k : Kp B b w1 w2) : Kp B b w w2 := ⟨h.1.trans k.1, h.2.trans k.2⟩
theorem Kp.of {B b : Nat} {w w' : World} (h : Below w.heap.size w w') (hB : B ≤ w.heap.size) : Kp B b w w' :=
  ⟨h.mono hB, fun k o hk _ _ => by rw [h.block k (Array.getElem?_eq_some_iff.1 hk).1]; exact hk⟩
theorem Kp.setCell {B b : Nat} {w0 w : World} (h : Kp B b w0 w) (hB : B ≤ b) (k : Nat) (v : Value) : Kp B b w0 (w.setCell ⟨b, k, none⟩ v) := ⟨h.1.setCell (p := ⟨b, k, none⟩) hB _, h.2.setCell ⟨b, k, none⟩ rfl _⟩
theorem own_kind {w : World} {B : Nat} {v : Value} {n : Nat} {xs : List Value} (h : w.ownsRow B 5 1 v n xs) (g : Nat) (hg : v.ownBlock = some g) : ∃ c fz, w.heap[g]? = some (.cells c 5 fz) := Lib.ownsRowF_kind (World.ownsRowF_of h) g hg

end Go.Proofs.YtnfjmmkokhncoaaGreat
end

section
namespace Go.Proofs.YtnfjmmkokhncoaaGreat
open Go.RowKit Go.Extern.Stop Go.Stop Go.Extern

/-- The figure d as a byte. -/
def fig (d : Nat) : UInt8 := UInt8.ofNat (48 + d)
theorem dec_small (u : Nat) (h : u < 10) : Lib.decDigits u = [fig u] := by rw [Lib.decDigits]; simp [h, fig]
theorem dec_great (u : Nat) (h : ¬ u < 10) : Lib.decDigits u = Lib.decDigits (u / 10) ++ [fig (u % 10)] := by rw [Lib.decDigits]; simp [h, fig]
theorem itoa_nat (u : Nat) : Lib.itoa (u : Int) = Lib.decDigits u := by unfold Lib.itoa; rw [if_neg (by omega)]; rfl
theorem itoa_neg (u : Nat) (h : 0 < u) : Lib.itoa (-(u : Int)) = 45 :: Lib.decDigits u := by unfold Lib.itoa; rw [if_pos (by omega)]; simp

/-- One figure out of the row of all. -/
theorem figure (d : Nat) (h : d < 10) : (⟨#[48, 49, 50, 51, 52, 53, 54, 55, 56, 57]⟩ : ByteArray).extract d (d + 1) = ⟨#[fig d]⟩ := by
  match d, h with
  | 0, _ | 1, _ | 2, _ | 3, _ | 4, _ | 5, _ | 6, _ | 7, _ | 8, _ | 9, _ => rfl
theorem slice_figure (x : Int) (d : Nat) (hx : x = d) (h : d < 10) (w : World) :
    (Instr.slice 9 (.string ⟨#[48, 49, 50, 51, 52, 53, 54, 55, 56, 57]⟩) (some (.int .i64 x)) (some (.int .i64 (x + 1))) none).run Tryz.prog w = .ok (.string ⟨#[fig d]⟩) w := by
  subst hx
  have hsz : ((⟨#[48, 49, 50, 51, 52, 53, 54, 55, 56, 57]⟩ : ByteArray).size : Int) = 10 := rfl
  rw [run_slice_string_if _ _ _ _ _ _ _ Tryz.underlying9, if_pos ⟨by omega, by rw [hsz]; omega⟩, if_pos ⟨by omega, by omega⟩]
  rw [show ((d : Int) + 1).toNat = d + 1 by omega, Int.toNat_natCast, figure d h]

/-- What a string is, by its bytes. -/
theorem str_eq {a b : List UInt8} (h : a = b) : Ending.returned (.string ⟨a.toArray⟩) = .returned (.string ⟨b.toArray⟩) := by rw [h]
theorem cat_mk (a b : List UInt8) : (⟨a.toArray⟩ : ByteArray) ++ ⟨b.toArray⟩ = ⟨(a ++ b).toArray⟩ := by
  apply ByteArray.ext; simp [ByteArray.data_append]
theorem nDigits_le : ∀ (k u : Nat), 1 ≤ k → u < 10 ^ k → Lib.nDigits u ≤ k
  | 0, _, h, _ => by omega
  | 1, u, _, h => by rw [Lib.nDigits_small (by simpa using h)]; omega
  | k + 2, u, _, h => by
    by_cases hs : u < 10
    · rw [Lib.nDigits_small hs]; omega
    · rw [Lib.nDigits_big hs]
      have := nDigits_le (k + 1) (u / 10) (by omega) (by rw [Nat.pow_succ] at h; omega)
      omega
theorem dec_len (u : Nat) (h : (u : Int) ≤ 9223372036854775808) : (Lib.decDigits u).length ≤ 19 := by
  rw [Lib.decDigits_length]; exact nDigits_le 19 u (by omega) (by have : (10 : Nat) ^ 19 = 10000000000000000000 := by decide
                                                                  omega)
theorem itoa_len (n : Int) (h0 : -9223372036854775808 ≤ n) (h1 : n ≤ 9223372036854775807) : (Lib.itoa n).length ≤ 20 := by
  unfold Lib.itoa
  split
  · have := dec_len n.natAbs (by omega); simp; omega
  · have := dec_len n.toNat (by omega); omega

end Go.Proofs.YtnfjmmkokhncoaaGreat
end

section
namespace Go.Proofs.YtnfjmmkokhncoaaGreat
open Go

/-- The place, the number read so far, the cells. -/
structure RSt where
  x : Nat
  y : Nat
  n : Nat
  cells : List (Nat × Nat)
def isDig (c : UInt8) : Bool := decide (48 ≤ c.toNat) && decide (c.toNat ≤ 57)
/-- One byte of runs (but for the !); none: it isn't allowed. -/
def rstep (W H : Nat) (s : RSt) (c : UInt8) : Option RSt :=
  if c = 32 ∨ c = 10 then (if 0 < s.n then none else some s)
  else if isDig c = true then (if 10 * s.n + (c.toNat - 48) = 0 ∨ 1024 < 10 * s.n + (c.toNat - 48) then none else some { s with n := 10 * s.n + (c.toNat - 48) })
  else if c = 36 then (if 1024 < s.y + max s.n 1 then none else some { s with y := s.y + max s.n 1, x := 0, n := 0 })
  else if c = 98 then (if W < s.x + max s.n 1 then none else some { s with x := s.x + max s.n 1, n := 0 })
  else if c = 111 then (if W < s.x + max s.n 1 ∨ H ≤ s.y ∨ 20000 < s.cells.length + max s.n 1 then none
    else some { x := s.x + max s.n 1, y := s.y, n := 0, cells := s.cells ++ (List.range (max s.n 1)).map fun j => (s.x + j, s.y) })
  else none
def blank (c : UInt8) : Bool := c == 32 || c == 10
/-- Runs from byte i on: the cells; the error's number, and where. -/
def runsP (W H : Nat) : List UInt8 → Nat → RSt → List (Nat × Nat) × Nat × Nat
  | [], i, _ => ([], 2, i)
  | c :: r, i, s =>
    if c = 33 ∧ s.n = 0 then (if r.all blank = true then (s.cells, 0, 0) else ([], 5, i + 1))
    else match rstep W H s c with
      | none => ([], 3, i)
      | some s' => runsP W H r (i + 1) s'
/-- Bytes, one after the other. -/
def feed (W H : Nat) : List UInt8 → RSt → Option RSt
  | [], s => some s
  | c :: r, s => (rstep W H s c).bind (feed W H r)
theorem feed_app (W H : Nat) : ∀ (a b : List UInt8) (s : RSt), feed W H (a ++ b) s = (feed W H a s).bind (feed W H b)
  | [], _, _ => rfl
  | c :: r, b, s => by
    simp only [List.cons_append, feed]
    cases h : rstep W H s c with
    | none => rfl
    | some s' => exact feed_app W H r b s'
theorem runsP_feed (W H : Nat) : ∀ (a rest : List UInt8) (i : Nat) (s s' : RSt), (∀ c ∈ a, c ≠ 33) → feed W H a s = some s' → runsP W H (a ++ rest) i s = runsP W H rest (i + a.length) s'
  | [], rest, i, s, s', _, h => by simp only [feed, Option.some.injEq] at h; rw [h]; rfl
  | c :: r, rest, i, s, s', hc, h => by
    simp only [feed] at h
    cases hs : rstep W H s c with
    | none => rw [hs] at h; cases h
    | some m =>
      rw [hs] at h
      simp only [List.cons_append, runsP]
      rw [if_neg (fun e => hc c (by simp) e.1), hs]
      have := runsP_feed W H r rest (i + 1) m s' (fun d hd => hc d (by simp [hd])) h
      simp only [List.length_cons]
      rw [show i + (r.length + 1) = i + 1 + r.length by omega]
      exact this

/-! Digits -/
theorem fig_nat (d : Nat) (h : d < 10) : (UInt8.ofNat (48 + d)).toNat = 48 + d := by
  simp [UInt8.toNat_ofNat']; omega
theorem fig_dig (d : Nat) (h : d < 10) : isDig (UInt8.ofNat (48 + d)) = true := by
  unfold isDig
  rw [fig_nat d h]
  simp; omega
theorem dig_not {c : UInt8} (h : isDig c = true) : ¬ (c = 32 ∨ c = 10) ∧ c ≠ 33 ∧ c ≠ 44 ∧ c ≠ 61 := by
  unfold isDig at h
  simp only [Bool.and_eq_true, decide_eq_true_eq] at h
  refine ⟨?_, ?_, ?_, ?_⟩
  · rintro (rfl | rfl) <;> simp at h
  · rintro rfl; simp at h
  · rintro rfl; simp at h
  · rintro rfl; simp at h
theorem dec_dig : ∀ (u : Nat) (c : UInt8), c ∈ Lib.decDigits u → isDig c = true := by
  intro u
  induction u using Nat.strongRecOn with
  | _ u ih =>
    intro c hc
    rw [Lib.decDigits] at hc
    by_cases h : u < 10
    · rw [dif_pos h] at hc
      rw [List.mem_singleton.1 hc]
      exact fig_dig u h
    · rw [dif_neg h] at hc
      rcases List.mem_append.1 hc with hc | hc
      · exact ih (u / 10) (by omega) c hc
      · rw [List.mem_singleton.1 hc]
        exact fig_dig (u % 10) (by omega)
theorem rstep_dig (W H : Nat) (s : RSt) (d : Nat) (hd : d < 10) (h0 : 10 * s.n + d ≠ 0) (h1 : 10 * s.n + d ≤ 1024) : rstep W H s (UInt8.ofNat (48 + d)) = some { s with n := 10 * s.n + d } := by
  unfold rstep
  rw [if_neg (dig_not (fig_dig d hd)).1, if_pos (fig_dig d hd), fig_nat d hd, show 48 + d - 48 = d by omega, if_neg (by omega)]
theorem feed_dec (W H : Nat) (x y : Nat) (l : List (Nat × Nat)) : ∀ (u : Nat), 1 ≤ u → u ≤ 1024 → feed W H (Lib.decDigits u) ⟨x, y, 0, l⟩ = some ⟨x, y, u, l⟩ := by
  intro u
  induction u using Nat.strongRecOn with
  | _ u ih =>
    intro h0 h1
    rw [Lib.decDigits]
    by_cases h : u < 10
    · rw [dif_pos h]
      simp only [feed]
      rw [rstep_dig W H _ u h (by simp; omega) (by simp; omega)]
      simp
    · rw [dif_neg h, feed_app, ih (u / 10) (by omega) (by omega) (by omega)]
      simp only [Option.bind_some, feed]
      rw [rstep_dig W H _ (u % 10) (by omega) (by simp; omega) (by simp; omega)]
      simp only [Option.bind_some, Option.some.injEq, RSt.mk.injEq, true_and, and_true]
      omega

/-! Runs -/
/-- A run as bytes. -/
def runL (k : Nat) (tag : UInt8) : List UInt8 := if k < 1 then [] else if k = 1 then [tag] else Lib.decDigits k ++ [tag]
theorem runL_not33 (k : Nat) (tag : UInt8) (h : tag ≠ 33) : ∀ c ∈ runL k tag, c ≠ 33 := by
  intro c hc
  unfold runL at hc
  by_cases h1 : k < 1
  · rw [if_pos h1] at hc; cases hc
  · rw [if_neg h1] at hc
    by_cases h2 : k = 1
    · rw [if_pos h2] at hc; rw [List.mem_singleton.1 hc]; exact h
    · rw [if_neg h2] at hc
      rcases List.mem_append.1 hc with hc | hc
      · exact (dig_not (dec_dig k c hc)).2.1
      · rw [List.mem_singleton.1 hc]; exact h
/-- A run's bytes are its number, and its letter. -/
theorem feed_run (W H x y k : Nat) (l : List (Nat × Nat)) (tag : UInt8) (h1 : 1 ≤ k) (h2 : k ≤ 1024) (s' : RSt) (hn : k = 1 → rstep W H ⟨x, y, 0, l⟩ tag = some s') (hk : rstep W H ⟨x, y, k, l⟩ tag = some s') : feed W H (runL k tag) ⟨x, y, 0, l⟩ = some s' := by
  unfold runL
  rw [if_neg (by omega)]
  by_cases h : k = 1
  · rw [if_pos h]
    simp only [feed]
    rw [hn h]; rfl
  · rw [if_neg h, feed_app, feed_dec W H x y l k h1 h2]
    simp only [Option.bind_some, feed]
    rw [hk]; rfl
theorem step_b (W H x y k : Nat) (l : List (Nat × Nat)) (h : x + max k 1 ≤ W) : rstep W H ⟨x, y, k, l⟩ 98 = some ⟨x + max k 1, y, 0, l⟩ := by
  unfold rstep
  rw [if_neg (by decide), if_neg (by decide), if_neg (by decide), if_pos rfl, if_neg (by simp only []; omega)]
theorem step_d (W H x y k : Nat) (l : List (Nat × Nat)) (h : y + max k 1 ≤ 1024) : rstep W H ⟨x, y, k, l⟩ 36 = some ⟨0, y + max k 1, 0, l⟩ := by
  unfold rstep
  rw [if_neg (by decide), if_neg (by decide), if_pos rfl, if_neg (by simp only []; omega)]
theorem step_o (W H x y k : Nat) (l : List (Nat × Nat)) (h1 : x + max k 1 ≤ W) (h2 : y < H) (h3 : l.length + max k 1 ≤ 20000) : rstep W H ⟨x, y, k, l⟩ 111 = some ⟨x + max k 1, y, 0, l ++ (List.range (max k 1)).map fun j => (x + j, y)⟩ := by
  unfold rstep
  rw [if_neg (by decide), if_neg (by decide), if_neg (by decide), if_neg (by decide), if_pos rfl, if_neg (by simp only []; omega)]
theorem feed_b (W H x y k : Nat) (l : List (Nat × Nat)) (h2 : k ≤ 1024) (h : x + k ≤ W) : feed W H (runL k 98) ⟨x, y, 0, l⟩ = some ⟨x + k, y, 0, l⟩ := by
  by_cases h1 : k < 1
  · obtain rfl : k = 0 := by omega
    rfl
  · refine feed_run W H x y k l 98 (by omega) h2 _ (fun e => ?_) ?_
    · subst e; exact step_b W H x y 0 l (by simpa using h)
    · have := step_b W H x y k l (by omega)
      rw [show max k 1 = k by omega] at this
      exact this
theorem feed_d (W H x y k : Nat) (l : List (Nat × Nat)) (h1 : 1 ≤ k) (h : y + k ≤ 1024) : feed W H (runL k 36) ⟨x, y, 0, l⟩ = some ⟨0, y + k, 0, l⟩ := by
  refine feed_run W H x y k l 36 h1 (by omega) _ (fun e => ?_) ?_
  · subst e; exact step_d W H x y 0 l (by simpa using h)
  · have := step_d W H x y k l (by omega)
    rw [show max k 1 = k by omega] at this
    exact this
theorem feed_o (W H x y k : Nat) (l : List (Nat × Nat)) (h0 : 1 ≤ k) (hk : k ≤ 1024) (h1 : x + k ≤ W) (h2 : y < H) (h3 : l.length + k ≤ 20000) : feed W H (runL k 111) ⟨x, y, 0, l⟩ = some ⟨x + k, y, 0, l ++ (List.range k).map fun j => (x + j, y)⟩ := by
  refine feed_run W H x y k l 111 h0 hk _ (fun e => ?_) ?_
  · subst e; exact step_o W H x y 0 l (by simpa using h1) h2 (by simpa using h3)
  · have := step_o W H x y k l (by omega) h2 (by omega)
    rw [show max k 1 = k by omega] at this
    exact this

/-! A row of runs, with line ends between -/
/-- Runs that lead from one place to another. -/
def chain (W H : Nat) : List (List UInt8) → RSt → RSt → Prop
  | [], s, s' => s = s'
  | r :: rs, s, s' => ∃ m : RSt, feed W H r s = some m ∧ m.n = 0 ∧ (∀ c ∈ r, c ≠ 33) ∧ chain W H rs m s'
theorem chain_app (W H : Nat) : ∀ (a b : List (List UInt8)) (s m s' : RSt), chain W H a s m → chain W H b m s' → chain W H (a ++ b) s s'
  | [], b, s, m, s', h, k => by rw [show s = m from h]; exact k
  | r :: rs, b, s, m, s', ⟨q, h1, h2, h3, h4⟩, k => ⟨q, h1, h2, h3, chain_app W H rs b q m s' h4 k⟩
/-- Line ends ahead of a run that would make its line longer than 70 bytes. -/
def wrapL : Nat → List (List UInt8) → List UInt8
  | _, [] => []
  | wd, r :: rs => if 70 < wd + r.length then 10 :: (r ++ wrapL r.length rs) else r ++ wrapL (wd + r.length) rs
theorem runsP_wrap (W H : Nat) : ∀ (rs : List (List UInt8)) (wd i : Nat) (rest : List UInt8) (s s' : RSt), s.n = 0 → chain W H rs s s' → runsP W H (wrapL wd rs ++ rest) i s = runsP W H rest (i + (wrapL wd rs).length) s'
  | [], wd, i, rest, s, s', _, h => by rw [show s = s' from h]; rfl
  | r :: rs, wd, i, rest, s, s', hn, ⟨m, h1, h2, h3, h4⟩ => by
    simp only [wrapL]
    by_cases h : 70 < wd + r.length
    · rw [if_pos h]
      simp only [List.cons_append, runsP]
      rw [if_neg (fun e => absurd e.1 (by decide))]
      have hs : rstep W H s 10 = some s := by unfold rstep; rw [if_pos (Or.inr rfl), if_neg (by omega)]
      rw [hs]
      simp only []
      rw [List.append_assoc, runsP_feed W H r _ (i + 1) s m h3 h1, runsP_wrap W H rs r.length _ rest m s' h2 h4]
      simp only [List.length_cons, List.length_append]
      rw [show i + 1 + r.length + (wrapL r.length rs).length = i + (r.length + (wrapL r.length rs).length + 1) by omega]
    · rw [if_neg h, List.append_assoc, runsP_feed W H r _ i s m h3 h1, runsP_wrap W H rs (wd + r.length) _ rest m s' h2 h4]
      simp only [List.length_append]
      rw [show i + r.length + (wrapL (wd + r.length) rs).length = i + (r.length + (wrapL (wd + r.length) rs).length) by omega]
end Go.Proofs.YtnfjmmkokhncoaaGreat
end
