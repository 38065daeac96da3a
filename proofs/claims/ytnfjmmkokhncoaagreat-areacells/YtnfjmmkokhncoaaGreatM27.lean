-- M27
import Derived.Test.YtnfjmmkokhncoaaGreatM02
import Derived.Test.YtnfjmmkokhncoaaGreatM13
section
namespace Go.Proofs.YtnfjmmkokhncoaaGreat

/-- A part's living cells, from the first cell of its square on, in the order of the four. -/
def ptL (N : List Nd) (n x : Nat) (r : R4) : List (Int × Int) := (cellsQ N n x).filter fun c => r.has c.1 c.2
theorem ptL_no {N : List Nd} {n x : Nat} {r : R4} (hr : r.no = true) : ptL N n x r = [] :=
  List.filter_eq_nil_iff.2 fun c _ => by rw [R4.has_no hr]; simp
theorem cellsQ_nil {N : List Nd} (hw : Wf N) {n x : Nat} (h : Sq N n x) (h0 : ctZ N x = 0) : cellsQ N n x = [] := by
  have := ct_cells hw h
  have ht : topN ≠ 0 := by decide
  exact List.eq_nil_of_length_eq_zero (by omega)
theorem ptL_dead {N : List Nd} (hw : Wf N) {n x : Nat} (h : Sq N n x) (h0 : ctZ N x = 0) (r : R4) : ptL N n x r = [] := by
  unfold ptL; rw [cellsQ_nil hw h h0]; rfl
theorem ptL_whole {N : List Nd} {n x : Nat} {r : R4} (hr : r = ⟨0, 0, 2 ^ n, 2 ^ n⟩) : ptL N n x r = cellsQ N n x := by
  refine List.filter_eq_self.2 fun c hc => ?_
  obtain ⟨X, Y⟩ := c
  obtain ⟨h1, h2, _⟩ := (mem_cells N n x X Y).1 hc
  rw [R4.has_iff, hr]; exact ⟨h1, h2⟩
theorem filter_sh (r : R4) (n : Nat) (a b : Bool) (l : List (Int × Int)) (hl : ∀ c ∈ l, (0 ≤ c.1 ∧ c.1 < 2 ^ n) ∧ (0 ≤ c.2 ∧ c.2 < 2 ^ n)) : (sh (off n a) (off n b) l).filter (fun c => r.has c.1 c.2) = sh (off n a) (off n b) (l.filter fun c => (qR r n a b).has c.1 c.2) := by
  unfold sh
  rw [List.filter_map]
  congr 1
  refine List.filter_congr fun c hc => ?_
  obtain ⟨h1, h2⟩ := hl c hc
  exact (qR_has r n a b h1 h2).symm
theorem sh_nil (a b : Int) : sh a b [] = [] := rfl
/-- The cells of the first of four parts, so many. -/
def ptJ (N : List Nd) (n : Nat) (k : K4) (r : R4) : Nat → List (Int × Int)
  | 0 => []
  | j + 1 => ptJ N n k r j ++ sh (off n (decide (j % 2 = 1))) (off n (decide (2 ≤ j))) (ptL N n (kAt k j) (qR r n (decide (j % 2 = 1)) (decide (2 ≤ j))))
theorem ptL_succ (N : List Nd) (n x : Nat) (r : R4) : ptL N (n + 1) x r = ptJ N n (kidZ N x) r 4 := by
  have hs : ∀ a b, (sh (off n a) (off n b) (cellsQ N n (pick (kidZ N x) a b))).filter (fun c => r.has c.1 c.2) = sh (off n a) (off n b) (ptL N n (pick (kidZ N x) a b) (qR r n a b)) := fun a b =>
    filter_sh r n a b _ fun c hc => by
      obtain ⟨X, Y⟩ := c
      obtain ⟨h1, h2, _⟩ := (mem_cells N n _ X Y).1 hc
      exact ⟨h1, h2⟩
  show (cellsQ N (n + 1) x).filter _ = _
  unfold cellsQ
  rw [List.filter_append, List.filter_append, List.filter_append, hs, hs, hs, hs]
  simp only [pick_kAt, ptJ, List.nil_append, List.append_assoc]
  rfl
theorem ptL_le (N : List Nd) (n x : Nat) (r : R4) : (ptL N n x r).length ≤ (cellsQ N n x).length := List.length_filter_le _ _
theorem cellsQ_kid (N : List Nd) (n x : Nat) (a b : Bool) : (cellsQ N n (pick (kidZ N x) a b)).length ≤ (cellsQ N (n + 1) x).length := by
  show _ ≤ (cellsQ N (n + 1) x).length
  rw [cellsQ]
  simp only [sh, List.length_append, List.length_map]
  cases a <;> cases b <;> omega
theorem ptJ_le (N : List Nd) (n : Nat) (k : K4) (r : R4) : ∀ (d j : Nat), (ptJ N n k r j).length ≤ (ptJ N n k r (j + d)).length
  | 0, j => Nat.le_refl _
  | d + 1, j => by
    have := ptJ_le N n k r d j
    show _ ≤ (ptJ N n k r (j + d + 1)).length
    rw [ptJ, List.length_append]
    omega
/-- How many. -/
def ctP (N : List Nd) (n x : Nat) (r : R4) : Nat := (ptL N n x r).length
def cjP (N : List Nd) (n : Nat) (k : K4) (r : R4) (j : Nat) : Nat := (ptJ N n k r j).length
theorem cjP_succ (N : List Nd) (n : Nat) (k : K4) (r : R4) (j : Nat) : cjP N n k r (j + 1) = cjP N n k r j + ctP N n (kAt k j) (qR r n (decide (j % 2 = 1)) (decide (2 ≤ j))) := by
  unfold cjP ctP
  rw [ptJ, List.length_append, sh, List.length_map]
theorem ctP_succ (N : List Nd) (n x : Nat) (r : R4) : ctP N (n + 1) x r = cjP N n (kidZ N x) r 4 := by unfold ctP cjP; rw [ptL_succ]
/-- A cell's part: all of it. -/
theorem whole_zero {r : R4} (hn : r.no = false) (hi : RIn 0 r) : r = ⟨0, 0, 2 ^ 0, 2 ^ 0⟩ := by
  obtain ⟨x, y, X, Y⟩ := r
  have h1 := R4.no_not.1 hn
  have h2 := hi.resolve_left (by rw [hn]; decide)
  simp only at h1 h2
  have e0 : (2 : Int) ^ 0 = 1 := rfl
  rw [e0] at h2 ⊢
  simp only [R4.mk.injEq]
  omega
/-- Few cells: the number that is kept is that of the cells. -/
theorem ct_few {N : List Nd} (hw : Wf N) {n x : Nat} (h : Sq N n x) (hl : (cellsQ N n x).length ≤ 1000000) : ctZ N x = (cellsQ N n x).length := by
  rw [ct_cells hw h]
  have : 1000000 ≤ topN := by decide
  omega
end Go.Proofs.YtnfjmmkokhncoaaGreat
end

section
namespace Go.Proofs.YtnfjmmkokhncoaaGreat
open Go.RowKit Go.Maps
set_option maxRecDepth 100000

theorem zeroU8c (w : World) : (zeroValue 59).run Tryz.prog w = .ok (.int .u64 0) w := by kernel_rfl
/-- A finder's map of counts, of one rectangle's parts. -/
noncomputable def mkC (P : R4) : Mk 83 59 118 Part where
  keyed := Tryz.keyedP8
  ht := Tryz.underlying118
  kv := pV
  ok := PtOk P
  kl := klP
  hkey := fun a h => keyP a h.fit
  inj := fun a b ha hb h => klP_inj ha.fit hb.fit h
  zero := .int .u64 0
  hz := zeroU8c
  few := fun ks hn h => few_of (ok := PtOk P) codeP 1073741824 (by decide) (fun a ha => codeP_lt ha) (fun a b ha hb e => codeP_inj ha hb e) ks hn h
/-- A finder that counts. -/
structure Fc (w : World) (sb g tb cb bb fb most : Nat) (N : List Nd) (P : R4) : Prop where
  st : ∃ cap, St w sb g tb cap most N
  ft : w.heap[fb]? = some (fnO sb cb bb)
  mm : ∃ m, GMap (mkC P) w cb m ∧ ∀ a v, m a = some v → v = .int .u64 (ctP N a.n a.x a.r : Int)
  ne : cb ≠ sb ∧ cb ≠ g ∧ cb ≠ tb
theorem Fc.lt {w : World} {sb g tb cb bb fb most : Nat} {N : List Nd} {P : R4} (h : Fc w sb g tb cb bb fb most N P) : sb < w.heap.size ∧ g < w.heap.size ∧ tb < w.heap.size ∧ cb < w.heap.size ∧ fb < w.heap.size := by
  obtain ⟨cap, hs⟩ := h.st
  obtain ⟨m, h1, _⟩ := h.mm
  exact ⟨hs.lt.1, hs.lt.2.1, hs.lt.2.2, h1.lt, (Array.getElem?_eq_some_iff.1 h.ft).1⟩
theorem Fc.fb_ {w : World} {sb g tb cb bb fb most : Nat} {N : List Nd} {P : R4} (h : Fc w sb g tb cb bb fb most N P) : fb ≠ cb := by
  obtain ⟨m, h1, _⟩ := h.mm
  obtain ⟨es, cl, h2⟩ := h1.is_map
  intro e
  have := h.ft
  rw [e, h2] at this
  cases this
theorem Fc.later {w w' : World} {sb g tb cb bb fb most : Nat} {N : List Nd} {P : R4} (h : Fc w sb g tb cb bb fb most N P) (hb : Below w.heap.size w w') : Fc w' sb g tb cb bb fb most N P := by
  obtain ⟨cap, hs⟩ := h.st
  obtain ⟨m, h1, h2⟩ := h.mm
  exact ⟨⟨cap, hs.later hb⟩, keep8 h.ft hb, ⟨m, h1.later hb, h2⟩, h.ne⟩
theorem Fc.drewN {w : World} {sb g tb cb bb fb most : Nat} {N : List Nd} {P : R4} (h : Fc w sb g tb cb bb fb most N P) (q : Nat) : Fc (w.drewN q) sb g tb cb bb fb most N P := by
  obtain ⟨cap, hs⟩ := h.st
  obtain ⟨m, h1, h2⟩ := h.mm
  exact ⟨⟨cap, hs.drewN q⟩, h.ft, ⟨m, h1.drewN q, h2⟩, h.ne⟩
/-- Only other blocks are changed. -/
theorem Fc.keep {w w' : World} {sb g tb cb bb fb most : Nat} {N : List Nd} {P : R4} (h : Fc w sb g tb cb bb fb most N P) (hk : ∀ b, b = sb ∨ b = g ∨ b = tb ∨ b = cb ∨ b = fb → w'.heap[b]? = w.heap[b]?) : Fc w' sb g tb cb bb fb most N P := by
  obtain ⟨cap, hs⟩ := h.st
  obtain ⟨m, h2, h3⟩ := h.mm
  exact ⟨⟨cap, hs.keep (hk _ (by simp)) (hk _ (by simp)) (hk _ (by simp))⟩, by rw [hk _ (by simp)]; exact h.ft, ⟨m, h2.blk (hk _ (by simp)), h3⟩, h.ne⟩
theorem Fc.set {w : World} {sb g tb cb bb fb most b i : Nat} {N : List Nd} {P : R4} (h : Fc w sb g tb cb bb fb most N P) (h1 : b ≠ sb ∧ b ≠ g ∧ b ≠ tb ∧ b ≠ cb ∧ b ≠ fb) (v : Value) : Fc (w.setCell ⟨b, i, none⟩ v) sb g tb cb bb fb most N P :=
  h.keep fun b' hb' => Below.heap_setCell _ _ _ _ (by show b' ≠ b; omega)
/-- A finder remembers. -/
theorem Fc.put {w : World} {sb g tb cb bb fb most : Nat} {N : List Nd} {P : R4} (h : Fc w sb g tb cb bb fb most N P) {a : Part} (ha : PtOk P a) (c : Nat) (hc : c = ctP N a.n a.x a.r) :
    ∃ w', (Instr.mapUpdate 118 (.map (some cb)) (.agg #[.int .u32 (a.x : Int), .int .i64 (a.n : Int), .int .i64 a.r.x, .int .i64 a.r.y, .int .i64 a.r.X, .int .i64 a.r.Y]) (.int .u64 (c : Int))).run Tryz.prog w = .ok () w' ∧ Fc w' sb g tb cb bb fb most N P ∧ Frm [cb] w w' := by
  obtain ⟨cap, hs⟩ := h.st
  obtain ⟨m, h1, h2⟩ := h.mm
  obtain ⟨w', r1, r2, r3⟩ := h1.put a ha (.int .u64 (c : Int))
  obtain ⟨n1, n2, n3⟩ := h.ne
  obtain ⟨l1, l2, l3⟩ := hs.lt
  refine ⟨w', r1, ⟨⟨cap, hs.keep (r3.block sb l1 (fun e => n1 (Option.some.inj e).symm)) (r3.block g l2 (fun e => n2 (Option.some.inj e).symm)) (r3.block tb l3 (fun e => n3 (Option.some.inj e).symm))⟩, ?_, ⟨_, r2, fun y v hv => ?_⟩, h.ne⟩, Frm.of_grown r3 (fun b e => by cases e; simp)⟩
  · rw [r3.block fb h.lt.2.2.2.2 (fun e => h.fb_ (Option.some.inj e))]; exact h.ft
  · by_cases e : y = a
    · subst e
      rw [if_pos rfl] at hv
      rw [← Option.some.inj hv, hc]
    · rw [if_neg e] at hv
      exact h2 y v hv
/-- What a finder remembers, asked. -/
theorem Fc.look {w : World} {sb g tb cb bb fb most : Nat} {N : List Nd} {P : R4} (h : Fc w sb g tb cb bb fb most N P) {a : Part} (ha : PtOk P a) :
    ∃ (c : Nat) (ok : Bool), (Instr.lookup 118 (.map (some cb)) (.agg #[.int .u32 (a.x : Int), .int .i64 (a.n : Int), .int .i64 a.r.x, .int .i64 a.r.y, .int .i64 a.r.X, .int .i64 a.r.Y]) true).run Tryz.prog w = .ok (.tuple #[.int .u64 (c : Int), .bool ok]) w ∧ (ok = true → c = ctP N a.n a.x a.r) := by
  obtain ⟨m, h1, h2⟩ := h.mm
  have hl := h1.look a ha
  cases hm : m a with
  | some v =>
    obtain rfl := h2 a v hm
    exact ⟨ctP N a.n a.x a.r, true, hl.1 _ hm, fun _ => rfl⟩
  | none => exact ⟨0, false, hl.2 hm, fun h => by cases h⟩
end Go.Proofs.YtnfjmmkokhncoaaGreat
end
