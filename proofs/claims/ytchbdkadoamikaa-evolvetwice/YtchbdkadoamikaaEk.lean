/- Squares and powers as keys of maps. -/
import Derived.Test.YtchbdkadoamikaaGm
import Derived.Test.YtchbdkadoamikaaS8
namespace Go.Proofs.Ytchbdkadoamikaa
open Go.RowKit Go.Maps
set_option maxRecDepth 100000

/-- Of what a successor is: a square, a power. -/
structure Stp where
  x : Nat
  p : Nat
  deriving DecidableEq
def seV (a : Stp) : Value := .agg #[.int .u32 (a.x : Int), .int .i64 (a.p : Int)]
def SeOk (a : Stp) : Prop := a.x < 1048576 ∧ a.p < 64
def codeE (a : Stp) : Nat := a.x + 1048576 * a.p
theorem codeE_lt {a : Stp} (h : SeOk a) : codeE a < 1073741824 := by
  unfold codeE
  have := h.1
  have := h.2
  omega
theorem codeE_inj {a b : Stp} (ha : SeOk a) (hb : SeOk b) (h : codeE a = codeE b) : a = b := by
  obtain ⟨ax, ap⟩ := a
  obtain ⟨bx, bp⟩ := b
  obtain ⟨a1, a2⟩ := ha
  obtain ⟨b1, b2⟩ := hb
  unfold codeE at h
  simp only at h a1 a2 b1 b2
  have : ax = bx := by omega
  have : ap = bp := by omega
  simp_all
theorem Try.cellsIntE : Try.prog.cellsOf 3 = 1 := by kernel_rfl
theorem Try.cellsStE : Try.prog.cellsOf 71 = 2 := by kernel_rfl
theorem i64_wfE {x : Int} (h : -9223372036854775808 ≤ x ∧ x ≤ 9223372036854775807) : (Lit.int .i64 x).wf = true := by
  simp [Lit.wf, IntKind.min, IntKind.max, IntKind.bits, IntKind.signed]; omega
theorem lits_intE (d : Nat) (x : Int) (h : (Lit.int .i64 x).wf = true) : Try.prog.keyLits (d + 1) 3 [.int .i64 x] = some [.int .i64 x] := by
  unfold Program.keyLits
  rw [Try.underlying3]
  simp only [h, and_self, if_true]
theorem lits_stE (d : Nat) (s n : Int) (hs : (Lit.int .u32 s).wf = true) (hn : (Lit.int .i64 n).wf = true) :
    Try.prog.keyLits (d + 1 + 1) 71 [.int .u32 s, .int .i64 n] = some [.int .u32 s, .int .i64 n] := by
  have e1 := lits_id d s hs
  have e2 := lits_intE d n hn
  unfold Program.keyLits
  rw [Try.underlying71]
  simp only [Try.cellsStE]
  rw [if_pos ⟨rfl, by simp⟩]
  simp only [List.mapM_cons, List.mapM_nil, Try.cellsID, Try.cellsIntE, List.drop, List.take, e1, e2]
  rfl
theorem Try.keyDeepE : Try.prog.keyTypeAt (Try.prog.types.size + 1) 71 = true := by kernel_rfl
theorem Try.keyRowE : (71 : TypeId) < Try.prog.types.size := of_decide_eq_true (by kernel_rfl)
theorem Try.keyWideE : (match Try.prog.underlying 71 with | some (.array _ _) | some (.struct _) => true | _ => false) = true := by rw [Try.underlying71]
theorem Try.keyedE : Keyed Try.prog 71 := Keyed.of_law (deep_law_laid Try.laidOutT (m := 4) (by omega) Try.keyRowE (by kernel_rfl) Try.keyWideE)
noncomputable def klE (a : Stp) : Lit := (keyOf Try.prog 71 (seV a)).getD (.bool false)
theorem keyE (a : Stp) (h : SeOk a) : keyOf Try.prog 71 (seV a) = some (klE a) := by
  obtain ⟨h1, h2⟩ := h
  have hk : Try.prog.keyType 71 = true := Try.keyDeepE
  have hf : (seV a).formed Try.prog 71 = true := by simp [seV, Value.formed, Try.underlying71, Try.cellsStE]
  have hl : Try.prog.keyLits (Try.prog.types.size + 1) 71 [.int .u32 (a.x : Int), .int .i64 (a.p : Int)] = some [.int .u32 (a.x : Int), .int .i64 (a.p : Int)] := by
    have hsz : Try.prog.types.size = 192 := by kernel_rfl
    obtain ⟨d, hd⟩ : ∃ d, Try.prog.types.size + 1 = d + 1 + 1 := ⟨Try.prog.types.size - 1, (by omega)⟩
    rw [hd]
    exact lits_stE d _ _ (u32_wf (by omega)) (i64_wfE (by omega))
  have : ∃ l, keyOf Try.prog 71 (seV a) = some l := by
    unfold keyOf
    rw [Try.underlying71]
    simp only [hk, hf, Bool.and_self, if_true]
    refine ⟨.string (keyBytes [.int .u32 (a.x : Int), .int .i64 (a.p : Int)]), ?_⟩
    show Option.map _ (Try.prog.keyLits (Try.prog.types.size + 1) 71 [.int .u32 (a.x : Int), .int .i64 (a.p : Int)]) = _
    rw [hl]; rfl
  obtain ⟨l, hl⟩ := this
  unfold klE
  rw [hl]; rfl
theorem klE_inj {a b : Stp} (ha : SeOk a) (hb : SeOk b) (h : klE a = klE b) : a = b := by
  have := Try.keyedE.inj (keyE a ha) (by rw [h]; exact keyE b hb)
  obtain ⟨ax, ap⟩ := a
  obtain ⟨bx, bp⟩ := b
  simp only [seV, Value.agg.injEq, Array.mk.injEq, List.cons.injEq, Value.int.injEq, and_true, true_and] at this
  obtain ⟨h1, h2⟩ := this
  have e1 : ax = bx := by omega
  have e2 : ap = bp := by omega
  rw [e1, e2]
/-- The map of what was found. -/
noncomputable def mkE : Mk 71 33 65 Stp where
  keyed := Try.keyedE
  ht := Try.underlying65
  kv := seV
  ok := SeOk
  kl := klE
  hkey := fun a h => keyE a h
  inj := fun a b ha hb h => klE_inj ha hb h
  zero := .int .u32 0
  hz := Try.zeroID
  few := fun ks hn h => few_of (ok := SeOk) codeE 1073741824 (by decide) (fun a ha => codeE_lt ha) (fun a b ha hb e => codeE_inj ha hb e) ks hn h
end Go.Proofs.Ytchbdkadoamikaa
