/- The law EvolveArgs: its walk, for all inputs. -/
import Derived.Test.YtaapkngpnlnjeaaGreatEA10
namespace Go.Proofs.YtaapkngpnlnjeaaGreat
open Go.RowKit
theorem eargs_walk (x : Int) (wx : (Lit.int .u32 x).wf = true) (p : Int) (_ : (Lit.int .i64 p).wf = true) (room : Int) (wr : (Lit.int .u8 room).wf = true) (w : World) :
    Calls Tryz.prog 5 #[.int .u32 x, .int .i64 p, .int .u8 room] w fun e w' => e = .returned (.bool true) ∧ Below w.heap.size w w' := by
  obtain ⟨x, rfl⟩ : ∃ n : Nat, x = (n : Int) := ⟨x.toNat, by simp [Lit.wf, IntKind.min, IntKind.max, IntKind.signed, IntKind.bits] at wx; omega⟩
  obtain ⟨room, rfl⟩ : ∃ n : Nat, room = (n : Int) := ⟨room.toNat, by simp [Lit.wf, IntKind.min, IntKind.max, IntKind.signed, IntKind.bits] at wr; omega⟩
  have hx : x < 4294967296 := by simp [Lit.wf, IntKind.min, IntKind.max, IntKind.signed, IntKind.bits] at wx; omega
  have hr : room < 256 := by simp [Lit.wf, IntKind.min, IntKind.max, IntKind.signed, IntKind.bits] at wr; omega
  by_cases h0 : p = 0
  · exact eargs_zero x hx p h0 room hr w
  · by_cases h1 : p = 1
    · exact eargs_one x hx p h1 room hr w
    · exact eargs_bad x hx p (by omega) room hr w
end Go.Proofs.YtaapkngpnlnjeaaGreat
