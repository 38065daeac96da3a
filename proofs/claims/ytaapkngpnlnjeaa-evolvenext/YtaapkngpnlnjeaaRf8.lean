/- The document's answers for layer 7: Fits, Level, Set; the law's alike: contracts. -/
import Derived.Test.YtaapkngpnlnjeaaRf7
import Derived.Deep.AppendLies
namespace Go.Proofs.Ytaapkngpnlnjeaa
open Go.RowKit Go.Maps
set_option maxRecDepth 100000

/-- Are all points in the square of level n + 1? -/
def fitB (n : Nat) (l : List (Int × Int)) : Bool := l.all fun c => inS n c.1 && inS n c.2
end Go.Proofs.Ytaapkngpnlnjeaa
