/- Package quad: inMiddle, Centre: contracts. -/
import Derived.Test.YtgciceogggldhaaQm2
namespace Go.Proofs.Ytgciceogggldhaa
open Go.RowKit Go.Maps
set_option maxRecDepth 100000

end Go.Proofs.Ytgciceogggldhaa
