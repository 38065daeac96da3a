/- Package quad: inMiddle, Centre: contracts. -/
import Derived.Test.YtfohkbgacpokoaaQm2
namespace Go.Proofs.Ytfohkbgacpokoaa
open Go.RowKit Go.Maps
set_option maxRecDepth 100000

end Go.Proofs.Ytfohkbgacpokoaa
