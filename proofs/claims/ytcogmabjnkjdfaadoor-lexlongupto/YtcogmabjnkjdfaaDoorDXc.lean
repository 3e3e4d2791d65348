/- The reference of layer 7. Written by a script (tools/laws). -/
import Derived.Test.YtcogmabjnkjdfaaDoorDXb
import Derived.Test.YtcogmabjnkjdfaaDoorBRd
import Derived.Test.YtcogmabjnkjdfaaDoorRdR
namespace Go.Proofs.YtcogmabjnkjdfaaDoor.X
open Go.RowKit Go.Proofs.YtcogmabjnkjdfaaDoor.Z
set_option linter.unusedVariables false
end Go.Proofs.YtcogmabjnkjdfaaDoor.X
