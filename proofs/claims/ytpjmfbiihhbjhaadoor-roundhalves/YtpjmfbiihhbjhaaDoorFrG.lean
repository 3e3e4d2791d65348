/- The reference of layer 5. Written by a script (tools/laws). -/
import Derived.Test.YtpjmfbiihhbjhaaDoorFrF
namespace Go.Proofs.YtpjmfbiihhbjhaaDoor.Z
open Go.RowKit Go.Proofs.YtpjmfbiihhbjhaaDoor.Rg
set_option linter.unusedVariables false
end Go.Proofs.YtpjmfbiihhbjhaaDoor.Z
