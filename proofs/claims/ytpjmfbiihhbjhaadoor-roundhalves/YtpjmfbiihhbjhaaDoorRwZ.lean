/- The reference of layer 4. Written by a script (tools/laws). -/
import Derived.Test.YtpjmfbiihhbjhaaDoorWhZ
import Derived.Test.YtpjmfbiihhbjhaaDoorRefG
import Derived.Test.YtpjmfbiihhbjhaaDoorRefP
namespace Go.Proofs.YtpjmfbiihhbjhaaDoor.Z
open Go.RowKit Go.Proofs.YtpjmfbiihhbjhaaDoor.Rg
set_option linter.unusedVariables false
end Go.Proofs.YtpjmfbiihhbjhaaDoor.Z
