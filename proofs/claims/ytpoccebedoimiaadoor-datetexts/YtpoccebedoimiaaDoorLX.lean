/- Layers 4 to 6 and their references, by reckoning. Written by a script (tools/laws). -/
import Derived.Test.YtpoccebedoimiaaDoorBXk
import Derived.Test.YtpoccebedoimiaaDoorEn
import Derived.Test.YtpoccebedoimiaaDoorBK
import Derived.Test.YtpoccebedoimiaaDoorBQv
import Derived.Test.YtpoccebedoimiaaDoorBRd
import Derived.Test.YtpoccebedoimiaaDoorBRf
namespace Go.Proofs.YtpoccebedoimiaaDoor.X
open Go.RowKit Go.Proofs.YtpoccebedoimiaaDoor.Z
set_option linter.unusedVariables false
end Go.Proofs.YtpoccebedoimiaaDoor.X
