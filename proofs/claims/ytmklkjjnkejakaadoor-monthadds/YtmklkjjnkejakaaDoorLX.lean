/- Layers 4 to 6 and their references, by reckoning. Written by a script (tools/laws). -/
import Derived.Test.YtmklkjjnkejakaaDoorBXk
import Derived.Test.YtmklkjjnkejakaaDoorEn
import Derived.Test.YtmklkjjnkejakaaDoorBK
import Derived.Test.YtmklkjjnkejakaaDoorBQv
import Derived.Test.YtmklkjjnkejakaaDoorBRd
import Derived.Test.YtmklkjjnkejakaaDoorBRf
namespace Go.Proofs.YtmklkjjnkejakaaDoor.X
open Go.RowKit Go.Proofs.YtmklkjjnkejakaaDoor.Z
set_option linter.unusedVariables false
end Go.Proofs.YtmklkjjnkejakaaDoor.X
