import Derived.Test.YtgfpkbdinfdkfaaCodecNum
namespace Go.Proofs.Ytgfpkbdinfdkfaa
open Go.RowKit
set_option linter.unusedSimpArgs false
set_option linter.unusedVariables false

end Go.Proofs.Ytgfpkbdinfdkfaa