import Derived.Test.YtenjjfiojackaaaCodecBig
import Derived.Test.YtenjjfiojackaaaCodecPlainB
import Derived.WalkSmall
namespace Go.Proofs.Ytenjjfiojackaaa
open Go.RowKit
set_option linter.unusedSimpArgs false
set_option linter.unusedVariables false

end Go.Proofs.Ytenjjfiojackaaa